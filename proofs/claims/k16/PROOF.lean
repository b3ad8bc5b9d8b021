import PyProof.Rows.All
import Wide.All
import OpenK.AllK
import Wide.FinOn
import Lean
import PyProof.EqAt
import PyProof.EqKinds
import PyProof.TupleCall
import PyProof.SetScanFacts
import PyProof.SetKind
import PyProof.SetRoads
import PyProof.Rows.SetFrom
import PyProof.FactsBase
import PyProof.TableTree
import PyProof.FactsTree
import PyProof.PlainAttrs
import PyProof.FactsAll.set_1
import PyProof.CollectIter
import PyProof.FactsAll.set
import PyProof.ZipIter
import PyProof.EnumIter
import PyProof.TupleIter
import KE.KRevIter
import KE.KDictList
import PyProof.Rows.SumAny
import KE.KIntText
import PyProof.StrLawsTight
import PyProof.StrLawsChain
import PyProof.Rows.SortStr
import PyProof.Rows.StrNews2
import PyProof.StrLawsFirst
import PyProof.AutoSeq1
import OpenK.KOwn
import PyProof.Rows.CatchOwn
import KE.KDictOf
import PyProof.DictItems
import PyProof.NeKinds
import KE.KPairComp
import PyProof.FactsAll.tuple_2
import PyProof.FactsAll.tuple_3
import KE.KDictLaws
import PyProof.FactsAll.dict_3
import PyProof.MinMaxWalk
import PyProof.WalkInts
import PyProof.Cells
import KE.KUnpack
import PySem.Challenge.RW_usewarden_k16_whole_rules_joined_and_fol
set_option Elab.async false
set_option linter.all false
set_option maxRecDepth 100000
set_option maxHeartbeats 4000000
namespace L2
open PySem
def Fz(s:Stmt)(j:Nat):Stmt:=match s with
 | .ClassDef _ _ _ body _ _ _ _ _ _ _=>body.getD j (.Pass ⟨0,0,0,0⟩)
 | _=>.Pass ⟨0,0,0,0⟩
def defArgs(s:Stmt):Arguments:=match s with
 | .FunctionDef _ a _ _ _ _ _ _ _ _=>a
 | _=>{ posonlyargs:=[],args:=[],vararg:=none,kwonlyargs:=[],kw_defaults:=[],kwarg:=none,defaults:=[] }
def defBody(s:Stmt):List Stmt:=match s with
 | .FunctionDef _ _ b _ _ _ _ _ _ _=>b
 | _=>[]
def defScope(s:Stmt):Scope:=match s with
 | .FunctionDef _ _ _ _ _ _ sc _ _ _=>sc
 | _=>{ kind:=.function,names:=[],isGenerator:=false,isCoroutine:=false }
end L2
namespace K16
open PySem PySem.W
def top (i:Nat):Stmt:=PySem.Challenge.pw_usewarden_k16_whole_rules_joined_and_fol.main.body.getD i (.Pass ⟨0,0,0,0⟩)
abbrev tUp(x:Array Value):Obj:=⟨.type "tuple", none,.seq x 0,#[]⟩
abbrev cOd(n:Str)(a b c:Nat)(l g:Int)(p q r s u:Addr)(i:Int)(d:Nat):Obj:=⟨.type "code", none,.fields #[.str n a,.str n b,.str "/claim/cut.py" c,.int l 0,.int g 0,.int 0 0,.int 0 0,.int 3 0,.ref p,.bool true,.int 181 0,.ref q,.none,.ref r,.ref s,.ref u,.int i 0,.int l 0,.str "/claim/cut.py" d],#[]⟩
abbrev fUn(n:Str)(i:Nat)(m:Str)(a:Nat)(c:Addr):Obj:=⟨.type "function", none,.func ⟨n,n,L2.defArgs (top i),.stmts (L2.defBody (top i)),L2.defScope (top i),3,[],.none,.none,.none,.str m a,none,.ref c,.none,0⟩,#[]⟩
noncomputable def KK(P:Params):Frag:=
 (nat_lit 2,⟨.none,none,.dict #[] 0,#[]⟩) ::
 (nat_lit 3,⟨.type "dict", none,.dict #[⟨PyData.keyHash P "__name__", .str "__name__" 165,.str "law_usewarden_k16_whole_rules_joined_and_fol" 483⟩,⟨PyData.keyHash P "__doc__", .str "__doc__" 166,.none⟩,⟨PyData.keyHash P "__package__", .str "__package__" 167,.none⟩,⟨PyData.keyHash P "__loader__", .str "__loader__" 168,.builtin "__main__.__loader__#opaque"⟩,⟨PyData.keyHash P "__spec__", .str "__spec__" 169,.none⟩,⟨PyData.keyHash P "__annotations__", .str "__annotations__" 170,.ref 6⟩,⟨PyData.keyHash P "__builtins__", .str "__builtins__" 171,.ref 4⟩,⟨PyData.keyHash P "__file__", .str "__file__" 173,.str "/claim/cut.py" 172⟩,⟨PyData.keyHash P "__cached__", .str "__cached__" 174,.none⟩,⟨PyData.keyHash P "UseError", .str "UseError" 206,.ref 24⟩,⟨PyData.keyHash P "NoFit", .str "NoFit" 222,.ref 37⟩,⟨PyData.keyHash P "TooGreat", .str "TooGreat" 238,.ref 49⟩,⟨PyData.keyHash P "ways_by", .str "ways_by" 246,.ref 56⟩,⟨PyData.keyHash P "finer_kinds", .str "finer_kinds" 259,.ref 63⟩,⟨PyData.keyHash P "kinds_upto", .str "kinds_upto" 265,.ref 68⟩,⟨PyData.keyHash P "merged_rooms", .str "merged_rooms" 276,.ref 75⟩,⟨PyData.keyHash P "rooms_led_to", .str "rooms_led_to" 288,.ref 82⟩,⟨PyData.keyHash P "numbered_rooms", .str "numbered_rooms" 294,.ref 87⟩,⟨PyData.keyHash P "does_something", .str "does_something" 300,.ref 92⟩,⟨PyData.keyHash P "picked", .str "picked" 306,.ref 97⟩,⟨PyData.keyHash P "least_upto", .str "least_upto" 312,.ref 102⟩,⟨PyData.keyHash P "least_rule", .str "least_rule" 319,.ref 109⟩,⟨PyData.keyHash P "refuse_unlike", .str "refuse_unlike" 329,.ref 116⟩,⟨PyData.keyHash P "words_of_both", .str "words_of_both" 337,.ref 123⟩,⟨PyData.keyHash P "ways_for", .str "ways_for" 343,.ref 128⟩,⟨PyData.keyHash P "ways_by_room", .str "ways_by_room" 349,.ref 133⟩,⟨PyData.keyHash P "pairs_behind", .str "pairs_behind" 358,.ref 140⟩,⟨PyData.keyHash P "MOST_WORDS", .str "MOST_WORDS" 362,.int 16 361⟩,⟨PyData.keyHash P "MOST_ROOMS", .str "MOST_ROOMS" 364,.int 60 363⟩,⟨PyData.keyHash P "next_room", .str "next_room" 374,.ref 147⟩,⟨PyData.keyHash P "room_from", .str "room_from" 384,.ref 154⟩,⟨PyData.keyHash P "room_after", .str "room_after" 392,.ref 161⟩,⟨PyData.keyHash P "breaks_one", .str "breaks_one" 401,.ref 168⟩,⟨PyData.keyHash P "breaks_both", .str "breaks_both" 408,.ref 175⟩,⟨PyData.keyHash P "rule_of_pairs", .str "rule_of_pairs" 426,.ref 182⟩,⟨PyData.keyHash P "least_of_pairs", .str "least_of_pairs" 436,.ref 189⟩,⟨PyData.keyHash P "joined_rule", .str "joined_rule" 444,.ref 196⟩,⟨PyData.keyHash P "either_rule", .str "either_rule" 452,.ref 203⟩,⟨PyData.keyHash P "row_to", .str "row_to" 464,.ref 210⟩,⟨PyData.keyHash P "row_apart", .str "row_apart" 482,.ref 217⟩,⟨PyData.keyHash P "_law_cell_at", .str "_law_cell_at" 492,.ref 224⟩,⟨PyData.keyHash P "_law_mixed", .str "_law_mixed" 503,.ref 231⟩,⟨PyData.keyHash P "_law_words", .str "_law_words" 520,.ref 238⟩,⟨PyData.keyHash P "_law_way", .str "_law_way" 529,.ref 245⟩,⟨PyData.keyHash P "_law_rooms", .str "_law_rooms" 535,.ref 250⟩,⟨PyData.keyHash P "_law_three", .str "_law_three" 541,.ref 255⟩,⟨PyData.keyHash P "_law_one_of_two", .str "_law_one_of_two" 552,.ref 262⟩,⟨PyData.keyHash P "_law_grouped", .str "_law_grouped" 562,.ref 269⟩,⟨PyData.keyHash P "_law_following", .str "_law_following" 573,.ref 276⟩,⟨PyData.keyHash P "law", .str "law" 579,.ref 281⟩] 50,#[]⟩) ::
 (nat_lit 15,tUp #[.type "ValueError"]) ::
 (nat_lit 22,tUp #[]) ::
 (nat_lit 23,⟨.type "dict", none,.dict #[⟨PyData.keyHash P "__module__", .str "__module__" 196,.str "usewarden.errors" 187⟩,⟨PyData.keyHash P "__firstlineno__", .str "__firstlineno__" 200,.int 2 199⟩,⟨PyData.keyHash P "__static_attributes__", .str "__static_attributes__" 201,.ref 22⟩,⟨PyData.keyHash P "__weakref__", .str "__weakref__" 203,.ref 25⟩,⟨PyData.keyHash P "__doc__", .str "__doc__" 204,.none⟩] 3,#[]⟩) ::
 (nat_lit 24,⟨.type "type", none,.cls ⟨"UseError", [.type "ValueError"],[.ref 24,.type "ValueError", .type "Exception", .type "BaseException", .type "object"],23, "UseError", true,[],[.ref 37,.ref 49],false,none,false⟩,#[some (.ref 15),none,some (.str "UseError" 189),some (.str "UseError" 197),some (.builtin "ValueError.__new__"),some (.bool true)]⟩) ::
 (nat_lit 25,⟨.type "getset_descriptor", none,.fields #[.str "__weakref__" 202,.ref 24,.builtin "ExceptionGroup.__weakref__", .none],#[]⟩) ::
 (nat_lit 28,tUp #[.ref 24]) ::
 (nat_lit 35,tUp #[]) ::
 (nat_lit 36,⟨.type "dict", none,.dict #[⟨PyData.keyHash P "__module__", .str "__module__" 214,.str "usewarden.errors" 187⟩,⟨PyData.keyHash P "__firstlineno__", .str "__firstlineno__" 218,.int 4 217⟩,⟨PyData.keyHash P "__static_attributes__", .str "__static_attributes__" 219,.ref 35⟩,⟨PyData.keyHash P "__doc__", .str "__doc__" 220,.none⟩] 2,#[]⟩) ::
 (nat_lit 37,⟨.type "type", none,.cls ⟨"NoFit", [.ref 24],[.ref 37,.ref 24,.type "ValueError", .type "Exception", .type "BaseException", .type "object"],36, "NoFit", true,[],[],false,none,false⟩,#[some (.ref 28),none,some (.str "NoFit" 207),some (.str "NoFit" 215),some (.builtin "ValueError.__new__"),some (.bool true)]⟩) ::
 (nat_lit 40,tUp #[.ref 24]) ::
 (nat_lit 47,tUp #[]) ::
 (nat_lit 48,⟨.type "dict", none,.dict #[⟨PyData.keyHash P "__module__", .str "__module__" 230,.str "usewarden.errors" 187⟩,⟨PyData.keyHash P "__firstlineno__", .str "__firstlineno__" 234,.int 6 233⟩,⟨PyData.keyHash P "__static_attributes__", .str "__static_attributes__" 235,.ref 47⟩,⟨PyData.keyHash P "__doc__", .str "__doc__" 236,.none⟩] 2,#[]⟩) ::
 (nat_lit 49,⟨.type "type", none,.cls ⟨"TooGreat", [.ref 24],[.ref 49,.ref 24,.type "ValueError", .type "Exception", .type "BaseException", .type "object"],48, "TooGreat", true,[],[],false,none,false⟩,#[some (.ref 40),none,some (.str "TooGreat" 223),some (.str "TooGreat" 231),some (.builtin "ValueError.__new__"),some (.bool true)]⟩) ::
 (nat_lit 52,tUp #[]) ::
 (nat_lit 55,⟨.type "code", none,.fields #[.str "ways_by" 241,.str "ways_by" 242,.str "/claim/cut.py" 243,.int 9 0,.int 2 0,.int 0 0,.int 0 0,.int 3 0,.ref 52,.bool true,.int 181 0,.ref 53,.none,.none,.none,.ref 54,.int 244 0,.int 9 0,.str "/claim/cut.py" 245],#[]⟩) ::
 (nat_lit 56,fUn "ways_by" 5 "usewarden.leastrules" 239 55) ::
 (nat_lit 57,tUp #[]) ::
 (nat_lit 59,tUp #[.str "rooms" 250,.str "kinds" 251,.str "seen" 252,.str "finer" 253,.str "at" 254,.str "room" 255,.str "mark" 256]) ::
 (nat_lit 60,tUp #[]) ::
 (nat_lit 62,cOd "finer_kinds" 247 248 249 11 2 57 58 59 60 61 257 258) ::
 (nat_lit 63,fUn "finer_kinds" 6 "usewarden.leastrules" 239 62) ::
 (nat_lit 64,tUp #[]) ::
 (nat_lit 67,⟨.type "code", none,.fields #[.str "kinds_upto" 260,.str "kinds_upto" 261,.str "/claim/cut.py" 262,.int 20 0,.int 2 0,.int 0 0,.int 0 0,.int 3 0,.ref 64,.bool true,.int 181 0,.ref 65,.none,.none,.none,.ref 66,.int 263 0,.int 20 0,.str "/claim/cut.py" 264],#[]⟩) ::
 (nat_lit 68,fUn "kinds_upto" 7 "usewarden.leastrules" 239 67) ::
 (nat_lit 69,tUp #[]) ::
 (nat_lit 71,tUp #[.str "rooms" 269,.str "kinds" 270,.str "merged" 271,.str "at" 272,.str "room" 273]) ::
 (nat_lit 72,tUp #[]) ::
 (nat_lit 74,cOd "merged_rooms" 266 267 268 29 2 69 70 71 72 73 274 275) ::
 (nat_lit 75,fUn "merged_rooms" 8 "usewarden.leastrules" 239 74) ::
 (nat_lit 76,tUp #[]) ::
 (nat_lit 78,tUp #[.str "rooms" 280,.str "order" 281,.str "met" 282,.str "at" 283,.str "room" 284,.str "way" 285]) ::
 (nat_lit 79,tUp #[]) ::
 (nat_lit 81,cOd "rooms_led_to" 277 278 279 35 1 76 77 78 79 80 286 287) ::
 (nat_lit 82,fUn "rooms_led_to" 9 "usewarden.leastrules" 239 81) ::
 (nat_lit 83,tUp #[]) ::
 (nat_lit 86,⟨.type "code", none,.fields #[.str "numbered_rooms" 289,.str "numbered_rooms" 290,.str "/claim/cut.py" 291,.int 47 0,.int 1 0,.int 0 0,.int 0 0,.int 3 0,.ref 83,.bool true,.int 181 0,.ref 84,.none,.none,.none,.ref 85,.int 292 0,.int 47 0,.str "/claim/cut.py" 293],#[]⟩) ::
 (nat_lit 87,fUn "numbered_rooms" 10 "usewarden.leastrules" 239 86) ::
 (nat_lit 88,tUp #[]) ::
 (nat_lit 91,⟨.type "code", none,.fields #[.str "does_something" 295,.str "does_something" 296,.str "/claim/cut.py" 297,.int 53 0,.int 2 0,.int 0 0,.int 0 0,.int 3 0,.ref 88,.bool true,.int 181 0,.ref 89,.none,.none,.none,.ref 90,.int 298 0,.int 53 0,.str "/claim/cut.py" 299],#[]⟩) ::
 (nat_lit 92,fUn "does_something" 11 "usewarden.leastrules" 239 91) ::
 (nat_lit 93,tUp #[]) ::
 (nat_lit 96,⟨.type "code", none,.fields #[.str "picked" 301,.str "picked" 302,.str "/claim/cut.py" 303,.int 55 0,.int 2 0,.int 0 0,.int 0 0,.int 3 0,.ref 93,.bool true,.int 181 0,.ref 94,.none,.none,.none,.ref 95,.int 304 0,.int 55 0,.str "/claim/cut.py" 305],#[]⟩) ::
 (nat_lit 97,fUn "picked" 12 "usewarden.leastrules" 239 96) ::
 (nat_lit 98,tUp #[]) ::
 (nat_lit 101,⟨.type "code", none,.fields #[.str "least_upto" 307,.str "least_upto" 308,.str "/claim/cut.py" 309,.int 57 0,.int 2 0,.int 0 0,.int 0 0,.int 3 0,.ref 98,.bool true,.int 181 0,.ref 99,.none,.none,.none,.ref 100,.int 310 0,.int 57 0,.str "/claim/cut.py" 311],#[]⟩) ::
 (nat_lit 102,fUn "least_upto" 13 "usewarden.leastrules" 239 101) ::
 (nat_lit 103,tUp #[]) ::
 (nat_lit 105,tUp #[.str "rule" 316]) ::
 (nat_lit 106,tUp #[]) ::
 (nat_lit 108,cOd "least_rule" 313 314 315 65 1 103 104 105 106 107 317 318) ::
 (nat_lit 109,fUn "least_rule" 14 "usewarden.leastrules" 239 108) ::
 (nat_lit 110,tUp #[]) ::
 (nat_lit 112,tUp #[.str "one" 325,.str "other" 326]) ::
 (nat_lit 113,tUp #[]) ::
 (nat_lit 115,cOd "refuse_unlike" 322 323 324 68 2 110 111 112 113 114 327 328) ::
 (nat_lit 116,fUn "refuse_unlike" 16 "usewarden.pairs" 320 115) ::
 (nat_lit 117,tUp #[]) ::
 (nat_lit 119,tUp #[.str "one" 333,.str "other" 334]) ::
 (nat_lit 120,tUp #[]) ::
 (nat_lit 122,cOd "words_of_both" 330 331 332 71 2 117 118 119 120 121 335 336) ::
 (nat_lit 123,fUn "words_of_both" 17 "usewarden.pairs" 320 122) ::
 (nat_lit 124,tUp #[]) ::
 (nat_lit 127,⟨.type "code", none,.fields #[.str "ways_for" 338,.str "ways_for" 339,.str "/claim/cut.py" 340,.int 73 0,.int 4 0,.int 0 0,.int 0 0,.int 3 0,.ref 124,.bool true,.int 181 0,.ref 125,.none,.none,.none,.ref 126,.int 341 0,.int 73 0,.str "/claim/cut.py" 342],#[]⟩) ::
 (nat_lit 128,fUn "ways_for" 18 "usewarden.pairs" 320 127) ::
 (nat_lit 129,tUp #[]) ::
 (nat_lit 132,⟨.type "code", none,.fields #[.str "ways_by_room" 344,.str "ways_by_room" 345,.str "/claim/cut.py" 346,.int 75 0,.int 2 0,.int 0 0,.int 0 0,.int 3 0,.ref 129,.bool true,.int 181 0,.ref 130,.none,.none,.none,.ref 131,.int 347 0,.int 75 0,.str "/claim/cut.py" 348],#[]⟩) ::
 (nat_lit 133,fUn "ways_by_room" 19 "usewarden.pairs" 320 132) ::
 (nat_lit 134,tUp #[]) ::
 (nat_lit 136,tUp #[.str "ones" 353,.str "others" 354,.str "pair" 355]) ::
 (nat_lit 137,tUp #[]) ::
 (nat_lit 139,cOd "pairs_behind" 350 351 352 84 3 134 135 136 137 138 356 357) ::
 (nat_lit 140,fUn "pairs_behind" 20 "usewarden.pairs" 320 139) ::
 (nat_lit 141,tUp #[]) ::
 (nat_lit 143,tUp #[.str "rule" 368,.str "room" 369,.str "text" 370,.str "words" 371]) ::
 (nat_lit 144,tUp #[]) ::
 (nat_lit 146,cOd "next_room" 365 366 367 89 3 141 142 143 144 145 372 373) ::
 (nat_lit 147,fUn "next_room" 24 "usewarden.rules" 359 146) ::
 (nat_lit 148,tUp #[]) ::
 (nat_lit 150,tUp #[.str "rule" 378,.str "room" 379,.str "row" 380,.str "text" 381]) ::
 (nat_lit 151,tUp #[]) ::
 (nat_lit 153,cOd "room_from" 375 376 377 94 3 148 149 150 151 152 382 383) ::
 (nat_lit 154,fUn "room_from" 25 "usewarden.rules" 359 153) ::
 (nat_lit 155,tUp #[]) ::
 (nat_lit 157,tUp #[.str "rule" 388,.str "row" 389]) ::
 (nat_lit 158,tUp #[]) ::
 (nat_lit 160,cOd "room_after" 385 386 387 100 2 155 156 157 158 159 390 391) ::
 (nat_lit 161,fUn "room_after" 26 "usewarden.rules" 359 160) ::
 (nat_lit 162,tUp #[]) ::
 (nat_lit 164,tUp #[.str "pair" 398]) ::
 (nat_lit 165,tUp #[]) ::
 (nat_lit 167,cOd "breaks_one" 395 396 397 103 1 162 163 164 165 166 399 400) ::
 (nat_lit 168,fUn "breaks_one" 28 "usewarden.joins" 393 167) ::
 (nat_lit 169,tUp #[]) ::
 (nat_lit 171,tUp #[.str "pair" 405]) ::
 (nat_lit 172,tUp #[]) ::
 (nat_lit 174,cOd "breaks_both" 402 403 404 105 1 169 170 171 172 173 406 407) ::
 (nat_lit 175,fUn "breaks_both" 29 "usewarden.joins" 393 174) ::
 (nat_lit 176,tUp #[]) ::
 (nat_lit 178,tUp #[.str "one" 412,.str "other" 413,.str "breaks" 414,.str "words" 415,.str "ones" 416,.str "others" 417,.str "order" 418,.str "numbers" 419,.str "rooms" 420,.str "here" 421,.str "room" 422,.str "pair" 423]) ::
 (nat_lit 179,tUp #[]) ::
 (nat_lit 181,cOd "rule_of_pairs" 409 410 411 107 3 176 177 178 179 180 424 425) ::
 (nat_lit 182,fUn "rule_of_pairs" 30 "usewarden.joins" 393 181) ::
 (nat_lit 183,tUp #[]) ::
 (nat_lit 185,tUp #[.str "one" 430,.str "other" 431,.str "breaks" 432,.str "least" 433]) ::
 (nat_lit 186,tUp #[]) ::
 (nat_lit 188,cOd "least_of_pairs" 427 428 429 124 3 183 184 185 186 187 434 435) ::
 (nat_lit 189,fUn "least_of_pairs" 31 "usewarden.joins" 393 188) ::
 (nat_lit 190,tUp #[]) ::
 (nat_lit 192,tUp #[.str "one" 440,.str "other" 441]) ::
 (nat_lit 193,tUp #[]) ::
 (nat_lit 195,cOd "joined_rule" 437 438 439 130 2 190 191 192 193 194 442 443) ::
 (nat_lit 196,fUn "joined_rule" 32 "usewarden.joins" 393 195) ::
 (nat_lit 197,tUp #[]) ::
 (nat_lit 199,tUp #[.str "one" 448,.str "other" 449]) ::
 (nat_lit 200,tUp #[]) ::
 (nat_lit 202,cOd "either_rule" 445 446 447 132 2 197 198 199 200 201 450 451) ::
 (nat_lit 203,fUn "either_rule" 33 "usewarden.joins" 393 202) ::
 (nat_lit 204,tUp #[]) ::
 (nat_lit 206,tUp #[.str "came" 458,.str "at" 459,.str "row" 460,.str "place" 461]) ::
 (nat_lit 207,tUp #[]) ::
 (nat_lit 209,cOd "row_to" 455 456 457 135 2 204 205 206 207 208 462 463) ::
 (nat_lit 210,fUn "row_to" 35 "usewarden.follows" 453 209) ::
 (nat_lit 211,tUp #[]) ::
 (nat_lit 213,tUp #[.str "other" 468,.str "one" 469,.str "words" 470,.str "others" 471,.str "ones" 472,.str "order" 473,.str "came" 474,.str "met" 475,.str "at" 476,.str "here" 477,.str "word" 478,.str "pair" 479]) ::
 (nat_lit 214,tUp #[]) ::
 (nat_lit 216,cOd "row_apart" 465 466 467 142 2 211 212 213 214 215 480 481) ::
 (nat_lit 217,fUn "row_apart" 36 "usewarden.follows" 453 216) ::
 (nat_lit 218,tUp #[]) ::
 (nat_lit 220,tUp #[.str "_law_script" 488,.str "_law_k" 489]) ::
 (nat_lit 221,tUp #[]) ::
 (nat_lit 223,cOd "_law_cell_at" 485 486 487 164 2 218 219 220 221 222 490 491) ::
 (nat_lit 224,fUn "_law_cell_at" 38 "law_usewarden_k16_whole_rules_joined_and_fol" 483 223) ::
 (nat_lit 225,tUp #[]) ::
 (nat_lit 227,tUp #[.str "_law_cell" 496,.str "_law_many" 497,.str "_law_number" 498,.str "_law_found" 499,.str "_law_k" 500]) ::
 (nat_lit 228,tUp #[]) ::
 (nat_lit 230,cOd "_law_mixed" 493 494 495 168 2 225 226 227 228 229 501 502) ::
 (nat_lit 231,fUn "_law_mixed" 39 "law_usewarden_k16_whole_rules_joined_and_fol" 483 230) ::
 (nat_lit 232,tUp #[]) ::
 (nat_lit 234,tUp #[.str "_law_cell" 507,.str "_law_many" 508,.str "_law_sides" 509,.str "_law_letters" 510,.str "_law_xs" 511,.str "_law_size" 512,.str "_law_at" 513,.str "_law_words_here" 514,.str "_law_k" 515,.str "_law_word" 516,.str "_law_j" 517]) ::
 (nat_lit 235,tUp #[]) ::
 (nat_lit 237,cOd "_law_words" 504 505 506 175 3 232 233 234 235 236 518 519) ::
 (nat_lit 238,fUn "_law_words" 40 "law_usewarden_k16_whole_rules_joined_and_fol" 483 237) ::
 (nat_lit 239,tUp #[]) ::
 (nat_lit 241,tUp #[.str "_law_number" 524,.str "_law_share" 525,.str "_law_many" 526]) ::
 (nat_lit 242,tUp #[]) ::
 (nat_lit 244,cOd "_law_way" 521 522 523 189 3 239 240 241 242 243 527 528) ::
 (nat_lit 245,fUn "_law_way" 41 "law_usewarden_k16_whole_rules_joined_and_fol" 483 244) ::
 (nat_lit 246,tUp #[]) ::
 (nat_lit 249,⟨.type "code", none,.fields #[.str "_law_rooms" 530,.str "_law_rooms" 531,.str "/claim/cut.py" 532,.int 193 0,.int 4 0,.int 0 0,.int 0 0,.int 3 0,.ref 246,.bool true,.int 181 0,.ref 247,.none,.none,.none,.ref 248,.int 533 0,.int 193 0,.str "/claim/cut.py" 534],#[]⟩) ::
 (nat_lit 250,fUn "_law_rooms" 42 "law_usewarden_k16_whole_rules_joined_and_fol" 483 249) ::
 (nat_lit 251,tUp #[]) ::
 (nat_lit 254,⟨.type "code", none,.fields #[.str "_law_three" 536,.str "_law_three" 537,.str "/claim/cut.py" 538,.int 199 0,.int 1 0,.int 0 0,.int 0 0,.int 3 0,.ref 251,.bool true,.int 181 0,.ref 252,.none,.none,.none,.ref 253,.int 539 0,.int 199 0,.str "/claim/cut.py" 540],#[]⟩) ::
 (nat_lit 255,fUn "_law_three" 43 "law_usewarden_k16_whole_rules_joined_and_fol" 483 254) ::
 (nat_lit 256,tUp #[]) ::
 (nat_lit 258,tUp #[.str "_law_one" 545,.str "_law_other" 546,.str "_law_both" 547,.str "_law_some" 548,.str "_law_least" 549]) ::
 (nat_lit 259,tUp #[]) ::
 (nat_lit 261,cOd "_law_one_of_two" 542 543 544 217 2 256 257 258 259 260 550 551) ::
 (nat_lit 262,fUn "_law_one_of_two" 44 "law_usewarden_k16_whole_rules_joined_and_fol" 483 261) ::
 (nat_lit 263,tUp #[]) ::
 (nat_lit 265,tUp #[.str "_law_one" 556,.str "_law_other" 557,.str "_law_third" 558,.str "_law_left" 559]) ::
 (nat_lit 266,tUp #[]) ::
 (nat_lit 268,cOd "_law_grouped" 553 554 555 228 3 263 264 265 266 267 560 561) ::
 (nat_lit 269,fUn "_law_grouped" 45 "law_usewarden_k16_whole_rules_joined_and_fol" 483 268) ::
 (nat_lit 270,tUp #[]) ::
 (nat_lit 272,tUp #[.str "_law_one" 566,.str "_law_other" 567,.str "_law_row" 568,.str "_law_both" 569,.str "_law_some" 570]) ::
 (nat_lit 273,tUp #[]) ::
 (nat_lit 275,cOd "_law_following" 563 564 565 235 2 270 271 272 273 274 571 572) ::
 (nat_lit 276,fUn "_law_following" 46 "law_usewarden_k16_whole_rules_joined_and_fol" 483 275) ::
 (nat_lit 277,tUp #[]) ::
 (nat_lit 280,⟨.type "code", none,.fields #[.str "law" 574,.str "law" 575,.str "/claim/cut.py" 576,.int 246 0,.int 1 0,.int 0 0,.int 0 0,.int 3 0,.ref 277,.bool true,.int 181 0,.ref 278,.none,.none,.none,.ref 279,.int 577 0,.int 246 0,.str "/claim/cut.py" 578],#[]⟩) ::
 (nat_lit 281,fUn "law" 47 "law_usewarden_k16_whole_rules_joined_and_fol" 483 280)::[]
def kk:List Addr:=[2,3,15,22,23,24,25,28,35,36,37,40,47,48,49,52,55,56,57,59,60,62,63,64,67,68,69,71,72,74,75,76,78,79,81,82,83,86,87,88,91,92,93,96,97,98,101,102,103,105,106,108,109,110,112,113,115,116,117,119,120,122,123,124,127,128,129,132,133,134,136,137,139,140,141,143,144,146,147,148,150,151,153,154,155,157,158,160,161,162,164,165,167,168,169,171,172,174,175,176,178,179,181,182,183,185,186,188,189,190,192,193,195,196,197,199,200,202,203,204,206,207,209,210,211,213,214,216,217,218,220,221,223,224,225,227,228,230,231,232,234,235,237,238,239,241,242,244,245,246,249,250,251,254,255,256,258,259,261,262,263,265,266,268,269,270,272,273,275,276,277,280,281]
theorem kk_eq:∀ P,kk=(KK P).map (·.1):=fun _=>by kernel_rfl
noncomputable abbrev HH:Hook:=kHook KK kk kk_eq
def qq:Program:=view PySem.Challenge.pw_usewarden_k16_whole_rules_joined_and_fol [1,2,3,5,6,7,8,9,10,11,12,13,14,16,17,18,19,20,22,23,24,25,26,28,29,30,31,32,33,35,36,38,39,40,41,42,43,44,45,46,47]
def loo:List Str:=[]
noncomputable def xt(s:Shared):Bool:=xlAt qq [] s&&recOk (RowW.records (OpenRow.toRowW (OpenLaw.row PySem.Challenge.rw_usewarden_k16_whole_rules_joined_and_fol))) s
def C6(w:World):Prop:=(openEnds treeTable PySem.Challenge.pw_usewarden_k16_whole_rules_joined_and_fol w 3702).map (fun s=>openSeen qq loo (importedModules (Program.main PySem.Challenge.pw_usewarden_k16_whole_rules_joined_and_fol).body) xt true s)=some (openGood qq loo)
def CL(w:World):Prop:=(openEnds treeTable PySem.Challenge.pw_usewarden_k16_whole_rules_joined_and_fol w 3702).map (fun s=>Hook.obs HH s)=some (Hook.val HH w)
set_option maxRecDepth 1000000 in
theorem Dt(w:World):C6 w:=by unfold C6; kernel_rfl
set_option maxRecDepth 1000000 in
theorem Fu(w:World):CL w:=by unfold CL; kernel_rfl
theorem wA{α β γ : Type}{o:Option α}{f:α→β}{g:α→γ}{a:β}{b:γ}(h1:o.map f=some a)(h2:o.map g=some b):o.map (fun s=>(f s,g s))=some (a,b):=by
 cases o with
 | none=>cases h1
 | some s=>cases h1; cases h2; rfl
theorem hl(w:World):(openEnds treeTable PySem.Challenge.pw_usewarden_k16_whole_rules_joined_and_fol w 3702).map (fun s=>(openSeen qq loo (importedModules (Program.main PySem.Challenge.pw_usewarden_k16_whole_rules_joined_and_fol).body) xt true s,Hook.obs HH s))=some (openGood qq loo,Hook.val HH w):=wA (Dt w) (Fu w)
end K16
-- CHANGE: your row's module here, as the last of these rows
namespace L2
open PySem PySem.Spec PyProof.Rows
abbrev bp:=Sum Int Str
def ky:bp→Value→Bool
 | .inl k,v=>Value.isInt k v
 | .inr x,v=>Value.isStrOf x v
def Di(w:World):bp→Int
 | .inl k=>hashInt k
 | .inr x=>hashStr w x
theorem cG:∀ {k:bp} {v:Value},ky k v=true→(∃ i t,k=Sum.inl i∧v=Value.int i t)∨(∃ x t,k=Sum.inr x∧v=Value.str x t)
 | .inl i,v,h=>by
  obtain⟨t,e⟩:=Value.isInt_shape (k:=i) (v:=v) h
  exact .inl ⟨i,t,rfl,e⟩
 | .inr x,v,h=>by
  obtain⟨t,e⟩:=Value.isStrOf_shape (x:=x) (v:=v) h
  exact .inr ⟨x,t,rfl,e⟩
theorem uY(i:Int)(t:Tok):ky (.inl i) (.int i t)=true:=by simp[ky,Value.isInt]
theorem wc(x:Str)(t:Tok):ky (.inr x) (.str x t)=true:=by simp[ky,Value.isStrOf]
theorem BK(a b:Int):decide ((Sum.inl a:bp)=Sum.inl b)=(a == b):=by
 by_cases e:a=b
 ·subst e; simp
 ·have h:¬ (Sum.inl a:bp)=Sum.inl b:=fun q=>e (Sum.inl.inj q)
  rw[decide_eq_false h];exact(beq_eq_false_iff_ne.mpr e).symm
theorem Bk(a b:Str):decide ((Sum.inr a:bp)=Sum.inr b)=decide (a=b):=by
 by_cases e:a=b
 ·subst e; simp
 ·have h:¬ (Sum.inr a:bp)=Sum.inr b:=fun q=>e (Sum.inr.inj q)
  rw[decide_eq_false h,decide_eq_false e]
theorem BP(a:Int)(b:Str):decide ((Sum.inl a:bp)=Sum.inr b)=false:=decide_eq_false (fun q=>nomatch q)
theorem BB(a:Str)(b:Int):decide ((Sum.inr a:bp)=Sum.inl b)=false:=decide_eq_false (fun q=>nomatch q)
def cz(prog:Program)(w:World):PySem.KeyKind prog w bp where
 is:=ky
 hash:=Di w
 inj:=fun v a b ha hb=>by
  rcases cG ha with ⟨i,t,rfl,rfl⟩ | ⟨x,t,rfl,rfl⟩
  ·rcases cG hb with ⟨j,u,rfl,e⟩ | ⟨y,u,rfl,e⟩
   ·injection e with e1 _; rw[e1]
   ·exact nomatch e
  ·rcases cG hb with ⟨j,u,rfl,e⟩ | ⟨y,u,rfl,e⟩
   ·exact nomatch e
   ·injection e with e1 _; rw[e1]
 byValue:=fun k v h=>by
  rcases cG h with ⟨i,t,rfl,rfl⟩ | ⟨x,t,rfl,rfl⟩ <;> rfl
 pyHash:=fun hv h=>by
  rcases cG hv with ⟨i,t,rfl,rfl⟩ | ⟨x,t,rfl,rfl⟩
  ·exact wpAny_pyHash_int h
  ·exact wpAny_pyHash_str h
 eqBool:=fun hu hv h=>by
  rcases cG hu with ⟨i,t,rfl,rfl⟩ | ⟨x,t,rfl,rfl⟩
  ·rcases cG hv with ⟨j,u,rfl,rfl⟩ | ⟨y,u,rfl,rfl⟩
   ·rw[BK]at h; exact wpAny_eqBool_int h
   ·rw[BP]at h; exact SeqAt.EqAt.int_str i t y u _ _ _ _ h
  ·rcases cG hv with ⟨j,u,rfl,rfl⟩ | ⟨y,u,rfl,rfl⟩
   ·rw[BB]at h; exact SeqAt.EqAt.str_int x t j u _ _ _ _ h
   ·rw[Bk]at h; exact wpAny_eqBool_str h
 «strs»:=fun k x t v h=>by
  rcases cG h with ⟨i,u,rfl,e⟩ | ⟨y,u,rfl,e⟩
  ·exact nomatch e
  ·injection e with e1 _
   subst e1
   cases v <;> rfl
theorem qR(prog:Program)(w:World)(i:Int)(t:Tok):(cz prog w).is (.inl i) (.int i t)=true:=uY i t
theorem rg(prog:Program)(w:World)(x:Str)(t:Tok):(cz prog w).is (.inr x) (.str x t)=true:=wc x t
end L2
namespace L2
open PySem PySem.Spec PyProof.Rows
set_option genSizeOf false in
inductive V where
 | non | bl (b:Bool) | int (i:Int) | str (x:Str) | byt (b:Array UInt8) | flt (b:UInt64) | ref (a:Addr) | ty (n:String)
 deriving DecidableEq
def RelV:V→Value→Prop
 | .non,u=>u=Value.none
 | .bl b,u=>u=Value.bool b
 | .int i,u=>∃ t,u=Value.int i t
 | .str x,u=>∃ t,u=Value.str x t
 | .byt b,u=>∃ t,u=Value.bytes b t
 | .flt b,u=>∃ t,u=Value.float b t
 | .ref a,u=>u=Value.ref a
 | .ty n,u=>u=Value.type n
abbrev Vals:List V→List Value→Prop:=Paired RelV
theorem Vals.length{xs:List V}{us:List Value}(r:Vals xs us):xs.length=us.length:=Paired.length r
theorem Vals.get:∀ {xs:List V} {us:List Value} {i:Nat} {x:V},Vals xs us→xs[i]? = some x→∃ u,us[i]? = some u∧RelV x u
 | _,_,_,_,.nil,e=>by simp at e
 | _,_,0,_,.cons r _,e=>by simp at e; subst e; exact⟨_,rfl,r⟩
 | _,_,i+1,x,.cons _ t,e=>by
  obtain⟨u,h1,h2⟩:=Vals.get (i:=i) (x:=x) t (by simpa using e)
  exact⟨u,by simpa using h1,h2⟩
theorem Vals.set{x:V}{u:Value}(r:RelV x u):∀ {xs:List V} {us:List Value} (i:Nat),Vals xs us→Vals (xs.set i x) (us.set i u)
 | _,_,_,.nil=>.nil
 | _,_,0,.cons _ t=>.cons r t
 | _,_,i+1,.cons q t=>.cons q (Vals.set r i t)
theorem Vals.append:∀ {xs ys:List V} {us ws:List Value},Vals xs us→Vals ys ws→Vals (xs++ys) (us++ws)
 | _,_,_,_,.nil,s=>s
 | _,_,_,_,.cons r t,s=>.cons r (Vals.append t s)
theorem Vals.take:∀ {xs:List V} {us:List Value} (n:Nat),Vals xs us→Vals (xs.take n) (us.take n)
 | _,_,0,_=>.nil
 | _,_,_+1,.nil=>.nil
 | _,_,n+1,.cons r t=>.cons r (Vals.take n t)
theorem Vals.drop:∀ {xs:List V} {us:List Value} (n:Nat),Vals xs us→Vals (xs.drop n) (us.drop n)
 | _,_,0,r=>r
 | _,_,_+1,.nil=>.nil
 | _,_,n+1,.cons _ t=>Vals.drop n t
theorem Vals.none_of:∀ {xs:List V} {us:List Value} {i:Nat},Vals xs us→xs[i]? = none→us[i]? = none:=fun {xs us i} r e=>by
 have h1:=r.length;have h2:xs.length≤i:=List.getElem?_eq_none_iff.mp e
 exact List.getElem?_eq_none_iff.mpr (by omega)
def RelO:Option V→Option Value→Prop
 | some v,some u=>RelV v u
 | none,none=>True
 | _,_=>False
def KV{κ : Type}:List (κ × V)→List (κ × Value)→Prop:=Paired fun (p:κ × V) (q:κ × Value)=>p.1=q.1∧RelV p.2 q.2
def kV:bp→V
 | .inl i=>.int i
 | .inr x=>.str x
set_option genSizeOf false in
inductive HO where
 /-- a list -/
 | lst (xs:List V)
 /-- a tuple (never changes) -/
 | tup (xs:List V)
 /-- a dict whose keys are ints and texts; one whose keys are tuples of ints and texts (the empty one is both) -/
 | dK (kvs:List (bp × V)) | dT (kvs:List (List bp × V))
 /-- a set of ints: its members, its size -/
 | set (S:Int→Bool) (n:Nat)
 /-- an instance of the class at C, its dict at dx, its attributes -/
 | ins (C dx:Addr) (fs:List (Str × V))
 /-- the dict of the instance at x -/
 | own (x:Addr)
 /-- the dict of an exception -/
 | xd (fs:List (Str × V))
 /-- a bound method, f of x -/
 | met (f x:Addr)
 /-- a range object lo, lo+1, .. below hi -/
 | rng (lo hi:Int)
 /-- a thing that is known to the object (the script; a dict while a loop walks it): read, never written while it is so -/
 | frz (o:Obj) (u:HO)
 /-- a code object's table -/
 | tbl (ps:Array Value)
 /-- any other thing, by what is true of its one object (a def of one's own: SetO a S n := HO.ext fun h => ..) -/
 | ext (φ : Heap→Prop)
abbrev Hp:=Addr→Option HO
def upd(H:Hp)(a:Addr)(o:HO):Hp:=fun b=>if b=a then some o else H b
theorem ae{H:Hp}{a:Addr}{o:HO}:upd H a o a=some o:=by unfold upd; rw[if_pos rfl]
theorem ai{H:Hp}{a b:Addr}{o:HO}(h:b≠a):upd H a o b=H b:=by unfold upd; rw[if_neg h]
theorem zS{H:Hp}{a:Addr}{o u:HO}:upd (upd H a o) a u=upd H a u:=by
 funext b; unfold upd; split <;> rfl
theorem gS{H:Hp}{a b:Addr}{o u:HO}(h:H a=some o)(h':H b=some u)(d:o≠u):a≠b:=by
 intro e; subst e; rw[h]at h'; exact d (Option.some.inj h')
theorem aA{H:Hp}{a b:Addr}{o:HO}(h:H a=some o)(h':H b=none):a≠b:=by
 intro e; subst e; rw[h]at h'; cases h'
def IsTupN(h:Heap)(a:Addr)(items:Array Value):Prop:=∃ o,h.get? a=some o∧o.cls = .type "tuple" ∧ o.dict=none∧∃ n,o.data = .seq items n
theorem IsTupN.tup{h:Heap}{a:Addr}{items:Array Value}(x:IsTupN h a items):IsTup h a items:=let ⟨o,e,c,_,d⟩:=x; ⟨o,e,c,d⟩
theorem IsTupN.lt{h:Heap}{a:Addr}{items:Array Value}(x:IsTupN h a items):a<h.objs.size:=let ⟨_,e,_⟩:=x; Heap.lt_size e
theorem IsTupN.new(h:Heap)(items:Array Value):IsTupN (h.push { cls:=.type "tuple", data:=.seq items }) h.objs.size items:=⟨_,Heap.get?_push_size _ rfl,rfl,rfl,_,rfl⟩
section
variable(P:Program)(w:World)
def ObjOk(H:Hp)(h:Heap)(a:Addr):HO→Prop
 | .lst xs=>xs.length≤sizeLine∧∃ (its:List Value) (n:Nat),Vals xs its∧h.get? a=some { cls:=.type "list", data:=.seq its.toArray n }
 | .tup xs=>xs.length≤sizeLine∧∃ its:List Value,Vals xs its∧IsTupN h a its.toArray
 | .dK kvs=>kvs.length≤sizeLine∧(a == sysModules)=false∧∃ vs,KV kvs vs∧h.DictOf (cz P w) a vs
 | .dT kvs=>kvs.length≤sizeLine∧(a == sysModules)=false∧∃ xs:List (List bp × Addr × Value),
   Paired (fun (p:List bp × V) (q:List bp × Addr × Value)=>p.1=q.1∧H q.2.1=some (.tup (p.1.map kV))∧RelV p.2 q.2.2) kvs xs∧
   ∃ o es ep,h.get? a=some o∧o.ExactDict∧o.data = .dict es ep∧es.toList=xs.map (entryOfKey (tupleKind (cz P w)))∧(xs.map (·.1)).Nodup
 | .set S n=>h.SetOf (intKind P w) a S n
 | .ins C dx fs=>H dx=some (.own a)∧fs.length≤1000∧dx≠a∧h.get? a=some (PySem.W.instObj C dx)∧
   ∃ mA,h.Ns1 dx mA∧(∀ f,RelO (fs.lookup f) (mA f))∧PySem.Within mA (fs.map (·.1))
 | .own _=>∃ o,h.get? a=some o
 | .xd fs=>∃ mA,h.Ns1 a mA∧∀ f,RelO (fs.lookup f) (mA f)
 | .rng lo hi=>∃ t u v,h.get? a=some { cls:=.type "range", data:=.fields #[.int lo t,.int hi u,.int 1 v] }
 | .frz o u=>h.get? a=some o∧ObjOk H h a u
 | .tbl ps=>h.get? a=some { cls:=.none,data:=.fields ps }
 | .met f x=>h.get? a=some (PySem.W.methodObj (.ref f) (.ref x))
 | .ext φ=>φ h∧(∃ o,h.get? a=some o)∧∀ h1 h2:Heap,φ h1→(∀ o,h1.get? a=some o→h2.get? a=some o)→φ h2
def HOk(H:Hp)(h:Heap):Prop:=∀ a o,H a=some o→ObjOk P w H h a o
end
section
variable{P:Program}{w:World}{H H':Hp}{h h':Heap}{a:Addr}{o:HO}
theorem ObjOk.lt(x:ObjOk P w H h a o):a<h.objs.size:=by
 cases o with
 | lst xs=>obtain⟨_,_,_,_,e⟩:=x; exact Heap.lt_size e
 | tup xs=>obtain⟨_,_,_,p⟩:=x; exact p.lt
 | dK kvs=>obtain⟨_,_,_,_,o,_,_,e,_⟩:=x; exact Heap.lt_size e
 | dT kvs=>obtain⟨_,_,_,_,o,_,_,e,_⟩:=x; exact Heap.lt_size e
 | set S n=>obtain⟨o,_,_,_,e,_⟩:=x; exact Heap.lt_size e
 | ins C dx fs=>obtain⟨_,_,_,e,_⟩:=x; exact Heap.lt_size e
 | own y=>obtain⟨_,e⟩:=x; exact Heap.lt_size e
 | xd fs=>obtain⟨_,⟨_,_,_,e,_⟩,_⟩:=x; exact Heap.lt_size e
 | rng lo hi=>obtain⟨_,_,_,e⟩:=x; exact Heap.lt_size e
 | frz ob u=>obtain⟨e,_⟩:=x; exact Heap.lt_size e
 | tbl ps=>exact Heap.lt_size (show h.get? a=some _ from x)
 | met f y=>exact Heap.lt_size (show h.get? a=some _ from x)
 | ext φ=>obtain⟨_,⟨_,e⟩,_⟩:=x; exact Heap.lt_size e
theorem Paired.mapP{α β : Type}{F G:α→β→Prop}:∀ {l₁:List α} {l₂:List β},Paired F l₁ l₂→(∀ a b,F a b→G a b)→Paired G l₁ l₂
 | _,_,.nil,_=>.nil
 | _,_,.cons r t,f=>.cons (f _ _ r) (Paired.mapP t f)
theorem Paired.imp'{α β : Type}{F G:α→β→Prop}(f:∀ a b,F a b→G a b){l₁:List α}{l₂:List β}(r:Paired F l₁ l₂):Paired G l₁ l₂:=Paired.mapP r f
theorem ObjOk.stay(x:ObjOk P w H h a o)(k:∀ b u,(b=a∨H b=some (.own a))→h.get? b=some u→h'.get? b=some u)
  (ho:∀ b,H b=some (.own a)→H' b=some (.own a)) (ht:∀ b xs,H b=some (.tup xs)→H' b=some (.tup xs)):ObjOk P w H' h' a o:=by
 induction o with
 | lst xs=>obtain⟨z,its,n,r,e⟩:=x; exact⟨z,its,n,r,k _ _ (.inl rfl) e⟩
 | tup xs=>obtain⟨z,its,r,ob,e,c⟩:=x; exact⟨z,its,r,ob,k _ _ (.inl rfl) e,c⟩
 | dK kvs=>obtain⟨z,y,vs,r,ob,es,ep,e,c⟩:=x; exact⟨z,y,vs,r,ob,es,ep,k _ _ (.inl rfl) e,c⟩
 | dT kvs=>
  obtain⟨z,y,xs,r,ob,es,ep,e,c⟩:=x
  exact⟨z,y,xs,Paired.mapP r fun p q z=>⟨z.1,ht _ _ z.2.1,z.2.2⟩,ob,es,ep,k _ _ (.inl rfl) e,c⟩
 | set S n=>obtain⟨ob,es,ep,t,e,c⟩:=x; exact⟨ob,es,ep,t,k _ _ (.inl rfl) e,c⟩
 | ins C dx fs=>
  obtain⟨d,z,ne,e,mA,⟨od,es,ep,e2,c⟩,r⟩:=x
  exact⟨ho _ d,z,ne,k _ _ (.inl rfl) e,mA,⟨od,es,ep,k _ _ (.inr d) e2,c⟩,r⟩
 | own y=>obtain⟨ob,e⟩:=x; exact⟨ob,k _ _ (.inl rfl) e⟩
 | xd fs=>obtain⟨mA,⟨od,es,ep,e,c⟩,r⟩:=x; exact⟨mA,⟨od,es,ep,k _ _ (.inl rfl) e,c⟩,r⟩
 | rng lo hi=>obtain⟨t,u,v,e⟩:=x; exact⟨t,u,v,k _ _ (.inl rfl) e⟩
 | frz ob u ih=>obtain⟨e,q⟩:=x; exact⟨k _ _ (.inl rfl) e,ih q⟩
 | tbl ps=>
  have e:h.get? a=some { cls:=.none,data:=.fields ps }:=x
  show h'.get? a=some { cls:=.none,data:=.fields ps }
  exact k a _ (.inl rfl) e
 | met f y=>
  have e:h.get? a=some (PySem.W.methodObj (.ref f) (.ref y)):=x
  show h'.get? a=some (PySem.W.methodObj (.ref f) (.ref y))
  exact k a _ (.inl rfl) e
 | ext φ=>obtain⟨p,⟨o,e⟩,st⟩:=x; exact⟨st _ _ p fun o q=>k _ _ (.inl rfl) q,⟨o,k _ _ (.inl rfl) e⟩,st⟩
theorem HOk.lt(x:HOk P w H h)(e:H a=some o):a<h.objs.size:=(x a o e).lt
theorem HOk.fresh(x:HOk P w H h)(e:h.objs.size≤a):H a=none:=by
 cases q:H a with
 | none=>rfl
 | some u=>exact absurd (Nat.lt_of_lt_of_le (x.lt q) e) (Nat.lt_irrefl _)
theorem HOk.kept(x:HOk P w H h)(k:∀ b u,h.get? b=some u→h'.get? b=some u):HOk P w H h':=fun a o e=>
 (x a o e).stay (fun b u _ q=>k b u q) (fun _ q=>q) fun _ _ q=>q
theorem HOk.laid(x:HOk P w H h)(k:∀ b u,h.get? b=some u→h'.get? b=some u)(hp:h.objs.size≤a)(new:ObjOk P w (upd H a o) h' a o):HOk P w (upd H a o) h':=fun b u e=>by
 have hn:=x.fresh hp
 by_cases hb:b=a
 ·subst hb; rw[ae]at e; cases e; exact new
 ·rw[ai hb]at e
  exact(x b u e).stay (fun c v _ q=>k c v q) (fun c q=>by rw[ai (aA q hn)]; exact q) fun c xs q=>by rw[ai (aA q hn)]; exact q
end
def Rd(H:Hp)(a:Addr)(u:HO):Prop:=H a=some u∨∃ o,H a=some (.frz o u)
theorem Rd.ok{P:Program}{w:World}{H:Hp}{h:Heap}{a:Addr}{u:HO}(r:Rd H a u)(x:HOk P w H h):ObjOk P w H h a u:=by
 rcases r with r | ⟨o,r⟩
 ·exact x a u r
 ·obtain⟨_,q⟩:=x a _ r
  exact q
def uE:Option HO→Prop
 | some (.lst _)=>True
 | some (.dK _)=>True
 | some (.dT _)=>True
 | some (.set _ _)=>True
 | some (.ins _ _ _)=>True
 | some (.ext _)=>True
 | _=>False
section
variable{P:Program}{w:World}{H:Hp}{h h':Heap}{x e:Addr}{o':HO}
theorem HOk.write(ok:HOk P w H h)(mu:uE (H x))(he:e=x∨H e=some (.own x))(k:∀ b u,b≠e→h.get? b=some u→h'.get? b=some u)(heo:∃ u,h'.get? e=some u)
  (new:ObjOk P w (upd H x o') h' x o'):HOk P w (upd H x o') h':=fun b u q=>by
 have nown:∀ c y,H c=some (.own y)→c≠x:=fun c y r z=>by subst z; rw[r]at mu; exact mu
 have ntup:∀ c xs,H c=some (.tup xs)→c≠x:=fun c xs r z=>by subst z; rw[r]at mu; exact mu
 by_cases hb:b=x
 ·subst hb; rw[ae]at q; cases q; exact new
 ·rw[ai hb]at q
  by_cases hbe:b=e
  ·have q':H b=some (.own x):=by
    rcases he with z | z
    ·exact absurd (hbe.trans z) hb
    ·rw[hbe]; exact z
   rw[q]at q'; cases q'
   obtain⟨v,hv⟩:=heo
   exact⟨v,by rw[hbe]; exact hv⟩
  ·refine(ok b u q).stay (fun c v hc r=>k c v ?_ r) (fun c r=>by rw[ai (nown c b r)]; exact r) fun c xs r=>by rw[ai (ntup c xs r)]; exact r
   rcases hc with rfl | hc
   ·exact hbe
   ·rintro rfl
    rcases he with z | z
    ·exact nown c b hc z
    ·rw[hc]at z; cases z; exact hb rfl
end
structure Un (fs ex:List Addr) (H H':Hp) (h h':Heap):Prop where
 keep:∀ b o,h.get? b=some o→H b=none→b∉fs→b∉ex→h'.get? b=some o
 slot:∀ b o,h.get? b=some o→H b=none→b∈fs→b∉ex→∃ sl,h'.get? b=some { o with slots:=sl }
 free:∀ b o,h.get? b=some o→H b=none→b∉ex→H' b=none
 there:∀ b o,h.get? b=some o→b∉ex→∃ o',h'.get? b=some o'
 tups:∀ b xs,H b=some (.tup xs)→H' b=some (.tup xs)
 frzs:∀ b o u,H b=some (.frz o u)→H' b=some (.frz o u)
 tbls:∀ b ps,H b=some (.tbl ps)→∃ more,H' b=some (.tbl (ps++more))
section
variable{fs fs' ex ex':List Addr}{H H1 H2:Hp}{h h1 h2 h':Heap}{a x e:Addr}{o:HO}
theorem Un.any(u:Un fs ex H H1 h h1){b:Addr}{ob:Obj}(q:h.get? b=some ob)(n:H b=none)(hx:b∉ex):∃ sl,h1.get? b=some { ob with slots:=sl }:=by
 by_cases hb:b∈fs
 ·exact u.slot b ob q n hb hx
 ·exact⟨ob.slots,u.keep b ob q n hb hx⟩
theorem Un.kept(k:∀ b u,h.get? b=some u→h'.get? b=some u):Un fs ex H H h h':=
 ⟨fun b ob q _ _ _=>k b ob q,fun b ob q _ _ _=>⟨ob.slots,k b ob q⟩,fun _ _ _ n _=>n,fun b ob q _=>⟨ob,k b ob q⟩,fun _ _ q=>q,fun _ _ _ q=>q,fun _ ps q=>⟨#[],by rw[q]; simp⟩⟩
theorem Un.refl:Un fs ex H H h h:=Un.kept fun _ _ q=>q
theorem Un.laid(k:∀ b u,h.get? b=some u→h'.get? b=some u)(hp:h.objs.size≤a)(hn:H a=none):Un fs ex H (upd H a o) h h' where
 keep:=fun b u q _ _ _=>k b u q
 slot:=fun b u q _ _ _=>⟨u.slots,k b u q⟩
 free:=fun b u q n _=>by rw[ai (Nat.ne_of_lt (Nat.lt_of_lt_of_le (Heap.lt_size q) hp))]; exact n
 there:=fun b u q _=>⟨u,k b u q⟩
 tups:=fun b xs q=>by rw[ai (aA q hn)]; exact q
 frzs:=fun b u xs q=>by rw[ai (aA q hn)]; exact q
 tbls:=fun b ps q=>⟨#[],by rw[ai (aA q hn),q]; simp⟩
theorem Un.write(mu:uE (H x))(he:e=x∨H e=some (.own x))(k:∀ b u,b≠e→h.get? b=some u→h'.get? b=some u)(heo:∃ u,h'.get? e=some u):Un fs ex H (upd H x o) h h':=by
 have hx:∀ b,H b=none→b≠x:=fun b n z=>by subst z; rw[n]at mu; exact mu
 have hb:∀ b,H b=none→b≠e:=fun b n z=>by
  subst z;rcases he with r | r
  ·exact hx b n r
  ·rw[n]at r; cases r
 have hm:∀ b u,H b=some u→¬ uE (some u)→b≠x:=fun b u q nm z=>by subst z; rw[q]at mu; exact nm mu
 refine⟨fun b u q n _ _=>k b u (hb b n) q,fun b u q n _ _=>⟨u.slots,k b u (hb b n) q⟩,fun b u q n _=>by rw[ai (hx b n)]; exact n,fun b u q _=>?_,
  fun b xs q=>by rw[ai (hm b _ q fun z=>z)]; exact q,fun b u xs q=>by rw[ai (hm b _ q fun z=>z)]; exact q,fun b ps q=>⟨#[],by rw[ai (hm b _ q fun z=>z),q]; simp⟩⟩
 by_cases hbe:b=e
 ·subst hbe; exact heo
 ·exact⟨u,k b u hbe q⟩
end
def trk(h:Heap)(H:Hp):List Addr:=(List.range h.objs.size).filter fun a=>(H a).isSome
def jW(h:Heap)(H:Hp):Heap:=PySem.W.hideAll h (trk h H)
theorem vH(h:Heap)(H:Hp):(jW h H).objs.size=h.objs.size:=PySem.W.hideAll_size _ _
theorem wJ{h:Heap}{H:Hp}{b:Addr}{o:Obj}(e:h.get? b=some o)(n:H b=none):(jW h H).get? b=some o:=
 PySem.W.hideAll_get _ e fun hm=>by
  have q:(H b).isSome=true:=(List.mem_filter.mp hm).2
  rw[n]at q; simp at q
theorem zC{h:Heap}{H:Hp}{b:Addr}{o:Obj}(e:(jW h H).get? b=some o):h.get? b=some o∧H b=none:=by
 have e':h.get? b=some o:=PySem.W.of_hideAll (trk h H) e
 refine⟨e',?_⟩
 cases q:H b with
 | none=>rfl
 | some x=>
  have hm:b∈trk h H:=List.mem_filter.mpr ⟨List.mem_range.mpr (Heap.lt_size e'),by simp[q]⟩
  have z:(jW h H).get? b=none:=PySem.W.hideAll_none (trk h H) hm
  rw[z]at e; cases e
def z8(g h:Heap)(L:Addr):List (Addr × Obj):=(List.range h.objs.size).filterMap fun a=>if a=L∨(g.get? a).isSome=true then none else (h.get? a).map fun o=>(a,o)
def rest(g h:Heap)(L d:Addr):List (Addr × Obj):=(z8 g h L).filter fun p=>decide (p.1≠d)
end L2
namespace L2
open PySem PySem.Spec PyProof.Rows
structure Mod (K:PySem.W.Frag) (mg:Str→Option Value) (base:Heap):Prop where
 kin:K.In base
 glob:base.Ns mainGlobals mg
 blt:∃ mb,base.Ns builtinsNs mb∧∀ x:Str,x ≠ "__name__" → mb x=bootBuiltins x
 nolimit:base.NoLimit
set_option genInjectivity false in
set_option genSizeOf false in
structure Cx where
 prog:Program
 w:World
 K:PySem.W.Frag
 mg:Str→Option Value
 base:Heap
 A:Around
 N:List Str
 s₀ : Shared
 H₀ : Hp
 env:Env
 outer:List Env
 stack:List Env
 ex:List Addr
 fn:Str→Bool
 calm:Bool
 pn:List (Addr × Obj)
 xe:Value→Shared→Prop
def jq(l:List Env):List Addr:=l.filterMap (·.frame)
abbrev Cx.fs (X:Cx):List Addr:=jq X.outer
def ap(sc:Scope)(x:Str):Prop:=sc.names.lookup x=some .local∨sc.names.lookup x=some .cell∨sc.names.lookup x=some .free
def aS(sc:Scope)(x:Str):Prop:=sc.names.lookup x=some .local∨sc.names.lookup x=some .cell
def D_(env:Env)(h:Heap)(m:Str→Option Value)(x:Str)(u:Value):Prop:=
 (env.kindOf x=some .local∧m x=some u)∨((env.kindOf x=some .cell∨env.kindOf x=some .free)∧∃ c,env.cells.lookup x=some c∧h.IsCell c (some u))
structure Cx.Ok (X:Cx):Prop where
 mod:Mod X.K X.mg X.base
 kind:X.env.scope.kind = .function
 glob:X.env.globals=mainGlobals
 blt:X.env.builtins=builtinsNs
 above:X.s₀.heap.objs.size≤X.env.locals
 inj:∀ x y c,X.env.cells.lookup x=some c→X.env.cells.lookup y=some c→x=y
 has:∀ x,(X.env.kindOf x=some .cell∨X.env.kindOf x=some .free)→∃ c,X.env.cells.lookup x=some c
 cab:∀ x c,X.fn x=true→X.env.cells.lookup x=some c→X.s₀.heap.objs.size≤c
 hd:X.calm=true→X.A.handled=none
 frames:X.A.frames=some X.stack
 stk:X.stack=X.outer∨(X.stack=X.env::X.outer∧X.env.frame=some X.env.locals)
 exf:∀ b∈X.ex,b≠X.env.locals∧∀ x c,X.env.cells.lookup x=some c→c≠b
 bs:∀ b o,X.base.get? b=some o→X.s₀.heap.get? b=some o∧X.H₀ b=none
 bsz:X.base.objs.size≤X.s₀.heap.objs.size
 noex:∀ b o,X.base.get? b=some o→b∉X.ex
 exfs:∀ b∈X.ex,b∉X.fs
 funs:X.s₀.heap.FunFrames X.base X.outer
 frf:∀ b∈X.fs,X.H₀ b=none
structure Inv (X:Cx) (pins:List (Addr × Obj)) (σ : List (Option V)) (H:Hp) (s:Shared):Prop where
 ok:X.Ok
 os:s.os=X.s₀.os
 bare:AllBare s.gens
 base:Un X.fs X.ex X.H₀ H X.s₀.heap s.heap
 loc:∃ m,s.heap.Ns X.env.locals m∧∀ (i:Nat) (x:Str) (v:V),X.N[i]? = some x→σ[i]? = some (some v)→ap X.env.scope x→∃ u,RelV v u∧D_ X.env s.heap m x u
 cell:∀ x c,X.env.cells.lookup x=some c→∃ v,s.heap.IsCell c v
 free:H X.env.locals=none
 freeC:∀ x c,X.env.cells.lookup x=some c→H c=none
 pin:∀ p∈X.pn++pins,s.heap.get? p.1=some p.2∧H p.1=none∧p.1≠X.env.locals∧p.1∉X.fs∧∀ v,p.2.data ≠ .cell v
 hok:HOk X.prog X.w H s.heap
 len:σ.length=X.N.length
section
variable{X:Cx}{pins:List (Addr × Obj)}{σ : List (Option V)}{H H':Hp}{s:Shared}{h':Heap}
theorem Cx.Ok.nofr(ok:X.Ok){b:Addr}{o:Obj}(e:X.base.get? b=some o):b∉X.fs:=fun hb=>by
 have:=(ok.funs.mem hb).1
 rw[e]at this; cases this
theorem Inv.bs(I:Inv X pins σ H s):∀ b o,X.base.get? b=some o→s.heap.get? b=some o∧H b=none:=fun b o e=>
 ⟨I.base.keep b o (I.ok.bs b o e).1 (I.ok.bs b o e).2 (I.ok.nofr e) (I.ok.noex b o e),I.base.free b o (I.ok.bs b o e).1 (I.ok.bs b o e).2 (I.ok.noex b o e)⟩
theorem Inv.bk(I:Inv X pins σ H s):∀ b o,X.base.get? b=some o→s.heap.get? b=some o:=fun b o e=>(I.bs b o e).1
theorem Inv.mod(I:Inv X pins σ H s):Mod X.K X.mg X.base:=I.ok.mod
theorem Inv.kIn(I:Inv X pins σ H s):X.K.In s.heap:=I.ok.mod.kin.keeps I.bk
theorem Inv.lt(I:Inv X pins σ H s):X.env.locals<s.heap.objs.size:=let ⟨_,hn,_⟩:=I.loc; hn.lt
theorem Inv.sz(I:Inv X pins σ H s):X.s₀.heap.objs.size≤s.heap.objs.size:=Nat.le_trans I.ok.above (Nat.le_of_lt I.lt)
theorem Inv.nofs(I:Inv X pins σ H s){a:Addr}(h:s.heap.objs.size≤a):a∉X.fs:=fun hb=>by
 obtain⟨_,o,ho,_⟩:=I.ok.funs.mem hb
 exact absurd (Nat.lt_of_lt_of_le (Heap.lt_size ho) (Nat.le_trans I.sz h)) (Nat.lt_irrefl _)
theorem Inv.cne(I:Inv X pins σ H s):∀ x c,X.env.cells.lookup x=some c→c≠X.env.locals:=fun x c e z=>by
 obtain⟨v,o,ho,hd⟩:=I.cell x c e
 obtain⟨m,⟨o',es,ep,ho',hd',_⟩,_⟩:=I.loc
 rw[z,ho']at ho; cases ho; rw[hd']at hd; cases hd
theorem Inv.funs(I:Inv X pins σ H s):s.heap.FunFrames X.base X.outer:=by
 have all:∀ (l:List Env),(∀ b∈jq l,b∈X.fs)→X.s₀.heap.FunFrames X.base l→s.heap.FunFrames X.base l:=by
  intro l
  induction l with
  | nil=>intro _ _; trivial
  | cons env r ih=>
   intro hs hl
   obtain⟨hk,⟨L,o,hf,hn,ho,hd⟩,hr⟩:=hl
   have hL:L∈X.fs:=hs L (by unfold jq; rw[List.filterMap_cons,hf]; exact List.mem_cons_self)
   obtain⟨sl,e⟩:=I.base.slot L o ho (I.ok.frf L hL) hL fun z=>I.ok.exfs L z hL
   exact⟨hk,⟨L,_,hf,hn,e,hd⟩,ih (fun b hb=>hs b (by unfold jq; rw[List.filterMap_cons,hf]; exact List.mem_cons_of_mem _ hb)) hr⟩
 exact all X.outer (fun _ hb=>hb) I.ok.funs
theorem Inv.stack(I:Inv X pins σ H s):s.heap.FunFrames X.base X.stack:=by
 rcases I.ok.stk with e | ⟨e,hf⟩
 ·rw[e]; exact I.funs
 ·rw[e]
  obtain⟨m,hn,_⟩:=I.loc
  refine .cons (by rw[I.ok.kind]; decide) hf hn ?_ I.funs
  exact Heap.get?_none_of_le (Nat.le_trans I.ok.bsz I.ok.above)
theorem Inv.stkSub(I:Inv X pins σ H s):∀ b∈jq X.stack,b∈X.env.locals::X.fs:=fun b hb=>by
 rcases I.ok.stk with e | ⟨e,hf⟩
 ·rw[e]at hb; exact List.mem_cons_of_mem _ hb
 ·rw[e]at hb
  unfold jq at hb;rw[List.filterMap_cons,hf]at hb
  exact hb
theorem Inv.stkFree(I:Inv X pins σ H s):∀ b∈jq X.stack,H b=none:=fun b hb=>by
 rcases List.mem_cons.mp (I.stkSub b hb) with e | hb
 ·rw[e]; exact I.free
 ·obtain⟨_,o,ho,_⟩:=I.ok.funs.mem hb
  exact I.base.free b o ho (I.ok.frf b hb) fun z=>I.ok.exfs b z hb
theorem Inv.step{g':Array GenState}{t':Nat}{d':Drawn}{ch:List Addr}(I:Inv X pins σ H s)
  (hch:∀ b∈ch,(b∈X.ex∨X.s₀.heap.objs.size≤b)∧b≠X.env.locals∧(∀ x c,X.env.cells.lookup x=some c→c≠b)∧∀ p∈X.pn++pins,p.1≠b)
  (keep:∀ b o,b≠X.env.locals→b∉X.fs→b∉ch→s.heap.get? b=some o→H b=none→h'.get? b=some o)
  (slot:∀ b o,b≠X.env.locals→b∈X.fs→b∉ch→s.heap.get? b=some o→H b=none→∃ sl,h'.get? b=some { o with slots:=sl }) (free:∀ b o,b∉ch→s.heap.get? b=some o→H b=none→H' b=none)
  (there:∀ b o,b∉ch→s.heap.get? b=some o→∃ o',h'.get? b=some o')
  (tups:∀ b xs,H b=some (.tup xs)→H' b=some (.tup xs)) (frzs:∀ b o u,H b=some (.frz o u)→H' b=some (.frz o u)) (tbls:∀ b ps,H b=some (.tbl ps)→∃ more,H' b=some (.tbl (ps++more)))
  (ns:∀ m,s.heap.Ns X.env.locals m→h'.Ns X.env.locals m) (hok:HOk X.prog X.w H' h') (hg:AllBare g') :
  Inv X pins σ H' { s with heap:=h',gens:=g',drawn:=d',toks:=t' }:=by
 have neL:∀ b o,X.s₀.heap.get? b=some o→b≠X.env.locals:=fun b o e=>Nat.ne_of_lt (Nat.lt_of_lt_of_le (Heap.lt_size e) I.ok.above)
 have neC:∀ b o,X.s₀.heap.get? b=some o→b∉X.ex→b∉ch:=fun b o e hx hb=>by
  rcases(hch b hb).1 with z | z
  ·exact hx z
  ·exact absurd (Nat.lt_of_lt_of_le (Heap.lt_size e) z) (Nat.lt_irrefl _)
 have cellK:∀ x c,X.env.cells.lookup x=some c→∀ v,s.heap.IsCell c v→h'.IsCell c v:=fun x c e v ⟨o,ho,hd⟩=>by
  have nch:c∉ch:=fun z=>(hch c z).2.2.1 x c e rfl
  by_cases hc:c∈X.fs
  ·obtain⟨sl,q⟩:=slot c o (I.cne x c e) hc nch ho (I.freeC x c e)
   exact⟨_,q,hd⟩
  ·exact⟨o,keep c o (I.cne x c e) hc nch ho (I.freeC x c e),hd⟩
 refine⟨I.ok,I.os,hg,⟨fun b o e n hb hx=>?_,fun b o e n hb hx=>?_,fun b o e n hx=>?_,fun b o e hx=>?_,fun b xs e=>tups b xs (I.base.tups b xs e),fun b o xs e=>frzs b o xs (I.base.frzs b o xs e),fun b ps e=>?_⟩,?_,fun x c e=>?_,?_,fun x c e=>?_,fun p hp=>?_,hok,I.len⟩
 ·exact keep b o (neL b o e) hb (neC b o e hx) (I.base.keep b o e n hb hx) (I.base.free b o e n hx)
 ·obtain⟨sl,e1⟩:=I.base.slot b o e n hb hx
  obtain⟨sl',e2⟩:=slot b _ (neL b o e) hb (neC b o e hx) e1 (I.base.free b o e n hx)
  exact⟨sl',e2⟩
 ·obtain⟨o',e1⟩:=I.base.there b o e hx
  exact free b o' (neC b o e hx) e1 (I.base.free b o e n hx)
 ·obtain⟨o',e1⟩:=I.base.there b o e hx
  exact there b o' (neC b o e hx) e1
 ·obtain⟨m1,e1⟩:=I.base.tbls b ps e
  obtain⟨m2,e2⟩:=tbls b _ e1
  exact⟨m1++m2,by rw[e2,Array.append_assoc]⟩
 ·obtain⟨m,hn,hl⟩:=I.loc
  refine⟨m,ns m hn,fun i x v e1 e2 e3=>?_⟩
  obtain⟨u,r,l⟩:=hl i x v e1 e2 e3
  refine⟨u,r,?_⟩
  rcases l with l | ⟨k,c,e,z⟩
  ·exact .inl l
  ·exact .inr ⟨k,c,e,cellK x c e _ z⟩
 ·obtain⟨v,z⟩:=I.cell x c e
  exact⟨v,cellK x c e v z⟩
 ·obtain⟨m,⟨o,_,_,ho,_⟩,_⟩:=I.loc
  exact free _ o (fun z=>(hch _ z).2.1 rfl) ho I.free
 ·obtain⟨v,o,ho,hd⟩:=I.cell x c e
  exact free c o (fun z=>(hch c z).2.2.1 x c e rfl) ho (I.freeC x c e)
 ·obtain⟨e,n,ne,nf,d⟩:=I.pin p hp
  have nch:p.1∉ch:=fun z=>(hch p.1 z).2.2.2 p hp rfl
  exact⟨keep p.1 p.2 ne nf nch e n,free p.1 p.2 nch e n,ne,nf,d⟩
theorem Inv.un{t':Nat}(I:Inv X pins σ H s)(u:Un X.fs [] H H' s.heap h')(hok:HOk X.prog X.w H' h'):Inv X pins σ H' { s with heap:=h',toks:=t' }:=by
 obtain⟨m,⟨o,es,ep,ho,r⟩,_⟩:=id I.loc
 obtain⟨sl,hL⟩:=u.any ho I.free (by simp)
 exact I.step (g':=s.gens) (d':=s.drawn) (ch:=[]) (fun _ z=>nomatch z) (fun b o _ hb _ e n=>u.keep b o e n hb (by simp)) (fun b o _ hb _ e n=>u.slot b o e n hb (by simp)) (fun b o _ e n=>u.free b o e n (by simp)) (fun b o _ e=>u.there b o e (by simp)) u.tups u.frzs u.tbls (fun m' hm=>by
  obtain⟨o',es',ep',ho',r'⟩:=hm
  rw[ho]at ho'; cases ho'
  exact⟨_,es',ep',hL,r'⟩) hok I.bare
theorem Inv.call{g':Array GenState}{t':Nat}{d':Drawn}{ch:List Addr}(I:Inv X pins σ H s)(u:Un (jq X.stack) ch H H' s.heap h')(hok:HOk X.prog X.w H' h')(hg:AllBare g')
  (hch:∀ b∈ch,(b∈X.ex∨X.s₀.heap.objs.size≤b)∧b≠X.env.locals∧(∀ x c,X.env.cells.lookup x=some c→c≠b)∧∀ p∈X.pn++pins,p.1≠b) :
  Inv X pins σ H' { s with heap:=h',gens:=g',drawn:=d',toks:=t' }:=by
 obtain⟨m,⟨o,es,ep,ho,r⟩,_⟩:=id I.loc
 obtain⟨sl,hL⟩:=u.any ho I.free fun z=>(hch _ z).2.1 rfl
 exact I.step (ch:=ch) hch (fun b o hL hb hc e n=>u.keep b o e n (fun z=>(List.mem_cons.mp (I.stkSub b z)).elim hL hb) hc) (fun b o _ _ hc e n=>u.any e n hc) (fun b o hc e n=>u.free b o e n hc) (fun b o hc e=>u.there b o e hc) u.tups u.frzs u.tbls (fun m' hm=>by
  obtain⟨o',es',ep',ho',r'⟩:=hm
  rw[ho]at ho'; cases ho'
  exact⟨_,es',ep',hL,r'⟩) hok hg
theorem Inv.turned{t':Nat}{it:Addr}(I:Inv X pins σ H s)(k:∀ b o,b≠it→s.heap.get? b=some o→h'.get? b=some o)(hn:H it=none)(hL:it≠X.env.locals)
  (h1:it∈X.ex∨X.s₀.heap.objs.size≤it) (h2:∀ x c,X.env.cells.lookup x=some c→c≠it) (h3:∀ p∈X.pn++pins,p.1≠it):Inv X pins σ H { s with heap:=h',toks:=t' }:=by
 have nit:∀ b u,H b=some u→b≠it:=fun b u e z=>by rw[z,hn]at e; cases e
 refine I.step (g':=s.gens) (d':=s.drawn) (ch:=[it]) (fun b hb=>?_) (fun b o _ _ hc e _=>k b o (fun z=>hc (by simp[z])) e) (fun b o _ _ hc e _=>⟨o.slots,k b o (fun z=>hc (by simp[z])) e⟩) (fun _ _ _ _ n=>n)
  (fun b o hc e=>⟨o,k b o (fun z=>hc (by simp[z])) e⟩) (fun _ _ e=>e) (fun _ _ _ e=>e) (fun b ps e=>⟨#[],by rw[e]; simp⟩) (fun m hm=>?_) (fun b u e=>?_) I.bare
 ·have e:b=it:=by simpa using hb
  subst e;exact⟨h1,hL,h2,h3⟩
 ·obtain⟨o,es,ep,ho,r⟩:=hm
  exact⟨o,es,ep,k _ o (Ne.symm hL) ho,r⟩
 ·refine(I.hok b u e).stay (fun c v hc q=>k c v ?_ q) (fun _ q=>q) fun _ _ q=>q
  rcases hc with z | z
  ·rw[z]; exact nit b u e
  ·exact nit c _ z
theorem Inv.tok(I:Inv X pins σ H s)(t:Nat):Inv X pins σ H { s with toks:=t }:=I.un (h':=s.heap) (t':=t) Un.refl I.hok
theorem Inv.kept{t':Nat}(I:Inv X pins σ H s)(k:∀ b u,s.heap.get? b=some u→h'.get? b=some u):Inv X pins σ H { s with heap:=h',toks:=t' }:=I.un (Un.kept k) (I.hok.kept k)
theorem Inv.laid{a:Addr}{o:HO}{t':Nat}(I:Inv X pins σ H s)(k:∀ b u,s.heap.get? b=some u→h'.get? b=some u)(hp:s.heap.objs.size≤a)(new:ObjOk X.prog X.w (upd H a o) h' a o) :
  Inv X pins σ (upd H a o) { s with heap:=h',toks:=t' }:=I.un (Un.laid k hp (I.hok.fresh hp)) (I.hok.laid k hp new)
theorem Inv.write{x e:Addr}{o:HO}{t':Nat}(I:Inv X pins σ H s)(mu:uE (H x))(he:e=x∨H e=some (.own x))(k:∀ b u,b≠e→s.heap.get? b=some u→h'.get? b=some u)(heo:∃ u,h'.get? e=some u)
  (new:ObjOk X.prog X.w (upd H x o) h' x o):Inv X pins σ (upd H x o) { s with heap:=h',toks:=t' }:=I.un (Un.write mu he k heo) (I.hok.write mu he k heo new)
theorem Inv.weak{σ':List (Option V)}(I:Inv X pins σ H s)(hl:σ'.length=σ.length)(w:∀ (i:Nat) v,σ'[i]? = some (some v)→σ[i]? = some (some v)):Inv X pins σ' H s:=
 ⟨I.ok,I.os,I.bare,I.base,let ⟨m,hn,hl'⟩:=I.loc; ⟨m,hn,fun i x v e1 e2 e3=>hl' i x v e1 (w i v e2) e3⟩,I.cell,I.free,I.freeC,I.pin,I.hok,hl.trans I.len⟩
theorem Inv.pins_of{pins':List (Addr × Obj)}(I:Inv X pins σ H s)(h:∀ p∈pins',s.heap.get? p.1=some p.2∧H p.1=none∧p.1≠X.env.locals∧p.1∉X.fs∧∀ v,p.2.data ≠ .cell v):Inv X pins' σ H s:=
 ⟨I.ok,I.os,I.bare,I.base,I.loc,I.cell,I.free,I.freeC,fun p hp=>(List.mem_append.mp hp).elim (fun z=>I.pin p (List.mem_append_left _ z)) (h p),I.hok,I.len⟩
theorem qe{N:List Str}(hN:N.Nodup){i j:Nat}{x:Str}(a:N[i]? = some x)(b:N[j]? = some x):i=j:=by
 obtain⟨h1,e1⟩:=List.getElem?_eq_some_iff.mp a
 obtain⟨h2,e2⟩:=List.getElem?_eq_some_iff.mp b
 exact(List.getElem_inj hN).mp (e1.trans e2.symm)
theorem n8{M:Model}{A:Around}{E:Value→Shared→Prop}{i:Nat}{x:Str}{v:V}{u:Value}{Q:Unit→Shared→Prop}(I:Inv X pins σ H s)(hN:X.N.Nodup)(hi:X.N[i]? = some x)(hx:aS X.env.scope x)(r:RelV v u)
  (h:∀ s',Inv X pins (σ.set i (some v)) H s'→(∃ a,Heap.SameBut a s.heap s'.heap∧(a=X.env.locals∨X.env.cells.lookup x=some a))→Q () s') (hf:X.fn x=true∨X.env.scope.names.lookup x=some .local:=by first | exact .inl rfl | exact .inr rfl | assumption):wpAny M A (storeName X.env x u) Q E s:=by
 obtain⟨m,hn,hl⟩:=id I.loc
 have hcls:(X.env.scope.kind == .class||(X.env.scope.kind == .module&&X.env.locals != X.env.globals))=false:=by rw[I.ok.kind]; rfl
 have hiσ : i<σ.length:=by rw[I.len]; exact(List.getElem?_eq_some_iff.mp hi).1
 have cne:=I.cne
 have tracked:∀ {a:Addr} {h':Heap},(∃ o,s.heap.get? a=some o∧H a=none)→Heap.SameBut a s.heap h'→HOk X.prog X.w H h':=fun {a h'} ha hs b ob e=>by
  obtain⟨_,_,hfree⟩:=ha
  refine(I.hok b ob e).stay (fun c w' hc q=>(hs.2 c ?_).trans q) (fun _ q=>q) fun _ _ q=>q
  rintro rfl
  rcases hc with rfl | hc
  ·rw[hfree]at e; cases e
  ·rw[hfree]at hc; cases hc
 rcases hx with hk | hk
 ·refine wpAny_storeName_local hk hn (fun h' hn' hs=>?_) hcls
  obtain⟨oL,_,_,hoL,_⟩:=id hn
  refine h _ ⟨I.ok,I.os,I.bare,⟨fun b o e n hb hx=>?_,fun b o e n hb hx=>?_,I.base.free,fun b o e hx=>?_,I.base.tups,I.base.frzs,I.base.tbls⟩,⟨_,hn',fun j y v' e1 e2 e3=>?_⟩,fun y c e=>?_,I.free,I.freeC,fun p hp=>?_,tracked ⟨oL,hoL,I.free⟩ hs,by simpa using I.len⟩ ⟨_,hs,.inl rfl⟩
  ·exact(hs.2 b (Nat.ne_of_lt (Nat.lt_of_lt_of_le (Heap.lt_size e) I.ok.above))).trans (I.base.keep b o e n hb hx)
  ·obtain⟨sl,e1⟩:=I.base.slot b o e n hb hx
   exact⟨sl,(hs.2 b (Nat.ne_of_lt (Nat.lt_of_lt_of_le (Heap.lt_size e) I.ok.above))).trans e1⟩
  ·obtain⟨o',e1⟩:=I.base.there b o e hx
   exact⟨o',(hs.2 b (Nat.ne_of_lt (Nat.lt_of_lt_of_le (Heap.lt_size e) I.ok.above))).trans e1⟩
  ·by_cases hj:j=i
   ·subst hj
    rw[hi]at e1; cases e1
    rw[List.getElem?_set_self hiσ]at e2
    cases e2;exact⟨u,r,.inl ⟨hk,by simp⟩⟩
   ·rw[List.getElem?_set_ne (Ne.symm hj)]at e2
    obtain⟨u',r',q⟩:=hl j y v' e1 e2 e3
    refine⟨u',r',?_⟩
    rcases q with ⟨k,e⟩ | ⟨k,c,e,z⟩
    ·refine .inl ⟨k,?_⟩
     have:y≠x:=fun e=>hj (qe hN e1 (e ▸ hi))
     simp[this,e]
    ·exact .inr ⟨k,c,e,z.sameBut hs (cne y c e)⟩
  ·obtain⟨w',z⟩:=I.cell y c e
   exact⟨w',z.sameBut hs (cne y c e)⟩
  ·obtain⟨e,n,ne,nf,d⟩:=I.pin p hp
   exact⟨(hs.2 p.1 ne).trans e,n,ne,nf,d⟩
 ·have hfn:X.fn x=true:=by
   rcases hf with z | z
   ·exact z
   ·rw[z]at hk; cases hk
  obtain⟨c,hc⟩:=I.ok.has x (.inl hk)
  obtain⟨w',z⟩:=I.cell x c hc
  refine wpAny_storeName_cell I.ok.kind hk hc z (fun h' hc' hs=>?_)
  obtain⟨oc,hoc,hocd⟩:=id z
  refine h { s with heap:=h' } ⟨I.ok,I.os,I.bare,⟨fun b o e n hb hx=>?_,fun b o e n hb hx=>?_,I.base.free,fun b o e hx=>?_,I.base.tups,I.base.frzs,I.base.tbls⟩,⟨m,hn.sameBut hs (Ne.symm (cne x c hc)),fun j y v' e1 e2 e3=>?_⟩,fun y c' e=>?_,I.free,I.freeC,fun p hp=>?_,tracked ⟨oc,hoc,I.freeC x c hc⟩ hs,by simpa using I.len⟩ ⟨c,hs,.inr hc⟩
  ·exact(hs.2 b (Nat.ne_of_lt (Nat.lt_of_lt_of_le (Heap.lt_size e) (I.ok.cab x c hfn hc)))).trans (I.base.keep b o e n hb hx)
  ·obtain⟨sl,e1⟩:=I.base.slot b o e n hb hx
   exact⟨sl,(hs.2 b (Nat.ne_of_lt (Nat.lt_of_lt_of_le (Heap.lt_size e) (I.ok.cab x c hfn hc)))).trans e1⟩
  ·obtain⟨o',e1⟩:=I.base.there b o e hx
   exact⟨o',(hs.2 b (Nat.ne_of_lt (Nat.lt_of_lt_of_le (Heap.lt_size e) (I.ok.cab x c hfn hc)))).trans e1⟩
  ·by_cases hj:j=i
   ·subst hj
    rw[hi]at e1; cases e1
    rw[List.getElem?_set_self hiσ]at e2
    cases e2;exact⟨u,r,.inr ⟨.inl hk,c,hc,hc'⟩⟩
   ·rw[List.getElem?_set_ne (Ne.symm hj)]at e2
    obtain⟨u',r',q⟩:=hl j y v' e1 e2 e3
    refine⟨u',r',?_⟩
    rcases q with q | ⟨k,c',e,z'⟩
    ·exact .inl q
    ·refine .inr ⟨k,c',e,z'.sameBut hs ?_⟩
     rintro rfl
     exact hj (qe hN e1 (I.ok.inj _ _ _ e hc ▸ hi))
  ·by_cases hcc:c'=c
   ·subst hcc; exact⟨_,hc'⟩
   ·obtain⟨w2,z2⟩:=I.cell y c' e
    exact⟨w2,z2.sameBut hs hcc⟩
  ·obtain⟨e,n,ne,nf,d⟩:=I.pin p hp
   refine⟨(hs.2 p.1 ?_).trans e,n,ne,nf,d⟩
   intro q
   rw[q,hoc]at e
   have q':oc=p.2:=Option.some.inj e
   exact d w' (by rw[← q']; exact hocd)
theorem pZ{M:Model}{A:Around}{E:Value→Shared→Prop}{i:Nat}{x:Str}{v:V}{u:Value}{Q:Unit→Shared→Prop}(I:Inv X pins σ H s)(hN:X.N.Nodup)(hi:X.N[i]? = some x)(hx:aS X.env.scope x)(r:RelV v u)
  (h:∀ s',Inv X pins (σ.set i (some v)) H s'→Q () s') (hf:X.fn x=true∨X.env.scope.names.lookup x=some .local:=by first | exact .inl rfl | exact .inr rfl | assumption):wpAny M A (storeName X.env x u) Q E s:=
 n8 I hN hi hx r (fun s' I' _=>h s' I') hf
theorem Inv.call'{s':Shared}{ch:List Addr}(I:Inv X pins σ H s)(ho:s'.os=s.os)(u:Un (jq X.stack) ch H H' s.heap s'.heap)(hok:HOk X.prog X.w H' s'.heap)(hg:AllBare s'.gens)
  (hch:∀ b∈ch,(b∈X.ex∨X.s₀.heap.objs.size≤b)∧b≠X.env.locals∧(∀ x c,X.env.cells.lookup x=some c→c≠b)∧∀ p∈X.pn++pins,p.1≠b):Inv X pins σ H' s':=by
 obtain⟨h',g',d',t',o'⟩:=s'
 have e:o'=s.os:=ho
 subst e;exact I.call (g':=g') (t':=t') (d':=d') u hok hg hch
end
abbrev XK:=Value→Option Addr→Hp→Prop
abbrev St:=List (Option V)
abbrev VK:=V→Hp→Prop
abbrev TE:=St→Hp→VK→Prop
abbrev TT:=St→Hp→(Bool→Hp→Prop)→Prop
abbrev TA:=St→Hp→(List V→Hp→Prop)→Prop
set_option genInjectivity false in
set_option genSizeOf false in
structure dF where
 nx:St→Hp→Prop
 rt:VK
 bk:St→Hp→Prop:=fun _ _=>False
 ct:St→Hp→Prop:=fun _ _=>False
abbrev TS:=dF→St→Hp→Prop
def EP(X:Cx)(pins:List (Addr × Obj))(σ : St)(Q:VK)(u:Value)(s':Shared):Prop:=∃ v H',Inv X pins σ H' s'∧RelV v u∧Q v H'
def TP(X:Cx)(pins:List (Addr × Obj))(σ : St)(Q:Bool→Hp→Prop)(b:Bool)(s':Shared):Prop:=∃ H',Inv X pins σ H' s'∧Q b H'
def AP(X:Cx)(pins:List (Addr × Obj))(σ : St)(Q:List V→Hp→Prop)(us:List Value)(s':Shared):Prop:=∃ vs H',Inv X pins σ H' s'∧Vals vs us∧Q vs H'
def SP(X:Cx)(pins:List (Addr × Obj))(D:dF)(f:Flow)(s':Shared):Prop:=
 match f with
 | .next=>∃ σ' H',Inv X pins σ' H' s'∧D.nx σ' H'
 | .brk=>∃ σ' H',Inv X pins σ' H' s'∧D.bk σ' H'
 | .cont=>∃ σ' H',Inv X pins σ' H' s'∧D.ct σ' H'
 | .ret u=>∃ v σ' H',Inv X pins σ' H' s'∧RelV v u∧D.rt v H'
def PE(X:Cx)(e:Expr)(t:TE):Prop:=
 ∀ (pins:List (Addr × Obj)) (s:Shared) (σ : St) (H:Hp) (Q:VK),Inv X pins σ H s→t σ H Q→wpAny (model X.prog X.w) X.A (eval e X.env) (EP X pins σ Q) X.xe s
def PT(X:Cx)(e:Expr)(t:TT):Prop:=
 ∀ (pins:List (Addr × Obj)) (s:Shared) (σ : St) (H:Hp) (Q:Bool→Hp→Prop),Inv X pins σ H s→t σ H Q→wpAny (model X.prog X.w) X.A (isTrue e X.env (eval e X.env)) (TP X pins σ Q) X.xe s
def PW(X:Cx)(e:Expr)(t:TT):Prop:=
 ∀ (whole:Sem Value) (pins:List (Addr × Obj)) (s:Shared) (σ : St) (H:Hp) (Q:Bool→Hp→Prop),Inv X pins σ H s→t σ H Q→wpAny (model X.prog X.w) X.A (isTrue e X.env whole) (TP X pins σ Q) X.xe s
theorem PW.pt{X:Cx}{e:Expr}{t:TT}(h:PW X e t):PT X e t:=h _
def PA(X:Cx)(es:List Expr)(t:TA):Prop:=
 ∀ (pos:Pos) (pins:List (Addr × Obj)) (s:Shared) (σ : St) (H:Hp) (Q:List V→Hp→Prop),Inv X pins σ H s→t σ H Q→wpAny (model X.prog X.w) X.A (spliced (backTo pos (starEach es X.env))) (AP X pins σ Q) X.xe s
def PS(X:Cx)(st:Stmt)(t:TS):Prop:=
 ∀ (pins:List (Addr × Obj)) (s:Shared) (σ : St) (H:Hp) (D:dF),Inv X pins σ H s→t D σ H→wpAny (model X.prog X.w) X.A (exec st X.env) (SP X pins D) X.xe s
def PSs(X:Cx)(st:List Stmt)(t:TS):Prop:=
 ∀ (pins:List (Addr × Obj)) (s:Shared) (σ : St) (H:Hp) (D:dF),Inv X pins σ H s→t D σ H→wpAny (model X.prog X.w) X.A (execs st X.env) (SP X pins D) X.xe s
theorem ba{α : Type}{t:Sem α}{Q Q':α→Shared→Prop}{M:Model}{A:Around}{E:Value→Shared→Prop}{s:Shared}(h:wpAny M A t Q E s)(hQ:∀ a s,Q a s→Q' a s):wpAny M A t Q' E s:=wpAny_mono h hQ fun _ _ x=>x
end L2
namespace L2
open PySem PySem.Spec PyProof.Rows
section
variable{X:Cx}
def mY(i:Nat):TE:=fun σ H Q=>∃ v,σ[i]? = some (some v)∧Q v H
def tC(v:V):TE:=fun _ H Q=>Q v H
theorem vd{i:Nat}{x:Str}{pos:Pos}(hN:X.N[i]? = some x)(hv:ap X.env.scope x)(hd:(x == ("__debug__" : Str))=false:=by decide) (hcd:(x == ("__classdict__" : Str))=false:=by decide):PE X (.Name x pos) (mY i):=by
 intro pins s σ H Q I h
 obtain⟨v,e,h⟩:=h
 obtain⟨m,hn,hl⟩:=I.loc
 obtain⟨u,r,l⟩:=hl i x v hN e hv
 have fin:EP X pins σ Q u s:=⟨v,H,I,r,h⟩
 rcases l with ⟨hk,hm⟩ | ⟨hk,c,hc,hcell⟩
 ·exact wpAny_Name (wpAny_loadName_local I.ok.kind hk hn hm fin) hd
 ·rcases hk with hk | hk
  ·exact wpAny_Name (wpAny_loadName_cell I.ok.kind hk hc hcell fin) hd
  ·exact wpAny_Name (wpAny_loadName_free I.ok.kind hk hc hcell fin hcd) hd
theorem aj{i j pos}:PE X (.Constant (.int i) j pos) (tC (.int i)):=fun _ _ _ H _ I h=>wpAny_Constant_int ⟨.int i,H,I.tok _,⟨_,rfl⟩,h⟩
theorem dr{b j pos}:PE X (.Constant (.bool b) j pos) (tC (.bl b)):=fun _ _ _ H _ I h=>Constant_bool ⟨.bl b,H,I,rfl,h⟩
theorem bv{j pos}:PE X (.Constant .none j pos) (tC .non):=fun _ _ _ H _ I h=>Constant_none ⟨.non,H,I,rfl,h⟩
theorem pj{x j pos}:PE X (.Constant (.str x) j pos) (tC (.str x)):=fun _ _ _ H _ I h=>Calls.Constant_str ⟨.str x,H,I.tok _,⟨_,rfl⟩,h⟩
def Gl(X:Cx)(x:Str):Prop:=X.env.kindOf x=some .globalImplicit
theorem vSs{s:Stmt}{x:Str}(h:(L2.defScope s).names.lookup x=some .local):ap (L2.defScope s) x:=Or.inl h
theorem vLl{s:Stmt}{x:Str}(h:(L2.defScope s).names.lookup x=some .local):aS (L2.defScope s) x:=Or.inl h
theorem vGg{s:Stmt}{x:Str}(h:(L2.defScope s).names.lookup x=some .globalImplicit):(L2.defScope s).names.lookup x=some .globalImplicit:=h
theorem rn{E:Value→Shared→Prop}{pins:List (Addr × Obj)}{s:Shared}{σ : St}{H:Hp}{x:Str}{u:Value}{pos:Pos}{Q:Value→Shared→Prop}(I:Inv X pins σ H s)(hg:Gl X x)(hm:X.mg x=some u)(h:Q u s)
  (hd:(x == ("__debug__" : Str))=false:=by decide):wpAny (model X.prog X.w) X.A (eval (.Name x pos) X.env) Q E s:=
 Calls.Name_function_global I.ok.kind hg (Calls.loadGlobal_global (by rw[I.ok.glob]; exact I.mod.glob.keeps I.bk) hm h) hd
theorem fC{E:Value→Shared→Prop}{pins:List (Addr × Obj)}{s:Shared}{σ : St}{H:Hp}{x:Str}{u:Value}{pos:Pos}{Q:Value→Shared→Prop}(I:Inv X pins σ H s)(hg:Gl X x)(hm:X.mg x=none)(hv:bootBuiltins x=some u)(h:Q u s)
  (hn:x ≠ "__name__" := by decide) (hd:(x == ("__debug__" : Str))=false:=by decide):wpAny (model X.prog X.w) X.A (eval (.Name x pos) X.env) Q E s:=by
 obtain⟨mb,h1,h2⟩:=I.mod.blt
 exact Calls.Name_function_global I.ok.kind hg (Calls.loadGlobal_builtin (by rw[I.ok.glob]; exact I.mod.glob.keeps I.bk) hm (by rw[I.ok.blt]; exact h1.keeps I.bk) ((h2 x hn).trans hv) h) hd
theorem rj{x:Str}{v:V}{u:Value}{pos:Pos}(hg:Gl X x)(hm:X.mg x=some u)(r:RelV v u)(hd:(x == ("__debug__" : Str))=false:=by decide):PE X (.Name x pos) (tC v):=
 fun _ _ _ H _ I h=>rn I hg hm ⟨v,H,I,r,h⟩ hd
variable{a b:Expr}{ta tb:TE}{pos:Pos}
def tB(t:TE):TT:=fun σ H Q=>t σ H fun x H1=>∃ c,x = .bl c∧Q c H1
theorem gI{e:Expr}{t:TE}(h:PE X e t)(he:∀ whole,isTrue e X.env whole=(do let v ← whole; standAt e.pos; holding [v] (truthy v)):=by intro _; rfl):PT X e (tB t):=by
 intro pins s σ H Q I hw
 refine isTrue_plain (ba (h pins s σ H _ I hw) fun v s1 ⟨x,H1,I1,r1,q1⟩=>?_) (he _)
 obtain⟨d,rfl,q⟩:=q1
 cases r1;exact wpAny_truthy_bool ⟨H1,I1,q⟩
variable{tA tB':TT}{rest:List Expr}
def AZ(t u:TT):TT:=fun σ H Q=>t σ H fun c H1=>if c=true then u σ H1 Q else Q false H1
def CT(t u:TT):TT:=fun σ H Q=>t σ H fun c H1=>if c=true then Q true H1 else u σ H1 Q
def Bi(t:TT):TT:=fun σ H Q=>t σ H fun c H1=>Q (!c) H1
theorem rW(ha:PT X a tA):PW X (.BoolOp .And [a] pos) tA:=by
 intro wh pins s σ H Q I h
 refine isTrue_and (ba (ha pins s σ H Q I h) fun c s1 e=>?_)
 cases c with
 | true=>exact isTrue_and_nil e
 | false=>exact e
theorem fq(ha:PT X a tA):PW X (.BoolOp .Or [a] pos) tA:=by
 intro wh pins s σ H Q I h
 refine isTrue_or (ba (ha pins s σ H Q I h) fun c s1 e=>?_)
 cases c with
 | false=>exact isTrue_or_nil e
 | true=>exact e
theorem uB(ha:PT X a tA)(hb:PW X (.BoolOp .And (b::rest) pos) tB'):PW X (.BoolOp .And (a::b::rest) pos) (AZ tA tB'):=by
 intro wh pins s σ H Q I h
 refine isTrue_and (ba (ha pins s σ H _ I h) fun c s1 ⟨H1,I1,q1⟩=>?_)
 cases c with
 | true=>exact hb wh pins s1 σ H1 Q I1 q1
 | false=>exact⟨H1,I1,q1⟩
theorem gE(ha:PT X a tA)(hb:PW X (.BoolOp .Or (b::rest) pos) tB'):PW X (.BoolOp .Or (a::b::rest) pos) (CT tA tB'):=by
 intro wh pins s σ H Q I h
 refine isTrue_or (ba (ha pins s σ H _ I h) fun c s1 ⟨H1,I1,q1⟩=>?_)
 cases c with
 | true=>exact⟨H1,I1,q1⟩
 | false=>exact hb wh pins s1 σ H1 Q I1 q1
theorem iQ(ha:PT X a tA):PT X (.UnaryOp .Not a pos) (Bi tA):=by
 intro pins s σ H Q I h
 exact isTrue_not (ha pins s σ H (fun c H1=>Q (!c) H1) I h)
def y6(ta tb:TE):TE:=fun σ H Q=>ta σ H fun x H1=>∃ c,x = .bl c∧if c=true then tb σ H1 Q else Q (.bl false) H1
def Av(ta tb:TE):TE:=fun σ H Q=>ta σ H fun x H1=>∃ c,x = .bl c∧if c=true then Q (.bl true) H1 else tb σ H1 Q
theorem mE{op}{t:TE}(h:PE X a t):PE X (.BoolOp op [a] pos) t:=fun pins s σ H Q I hw=>BoolOp_one (h pins s σ H Q I hw)
theorem qk(ha:PE X a ta)(hb:PE X (.BoolOp .And (b::rest) pos) tb):PE X (.BoolOp .And (a::b::rest) pos) (y6 ta tb):=by
 intro pins s σ H Q I h
 refine BoolOp_and (ba (ha pins s σ H _ I h) fun v s1 ⟨x,H1,I1,r1,q1⟩=>?_)
 obtain⟨c,rfl,q1⟩:=q1
 cases r1;refine wpAny_truthy_bool ?_
 cases c with
 | true=>exact hb pins s1 σ H1 Q I1 q1
 | false=>exact⟨.bl false,H1,I1,rfl,q1⟩
theorem Ck(ha:PE X a ta)(hb:PE X (.BoolOp .Or (b::rest) pos) tb):PE X (.BoolOp .Or (a::b::rest) pos) (Av ta tb):=by
 intro pins s σ H Q I h
 refine BoolOp_or (ba (ha pins s σ H _ I h) fun v s1 ⟨x,H1,I1,r1,q1⟩=>?_)
 obtain⟨c,rfl,q1⟩:=q1
 cases r1;refine wpAny_truthy_bool ?_
 cases c with
 | false=>exact hb pins s1 σ H1 Q I1 q1
 | true=>exact⟨.bl true,H1,I1,rfl,q1⟩
def CQ(t:TT)(ta tb:TE):TE:=fun σ H Q=>t σ H fun c H1=>if c=true then ta σ H1 Q else tb σ H1 Q
theorem oW{c:Expr}(hc:PT X c tA)(ha:PE X a ta)(hb:PE X b tb):PE X (.IfExp c a b pos) (CQ tA ta tb):=by
 intro pins s σ H Q I h
 refine wpAny_IfExp (ba (hc pins s σ H _ I h) fun d s1 ⟨H1,I1,q1⟩=>?_)
 cases d with
 | true=>exact ha pins s1 σ H1 Q I1 q1
 | false=>exact hb pins s1 σ H1 Q I1 q1
end
end L2
namespace L2
open PySem PySem.Spec PyProof.Rows
def SqL(K:PySem.W.Frag)(H:Hp)(a:Addr)(xs:List V):Prop:=
 Rd H a (.lst xs)∨
  ∃ (o:Obj) (its:Array Value) (n:Nat),K.lookup a=some o∧o.cls = .type "list" ∧ o.dict=none∧o.data = .seq its n∧its.size≤sizeLine∧Vals xs its.toList
def SqT(K:PySem.W.Frag)(H:Hp)(a:Addr)(xs:List V):Prop:=
 Rd H a (.tup xs)∨
  ∃ (o:Obj) (its:Array Value) (n:Nat),K.lookup a=some o∧o.cls = .type "tuple" ∧ o.data = .seq its n∧its.size≤sizeLine∧Vals xs its.toList
def Dd:Value→Option V
 | .none=>some .non
 | .bool b=>some (.bl b)
 | .int i _=>some (.int i)
 | .str x _=>some (.str x)
 | .bytes b _=>some (.byt b)
 | .float b _=>some (.flt b)
 | .ref a=>some (.ref a)
 | .type n=>some (.ty n)
 | _=>none
theorem RelV.abs{x:V}{u:Value}(r:RelV x u):Dd u=some x:=by
 cases x with
 | non=>cases r; rfl
 | bl _=>cases r; rfl
 | int _=>obtain⟨t,rfl⟩:=r; rfl
 | str _=>obtain⟨t,rfl⟩:=r; rfl
 | byt _=>obtain⟨t,rfl⟩:=r; rfl
 | flt _=>obtain⟨t,rfl⟩:=r; rfl
 | ref _=>cases r; rfl
 | ty _=>cases r; rfl
theorem RelV.inj{x y:V}{u:Value}(r:RelV x u)(q:RelV y u):x=y:=Option.some.inj (r.abs.symm.trans q.abs)
theorem Vals.inj:∀ {xs ys:List V} {us:List Value},Vals xs us→Vals ys us→xs=ys
 | _,_,_,.nil,.nil=>rfl
 | _,_,_,.cons r t,.cons r' t'=>by rw[r.inj r',Vals.inj t t']
section
variable{X:Cx}{pins:List (Addr × Obj)}{σ : St}{H:Hp}{s:Shared}{a:Addr}{xs ys:List V}
theorem SqL.of{K:PySem.W.Frag}(h:H a=some (.lst xs)):SqL K H a xs:=.inl (.inl h)
theorem SqT.of{K:PySem.W.Frag}(h:H a=some (.tup xs)):SqT K H a xs:=.inl (.inl h)
theorem Inv.list(I:Inv X pins σ H s)(h:SqL X.K H a xs):∃ its:List Value,Vals xs its∧PlainL s.heap a its.toArray∧xs.length≤sizeLine:=by
 rcases h with h | ⟨o,its,n,hk,hc,hd,hs,hz,r⟩
 ·obtain⟨z,its,n,r,e⟩:=h.ok I.hok
  exact⟨its,r,⟨_,n,e,rfl,rfl,rfl⟩,z⟩
 ·refine⟨its.toList,r,⟨o,n,I.kIn a o hk,hc,hd,by simpa using hs⟩,?_⟩
  have e:=r.length;simp only[Array.length_toList]at e
  omega
theorem Inv.tuple(I:Inv X pins σ H s)(h:SqT X.K H a xs):∃ its:List Value,Vals xs its∧IsTup s.heap a its.toArray∧xs.length≤sizeLine:=by
 rcases h with h | ⟨o,its,n,hk,hc,hs,hz,r⟩
 ·obtain⟨z,its,r,p⟩:=h.ok I.hok
  exact⟨its,r,p.tup,z⟩
 ·refine⟨its.toList,r,⟨o,I.kIn a o hk,hc,n,by simpa using hs⟩,?_⟩
  have e:=r.length;simp only[Array.length_toList]at e
  omega
theorem Inv.list_inj(I:Inv X pins σ H s)(h:SqL X.K H a xs)(h':SqL X.K H a ys):xs=ys:=by
 obtain⟨its,r,⟨o,n,e,_,_,d⟩,_⟩:=I.list h
 obtain⟨its',r',⟨o',n',e',_,_,d'⟩,_⟩:=I.list h'
 rw[e]at e'; cases e'
 rw[d]at d'
 injection d' with d1 _
 have:its=its':=by simpa using congrArg Array.toList d1
 subst this;exact r.inj r'
theorem Inv.tuple_inj(I:Inv X pins σ H s)(h:SqT X.K H a xs)(h':SqT X.K H a ys):xs=ys:=by
 obtain⟨its,r,⟨o,e,_,n,d⟩,_⟩:=I.tuple h
 obtain⟨its',r',⟨o',e',_,n',d'⟩,_⟩:=I.tuple h'
 rw[e]at e'; cases e'
 rw[d]at d'
 injection d' with d1 _
 have:its=its':=by simpa using congrArg Array.toList d1
 subst this;exact r.inj r'
end
abbrev Cx.wish (X:Cx) (E:Value→Shared→Prop):Cx:={ X with xe:=E }
abbrev Cx.nox (X:Cx):Cx:=X.wish fun _ _=>False
theorem Cx.Ok.wish{X:Cx}(ok:X.Ok)(E:Value→Shared→Prop):(X.wish E).Ok:=
 ⟨ok.mod,ok.kind,ok.glob,ok.blt,ok.above,ok.inj,ok.has,ok.cab,ok.hd,ok.frames,ok.stk,ok.exf,ok.bs,ok.bsz,ok.noex,ok.exfs,ok.funs,ok.frf⟩
theorem Cx.Ok.unwish{X:Cx}{E:Value→Shared→Prop}(ok:(X.wish E).Ok):X.Ok:=
 ⟨ok.mod,ok.kind,ok.glob,ok.blt,ok.above,ok.inj,ok.has,ok.cab,ok.hd,ok.frames,ok.stk,ok.exf,ok.bs,ok.bsz,ok.noex,ok.exfs,ok.funs,ok.frf⟩
section
variable{X:Cx}{pins:List (Addr × Obj)}{σ : St}{H:Hp}{s:Shared}{E:Value→Shared→Prop}
theorem Inv.wish(I:Inv X pins σ H s)(E:Value→Shared→Prop):Inv (X.wish E) pins σ H s:=⟨I.ok.wish E,I.os,I.bare,I.base,I.loc,I.cell,I.free,I.freeC,I.pin,I.hok,I.len⟩
theorem Inv.unwish(I:Inv (X.wish E) pins σ H s):Inv X pins σ H s:=⟨I.ok.unwish,I.os,I.bare,I.base,I.loc,I.cell,I.free,I.freeC,I.pin,I.hok,I.len⟩
theorem SP.unwish{D:dF}{f:Flow}{s':Shared}(h:SP (X.wish E) pins D f s'):SP X pins D f s':=by
 cases f with
 | next=>obtain⟨σ',H',I,q⟩:=h; exact⟨σ',H',I.unwish,q⟩
 | brk=>obtain⟨σ',H',I,q⟩:=h; exact⟨σ',H',I.unwish,q⟩
 | cont=>obtain⟨σ',H',I,q⟩:=h; exact⟨σ',H',I.unwish,q⟩
 | ret u=>obtain⟨v,σ',H',I,r,q⟩:=h; exact⟨v,σ',H',I.unwish,r,q⟩
theorem PSs.nox{st:List Stmt}{t:TS}(h:PSs X.nox st t):PSs X st t:=fun pins s σ H D I hw=>
 wpAny_mono (h pins s σ H D (I.wish _) hw) (fun _ _ q=>q.unwish) fun _ _ z=>False.elim z
end
section
variable{X:Cx}{st:Stmt}{rest:List Stmt}{t u:TS}{e:Expr}{te:TE}{pos:Pos}
def yT:TS:=fun D σ H=>D.nx σ H
def wK(t u:TS):TS:=fun D σ H=>t { D with nx:=u D } σ H
theorem bt:PSs X [] yT:=fun _ _ σ H _ I h=>wpAny_execs_nil ⟨σ,H,I,h⟩
theorem ac(h1:PS X st t)(h2:PSs X rest u):PSs X (st::rest) (wK t u):=by
 intro pins s σ H D I h
 refine wpAny_execs_cons (ba (h1 pins s σ H { D with nx:=u D } I h) fun f s1 q=>?_)
 cases f with
 | next=>
  obtain⟨σ',H',I',q⟩:=q
  exact h2 pins s1 σ' H' D I' q
 | ret v=>exact q
 | brk=>exact q
 | cont=>exact q
theorem ak(h1:PS X st t):PSs X [st] t:=by
 intro pins s σ H D I h
 refine wpAny_execs_cons (ba (h1 pins s σ H D I h) fun f s1 q=>?_)
 cases f with
 | next=>exact wpAny_execs_nil q
 | ret v=>exact q
 | brk=>exact q
 | cont=>exact q
def yG:TS:=fun D σ H=>D.ct σ H
theorem qG:PS X (.Continue pos) yG:=fun _ _ σ H _ I h=>wpAny_Continue ⟨σ,H,I,h⟩
theorem Inv.quiet{pins:List (Addr × Obj)}{σ : St}{H:Hp}{s:Shared}(I:Inv X pins σ H s):interactive X.env=false:=by simp[interactive,I.ok.kind]
def uj(te:TE):TS:=fun D σ H=>te σ H fun _ H1=>D.nx σ H1
theorem cN(he:PE X e te)(hs:swapsWith e none pos.line X.env=pure false:=by rfl):PS X (.Expr e pos) (uj te):=by
 intro pins s σ H D I h
 exact wpAny_Expr_any (ba (he pins s σ H _ I h) fun v s1 ⟨x,H1,I1,r1,q1⟩=>⟨σ,H1,I1,q1⟩) I.quiet hs
def AS(te:TE):TS:=fun D σ H=>te σ H D.rt
theorem aL(he:PE X e te):PS X (.Return (some e) pos) (AS te):=by
 intro pins s σ H D I h
 exact wpAny_Return_some (ba (he pins s σ H _ I h) fun v s1 ⟨x,H1,I1,r1,q1⟩=>⟨x,σ,H1,I1,r1,q1⟩)
def AD(c:TT)(t u:TS):TS:=fun D σ H=>c σ H fun b H1=>if b=true then t D σ H1 else u D σ H1
theorem bN{c:Expr}{a b:List Stmt}{tc:TT}(hc:PT X c tc)(ha:PSs X a t)(hb:PSs X b u):PS X (.If c a b pos) (AD tc t u):=by
 intro pins s σ H D I h
 refine wpAny_If (ba (hc pins s σ H _ I h) fun d s1 ⟨H1,I1,q1⟩=>?_)
 cases d with
 | true=>exact ha pins s1 σ H1 D I1 q1
 | false=>exact hb pins s1 σ H1 D I1 q1
def A4:TS:=fun _ _ _=>False
theorem oT:PS X st A4:=fun _ _ _ _ _ _ h=>h.elim
end
abbrev TG:=V→St→Hp→(St→Hp→Prop)→Prop
abbrev fH:=List V→St→Hp→(St→Hp→Prop)→Prop
def PG(X:Cx)(target:Expr)(t:TG):Prop:=
 ∀ (pins:List (Addr × Obj)) (s:Shared) (σ : St) (H:Hp) (v:V) (u:Value) (Q:St→Hp→Prop),Inv X pins σ H s→RelV v u→t v σ H Q→
  wpAny (model X.prog X.w) X.A (assign target X.env u) (fun _ s'=>∃ σ' H',Inv X pins σ' H' s'∧Q σ' H') X.xe s
def PGs(X:Cx)(ts:List Expr)(t:fH):Prop:=
 ∀ (pins:List (Addr × Obj)) (s:Shared) (σ : St) (H:Hp) (vs:List V) (us:List Value) (Q:St→Hp→Prop),Inv X pins σ H s→Vals vs us→t vs σ H Q→
  wpAny (model X.prog X.w) X.A (assignInOrder ((assignEach ts X.env).map (·.2)) us) (fun _ s'=>∃ σ' H',Inv X pins σ' H' s'∧Q σ' H') X.xe s
abbrev ka:=V→V→V→Hp→(Hp→Prop)→Prop
def PSet(X:Cx)(t:ka):Prop:=
 ∀ (pins:List (Addr × Obj)) (s:Shared) (σ : St) (H:Hp) (o i v:V) (ov iv u:Value) (Q:Hp→Prop),Inv X pins σ H s→RelV o ov→RelV i iv→RelV v u→t o i v H Q→
  wpAny (model X.prog X.w) X.A (setItem ov iv u) (fun _ s'=>∃ H',Inv X pins σ H' s'∧Q H') X.xe s
section
variable{X:Cx}{pos:Pos}
def jc(i:Nat):TG:=fun v σ H Q=>Q (σ.set i (some v)) H
theorem zG{i:Nat}{x:Str}(hN:X.N.Nodup)(hi:X.N[i]? = some x)(hx:aS X.env.scope x)(hf:X.fn x=true∨X.env.scope.names.lookup x=some .local:=by first | exact .inl rfl | exact .inr rfl | assumption):PG X (.Name x pos) (jc i):=by
 intro pins s σ H v u Q I r h
 exact wpAny_assign_Name (pZ I hN hi hx r (fun s' I'=>⟨_,H,I',h⟩) hf)
def uv:fH:=fun vs σ H Q=>vs=[]∧Q σ H
def oI(t:TG)(u:fH):fH:=fun vs σ H Q=>∃ v r,vs=v::r∧t v σ H fun σ' H'=>u r σ' H' Q
theorem fk:PGs X [] uv:=by
 intro pins s σ H vs us Q I r h
 obtain⟨e,h⟩:=h
 subst e
 cases r;exact assignInOrder_nil ⟨σ,H,I,h⟩
theorem bP{e:Expr}{es:List Expr}{t:TG}{u:fH}(h1:PG X e t)(h2:PGs X es u)
  (hs:(assignEach (e::es) X.env).map (·.2)=assign e X.env::(assignEach es X.env).map (·.2):=by rfl):PGs X (e::es) (oI t u):=by
 intro pins s σ H vs us Q I r h
 obtain⟨v,vr,e1,h⟩:=h
 subst e1
 cases r with
 | cons r rr=>
  rw[hs];refine assignInOrder_cons (ba (h1 pins s σ H _ _ _ I r h) fun _ s1 ⟨σ1,H1,I1,q1⟩=>?_)
  exact h2 pins s1 σ1 H1 _ _ Q I1 rr q1
def tP(K:PySem.W.Frag)(n:Nat)(t:fH):TG:=fun v σ H Q=>∃ a xs,v = .ref a∧SqT K H a xs∧xs.length=n∧t xs σ H Q
theorem BR{es:List Expr}{k:Nat}{t:fH}{n:Nat}(hc:X.calm=true)(h:PGs X es t)
  (hn:(assignEach es X.env).length=n:=by rfl) (hst:(assignEach es X.env).findIdx? (·.1)=none:=by rfl):PG X (.Tuple es k pos) (tP X.K n t):=by
 intro pins s σ H v u Q I r hw
 obtain⟨a,xs,e1,hq,hl,hw⟩:=hw
 subst e1
 cases r;obtain⟨its,rv,ht,hz⟩:=I.tuple hq
 refine assign_Tuple_tuple (I.ok.hd hc) ht (by simp[hn,← hl,rv.length]) hst fun h' hx=>?_
 have I1:Inv X pins σ H { s with heap:=h' }:=I.kept (t':=s.toks) fun b o e=>hx b o (Nat.ne_of_lt (Heap.lt_size e)) e
 exact h pins _ σ H xs _ Q I1 (by simpa using rv) hw
def Ah(to ti:TE)(t:ka):TG:=fun v σ H Q=>to σ H fun o H1=>ti σ H1 fun i H2=>t o i v H2 fun H3=>Q σ H3
theorem dQ{o i:Expr}{to ti:TE}{t:ka}(ho:PE X o to)(hi:PE X i ti)(hs:PSet X t)
  (ha:∀ v,assign (.Subscript o i pos) X.env v=(do
   let ov ← holding [v] (eval o X.env)
   let iv ← holding [v,ov] (eval i X.env)
   standAt pos
   holding [v,ov,iv] (setItem ov iv v)
   release [v,ov,iv] []):=by intro _; rfl):PG X (.Subscript o i pos) (Ah to ti t):=by
 intro pins s σ H v u Q I r h
 rw[ha];refine wpAny_bind (wpAny_holding (ba (ho pins s σ H _ I h) fun ov s1 ⟨x,H1,I1,r1,q1⟩=>?_))
 refine wpAny_bind (wpAny_holding (ba (hi pins s1 σ H1 _ I1 q1) fun iv s2 ⟨y,H2,I2,r2,q2⟩=>?_))
 refine wpAny_bind (wpAny_standAt (wpAny_bind (wpAny_holding (ba (hs pins s2 σ H2 x y v ov iv u _ I2 r1 r2 r q2) fun _ s3 ⟨H3,I3,q3⟩=>?_))))
 exact wpAny_release ⟨σ,H3,I3,q3⟩
def p5(te:TE)(g:TG):TS:=fun D σ H=>te σ H fun x H1=>g x σ H1 D.nx
theorem dw{tg e:Expr}{te:TE}{g:TG}(he:PE X e te)(hg:PG X tg g)(hs:swapsWithSole [tg] e pos.line X.env=pure false:=by rfl)(hw:swappedStores [tg] e X.env=pure none:=by rfl)
  (h1:(assignEach [tg] X.env).map (·.2)=[assign tg X.env]:=by rfl):PS X (.Assign [tg] e pos) (p5 te g):=by
 intro pins s σ H D I h
 refine wpAny_Assign_stores (ba (he pins s σ H _ I h) fun v s1 ⟨x,H1,I1,r1,q1⟩=>?_) hs hw
 rw[h1];exact ba (hg pins s1 σ H1 x v _ I1 r1 q1) fun _ s2 q=>q
theorem Bn{i:Nat}{x:Str}{e:Expr}{te:TE}{pos':Pos}(hN:X.N.Nodup)(hi:X.N[i]? = some x)(hx:aS X.env.scope x)(he:PE X e te)(hs:swapsWith e (some (.Name x pos')) pos.line X.env=pure false:=by rfl)(hf:X.fn x=true∨X.env.scope.names.lookup x=some .local:=by first | exact .inl rfl | exact .inr rfl | assumption) :
  PS X (.Assign [.Name x pos'] e pos) (p5 te (jc i)):=by
 intro pins s σ H D I h
 refine wpAny_Assign_Name (ba (he pins s σ H _ I h) fun v s1 ⟨y,H1,I1,r1,q1⟩=>?_) hs
 exact pZ I1 hN hi hx r1 (fun s2 I2=>⟨_,H1,I2,q1⟩) hf
end
section
variable{X:Cx}{pos:Pos}
def Br(c:TT)(tb:TS):TS:=fun D σ H=>∃ W:Nat→St→Hp→Prop,(∃ m,W m σ H)∧∀ m σ H,W m σ H→
 c σ H fun b H1=>if b=true then ∃ N:St→Hp→Prop,(∀ σ' H',N σ' H'→∃ m',m'<m∧W m' σ' H')∧tb { D with nx:=N,ct:=N,bk:=D.nx } σ H1 else D.nx σ H1
theorem iU{c:Expr}{body:List Stmt}{tc:TT}{tb:TS}(hp:PassesOwn (model X.prog X.w) X.A X.env X.xe)(hc:PT X c tc)(hb:PSs X body tb):PS X (.While c body [] pos) (Br tc tb):=by
 intro pins s σ H D I h
 obtain⟨W,⟨m0,w0⟩,turn⟩:=h
 refine wpAny_While (codeAny_whileLoop (fun n s'=>∃ σ' H',Inv X pins σ' H' s'∧W n σ' H') ?_ m0 ⟨σ,H,I,w0⟩)
 rintro n s1 ⟨σ1,H1,I1,w1⟩
 refine wpAny_passesOwn hp (ba (hc pins s1 σ1 H1 _ I1 (turn n σ1 H1 w1)) fun b s2 ⟨H2,I2,q2⟩=>?_)
 cases b with
 | true=>
  obtain⟨N,hN,q2⟩:=q2
  rw[if_pos rfl];refine wpAny_passesOwn hp (ba (hb pins s2 σ1 H2 _ I2 q2) fun f s3 q3=>?_)
  cases f with
  | next=>
   obtain⟨σ3,H3,I3,n3⟩:=q3
   obtain⟨m',hm,w3⟩:=hN σ3 H3 n3
   exact⟨m',hm,σ3,H3,I3,w3⟩
  | cont=>
   obtain⟨σ3,H3,I3,n3⟩:=q3
   obtain⟨m',hm,w3⟩:=hN σ3 H3 n3
   exact⟨m',hm,σ3,H3,I3,w3⟩
  | brk=>exact q3
  | ret v=>exact q3
 | false=>
  rw[if_neg Bool.false_ne_true];exact wpAny_execs_nil ⟨σ1,H2,I2,q2⟩
end
set_option genInjectivity false in
set_option genSizeOf false in
structure It where
 go:Nat→Hp→Prop
 yld:Nat→Hp→V→Hp→Prop
 stop:Nat→Hp→Prop
def gK(X:Cx)(pins:List (Addr × Obj))(H:Hp)(b:Addr):Prop:=
 H b=none∧b≠X.env.locals∧b∉X.fs∧(b∈X.ex∨X.s₀.heap.objs.size≤b)∧(∀ x c,X.env.cells.lookup x=some c→c≠b)∧∀ p∈X.pn++pins,p.1≠b
theorem Inv.fpOk{X:Cx}{pins:List (Addr × Obj)}{σ : St}{H H':Hp}{s:Shared}{b:Addr}(I:Inv X pins σ H s)(hb:s.heap.objs.size≤b)(hn:H' b=none):gK X pins H' b:=by
 refine⟨hn,Nat.ne_of_gt (Nat.lt_of_lt_of_le I.lt hb),I.nofs hb,.inr (Nat.le_trans I.sz hb),fun x c e z=>?_,fun p hp z=>?_⟩
 ·obtain⟨v,q⟩:=I.cell x c e
  exact absurd (Nat.lt_of_lt_of_le q.lt (by rw[z]; exact hb)) (Nat.lt_irrefl _)
 ·exact absurd (Nat.lt_of_lt_of_le (Heap.lt_size (I.pin p hp).1) (by rw[z]; exact hb)) (Nat.lt_irrefl _)
structure lH (P:Program) (w:World) (K:PySem.W.Frag) (tg:Expr) (J:It) (fp:List Addr) (it:Addr) (tn:Nat→Heap→Prop):Prop where
 mem:it∈fp
 obj:∀ i h,tn i h→∀ b∈fp,∃ o,h.get? b=some o∧∀ v,o.data ≠ .cell v
 keep:∀ i h h',tn i h→(∀ b∈fp,∀ o,h.get? b=some o→h'.get? b=some o)→tn i h'
 item:∀ (X:Cx),X.prog=P→X.w=w→X.K=K→X.calm=true→∀ (i:Nat) (pins:List (Addr × Obj)) (s:Shared) (σ : St) (H:Hp) (E:Value→Shared→Prop),Inv X pins σ H s→(∀ b∈fp,gK X pins H b)→tn i s.heap→J.go i H→
  wpAny (model P w) X.A (pyNext (.ref it)) (fun r s1=>∃ u,r=some u∧
   wpAny (model P w) X.A (letOwnedTupleGo tg (.ref it) u) (fun _ s2=>∃ x H',Inv X pins σ H' s2∧RelV x u∧J.yld i H x H'∧tn (i+1) s2.heap∧∀ b∈fp,H' b=none) E s1) E s
 done:∀ (X:Cx),X.prog=P→X.w=w→X.K=K→X.calm=true→∀ (i:Nat) (pins:List (Addr × Obj)) (s:Shared) (σ : St) (H:Hp) (E:Value→Shared→Prop),Inv X pins σ H s→(∀ b∈fp,gK X pins H b)→tn i s.heap→J.stop i H→
  wpAny (model P w) X.A (pyNext (.ref it)) (fun r s1=>r=none∧Inv X pins σ H s1) E s
 self:∀ (A:Around) (i:Nat) (s:Shared) (Q:Value→Shared→Prop) (E:Value→Shared→Prop),tn i s.heap→Q (.ref it) s→wpAny (model P w) A (pyIter (.ref it)) Q E s
abbrev TI:=St→Hp→(It→Hp→Prop)→Prop
def C8(X:Cx)(pins:List (Addr × Obj))(σ : St)(tg:Expr)(R:It→Hp→Prop)(itv:Value)(s2:Shared):Prop:=
 ∃ (it:Addr) (fp:List Addr) (tn:Nat→Heap→Prop) (J:It) (H':Hp),itv = .ref it∧Inv X pins σ H' s2∧lH X.prog X.w X.K tg J fp it tn∧tn 0 s2.heap∧(∀ b∈fp,gK X pins H' b)∧R J H'
def PI(X:Cx)(tg iter:Expr)(wi:TI):Prop:=
 ∀ (pins:List (Addr × Obj)) (s:Shared) (σ : St) (H:Hp) (R:It→Hp→Prop),Inv X pins σ H s→wi σ H R→
  wpAny (model X.prog X.w) X.A (eval iter X.env) (fun v s1=>wpAny (model X.prog X.w) X.A (pyIter v) (C8 X pins σ tg R) X.xe s1) X.xe s
theorem yE{M:Model}{A:Around}{E:Value→Shared→Prop}{s:Shared}{tg:Expr}{it:Addr}{u:Value}{o:Obj}{n:String}{vs:Array Value}{Q:Unit→Shared→Prop}(ho:s.heap.get? it=some o)(hc:o.cls = .type n)(hd:o.data = .fields vs)
    (hn:["enumerate", "zip", "dict_itemiterator", "dict_reverseitemiterator", "odict_iterator", "itertools.zip_longest", "itertools.pairwise"].contains n=false) (hQ:Q () s):wpAny M A (letOwnedTupleGo tg (.ref it) u) Q E s:=by
  unfold letOwnedTupleGo
  cases tg <;> first
    | exact wpAny_pure hQ
    | (cases u <;> first
        | exact wpAny_pure hQ
        | (refine wpAny_bind (wpAny_load ho ?_)
           rw[hc,hd];show wpAny M A (if (["enumerate", "zip", "dict_itemiterator", "dict_reverseitemiterator", "odict_iterator", "itertools.zip_longest", "itertools.pairwise"].contains n&&vs[0]? == some (rawInt _))=true then _ else _) Q E s
           rw[if_neg (by intro h; rw[hn,Bool.false_and]at h; cases h)]
           exact wpAny_pure hQ))
def ma(K:PySem.W.Frag)(a:Addr):It:=
 ⟨fun i H=>∃ xs x,SqL K H a xs∧xs[i]? = some x,fun i H x H'=>H'=H∧∀ xs,SqL K H a xs→xs[i]? = some x,fun i H=>∃ xs,SqL K H a xs∧xs.length≤i⟩
def kZ(lo:Int)(n:Nat):It:=⟨fun i _=>i<n,fun i H x H'=>H'=H∧x = .int (lo+i),fun i _=>n≤i⟩
theorem v7{P:Program}{w:World}{K:PySem.W.Frag}{tg:Expr}(a it:Addr):lH P w K tg (ma K a) [it] it (fun i h=>h.IsListIter it a i) where
 mem:=by simp
 obj:=fun i h st b hb=>by
  have e:b=it:=by simpa using hb
  subst e;obtain⟨o,e,c,d⟩:=st
  exact⟨o,e,fun v z=>by rw[d]at z; cases z⟩
 keep:=fun i h h' st k=>st.at fun o e=>k it (by simp) o e
 item:=by
  intro X hP hw hK hc i pins s σ H E I hf st hg
  subst hP hw hK;obtain⟨xs,x,hq,hx⟩:=hg
  obtain⟨its,rv,p,hz⟩:=I.list hq
  obtain⟨u,hu,ru⟩:=rv.get hx
  obtain⟨f0,f1,f2,f3,f4,f5⟩:=hf it (by simp)
  refine wpAny_pyNext_list_item st p.isList (x:=u) (by simpa using hu) fun h' st' sb=>?_
  have I1:Inv X pins σ H { s with heap:=h' }:=I.turned (t':=s.toks) (fun b o hb e=>(sb.2 b hb).trans e) f0 f1 f3 f4 f5
  obtain⟨o,e,c,d⟩:=id st'
  exact⟨u,rfl,yE (s:={ s with heap:=h' }) e c d (by decide) ⟨x,H,I1,ru,⟨rfl,fun ys hy=>by rw[I.list_inj hy hq]; exact hx⟩,st',fun b hb=>(hf b hb).1⟩⟩
 done:=by
  intro X hP hw hK hc i pins s σ H E I hf st hg
  subst hP hw hK;obtain⟨xs,hq,hx⟩:=hg
  obtain⟨its,rv,p,hz⟩:=I.list hq
  obtain⟨f0,f1,f2,f3,f4,f5⟩:=hf it (by simp)
  have hl:=rv.length;exact wpAny_pyNext_list_end (I.ok.hd hc) st p.isList (by simp; omega) fun h' eb=>⟨rfl,I.turned (t':=s.toks) (fun b o hb e=>eb b o hb e) f0 f1 f3 f4 f5⟩
 self:=fun _ _ _ _ _ st h=>wpAny_pyIter_listiter st h
theorem ua{P:Program}{w:World}{K:PySem.W.Frag}{tg:Expr}(it:Addr)(lo:Int)(n:Nat):lH P w K tg (kZ lo n) [it] it (fun i h=>IsRangeIter h it (lo+(i:Nat) * 1) ((n:Int) - (i:Nat)) 1) where
 mem:=by simp
 obj:=fun i h st b hb=>by
  have e:b=it:=by simpa using hb
  subst e
  exact⟨_,st,fun v z=>by
   have z':Data.fields _=Data.cell v:=z
   cases z'⟩
 keep:=fun i h h' st k=>k it (by simp) _ st
 item:=by
  intro X hP hw hK hc i pins s σ H E I hf st hg
  subst hP hw hK;obtain⟨f0,f1,f2,f3,f4,f5⟩:=hf it (by simp)
  have W:=Walks.range (prog:=X.prog) (w:=X.w) (I.ok.hd hc) it lo 1 n;refine W.item i s _ _ hg st fun v h' tk hv st' kk=>?_
  obtain⟨t,rfl⟩:=hv
  have I1:Inv X pins σ H { s with heap:=h',toks:=tk }:=I.turned (fun b o hb e=>kk b o (by simpa using hb) e) f0 f1 f3 f4 f5
  refine⟨_,rfl,yE (s:={ s with heap:=h',toks:=tk }) (n := "range_iterator") st' rfl rfl (by decide) ⟨.int (lo+i),H,I1,⟨t,?_⟩,⟨rfl,rfl⟩,st',fun b hb=>(hf b hb).1⟩⟩
  rw[Int.mul_one]
 done:=by
  intro X hP hw hK hc i pins s σ H E I hf st hg
  subst hP hw hK;obtain⟨f0,f1,f2,f3,f4,f5⟩:=hf it (by simp)
  exact wpAny_pyNext_range_end (I.ok.hd hc) st (by have:n≤i:=hg; omega) fun h' eb=>⟨rfl,I.turned (t':=s.toks) (fun b o hb e=>eb b o hb e) f0 f1 f3 f4 f5⟩
 self:=fun _ _ _ _ _ st h=>wpAny_pyIter_rangeiter st h
end L2
namespace L2
open PySem PySem.Spec PyProof.Rows
section
variable{X:Cx}{tg:Expr}
def uc(K:PySem.W.Frag)(tl:TE):TI:=fun σ H R=>tl σ H fun x H1=>∃ a,x = .ref a∧(∃ xs,SqL K H1 a xs)∧R (ma K a) H1
theorem zm{l:Expr}{tl:TE}(hl:PE X l tl):PI X tg l (uc X.K tl):=by
 intro pins s σ H R I h
 refine ba (hl pins s σ H _ I h) fun v s1 ⟨x,H1,I1,r1,q1⟩=>?_
 obtain⟨a,e,⟨xs,hq⟩,q⟩:=q1
 subst e
 cases r1;obtain⟨its,rv,p,hz⟩:=I1.list hq
 refine wpAny_pyIter_list p.isList ?_
 refine⟨s1.heap.objs.size,[s1.heap.objs.size],_,_,H1,rfl,I1.kept (t':=s1.toks) fun b o e=>Heap.get?_push_of_some _ e,v7 a _,⟨_,Heap.get?_push_size _ rfl,rfl,rfl⟩,fun b hb=>?_,q⟩
 have e:b=s1.heap.objs.size:=by simpa using hb
 subst e;exact I1.fpOk (Nat.le_refl _) (I1.hok.fresh (Nat.le_refl _))
theorem yc{pins:List (Addr × Obj)}{σ : St}{H:Hp}{s:Shared}{R:It→Hp→Prop}{E:Value→Shared→Prop}{lo hi:Int}{t u v:Tok}{tk:Nat}(I:Inv X pins σ H s)(h1:-(2 ^ 62)≤lo)(h2:lo<2 ^ 62)(h3:-(2 ^ 62)≤hi)(h4:hi<2 ^ 62)
  (q:R (kZ lo (hi - lo).toNat) H):wpAny (model X.prog X.w) X.A (pyIter (.ref s.heap.objs.size)) (C8 X pins σ tg R) E { s with heap:=s.heap.push { cls:=.type "range", data:=.fields #[.int lo t,.int hi u,.int 1 v] },toks:=tk }:=by
 refine wpAny_pyIter_range (IsRange.new ..) (small_one h1 h2 h3 h4) ?_
 have I1:Inv X pins σ H { s with heap:=s.heap.push { cls:=.type "range", data:=.fields #[.int lo t,.int hi u,.int 1 v] },toks:=tk }:=I.kept fun b o e=>Heap.get?_push_of_some _ e
 refine⟨(s.heap.push { cls:=.type "range", data:=.fields #[.int lo t,.int hi u,.int 1 v] }).objs.size,[(s.heap.push { cls:=.type "range", data:=.fields #[.int lo t,.int hi u,.int 1 v] }).objs.size],_,_,H,rfl,
  I1.kept (t':=tk) fun b o e=>Heap.get?_push_of_some _ e,ua _ lo (hi - lo).toNat,?_,fun b hb=>?_,q⟩
 ·have e1:lo+((0:Nat):Int) * 1=lo:=by simp
  have e2:(((hi - lo).toNat:Nat):Int) - ((0:Nat):Int)=Builtin.Range.rangeSize lo hi 1:=by rw[rangeSize_one]; split <;> omega
  show IsRangeIter _ _ (lo+((0:Nat):Int) * 1) ((((hi - lo).toNat:Nat):Int) - ((0:Nat):Int)) 1
  rw[e1,e2];exact Heap.get?_push_size _ rfl
 ·have e:b=(s.heap.push { cls:=.type "range", data:=.fields #[.int lo t,.int hi u,.int 1 v] }).objs.size:=by simpa using hb
  subst e;exact I1.fpOk (Nat.le_refl _) (I1.hok.fresh (Nat.le_refl _))
def yR(ta:TA):TI:=fun σ H R=>ta σ H fun vs H1=>∃ j:Int,vs=[.int j]∧-(2 ^ 62)≤j∧j<2 ^ 62∧R (kZ 0 j.toNat) H1
theorem cU{a:Expr}{ta:TA}{p pos:Pos}(hg:Gl X "range") (hm:X.mg "range" = none) (ha:PA X [a] ta) (hs:starEach [a] X.env=[(false,eval a X.env)]:=by rfl):PI X tg (.Call (.Name "range" p) [a] [] pos) (yR ta):=by
 intro pins s σ H R I h
 refine Call_ (fC I hg hm boot_range (PyProof.Rows.callWith_type1 (ba (ha pos pins s σ H _ I h) fun us s1 ⟨vs,H1,I1,r1,q1⟩=>?_) hs rfl))
 obtain⟨j,e,q1,q2,q⟩:=q1
 subst e
 cases r1 with
 | cons r rr=>
  cases rr;obtain⟨t,rfl⟩:=r
  exact call_range_1 (yc I1 (by omega) (by omega) q1 q2 (by simpa using q))
def Bs(wi:TI)(g:TG)(tb:TS):TS:=fun D σ H=>wi σ H fun J H1=>∃ W:Nat→Nat→St→Hp→Prop,(∃ m,W 0 m σ H1)∧∀ i m σ H,W i m σ H→
 (J.stop i H∧D.nx σ H)∨(J.go i H∧∃ N:St→Hp→Prop,(∀ σ' H',N σ' H'→∃ m',m'<m∧W (i+1) m' σ' H')∧∀ x H',J.yld i H x H'→g x σ H' fun σ2 H2=>tb { D with nx:=N,ct:=N,bk:=D.nx } σ2 H2)
def jy(fp:List Addr)(h:Heap):List (Addr × Obj):=fp.filterMap fun b=>(h.get? b).map fun o=>(b,o)
theorem d0{fp:List Addr}{h:Heap}{b:Addr}{o:Obj}(hb:b∈fp)(e:h.get? b=some o):(b,o)∈jy fp h:=List.mem_filterMap.mpr ⟨b,hb,by rw[e]; rfl⟩
theorem v0{fp:List Addr}{h:Heap}{p:Addr × Obj}(hp:p∈jy fp h):p.1∈fp∧h.get? p.1=some p.2:=by
 obtain⟨b,hb,e⟩:=List.mem_filterMap.mp hp
 cases q:h.get? b with
 | none=>rw[q]at e; cases e
 | some o=>
  rw[q]at e
  have e':(b,o)=p:=Option.some.inj e
  subst e';exact⟨hb,q⟩
theorem Inv.pinned{pins:List (Addr × Obj)}{σ : St}{H:Hp}{s:Shared}{fp:List Addr}(I:Inv X pins σ H s)(hf:∀ b∈fp,gK X pins H b)(ho:∀ b∈fp,∃ o,s.heap.get? b=some o∧∀ v,o.data ≠ .cell v):Inv X (pins++jy fp s.heap) σ H s:=
 I.pins_of fun p hp=>(List.mem_append.mp hp).elim (fun z=>I.pin p (List.mem_append_right _ z)) fun z=>by
  obtain⟨hb,e⟩:=v0 z
  obtain⟨f0,f1,f2,_⟩:=hf p.1 hb
  obtain⟨o,e',d⟩:=ho p.1 hb
  rw[e]at e'; cases e'
  exact⟨e,f0,f1,f2,d⟩
theorem Inv.unpinned{pins pl:List (Addr × Obj)}{σ : St}{H:Hp}{s:Shared}(I:Inv X (pins++pl) σ H s):Inv X pins σ H s:=I.pins_of fun p hp=>I.pin p (List.mem_append_right _ (List.mem_append_left _ hp))
theorem cS{iter:Expr}{body:List Stmt}{wi:TI}{g:TG}{tb:TS}{pos:Pos}(hp:PassesOwn (model X.prog X.w) X.A X.env X.xe)(hc:X.calm=true)(hi:PI X tg iter wi)(hg:PG X tg g)(hb:PSs X body tb)
  (hs:∀ x,foldedSetIterable iter X.env x=pure x:=by intro _; rfl):PS X (.For tg iter body [] pos) (Bs wi g tb):=by
 intro pins s σ H D I h
 refine wpAny_For (ba (hi pins s σ H _ I h) fun v s1 h1=>ba h1 fun itv s2 h2=>?_) hs
 obtain⟨it,fp,tn,J,H2,e,I2,T,st2,f2,W,⟨m0,w0⟩,turn⟩:=h2
 subst e
 -- what stays true of the iterator's objects through the loop
 have stat:∀ {H':Hp},(∀ b∈fp,H' b=none)→∀ b∈fp,gK X pins H' b:=fun hn b hb=>⟨hn b hb,(f2 b hb).2⟩
 refine codeAny_forLoop_any (fun n s'=>∃ i σ' H',Inv X pins σ' H' s'∧tn i s'.heap∧(∀ b∈fp,H' b=none)∧W i n σ' H') ?_ m0 ⟨0,σ,H2,I2,st2,fun b hb=>(f2 b hb).1,w0⟩
 rintro n s3 ⟨i,σ3,H3,I3,st3,fr3,w3⟩
 rcases turn i n σ3 H3 w3 with ⟨stop,qn⟩ | ⟨go,N,hN,step⟩
 ·refine wpAny_passesOwn hp (ba (T.done X rfl rfl rfl hc i pins s3 σ3 H3 X.xe I3 (stat fr3) st3 stop) fun r s4 ⟨hr,I4⟩=>?_)
  subst hr;exact wpAny_execs_nil ⟨σ3,H3,I4,qn⟩
 ·refine wpAny_passesOwn hp (ba (T.item X rfl rfl rfl hc i pins s3 σ3 H3 X.xe I3 (stat fr3) st3 go) fun r s4 ⟨u,hr,h4⟩=>?_)
  subst hr;refine wpAny_passesOwn hp (ba h4 fun _ s5 ⟨x,H5,I5,r5,y5,st5,fr5⟩=>?_)
  have I5':=I5.pinned (stat fr5) (T.obj _ _ st5);refine wpAny_passesOwn hp (ba (hg _ s5 σ3 H5 x u _ I5' r5 (step x H5 y5)) fun _ s6 ⟨σ6,H6,I6,q6⟩=>?_)
  refine wpAny_passesOwn hp (ba (hb _ s6 σ6 H6 _ I6 q6) fun f s7 q7=>?_)
  have again:∀ {σ7:St} {H7:Hp},Inv X (pins++jy fp s5.heap) σ7 H7 s7→N σ7 H7→∃ m,m<n∧∃ i σ' H',Inv X pins σ' H' s7∧tn i s7.heap∧(∀ b∈fp,H' b=none)∧W i m σ' H':=fun {σ7 H7} I7 n7=>by
   obtain⟨m',hm,w7⟩:=hN σ7 H7 n7
   refine⟨m',hm,i+1,σ7,H7,I7.unpinned,T.keep _ _ _ st5 fun b hb o e=>(I7.pin (b,o) (List.mem_append_right _ (List.mem_append_right _ (d0 hb e)))).1,fun b hb=>?_,w7⟩
   obtain⟨o,e,d⟩:=T.obj _ _ st5 b hb
   exact(I7.pin (b,o) (List.mem_append_right _ (List.mem_append_right _ (d0 hb e)))).2.1
  cases f with
  | next=>obtain⟨σ7,H7,I7,n7⟩:=q7; exact again I7 n7
  | cont=>obtain⟨σ7,H7,I7,n7⟩:=q7; exact again I7 n7
  | brk=>obtain⟨σ7,H7,I7,q7⟩:=q7; exact⟨σ7,H7,I7.unpinned,q7⟩
  | ret v=>obtain⟨x7,σ7,H7,I7,r7,q7⟩:=q7; exact⟨x7,σ7,H7,I7.unpinned,r7,q7⟩
end
theorem yp{K:PySem.W.Frag}{a:Addr}{xs:List V}{g:TG}{tb:TS}{D:dF}{σ : St}{H:Hp}(Pv:Nat→St→Hp→Prop)(h0:Pv 0 σ H)(hl:∀ i σ H,i≤xs.length→Pv i σ H→SqL K H a xs)
  (hs:∀ i x σ H,xs[i]? = some x→Pv i σ H→g x σ H fun σ2 H2=>tb { D with nx:=Pv (i+1),ct:=Pv (i+1),bk:=D.nx } σ2 H2) (hd:∀ σ H,Pv xs.length σ H→D.nx σ H) :
  ∃ W:Nat→Nat→St→Hp→Prop,(∃ m,W 0 m σ H)∧∀ i m σ H,W i m σ H→
   ((ma K a).stop i H∧D.nx σ H)∨((ma K a).go i H∧∃ N:St→Hp→Prop,(∀ σ' H',N σ' H'→∃ m',m'<m∧W (i+1) m' σ' H')∧∀ x H',(ma K a).yld i H x H'→g x σ H' fun σ2 H2=>tb { D with nx:=N,ct:=N,bk:=D.nx } σ2 H2):=by
 refine⟨fun i m σ H=>m=xs.length - i∧i≤xs.length∧Pv i σ H,⟨xs.length,by simp,Nat.zero_le _,h0⟩,?_⟩
 rintro i m σ H ⟨rfl,hi,p⟩
 have q:=hl i σ H hi p
 by_cases hlt:i<xs.length
 ·refine .inr ⟨⟨xs,xs[i],q,by simp[hlt]⟩,Pv (i+1),fun σ' H' p'=>⟨xs.length - (i+1),by omega,rfl,hlt,p'⟩,fun x H' y=>?_⟩
  obtain⟨e,y⟩:=y
  subst e;exact hs i x σ _ (y xs q) p
 ·have e:i=xs.length:=by omega
  subst e;exact .inl ⟨⟨xs,q,Nat.le_refl _⟩,hd σ H p⟩
theorem vD{lo:Int}{n:Nat}{g:TG}{tb:TS}{D:dF}{σ : St}{H:Hp}(Pv:Nat→St→Hp→Prop)(h0:Pv 0 σ H)
  (hs:∀ i σ H,i<n→Pv i σ H→g (.int (lo+i)) σ H fun σ2 H2=>tb { D with nx:=Pv (i+1),ct:=Pv (i+1),bk:=D.nx } σ2 H2) (hd:∀ σ H,Pv n σ H→D.nx σ H) :
  ∃ W:Nat→Nat→St→Hp→Prop,(∃ m,W 0 m σ H)∧∀ i m σ H,W i m σ H→
   ((kZ lo n).stop i H∧D.nx σ H)∨((kZ lo n).go i H∧∃ N:St→Hp→Prop,(∀ σ' H',N σ' H'→∃ m',m'<m∧W (i+1) m' σ' H')∧∀ x H',(kZ lo n).yld i H x H'→g x σ H' fun σ2 H2=>tb { D with nx:=N,ct:=N,bk:=D.nx } σ2 H2):=by
 refine⟨fun i m σ H=>m=n - i∧i≤n∧Pv i σ H,⟨n,by simp,Nat.zero_le _,h0⟩,?_⟩
 rintro i m σ H ⟨rfl,hi,p⟩
 by_cases hlt:i<n
 ·refine .inr ⟨hlt,Pv (i+1),fun σ' H' p'=>⟨n - (i+1),by omega,rfl,hlt,p'⟩,fun x H' y=>?_⟩
  obtain⟨e,y⟩:=y
  subst e y;exact hs i σ _ hlt p
 ·have e:i=n:=by omega
  subst e;exact .inl ⟨Nat.le_refl _,hd σ H p⟩
end L2
namespace L2
open PySem PySem.Spec PyProof.Rows
abbrev R2:=V→V→Hp→VK→Prop
def OpR(X:Cx)(f:Value→Value→Sem Value)(r:R2):Prop:=
 ∀ (pins:List (Addr × Obj)) (s:Shared) (σ : St) (H:Hp) (x y:V) (v u:Value) (Q:VK),Inv X pins σ H s→RelV x v→RelV y u→r x y H Q→
  wpAny (model X.prog X.w) X.A (f v u) (EP X pins σ Q) X.xe s
def UnR(X:Cx)(f:Value→Sem Value)(r:V→Hp→VK→Prop):Prop:=
 ∀ (pins:List (Addr × Obj)) (s:Shared) (σ : St) (H:Hp) (x:V) (v:Value) (Q:VK),Inv X pins σ H s→RelV x v→r x H Q→
  wpAny (model X.prog X.w) X.A (f v) (EP X pins σ Q) X.xe s
def CallR(X:Cx)(f:Value)(r:List V→Hp→VK→Prop):Prop:=
 ∀ (pins:List (Addr × Obj)) (s:Shared) (σ : St) (H:Hp) (xs:List V) (us:List Value) (Q:VK),Inv X pins σ H s→Vals xs us→r xs H Q→
  wpAny (model X.prog X.w) X.A (call f us) (EP X pins σ Q) X.xe s
def u6(r:R2)(ta tb:TE):TE:=fun σ H Q=>ta σ H fun x H1=>tb σ H1 fun y H2=>r x y H2 Q
def rI(C:Int→Int→Prop)(g:Int→Int→V):R2:=fun x y H Q=>∃ i j,x = .int i∧y = .int j∧C i j∧Q (g i j) H
def pc(g:Int→Int→V):R2:=fun x y H Q=>∃ i j,x = .int i∧y = .int j∧Q (g i j) H
section
variable{X:Cx}{a b c:Expr}{ta tb tc:TE}{pos:Pos}
theorem wz(ha:PE X a ta)(hb:PE X b tb){pins:List (Addr × Obj)}{s:Shared}{σ : St}{H:Hp}{R:V→V→Hp→Prop}(I:Inv X pins σ H s)
  (h:ta σ H fun x H1=>tb σ H1 fun y H2=>R x y H2) {Q:Value→Shared→Prop} {f:Value→Value→Sem Value}
  (hf:∀ v u s2 x y H2,Inv X pins σ H2 s2→RelV x v→RelV y u→R x y H2→wpAny (model X.prog X.w) X.A (f v u) Q X.xe s2) :
  wpAny (model X.prog X.w) X.A (eval a X.env) (fun v s₁=>wpAny (model X.prog X.w) X.A (eval b X.env) (fun u s₂=>wpAny (model X.prog X.w) X.A (f v u) Q X.xe s₂) X.xe s₁) X.xe s:=by
 refine ba (ha pins s σ H _ I h) fun v s1 ⟨x,H1,I1,r1,q1⟩=>?_
 refine ba (hb pins s1 σ H1 _ I1 q1) fun u s2 ⟨y,H2,I2,r2,q2⟩=>?_
 exact hf v u s2 x y H2 I2 r1 r2 q2
theorem bb{op:Operator}{r:R2}(ho:OpR X (binaryOp op) r)(ha:PE X a ta)(hb:PE X b tb):PE X (.BinOp a op b pos) (u6 r ta tb):=by
 intro pins s σ H Q I h
 exact wpAny_BinOp (wz ha hb I h fun v u s2 x y H2 I2 rx ry q=>ho pins s2 σ H2 x y v u Q I2 rx ry q)
theorem A_{f:Value→Value→Sem Value}{C:Int→Int→Prop}{g:Int→Int→Int}
  (rule:∀ (i j:Int) (t u:Tok) (s:Shared) (Q:Value→Shared→Prop) (E:Value→Shared→Prop),C i j→Q (.int (g i j) s.toks) { s with toks:=s.toks+1 }→wpAny (model X.prog X.w) X.A (f (.int i t) (.int j u)) Q E s) :
  OpR X f (rI C fun i j=>.int (g i j)):=by
 intro pins s σ H x y v u Q I rx ry h
 obtain⟨i,j,rfl,rfl,hc,q⟩:=h
 obtain⟨t,rfl⟩:=rx
 obtain⟨t',rfl⟩:=ry
 exact rule i j t t' s _ _ hc ⟨.int (g i j),H,I.tok _,⟨_,rfl⟩,q⟩
theorem E6{f:Value→Value→Sem Value}{g:Int→Int→Int}
  (rule:∀ (i j:Int) (t u:Tok) (s:Shared) (Q:Value→Shared→Prop) (E:Value→Shared→Prop),Q (.int (g i j) s.toks) { s with toks:=s.toks+1 }→wpAny (model X.prog X.w) X.A (f (.int i t) (.int j u)) Q E s) :
  OpR X f (pc fun i j=>.int (g i j)):=by
 intro pins s σ H x y v u Q I rx ry h
 obtain⟨i,j,rfl,rfl,q⟩:=h
 obtain⟨t,rfl⟩:=rx
 obtain⟨t',rfl⟩:=ry
 exact rule i j t t' s _ _ ⟨.int (g i j),H,I.tok _,⟨_,rfl⟩,q⟩
theorem xX{f:Value→Value→Sem Value}{g:Int→Int→Bool}
  (rule:∀ (i j:Int) (t u:Tok) (s:Shared) (Q:Value→Shared→Prop) (E:Value→Shared→Prop),Q (.bool (g i j)) s→wpAny (model X.prog X.w) X.A (f (.int i t) (.int j u)) Q E s) :
  OpR X f (pc fun i j=>.bl (g i j)):=by
 intro pins s σ H x y v u Q I rx ry h
 obtain⟨i,j,rfl,rfl,q⟩:=h
 obtain⟨t,rfl⟩:=rx
 obtain⟨t',rfl⟩:=ry
 exact rule i j t t' s _ _ ⟨.bl (g i j),H,I,rfl,q⟩
def D0(i j:Int):Prop:=0<j∧j<1073741824
def CMul(i j:Int):Prop:=(-(2 ^ 64)<i∧i<2 ^ 64)∨(-(2 ^ 64)<j∧j<2 ^ 64)
theorem CMul.ok{i j:Int}(h:CMul i j):IntMulOk i j:=by
 rcases h with ⟨h1,h2⟩ | ⟨h1,h2⟩
 ·exact .of_left (intBits_le_64 h1 h2)
 ·exact .of_right (intBits_le_64 h1 h2)
theorem BC:OpR X (binaryOp .Add) (pc fun i j=>.int (i+j)):=E6 fun _ _ _ _ _ _ _ q=>add_int q
theorem AK:OpR X (binaryOp .Mult) (rI CMul fun i j=>.int (i * j)):=A_ fun _ _ _ _ _ _ _ hc q=>mul_int q hc.ok
theorem h_:OpR X (binaryOp .FloorDiv) (rI D0 fun i j=>.int (i / j)):=A_ fun i j _ _ _ _ _ hc q=>by
 have h1:(0:Int)<j:=hc.1
 have h2:j<1073741824:=hc.2
 exact floordiv_int (by omega) (by rw[Int.fdiv_eq_ediv_of_nonneg i (by omega)]; exact q) (.inl (PyProof.noPylong_small (by omega)))
theorem cK:OpR X (binaryOp .Mod) (rI (fun _ j=>0<j) fun i j=>.int (i % j)):=A_ fun i j _ _ _ _ _ hc q=>by
 have h1:(0:Int)<j:=hc
 exact mod_int' (by omega) (by rw[Int.fmod_eq_emod_of_nonneg i (by omega)]; exact q)
end
def pS:V→V→Bool
 | .non,.non=>true | .non,.int _=>true | .int _,.non=>true | .non,.bl _=>true | .bl _,.non=>true | .non,.str _=>true | .str _,.non=>true
 | .int _,.int _=>true | .bl _,.bl _=>true | .str _,.str _=>true | .byt _,.byt _=>true
 | .int _,.str _=>true | .str _,.int _=>true | .bl _,.str _=>true | .str _,.bl _=>true
 | _,_=>false
def CV:R2:=fun x y H Q=>pS x y=true∧Q (.bl (decide (x=y))) H
def CU:R2:=fun x y H Q=>pS x y=true∧Q (.bl (!decide (x=y))) H
theorem rC{i j:Int}:decide (V.int i=V.int j)=(i == j):=by
 rw[Bool.eq_iff_iff];simp
theorem pY{i j:Bool}:decide (V.bl i=V.bl j)=(i == j):=by
 rw[Bool.eq_iff_iff];simp
theorem sq{i j:Str}:decide (V.str i=V.str j)=(i == j):=by
 rw[Bool.eq_iff_iff];simp
theorem rX{i j:Array UInt8}:decide (V.byt i=V.byt j)=(i.toList == j.toList):=by
 rw[Bool.eq_iff_iff]
 cases i
 cases j;simp
section
variable{X:Cx}{a b c:Expr}{ta tb tc:TE}{pos:Pos}
theorem bo{pins:List (Addr × Obj)}{σ : St}{H:Hp}{s:Shared}{Q:VK}{k k':Bool}(I:Inv X pins σ H s)(q:Q (.bl k) H)(e:k=k'):EP X pins σ Q (.bool k') s:=by
 subst e;exact⟨.bl k,H,I,rfl,q⟩
theorem Cu:OpR X (compareOp .Eq) CV:=by
 intro pins s σ H x y v u Q I rx ry h
 obtain⟨hs,q⟩:=h
 cases x with
 | non=>
  cases rx
  cases y with
  | non=>cases ry; exact PySem.EqNone.eq_none_none (bo I q (by simp))
  | bl j=>cases ry; exact PySem.EqNone.eq_none_bool (bo I q (by simp))
  | int j=>obtain⟨t',rfl⟩:=ry; exact PySem.EqNone.eq_none_int (bo I q (by simp))
  | str j=>obtain⟨t',rfl⟩:=ry; exact PySem.EqNone.eq_none_str (bo I q (by simp))
  | _=>exact absurd (show false=true from hs) Bool.false_ne_true
 | bl i=>
  cases rx
  cases y with
  | non=>cases ry; exact PySem.EqNone.eq_bool_none (bo I q (by simp))
  | bl j=>cases ry; exact eq_bool (bo I q pY)
  | str j=>obtain⟨t',rfl⟩:=ry; exact PySem.EqMixed.eq_bool_str (bo I q (by simp))
  | _=>exact absurd (show false=true from hs) Bool.false_ne_true
 | int i=>
  obtain⟨t,rfl⟩:=rx
  cases y with
  | non=>cases ry; exact PySem.EqNone.eq_int_none (bo I q (by simp))
  | int j=>obtain⟨t',rfl⟩:=ry; exact eq_int (bo I q rC)
  | str j=>obtain⟨t',rfl⟩:=ry; exact PySem.EqMixed.eq_int_str (bo I q (by simp))
  | _=>exact absurd (show false=true from hs) Bool.false_ne_true
 | str i=>
  obtain⟨t,rfl⟩:=rx
  cases y with
  | non=>cases ry; exact PySem.EqNone.eq_str_none (bo I q (by simp))
  | bl j=>cases ry; exact PySem.EqMixed.eq_str_bool (bo I q (by simp))
  | int j=>obtain⟨t',rfl⟩:=ry; exact PySem.EqMixed.eq_str_int (bo I q (by simp))
  | str j=>obtain⟨t',rfl⟩:=ry; exact eq_str (bo I q sq)
  | _=>exact absurd (show false=true from hs) Bool.false_ne_true
 | byt i=>
  obtain⟨t,rfl⟩:=rx
  cases y with
  | byt j=>obtain⟨t',rfl⟩:=ry; exact PySem.W.eq_bytes (bo I q rX)
  | _=>exact absurd (show false=true from hs) Bool.false_ne_true
 | _=>cases y <;> exact absurd (show false=true from hs) Bool.false_ne_true
theorem Cq:OpR X (compareOp .NotEq) CU:=by
 intro pins s σ H x y v u Q I rx ry h
 obtain⟨hs,q⟩:=h
 cases x with
 | non=>
  cases rx
  cases y with
  | non=>cases ry; exact PySem.EqNone.ne_none_none (bo I q (by simp))
  | bl j=>cases ry; exact PySem.EqNone.ne_none_bool (bo I q (by simp))
  | int j=>obtain⟨t',rfl⟩:=ry; exact PySem.EqNone.ne_none_int (bo I q (by simp))
  | str j=>obtain⟨t',rfl⟩:=ry; exact PySem.EqNone.ne_none_str (bo I q (by simp))
  | _=>exact absurd (show false=true from hs) Bool.false_ne_true
 | bl i=>
  cases rx
  cases y with
  | non=>cases ry; exact PySem.EqNone.ne_bool_none (bo I q (by simp))
  | bl j=>cases ry; exact ne_bool (bo I q (congrArg not pY))
  | str j=>obtain⟨t',rfl⟩:=ry; exact PySem.EqMixed.ne_bool_str (bo I q (by simp))
  | _=>exact absurd (show false=true from hs) Bool.false_ne_true
 | int i=>
  obtain⟨t,rfl⟩:=rx
  cases y with
  | non=>cases ry; exact PySem.EqNone.ne_int_none (bo I q (by simp))
  | int j=>obtain⟨t',rfl⟩:=ry; exact ne_int (bo I q (congrArg not rC))
  | str j=>obtain⟨t',rfl⟩:=ry; exact PySem.EqMixed.ne_int_str (bo I q (by simp))
  | _=>exact absurd (show false=true from hs) Bool.false_ne_true
 | str i=>
  obtain⟨t,rfl⟩:=rx
  cases y with
  | non=>cases ry; exact PySem.EqNone.ne_str_none (bo I q (by simp))
  | bl j=>cases ry; exact PySem.EqMixed.ne_str_bool (bo I q (by simp))
  | int j=>obtain⟨t',rfl⟩:=ry; exact PySem.EqMixed.ne_str_int (bo I q (by simp))
  | str j=>obtain⟨t',rfl⟩:=ry; exact ne_str (bo I q (congrArg not sq))
  | _=>exact absurd (show false=true from hs) Bool.false_ne_true
 | byt i=>
  obtain⟨t,rfl⟩:=rx
  cases y with
  | byt j=>obtain⟨t',rfl⟩:=ry; exact PySem.W.ne_bytes (bo I q (congrArg not rX))
  | _=>exact absurd (show false=true from hs) Bool.false_ne_true
 | _=>cases y <;> exact absurd (show false=true from hs) Bool.false_ne_true
theorem CG:OpR X (compareOp .Lt) (pc fun i j=>.bl (decide (i<j))):=xX fun _ _ _ _ _ _ _ q=>lt_int q
theorem CF:OpR X (compareOp .Gt) (pc fun i j=>.bl (decide (j<i))):=xX fun _ _ _ _ _ _ _ q=>gt_int q
theorem Cf:OpR X (compareOp .GtE) (pc fun i j=>.bl (decide (j≤i))):=xX fun _ _ _ _ _ _ _ q=>ge_int q
theorem vR:OpR X (compareOp .Lt) (fun x y H Q=>∃ i j,x = .str i∧y = .str j∧Q (.bl (decide (i.cps.toList<j.cps.toList))) H):=by
 intro pins s σ H x y v u Q I rx ry h
 obtain⟨i,j,rfl,rfl,q⟩:=h
 obtain⟨t,rfl⟩:=rx
 obtain⟨t',rfl⟩:=ry
 exact lt_str (bo I q rfl)
theorem BE:OpR X (compareOp .Is) (fun x y H Q=>y = .non∧Q (.bl (decide (x = .non))) H):=by
 intro pins s σ H x y v u Q I rx ry h
 obtain⟨rfl,q⟩:=h
 cases ry;refine is_none_gen (bo I q ?_)
 cases x <;> first
  | (cases rx; rfl)
  | (obtain⟨t,rfl⟩:=rx; rfl)
theorem zi:OpR X (compareOp .IsNot) (fun x y H Q=>y = .non∧Q (.bl (!decide (x = .non))) H):=by
 intro pins s σ H x y v u Q I rx ry h
 obtain⟨rfl,q⟩:=h
 cases ry;refine isnot_none_gen (bo I q ?_)
 cases x <;> first
  | (cases rx; rfl)
  | (obtain⟨t,rfl⟩:=rx; rfl)
theorem qc:OpR X (compareOp .NotIn) (fun x y H Q=>∃ i j,x = .str i∧y = .str j∧Q (.bl (!(!(Builtin.Str.occurrences j i 0 j.length 1).isEmpty))) H):=by
 intro pins s σ H x y v u Q I rx ry h
 obtain⟨i,j,rfl,rfl,q⟩:=h
 obtain⟨t,rfl⟩:=rx
 obtain⟨t',rfl⟩:=ry
 exact notIn_str (bo I q rfl)
theorem aP(b:Expr){op:CmpOp}(h:op ≠ .In:=by decide)(h2:op ≠ .NotIn:=by decide):behindInMarks op b=false:=by
 have e1:(op == CmpOp.In)=false:=by cases op <;> first | rfl | exact absurd rfl h
 have e2:(op == CmpOp.NotIn)=false:=by cases op <;> first | rfl | exact absurd rfl h2
 cases b <;> simp[behindInMarks,e1,e2]
theorem cr{op:CmpOp}{r:R2}(ho:OpR X (compareOp op) r)(ha:PE X a ta)(hb:PE X b tb)(hm:behindInMarks op b=false):PE X (.Compare a [op] [b] pos) (u6 r ta tb):=by
 intro pins s σ H Q I h
 exact wpAny_Compare1 (wz ha hb I h fun v u s2 x y H2 I2 rx ry q=>ho pins s2 σ H2 x y v u Q I2 rx ry q) hm
def yC(t:TE):TT:=fun σ H Q=>t σ H fun x H'=>∃ k,x = .bl k∧Q k H'
theorem aT{op:CmpOp}{r:R2}(ho:OpR X (compareOp op) r)(ha:PE X a ta)(hb:PE X b tb)(hm:behindInMarks op b=false):PT X (.Compare a [op] [b] pos) (yC (u6 r ta tb)):=by
 intro pins s σ H Q I h
 refine wpAny_isTrue_Compare1 (ba (ha pins s σ H _ I h) fun v s1 ⟨x,H1,I1,r1,q1⟩=>ba (hb pins s1 σ H1 _ I1 q1) fun u s2 ⟨y,H2,I2,r2,q2⟩=>
  ba (ho pins s2 σ H2 x y v u _ I2 r1 r2 q2) fun c s3 ⟨z,H3,I3,r3,k,e,q3⟩=>?_) hm
 subst e
 cases r3;exact wpAny_truthy_bool ⟨H3,I3,q3⟩
theorem jm:(sizeLine:Nat)<2 ^ 63:=by rw[sizeLine_eq]; decide
theorem tu:OpR X (binaryOp .Add) (fun x y H Q=>∃ i j,x = .str i∧y = .str j∧i.length+j.length≤sizeLine∧Q (.str (i++j)) H):=by
 intro pins s σ H x y v u Q I rx ry h
 obtain⟨i,j,rfl,rfl,hz,q⟩:=h
 obtain⟨t,rfl⟩:=rx
 obtain⟨t',rfl⟩:=ry
 exact add_str (fun t' tk=>⟨.str (i++j),H,I.tok _,⟨_,rfl⟩,q⟩) hz
theorem df{x:V}{us:List Value}(r:Vals [x] us):∃ u,us=[u]∧RelV x u:=by
 cases r with
 | cons r1 r2=>cases r2; exact⟨_,rfl,r1⟩
theorem oN{x y:V}{us:List Value}(r:Vals [x,y] us):∃ u w',us=[u,w']∧RelV x u∧RelV y w':=by
 cases r with
 | cons r1 r2=>
  cases r2 with
  | cons r3 r4=>cases r4; exact⟨_,_,rfl,r1,r3⟩
theorem uN(hc:X.calm=true):CallR X (.builtin "min") (fun xs H Q=>∃ i j,xs=[.int i,.int j]∧Q (.int (if j<i then j else i)) H):=by
 intro pins s σ H xs us Q I r h
 obtain⟨i,j,rfl,q⟩:=h
 obtain⟨u,w',rfl,⟨t,rfl⟩,⟨t',rfl⟩⟩:=oN r
 refine min_two_ints (I.ok.hd hc) fun h' tk k=>⟨_,H,I.kept k,?_,q⟩
 by_cases hj:j<i
 ·rw[if_pos hj,if_pos hj]; exact⟨_,rfl⟩
 ·rw[if_neg hj,if_neg hj]; exact⟨_,rfl⟩
theorem vM:CallR X (.type "int") (fun xs H Q=>(∃ i,xs=[.int i]∧Q (.int i) H)∨∃ k,xs=[.bl k]∧Q (.int (if k then 1 else 0)) H):=by
 intro pins s σ H xs us Q I r h
 rcases h with ⟨i,rfl,q⟩ | ⟨k,rfl,q⟩
 ·obtain⟨u,rfl,t,rfl⟩:=df r
  exact call_int_int ⟨.int i,H,I,⟨_,rfl⟩,q⟩
 ·obtain⟨u,rfl,r1⟩:=df r
  cases r1;exact call_int_bool ⟨.int (if k then 1 else 0),H,I.tok _,⟨_,rfl⟩,q⟩
theorem qC:CallR X (.type "str") (fun xs H Q=>∃ i,xs=[.int i]∧i.natAbs.log2<1920∧Q (.str (toString i)) H):=by
 intro pins s σ H xs us Q I r h
 obtain⟨i,rfl,hz,q⟩:=h
 obtain⟨u,rfl,t,rfl⟩:=df r
 exact PySem.P.str_of_int hz ⟨.str _,H,I.tok _,⟨_,rfl⟩,q⟩
end
end L2
namespace L2
open PySem PySem.Spec PyProof.Rows
section
variable{prog:Program}{w:World}{A:Around}{E:Value→Shared→Prop}{s:Shared}{K:PySem.W.Frag}{x dx C f:Addr}{mA:Str→Option Value}{name:Str}{v:Value}
end
def A6(f:Str)(v:V):List (Str × V)→List (Str × V)
 | []=>[(f,v)]
 | (g,x)::r=>if g=f then (g,v)::r else (g,x)::A6 f v r
theorem RelO.some_of{v:V}{o:Option Value}(r:RelO (some v) o):∃ u,o=some u∧RelV v u:=by
 cases o with
 | none=>exact(show False from r).elim
 | some u=>exact⟨u,rfl,r⟩
section
variable{P:Program}{w:World}{H H':Hp}{h h':Heap}{a C dx:Addr}{fs fs':List (Str × V)}
end
section
variable{X:Cx}{pins:List (Addr × Obj)}{σ : St}{H:Hp}{s:Shared}{a C dx:Addr}{fs:List (Str × V)}{f:Str}{v:V}{A:Around}{E:Value→Shared→Prop}
end
section
variable{X:Cx}{o e value:Expr}{f:Str}{pos pos' tpos:Pos}{ta tv:TE}
end
section
variable{X:Cx}{pins:List (Addr × Obj)}{σ : St}{H:Hp}{s:Shared}{A:Around}{E:Value→Shared→Prop}{Q:Value→Shared→Prop}{c:Value}{b:Bool}
end
end L2
namespace L2
open PySem PySem.Spec PyProof.Rows
structure Room (k:Nat) (A:Around):Prop where
 hd:A.handled=none
 dp:A.depth+3 * k+5<recursionLimit
 un:A.units+16 * k+200<cLine
theorem Room.mono{j k:Nat}{A:Around}(r:Room k A)(h:j≤k):Room j A:=⟨r.hd,by have:=r.dp; omega,by have:=r.un; omega⟩
theorem Room.deeper{k:Nat}{A:Around}(r:Room (k+1) A)(env:Env):Room k (A.deeper env):=
 ⟨r.hd,by have:=r.dp; show A.depth+1+3 * k+5<_; omega,by have:=r.un; show A.units+3+16 * k+200<_; omega⟩
theorem Room.depth{k:Nat}{A:Around}(r:Room k A):A.depth<recursionLimit:=by have:=r.dp; omega
def wU:TA:=fun _ H Q=>Q [] H
def tT(ta:TE)(tr:TA):TA:=fun σ H Q=>ta σ H fun x H1=>tr σ H1 fun xs H2=>Q (x::xs) H2
section
variable{X:Cx}{e:Expr}{es:List Expr}{te:TE}{t:TA}{pos:Pos}
theorem ab:PA X [] wU:=fun _ _ _ _ H Q I h=>Calls.spliced_nil ⟨[],H,I,.nil,h⟩
theorem aa(ha:PE X e te)(hr:PA X es t)(hs:starEach (e::es) X.env=(false,eval e X.env)::starEach es X.env:=by rfl):PA X (e::es) (tT te t):=by
 intro pos pins s σ H Q I h
 rw[hs];show wpAny _ _ (spliced ((false,eval e X.env)::backTo pos (starEach es X.env))) _ _ s
 refine Calls.spliced_cons (ba (ha pins s σ H _ I h) fun u s1 ⟨x,H1,I1,r1,q1⟩=>?_)
 exact ba (hr pos pins s1 σ H1 _ I1 q1) fun us s2 ⟨xs,H2,I2,r2,q2⟩=>⟨x::xs,H2,I2,.cons r1 r2,q2⟩
def Am(t:TA):TE:=fun σ H Q=>t σ H fun xs H1=>xs.length≤sizeLine∧∀ p,H1 p=none→Q (.ref p) (upd H1 p (.tup xs))
def A9(t:TA):TE:=fun σ H Q=>t σ H fun xs H1=>xs.length≤sizeLine∧∀ p,H1 p=none→Q (.ref p) (upd H1 p (.lst xs))
theorem dG{x1}(h:PA X es t):PE X (.Tuple es x1 pos) (Am t):=by
 intro pins s σ H Q I hq
 refine wpAny_Tuple_spliced (ba (h pos pins s σ H _ I hq) fun us s1 ⟨xs,H1,I1,r,z,q⟩=>⟨by rw[← r.length]; exact z,?_⟩)
 have hf:H1 s1.heap.objs.size=none:=I1.hok.fresh (Nat.le_refl _)
 refine⟨.ref s1.heap.objs.size,upd H1 s1.heap.objs.size (.tup xs),I1.laid (t':=s1.toks) (fun b u e=>Heap.get?_push_of_some _ e) (Nat.le_refl _) ?_,rfl,q _ hf⟩
 exact⟨z,us,r,⟨_,Heap.get?_push_size _ rfl,rfl,rfl,_,rfl⟩⟩
theorem cJ(h:PA X es t):PE X (.List es pos) (A9 t):=by
 intro pins s σ H Q I hq
 refine wpAny_List_spliced (ba (h pos pins s σ H _ I hq) fun us s1 ⟨xs,H1,I1,r,z,q⟩=>⟨by rw[← r.length]; exact z,?_⟩)
 have hf:H1 s1.heap.objs.size=none:=I1.hok.fresh (Nat.le_refl _)
 refine⟨.ref s1.heap.objs.size,upd H1 s1.heap.objs.size (.lst xs),I1.laid (t':=s1.toks) (fun b u e=>Heap.get?_push_of_some _ e) (Nat.le_refl _) ?_,rfl,q _ hf⟩
 exact⟨z,us,0,r,Heap.get?_push_size _ rfl⟩
end
abbrev Sp:=List V→Hp→VK→XK→Prop
abbrev j5:=List Env→Hp→Shared→XK→Value→Shared→Prop
structure ue (P:Program) (w:World) (K:PySem.W.Frag) (mg:Str→Option Value) (base:Heap) (A:Around) (outer:List Env) (s:Shared) (H:Hp):Prop where
 frames:A.frames=some outer
 mod:Mod K mg base
 bs:∀ b o,base.get? b=some o→s.heap.get? b=some o∧H b=none
 bsz:base.objs.size≤s.heap.objs.size
 funs:s.heap.FunFrames base outer
 frf:∀ b∈jq outer,H b=none
 hok:HOk P w H s.heap
 bare:AllBare s.gens
def CE(outer:List Env)(P:Program)(w:World)(H:Hp)(s:Shared)(Q:VK)(u:Value)(s':Shared):Prop:=
 ∃ v H',s'.os=s.os∧AllBare s'.gens∧Un (jq outer) [] H H' s.heap s'.heap∧HOk P w H' s'.heap∧RelV v u∧Q v H'
def CR(CX:j5)(outer:List Env)(P:Program)(w:World)(H:Hp)(s:Shared)(Q:VK)(E:XK)(r:Result)(s':Shared):Prop:=
 match r with
 | .ok (.ret u)=>CE outer P w H s Q u s'
 | .ok _=>False
 | .error e=>CX outer H s E e s'
structure iV (P:Program) (w:World) (K:PySem.W.Frag) (mg:Str→Option Value) (base:Heap) (CX:j5) (k:Nat) (f:Addr) (fd:FuncData) (ps:List Str) (sp:Sp):Prop where
 len:∀ vs H Q E,sp vs H Q E→vs.length=ps.length
 run:∀ (A:Around) (outer:List Env) (s:Shared) (H:Hp) (args:Args) (us:List Value) (vs:List V) (Q:VK) (E:XK),Room k A→ue P w K mg base A outer s H→BindsTo s fd args (ps.zip us)→Vals vs us→sp vs H Q E→
  codeAny (model P w) A (.call (.ref f) args) (CR CX outer P w H s Q E) s
section
variable{X:Cx}{pins:List (Addr × Obj)}{σ : St}{H:Hp}{s s':Shared}
theorem Inv.env0(I:Inv X pins σ H s):ue X.prog X.w X.K X.mg X.base X.A X.stack s H:=
 ⟨I.ok.frames,I.ok.mod,I.bs,Nat.le_trans I.ok.bsz I.sz,I.stack,I.stkFree,I.hok,I.bare⟩
theorem Inv.after{Q:VK}{u:Value}(I:Inv X pins σ H s)(h:CE X.stack X.prog X.w H s Q u s'):EP X pins σ Q u s':=by
 obtain⟨v,H',os,bare,un,hok,r,q⟩:=h
 obtain⟨hh,g,d,t,os'⟩:=s'
 obtain rfl:os'=s.os:=os
 exact⟨v,H',I.call (h':=hh) (g':=g) (d':=d) (t':=t) (ch:=[]) un hok bare (fun b z=>absurd z (by simp)),r,q⟩
end
def oK(sp:Sp)(dvs:List V)(E:XK)(t:TA):TE:=fun σ H Q=>t σ H fun vs H1=>sp (vs++dvs) H1 Q E
def Binds(K:PySem.W.Frag)(fd:FuncData)(ps:List Str)(ds:List Value):Prop:=
 ∀ (s:Shared) (us:List Value),K.In s.heap→(us++ds).length=ps.length→BindsTo s fd ⟨us,[]⟩ (ps.zip (us++ds))
theorem Binds.all{K:PySem.W.Frag}{fd:FuncData}{ps:List Str}(h:∀ us:List Value,us.length=ps.length→bindArgs fd ⟨us,[]⟩=pure (ps.zip us)):Binds K fd ps []:=fun s us _ hl=>by
 rw[List.append_nil]at hl ⊢
 exact .of_eq (h us hl)
def ql(CX:j5)(X:Cx)(E:XK):Prop:=∀ (pins:List (Addr × Obj)) (σ : St) (H:Hp) (s:Shared) (e:Value) (s':Shared),Inv X pins σ H s→CX X.stack H s E e s'→X.xe e s'
section
variable{X:Cx}{CX:j5}{k:Nat}{f C:Addr}{fd:FuncData}{ps:List Str}{sp:Sp}{dvs:List V}{ds:List Value}{E:XK}{x m:Str}{p pos apos:Pos}{e o:Expr}{es:List Expr}{ta:TE}{t:TA}
theorem uS{pins:List (Addr × Obj)}{σ : St}{H:Hp}{s:Shared}{Q:VK}{us:List Value}{vs:List V}(F:iV X.prog X.w X.K X.mg X.base CX k f fd ps sp)(hr:Room k X.A)(hb:Binds X.K fd ps ds)(hd:Vals dvs ds)(hx:ql CX X E)
  (I:Inv X pins σ H s) (r:Vals vs us) (h:sp (vs++dvs) H Q E):wpAny (model X.prog X.w) X.A (call (.ref f) us) (EP X pins σ Q) X.xe s:=by
 have r2:Vals (vs++dvs) (us++ds):=r.append hd
 have hl:(us++ds).length=ps.length:=by rw[← r2.length]; exact F.len _ _ _ _ h
 refine wpAny_call (codeAny_mono (F.run X.A X.stack s H ⟨us,[]⟩ (us++ds) (vs++dvs) Q E hr I.env0 (hb s us I.kIn hl) r2 h) fun r s' hq=>?_)
 cases r with
 | error e=>exact hx pins σ H s e s' I hq
 | ok fl=>
  cases fl with
  | ret u=>exact I.after hq
  | next=>exact False.elim hq
  | brk=>exact False.elim hq
  | cont=>exact False.elim hq
theorem zM(F:iV X.prog X.w X.K X.mg X.base CX k f fd ps sp)(hr:Room k X.A)(hg:Gl X x)(hm:X.mg x=some (.ref f))(hk:PySem.W.keepIn X.K (.ref f)=true)(hb:Binds X.K fd ps ds)(hd:Vals dvs ds)(hx:ql CX X E)
  (ha:PA X (e::es) t) (hdb:(x == ("__debug__" : Str))=false:=by decide) (he:starEach (e::es) X.env=(false,eval e X.env)::starEach es X.env:=by rfl) (hpl:(backTo pos (starEach es X.env)).any (·.1)=false:=by rfl) :
  PE X (.Call (.Name x p) (e::es) [] pos) (oK sp dvs E t):=by
 intro pins s σ H Q I h
 refine wpAny_Call_Name_kw (rn I hg hm ?_ hdb)
 refine PySem.W.callWith_K (h₀:=X.base) I.ok.mod.kin hk (ba (ha pos pins s σ H _ I h) fun us s1 ⟨vs,H1,I1,r,q⟩=>⟨I1.kIn,?_⟩) he hpl
 exact uS F hr hb hd hx I1 r q
end
section
variable{X:Cx}{CX:j5}{k:Nat}{f C:Addr}{fd:FuncData}{ps ks:List Str}{sp:Sp}{E:XK}{x m:Str}{p pos apos kpos:Pos}{e o:Expr}{es:List Expr}{kws:List Keyword}{te ta:TE}{t tk:TA}{nm:Option Str}
variable{g:List Value→List Value→List Value}{gV:List V→List V→List V}
end
structure aU (N P:List Str) (sc:Scope):Prop where
 kind:sc.kind = .function
 co:sc.isCoroutine=false
 gen:sc.isGenerator=false
 nd:N.Nodup
 pre:N.take P.length=P
 par:∀ x∈P,sc.names.lookup x=some .local∨sc.names.lookup x=some .cell
 nofree:∀ y∈sc.names,y.2 ≠ .free
theorem mKk{N P:List Str}{s:Stmt}(h1:(L2.defScope s).kind = .function:=by rfl)(h2:(L2.defScope s).isCoroutine=false:=by rfl)(h3:(L2.defScope s).isGenerator=false:=by rfl)(h4:N.Nodup:=by decide +kernel)(h5:N.take P.length=P:=by rfl)(h6:∀ x∈P,(L2.defScope s).names.lookup x=some .local∨(L2.defScope s).names.lookup x=some .cell:=by decide +kernel)(h7:∀ y∈(L2.defScope s).names,y.2 ≠ .free:=by decide +kernel):aU N P (L2.defScope s):=⟨h1,h2,h3,h4,h5,h6,h7⟩
theorem nR{kindOf:Str→Option NameKind}{x:Str}:∀ {binds:List (Str × Value)} {m:Str→Option Value},(∀ v,(x,v)∉binds)→bindL kindOf binds m x=m x
 | [],_,_=>rfl
 | (n,v)::r,m,h=>by
  unfold bindL;rw[nR fun w hw=>h w (List.mem_cons_of_mem _ hw)]
  split
  ·have:x≠n:=by rintro rfl; exact h v List.mem_cons_self
   simp[this]
  ·rfl
theorem nF{kindOf:Str→Option NameKind}{x:Str}:∀ {binds:List (Str × Value)} {m:Str→Option Value},(∀ v,(x,v)∉binds)→bindC kindOf binds m x=m x
 | [],_,_=>rfl
 | (n,v)::r,m,h=>by
  unfold bindC;rw[nF fun w hw=>h w (List.mem_cons_of_mem _ hw)]
  split
  ·rfl
  ·have:x≠n:=by rintro rfl; exact h v List.mem_cons_self
   simp[this]
theorem oh{kindOf:Str→Option NameKind}{x:Str}{v:Value}:∀ {P:List Str} {vs:List Value} {i:Nat} {m:Str→Option Value},P.Nodup→P[i]? = some x→vs[i]? = some v→kindOf x=some .local→
  bindL kindOf (P.zip vs) m x=some v
 | [],_,_,_,_,h,_,_=>by simp at h
 | _::_,[],_,_,_,_,h,_=>by simp at h
 | p::P,w::vs,0,m,nd,h1,h2,hk=>by
  simp at h1 h2; subst h1; subst h2
  show bindL kindOf ((p,w)::P.zip vs) m p=_
  unfold bindL;rw[nR fun v hv=>(List.nodup_cons.mp nd).1 (List.of_mem_zip hv).1,if_pos hk]
  simp
 | p::P,w::vs,i+1,m,nd,h1,h2,hk=>by
  show bindL kindOf ((p,w)::P.zip vs) m x=_
  unfold bindL;exact oh (i:=i) (List.nodup_cons.mp nd).2 (by simpa using h1) (by simpa using h2) hk
theorem nW{kindOf:Str→Option NameKind}{x:Str}{v:Value}:∀ {P:List Str} {vs:List Value} {i:Nat} {m:Str→Option Value},P.Nodup→P[i]? = some x→vs[i]? = some v→kindOf x≠some .local→
  bindC kindOf (P.zip vs) m x=some v
 | [],_,_,_,_,h,_,_=>by simp at h
 | _::_,[],_,_,_,_,h,_=>by simp at h
 | p::P,w::vs,0,m,nd,h1,h2,hk=>by
  simp at h1 h2; subst h1; subst h2
  show bindC kindOf ((p,w)::P.zip vs) m p=_
  unfold bindC;rw[nF fun v hv=>(List.nodup_cons.mp nd).1 (List.of_mem_zip hv).1,if_neg hk]
  simp
 | p::P,w::vs,i+1,m,nd,h1,h2,hk=>by
  show bindC kindOf ((p,w)::P.zip vs) m x=_
  unfold bindC;exact nW (i:=i) (List.nodup_cons.mp nd).2 (by simpa using h1) (by simpa using h2) hk
def start(N:List Str)(vs:List V):St:=vs.map some++List.replicate (N.length - vs.length) none
def lO(CX:j5)(P:Program)(w:World)(K:PySem.W.Frag)(mg:Str→Option Value)(base:Heap)(N:List Str)(qual:Str)(scope:Scope)(f:Addr)(cd:Value)(A:Around)(outer:List Env)(s:Shared)(H:Hp)(E:XK):Cx where
 prog:=P
 w:=w
 K:=K
 mg:=mg
 base:=base
 A:=A.deeper (envOfC qual scope s.heap.objs.size f cd)
 N:=N
 s₀:=s
 H₀:=H
 env:=envOfC qual scope s.heap.objs.size f cd
 outer:=outer
 stack:=envOfC qual scope s.heap.objs.size f cd::outer
 ex:=[]
 calm:=true
 fn:=fun _=>true
 pn:=[]
 xe:=fun e s'=>wpAny (model P w) (A.deeper (envOfC qual scope s.heap.objs.size f cd)) (leaving (envOfC qual scope s.heap.objs.size f cd) e) (fun _ s''=>CX outer H s E e s'') (fun e' s''=>CX outer H s E e' s'') s'
theorem qt{sc:Scope}{n:Nat}{x:Str}(h:sc.names.lookup x=some .cell):∃ c,(cellsFrom n sc.names []).lookup x=some c:=by
 have q:=PySem.W.cellsFrom_some sc.names n [] (.inl h);exact Option.isSome_iff_exists.mp q
theorem vN{CX:j5}{P:Program}{w:World}{K:PySem.W.Frag}{mg:Str→Option Value}{base:Heap}{N ps:List Str}{qual:Str}{scope:Scope}{f:Addr}{cd:Value}{A:Around}{outer:List Env}{s s1:Shared}{H:Hp}{E:XK}{us:List Value}{vs:List V}
  (S:aU N ps scope) (hd:A.handled=none) (e0:ue P w K mg base A outer s H) (hl:vs.length=ps.length) (r:Vals vs us)
  (x:InCallC s s.heap.objs.size (bindL (envOfC qual scope s.heap.objs.size f cd).kindOf (ps.zip us) fun _=>none) (cellsFrom (s.heap.objs.size+1) scope.names []) (bindC (envOfC qual scope s.heap.objs.size f cd).kindOf (ps.zip us) fun _=>none) s1) :
  Inv (lO CX P w K mg base N qual scope f cd A outer s H E) [] (start N vs) H s1:=by
 have hpl:ps.length≤N.length:=by have:=congrArg List.length S.pre; rw[List.length_take]at this; omega
 obtain⟨h1,tk,rfl,hk⟩:=x.done
 have noA:∀ b:Addr,b∉(lO CX P w K mg base N qual scope f cd A outer s H E).ex:=fun b z=>absurd (show b∈([]:List Addr) from z) (by simp)
 refine⟨⟨e0.mod,S.kind,rfl,rfl,Nat.le_refl _,fun y z c h1 h2=>?_,fun y hy=>?_,fun y c _ h=>?_,fun _=>hd,Around.frames_deeper e0.frames,.inr ⟨rfl,rfl⟩,fun b z=>absurd z (noA b),e0.bs,e0.bsz,fun b _ _=>noA b,fun b z=>absurd z (noA b),e0.funs,e0.frf⟩,
  rfl,e0.bare,Un.kept hk,⟨_,x.toInCall.ns,fun i y v h1 h2 h3=>?_⟩,fun y c h=>⟨_,x.cell y c h⟩,e0.hok.fresh (Nat.le_refl _),fun y c h=>?_,fun p hp=>absurd (show p∈([]:List (Addr × Obj)) from hp) (by simp),e0.hok.kept hk,?_⟩
 ·exact name_of_addr x.apart (PySem.mem_of_lookup h1) (PySem.mem_of_lookup h2)
 ·have hy:scope.names.lookup y=some .cell∨scope.names.lookup y=some .free:=hy
  rcases hy with hy | hy
  ·exact qt hy
  ·exact absurd rfl (S.nofree _ (PySem.mem_of_lookup hy))
 ·exact Nat.le_of_lt (x.above y c (PySem.mem_of_lookup h))
 ·have hi:i<vs.length:=by
   unfold start at h2
   by_cases hi:i<vs.length
   ·exact hi
   ·rw[List.getElem?_append_right (by simpa using hi)]at h2
    rw[List.getElem?_replicate]at h2
    split at h2 <;> cases h2
  have ha:vs[i]? = some v:=by
   unfold start at h2;rw[List.getElem?_append_left (by simpa using hi),List.getElem?_map]at h2
   cases e:vs[i]? with
   | none=>rw[e]at h2; cases h2
   | some a=>rw[e]at h2; cases h2; rfl
  obtain⟨u,hu,rv⟩:=r.get ha
  have hp:ps[i]? = some y:=by
   rw[← S.pre,List.getElem?_take_of_lt (by omega)]; exact h1
  have ndP:ps.Nodup:=by rw[← S.pre]; exact S.nd.sublist (List.take_sublist _ _)
  refine⟨u,rv,?_⟩
  rcases S.par y (List.mem_of_getElem? hp) with k | k
  ·exact .inl ⟨k,oh ndP hp hu k⟩
  ·obtain⟨c,e⟩:=qt (n:=s.heap.objs.size+1) k
   refine .inr ⟨.inl k,c,e,?_⟩
   have q:=x.cell y c e;rw[nW ndP hp hu (by show scope.names.lookup y≠_; rw[k]; decide)]at q
   exact q
 ·exact e0.hok.fresh (Nat.le_of_lt (x.above y c (PySem.mem_of_lookup h)))
 ·unfold start
  show _=N.length
  rw[List.length_append,List.length_map,List.length_replicate];omega
theorem CD{CX:j5}{P:Program}{w:World}{K:PySem.W.Frag}{mg:Str→Option Value}{base:Heap}{k:Nat}{f:Addr}{name qual:Str}{params:Arguments}{body:List Stmt}{scope:Scope}{dV kV doc pm cdv ct oc:Value}{an od:Option Addr}
  {osl:Array (Option Value)} {N ps:List Str} {sp:Sp} (lk:K.lookup f=some ⟨oc,od,.func (PySem.W.fnOf name qual params body scope dV kV doc pm an cdv ct),osl⟩) (hcd:PySem.W.codeIn K cdv qual=true) (S:aU N ps scope)
  (len:∀ vs H Q E,sp vs H Q E→vs.length=ps.length)
  (hbody:∀ (A:Around) (outer:List Env) (s:Shared) (H:Hp) (vs:List V) (Q:VK) (E:XK),Room k (A.deeper (envOfC qual scope s.heap.objs.size f cdv))→sp vs H Q E→
   ∃ t,PSs (lO CX P w K mg base N qual scope f cdv A outer s H E) body t∧t { nx:=fun _ H'=>Q .non H',rt:=Q } (start N vs) H) :
  iV P w K mg base CX (k+1) f (PySem.W.fnOf name qual params body scope dV kV doc pm an cdv ct) ps sp:=by
 refine⟨len,fun A outer s H args us vs Q E hr e0 hb r hsp=>?_⟩
 have hl:=len _ _ _ _ hsp;have KX:K.In s.heap:=e0.mod.kin.keeps fun b o e=>(e0.bs b o e).1
 have lim:s.heap.NoLimit:=e0.mod.nolimit.keeps fun b o e=>(e0.bs b o e).1
 have hkind:∀ y∈ps.zip us,scope.names.lookup y.1=some .local∨(scope.names.lookup y.1=some .cell∧((cellsFrom (s.heap.objs.size+1) scope.names []).lookup y.1).isSome=true):=fun ⟨n,v⟩ hy=>by
  rcases S.par n (List.of_mem_zip hy).1 with q | q
  ·exact .inl q
  ·exact .inr ⟨q,PySem.W.cellsFrom_some _ _ _ (.inl q)⟩
 refine codeAny_call_function hr.depth (KX _ _ lk) rfl S.co S.gen rfl (PySem.W.codeRec_of KX hcd) (hb _ _ _ _ ?_)
 refine wpAny_newFunctionEnv_cells S.kind hkind fun env he s1 x=>?_
 subst he;refine⟨lim.keeps x.toInCall.keep,codeAny_func ?_⟩
 obtain⟨t,ht,hq⟩:=hbody A outer s H vs Q E (hr.deeper _) hsp
 have I:Inv (lO CX P w K mg base N qual scope f cdv A outer s H E) [] (start N vs) H s1:=vN S hr.hd e0 hl r x
 refine wpAny_mono (ht [] s1 (start N vs) H _ I hq) (fun fl s' hs=>?_) fun e s' hs=>hs
 have fin:∀ {σ':St} {H':Hp} {v:V} {u:Value},Inv (lO CX P w K mg base N qual scope f cdv A outer s H E) [] σ' H' s'→RelV v u→Q v H'→CE outer P w H s Q u s':=
  fun {σ' H' v u} J rv q=>⟨v,H',J.os,J.bare,J.base,J.hok,rv,q⟩
 cases fl with
 | ret u=>
  obtain⟨v,σ',H',J,rv,q⟩:=hs
  exact fin J rv q
 | next=>
  obtain⟨σ',H',J,q⟩:=hs
  exact fin (v:=V.non) (u:=Value.none) J rfl q
 | brk=>
  obtain⟨_,_,_,q⟩:=hs
  exact False.elim q
 | cont=>
  obtain⟨_,_,_,q⟩:=hs
  exact False.elim q
end L2
namespace L2
open PySem PySem.Spec PyProof.Rows
section
variable{X:Cx}{x:Str}{p pos:Pos}{e:Expr}{es:List Expr}{t:TA}{id T:String}{r:List V→Hp→VK→Prop}
def uW(r:List V→Hp→VK→Prop)(t:TA):TE:=fun σ H Q=>t σ H fun vs H1=>r vs H1 Q
theorem xV(hc:CallR X (.builtin id) r)(hg:Gl X x)(hm:X.mg x=none)(hv:bootBuiltins x=some (.builtin id))(ha:PA X (e::es) t)(hn:x ≠ "__name__" := by decide) (hdb:(x == ("__debug__" : Str))=false:=by decide)
  (he:starEach (e::es) X.env=(false,eval e X.env)::starEach es X.env:=by rfl) (hpl:(backTo pos (starEach es X.env)).any (·.1)=false:=by rfl):PE X (.Call (.Name x p) (e::es) [] pos) (uW r t):=by
 intro pins s σ H Q I h
 refine wpAny_Call_Name_kw (fC I hg hm hv ?_ hn hdb)
 exact PyProof.Rows.callWith_builtin1 (ba (ha pos pins s σ H _ I h) fun us s1 ⟨vs,H1,I1,r1,q1⟩=>hc pins s1 σ H1 vs us Q I1 r1 q1) he hpl
theorem vF(hc:CallR X (.type T) r)(hg:Gl X x)(hm:X.mg x=none)(hv:bootBuiltins x=some (.type T))(ha:PA X (e::es) t)(hn:x ≠ "__name__" := by decide) (hdb:(x == ("__debug__" : Str))=false:=by decide)
  (he:starEach (e::es) X.env=(false,eval e X.env)::starEach es X.env:=by rfl) (hpl:(backTo pos (starEach es X.env)).any (·.1)=false:=by rfl):PE X (.Call (.Name x p) (e::es) [] pos) (uW r t):=by
 intro pins s σ H Q I h
 refine wpAny_Call_Name_kw (fC I hg hm hv ?_ hn hdb)
 exact PyProof.Rows.callWith_type1 (ba (ha pos pins s σ H _ I h) fun us s1 ⟨vs,H1,I1,r1,q1⟩=>hc pins s1 σ H1 vs us Q I1 r1 q1) he hpl
end
end L2
namespace HT
open PySem PyProof.Rows
section
open PySem.SeqAt
open PySem.AutoSeq1 (wpAny_loadPart')
open PySem.MeetsSeq PySem.MeetsSeq2 PySem.MeetsSeq3
end
section
variable{prog:Program}{w:World}{A:Around}{E:Value→Shared→Prop}{s:Shared}
def sIx(n d:Nat):Option Int→Nat
 | none=>d
 | some v=>if v<0 then (v+(n:Int)).toNat else min v.toNat n
theorem sIx_nat(n d k:Nat):sIx n d (some (k:Int))=min k n:=by
 show (if (k:Int)<0 then ((k:Int)+(n:Int)).toNat else min (k:Int).toNat n)=min k n
 rw[if_neg (by omega),Int.toNat_natCast]
end
end HT
namespace L2
open PySem PySem.Spec PyProof.Rows
abbrev TO:=St→Hp→(Option Int→Hp→Prop)→Prop
def PO(X:Cx)(e:Option Expr)(t:TO):Prop:=
 ∀ (pins:List (Addr × Obj)) (s:Shared) (σ : St) (H:Hp) (Q:Option Int→Hp→Prop),Inv X pins σ H s→t σ H Q→
  wpAny (model X.prog X.w) X.A (evalPart e X.env) (fun u s'=>∃ o H',Inv X pins σ H' s'∧IsPart u o∧Q o H') X.xe s
def rM:TO:=fun _ H Q=>Q none H
def yy(t:TE):TO:=fun σ H Q=>t σ H fun x H1=>∃ i,x = .int i∧Q (some i) H1
theorem sJ{ns:List Int}:∀ {us:List Value},Vals (ns.map V.int) us→IntsAre us ns:=by
 induction ns with
 | nil=>intro us r; rw[List.map_nil]at r; cases r; exact .nil
 | cons n ns ih=>
  intro us r
  rw[List.map_cons]at r
  cases r with
  | cons r1 r2=>
   obtain⟨t,e⟩:=r1
   subst e;exact .cons n t (ih r2)
section
variable{X:Cx}{e:Expr}{te:TE}{lo hi:Option Expr}{tl th:TO}{pos p2:Pos}
theorem zI:PO X none rM:=by
 intro pins s σ H Q I h
 rw[evalPart_none];exact wpAny_pure ⟨none,H,I,.none,h⟩
theorem kH(h:PE X e te):PO X (some e) (yy te):=by
 intro pins s σ H Q I hw
 rw[evalPart_some];refine ba (h pins s σ H _ I hw) fun u s1 ⟨x,H1,I1,r1,q1⟩=>?_
 obtain⟨i,rfl,q⟩:=q1
 obtain⟨t,rfl⟩:=r1
 exact⟨some i,H1,I1,.int i t,q⟩
def SlR(X:Cx)(r:V→Option Int→Option Int→Hp→VK→Prop):Prop:=
 ∀ (pins:List (Addr × Obj)) (s:Shared) (σ : St) (H:Hp) (x:V) (v vl vu:Value) (lo hi:Option Int) (sl:Addr) (Q:VK),Inv X pins σ H s→RelV x v→s.heap.IsSliceOf sl vl vu .none→IsPart vl lo→IsPart vu hi→r x lo hi H Q→
  ∃ T id,typeLookup (.type T) "__getitem__" = pure (some (.builtin id))∧s.TypeIs v T∧wpAny (model X.prog X.w) X.A (getItem v (.ref sl)) (EP X pins σ Q) X.xe s
def CW(r:V→Option Int→Option Int→Hp→VK→Prop)(te:TE)(tl th:TO):TE:=fun σ H Q=>te σ H fun x H1=>tl σ H1 fun l H2=>th σ H2 fun u H3=>r x l u H3 Q
theorem xl{r:V→Option Int→Option Int→Hp→VK→Prop}(hr:SlR X r)(he:PE X e te)(hl:PO X lo tl)(hu:PO X hi th):PE X (.Subscript e (.Slice lo hi none p2) pos) (CW r te tl th):=by
 intro pins s σ H Q I h
 refine Subscript_ (ba (he pins s σ H _ I h) fun v s1 ⟨x,H1,I1,r1,q1⟩=>?_)
 refine wpAny_Slice (ba (hl pins s1 σ H1 _ I1 q1) fun vl s2 ⟨l,H2,I2,pl,q2⟩=>ba (hu pins s2 σ H2 _ I2 q2) fun vu s3 ⟨u,H3,I3,pu,q3⟩=>?_)
 rw[evalPart_none];refine wpAny_pure ?_
 have I4:Inv X pins σ H3 { s3 with heap:=s3.heap.push { cls:=.type "slice", data:=.fields #[vl,vu,.none] } }:=I3.kept (t':=s3.toks) fun b ob q=>Heap.get?_push_of_some _ q
 obtain⟨T,id,hT,ht,hg⟩:=hr pins { s3 with heap:=s3.heap.push { cls:=.type "slice", data:=.fields #[vl,vu,.none] } } σ H3 x v vl vu l u s3.heap.objs.size Q I4 r1 (Heap.IsSliceOf.new ..) pl pu q3
 show wpAny (model X.prog X.w) X.A (subscriptTail e (.Slice lo hi none p2) v (.ref s3.heap.objs.size)) (EP X pins σ Q) X.xe { s3 with heap:=s3.heap.push { cls:=.type "slice", data:=.fields #[vl,vu,.none] } }
 exact tail_any (ops:=[.ref s3.heap.objs.size,v]) ht hT hg (by with_unfolding_all rfl)
def lz(xs:List V)(lo hi:Option Int):List V:=(xs.drop (HT.sIx xs.length 0 lo)).take (HT.sIx xs.length xs.length hi - HT.sIx xs.length 0 lo)
theorem qQ(xs:List V)(lo hi:Option Int):(lz xs lo hi).length≤xs.length:=by
 unfold lz;rw[List.length_take,List.length_drop];omega
end
end L2
namespace L2
open PySem PySem.Spec PyProof.Rows
def k_(n:Nat)(i:Int):Option Nat:=if 0≤i then (if i<n then some i.toNat else none) else if -(n:Int)≤i then some (i+n).toNat else none
def eB{α : Type}(xs:List α)(i:Int):Option α:=(k_ xs.length i).bind fun j=>xs[j]?
theorem rO{n:Nat}{i:Int}{j:Nat}(h:k_ n i=some j):seqIndex? i n=some j∧j<n∧-(n:Int)≤i∧i<n:=by
 unfold k_ at h
 by_cases h0:0≤i
 ·rw[if_pos h0]at h
  by_cases h1:i<n
  ·rw[if_pos h1]at h
   have e:i.toNat=j:=Option.some.inj h
   exact⟨by rw[seqIndex_of h0 h1,e],by omega,by omega,h1⟩
  ·rw[if_neg h1]at h; cases h
 ·rw[if_neg h0]at h
  by_cases h1:-(n:Int)≤i
  ·rw[if_pos h1]at h
   have e:(i+n).toNat=j:=Option.some.inj h
   exact⟨by rw[seqIndex_neg (by omega) h1,e],by omega,h1,by omega⟩
  ·rw[if_neg h1]at h; cases h
theorem mP{α : Type}{xs:List α}{i:Int}{v:α}(h:eB xs i=some v):∃ j,seqIndex? i xs.length=some j∧xs[j]? = some v∧j<xs.length∧-(xs.length:Int)≤i∧i<xs.length:=by
 unfold eB at h
 cases e:k_ xs.length i with
 | none=>rw[e]at h; cases h
 | some j=>
  rw[e]at h
  obtain⟨h1,h2,h3,h4⟩:=rO e
  exact⟨j,h1,h,h2,h3,h4⟩
theorem aZ{α : Type}{xs:List α}{j:Nat}{v:α}(h:xs[j]? = some v):eB xs (j:Int)=some v:=by
 have hj:j<xs.length:=(List.getElem?_eq_some_iff.mp h).1
 have e:k_ xs.length (j:Int)=some j:=by
  unfold k_;rw[if_pos (by omega),if_pos (by omega)]; simp
 unfold eB; rw[e]; exact h
def z7(b:Expr):Prop:=∀ o i,subscripted b false o i=operate [o,i] (getItem o i)
def IxR(X:Cx)(r:R2):Prop:=
 ∀ (value slice:Expr) (pins:List (Addr × Obj)) (s:Shared) (σ : St) (H:Hp) (x y:V) (v u:Value) (Q:VK),Inv X pins σ H s→RelV x v→RelV y u→r x y H Q→
  subscripted slice false v u=operate [v,u] (getItem v u)→wpAny (model X.prog X.w) X.A (subscriptTail value slice v u) (EP X pins σ Q) X.xe s
def MtR(X:Cx)(id:String)(r:V→List V→Hp→VK→Prop):Prop:=
 ∀ (pins:List (Addr × Obj)) (s:Shared) (σ : St) (H:Hp) (x:V) (xs:List V) (v:Value) (us:List Value) (Q:VK),Inv X pins σ H s→RelV x v→Vals xs us→r x xs H Q→
  wpAny (model X.prog X.w) X.A (call (.builtin id) (v::us)) (EP X pins σ Q) X.xe s
section
variable{X:Cx}{a b:Expr}{ta tb:TE}{pos:Pos}
theorem IxR.or{r r':R2}(h:IxR X r)(h':IxR X r'):IxR X (fun x y H Q=>r x y H Q∨r' x y H Q):=by
 intro value slice pins s σ H x y v u Q I rx ry q hs
 rcases q with q | q
 ·exact h value slice pins s σ H x y v u Q I rx ry q hs
 ·exact h' value slice pins s σ H x y v u Q I rx ry q hs
theorem aK{r:R2}(hr:IxR X r)(ha:PE X a ta)(hb:PE X b tb)(hs:z7 b):PE X (.Subscript a b pos) (u6 r ta tb):=by
 intro pins s σ H Q I h
 exact Subscript_ (wz ha hb I h fun v u s2 x y H2 I2 rx ry q=>hr a b pins s2 σ H2 x y v u Q I2 rx ry q (hs _ _))
def A2(K:PySem.W.Frag):R2:=fun x y H Q=>∃ p xs i v,x = .ref p∧y = .int i∧SqL K H p xs∧eB xs i=some v∧Q v H
def Bl(K:PySem.W.Frag):R2:=fun x y H Q=>∃ p xs i v,x = .ref p∧y = .int i∧SqT K H p xs∧eB xs i=some v∧Q v H
def AF:R2:=fun x y H Q=>∃ z i c,x = .str z∧y = .int i∧z.length≤sizeLine∧eB z.cps.toList i=some c∧Q (.str ⟨#[c]⟩) H
theorem ix_list:IxR X (A2 X.K):=by
 intro value slice pins s σ H x y v u Q I rx ry h hs
 obtain⟨p,xs,i,z,rfl,rfl,hq,he,q⟩:=h
 cases rx;obtain⟨t,rfl⟩:=ry
 obtain⟨its,r,pl,hz⟩:=I.list hq
 obtain⟨j,h1,h2,h3,h4,h5⟩:=mP he
 obtain⟨w,ew,rw'⟩:=r.get h2
 have hl:=r.length;have hn:=jm;have fin:EP X pins σ Q w s:=⟨z,H,I,rw',q⟩
 by_cases h0:0≤i
 ·have hj:i.toNat=j:=by
   rw[seqIndex_of h0 h5]at h1
   exact Option.some.inj h1
  exact item_listR pl.isList h0 (by omega) (by rw[hj]; simpa using ew) fin hs
 ·have hj:(i+(its.toArray.size:Int)).toNat=j:=by
   rw[seqIndex_neg (by omega) h4]at h1
   rw[List.size_toArray,← hl];exact Option.some.inj h1
  exact subscriptTail_builtinR (x:=w) pl.isList.typeIs slot_list_getitem.lookup
   (wpAny_getItem_list_neg (Q:=fun r s'=>r=w∧EP X pins σ Q r s') pl.isList (by omega) (by rw[List.size_toArray] <;> omega) (by omega) (by rw[hj]; simpa using ew) ⟨rfl,fin⟩) hs
theorem ix_tup:IxR X (Bl X.K):=by
 intro value slice pins s σ H x y v u Q I rx ry h hs
 obtain⟨p,xs,i,z,rfl,rfl,hq,he,q⟩:=h
 cases rx;obtain⟨t,rfl⟩:=ry
 obtain⟨its,r,pl,hz⟩:=I.tuple hq
 obtain⟨j,h1,h2,h3,h4,h5⟩:=mP he
 obtain⟨w,ew,rw'⟩:=r.get h2
 have hl:=r.length;have hn:=jm;have fin:EP X pins σ Q w s:=⟨z,H,I,rw',q⟩
 exact subscriptTail_builtinR (x:=w) pl.typeIs slot_tuple_getitem.lookup
  (getItem_tuple (j:=j) (Q:=fun r s'=>r=w∧EP X pins σ Q r s') pl (by omega) (by omega) (by rw[List.size_toArray,← hl]; exact h1) (by simpa using ew) ⟨rfl,fin⟩) hs
theorem Ad:IxR X AF:=by
 intro value slice pins s σ H x y v u Q I rx ry h hs
 obtain⟨z,i,c,rfl,rfl,hz,he,q⟩:=h
 obtain⟨t,rfl⟩:=rx
 obtain⟨t',rfl⟩:=ry
 obtain⟨j,h1,h2,h3,h4,h5⟩:=mP he
 have hl:z.cps.toList.length=z.length:=by simp[Str.length]
 rw[hl]at h1 h4 h5
 have hn:=jm
 exact tail_any (typeIs_str s z t) slot_str_getitem.lookup (getItem_str (c:=c) (by
  have e1:decide (i < -(2 ^ 63:Int))=false:=decide_eq_false (by omega)
  have e2:decide (i≥2 ^ 63)=false:=decide_eq_false (by omega)
  rw[e1,e2,Bool.or_false]) (by rw[h1]; simpa using h2) ⟨.str ⟨#[c]⟩,H,I.tok _,⟨_,rfl⟩,q⟩) hs
def FJ(K:PySem.W.Frag):R2:=fun x y H Q=>A2 K x y H Q∨Bl K x y H Q∨AF x y H Q
theorem BS:IxR X (FJ X.K):=ix_list.or (ix_tup.or Ad)
theorem sL(its:List Value)(n j:Nat)(u:Value):Obj.mapSeq (·.setIfInBounds j u) { cls:=.type "list", data:=.seq its.toArray n }={ cls:=.type "list", data:=.seq (its.set j u).toArray n }:=by
 simp[Obj.mapSeq]
theorem Inv.lst{pins:List (Addr × Obj)}{σ : St}{H:Hp}{s:Shared}{p:Addr}{xs:List V}(I:Inv X pins σ H s)(h:H p=some (.lst xs)) :
  ∃ (its:List Value) (n:Nat),Vals xs its∧s.heap.get? p=some { cls:=.type "list", data:=.seq its.toArray n }∧xs.length≤sizeLine:=by
 obtain⟨z,its,n,r,e⟩:=I.hok p _ h
 exact⟨its,n,r,e,z⟩
theorem Inv.lstUpd{pins:List (Addr × Obj)}{σ : St}{H:Hp}{s:Shared}{p:Addr}{xs ys:List V}{its its':List Value}{n n':Nat}{f:Obj→Obj}(I:Inv X pins σ H s)(h:H p=some (.lst xs))
  (ho:s.heap.get? p=some { cls:=.type "list", data:=.seq its.toArray n }) (hf:f { cls:=.type "list", data:=.seq its.toArray n }={ cls:=.type "list", data:=.seq its'.toArray n' }) (r:Vals ys its') (hz:ys.length≤sizeLine) (t:Nat) :
  Inv X pins σ (upd H p (.lst ys)) { s with heap:=s.heap.update p f,toks:=t }:=by
 have e:(s.heap.update p f).get? p=some { cls:=.type "list", data:=.seq its'.toArray n' }:=by
  rw[Heap.get?_update_self f ho (by rw[hf] <;> rfl),hf]
 refine I.write (x:=p) (e:=p) (by rw[h]; trivial) (.inl rfl) (fun b u hb q=>(Heap.get?_update_other _ _ (Ne.symm hb)).trans q) ⟨_,e⟩ ?_
 exact⟨hz,its',n',r,e⟩
def tM:V→V→V→Hp→(Hp→Prop)→Prop:=fun o i v H Q=>∃ p xs k j,o = .ref p∧i = .int k∧H p=some (.lst xs)∧k_ xs.length k=some j∧Q (upd H p (.lst (xs.set j v)))
theorem w4:PSet X tM:=by
 intro pins s σ H o i v ov iv u Q I ro ri rv h
 obtain⟨p,xs,k,j,rfl,rfl,hp,hj,q⟩:=h
 cases ro;obtain⟨t,rfl⟩:=ri
 obtain⟨its,n,r,ho,hz⟩:=I.lst hp
 obtain⟨h1,h2,h3,h4⟩:=rO hj
 have hl:=r.length;have hn:=jm
 have I':Inv X pins σ (upd H p (.lst (xs.set j v))) { s with heap:=s.heap.update p (Obj.mapSeq (·.setIfInBounds j u)) }:=
  I.lstUpd hp ho (sL its n j u) (r.set rv j) (by rw[List.length_set]; exact hz) s.toks
 by_cases h0:0≤k
 ·have hk:k.toNat=j:=by
   rw[seqIndex_of h0 h4]at h1
   exact Option.some.inj h1
  exact PySem.W.ki_setAt ho h0 (by omega) (by rw[List.size_toArray,← hl]; exact h4) (by rw[hk]; exact⟨_,I',q⟩)
 ·have hk:(k+(its.toArray.size:Int)).toNat=j:=by
   rw[seqIndex_neg (by omega) h3]at h1
   rw[List.size_toArray,← hl];exact Option.some.inj h1
  exact PySem.W.ki_setBack ho (by omega) (by rw[List.size_toArray,← hl]; exact h3) (by omega) (by rw[hk]; exact⟨_,I',q⟩)
theorem oU(lo hi:Option Int)(n:Nat):(sliceBounds lo hi none n).1=((HT.sIx n 0 lo:Nat):Int)∧(sliceBounds lo hi none n).2.1=((HT.sIx n n hi:Nat):Int)∧(sliceBounds lo hi none n).2.2=1:=by
 refine⟨?_,?_,rfl⟩
 ·cases lo with
  | none=>simp[sliceBounds,HT.sIx]
  | some i=>
   simp only[sliceBounds,HT.sIx,Option.getD_none,show (1:Int)>0 by decide,if_true]
   by_cases h:i<0
   ·simp only[h,if_true] <;> omega
   ·simp only[h,if_false] <;> omega
 ·cases hi with
  | none=>simp[sliceBounds,HT.sIx]
  | some i=>
   simp only[sliceBounds,HT.sIx,Option.getD_none,show (1:Int)>0 by decide,if_true]
   by_cases h:i<0
   ·simp only[h,if_true] <;> omega
   ·simp only[h,if_false] <;> omega
theorem oz(its:List Value)(lo hi:Option Int):slicePick its.toArray lo hi none=((its.drop (HT.sIx its.length 0 lo)).take (HT.sIx its.length its.length hi - HT.sIx its.length 0 lo)).toArray:=by
 obtain⟨h1,h2,h3⟩:=oU lo hi its.toArray.size
 unfold slicePick;rw[h1,h2,h3];simp only[sliceRange_one,pick_run,List.size_toArray] <;> rfl
def yv(K:PySem.W.Frag):V→Option Int→Option Int→Hp→VK→Prop:=fun x lo hi H Q=>∃ a xs,x = .ref a∧SqL K H a xs∧∀ p,H p=none→Q (.ref p) (upd H p (.lst (lz xs lo hi)))
theorem zn:SlR X (yv X.K):=by
 intro pins s σ H x v vl vu lo hi sl Q I rx hs pl pu h
 obtain⟨a,xs,rfl,hx,q⟩:=h
 cases rx;obtain⟨its,r,ht,hz⟩:=I.list hx
 have hlen:=r.length;refine⟨"list", _,slot_list_getitem.lookup,ht.isList.typeIs,?_⟩
 refine wpAny_getItem_list_slice ht.isList hs pl pu .none (by simp) ?_ (by rw[List.size_toArray] <;> omega)
 rw[oz,← hlen];refine⟨.ref s.heap.objs.size,_,I.laid (t':=s.toks) (o:=.lst (lz xs lo hi)) (fun b ob q=>Heap.get?_push_of_some _ q) (Nat.le_refl _) ?_,rfl,q _ (I.hok.fresh (Nat.le_refl _))⟩
 exact⟨Nat.le_trans (qQ xs lo hi) hz,_,0,(r.drop (HT.sIx xs.length 0 lo)).take (HT.sIx xs.length xs.length hi - HT.sIx xs.length 0 lo),Heap.get?_push_size _ rfl⟩
def bT:V→Bool
 | .non=>true
 | .bl _=>true
 | .int _=>true
 | .str _=>true
 | _=>false
def fF:V→V→Bool
 | .non,.non=>true
 | .bl a,.bl b=>a == b
 | .bl a,.int b=>(if a then 1 else 0) == b
 | .int a,.bl b=>a == (if b then 1 else 0)
 | .int a,.int b=>a == b
 | .str a,.str b=>a == b
 | _,_=>false
theorem js{A:Around}{s:Shared}{y x:V}{u v:Value}(ry:RelV y u)(rx:RelV x v)(fy:bT y=true)(fx:bT x=true):SeqAt.EqAt A s u v (fF y x):=by
 cases y with
 | non=>
  cases ry
  cases x with
  | non=>cases rx; exact SeqAt.EqAt.same _
  | bl b=>cases rx; exact SeqAt.EqAt.none_bool b
  | int b=>obtain⟨t,rfl⟩:=rx; exact SeqAt.EqAt.none_int b t
  | str b=>obtain⟨t,rfl⟩:=rx; exact SeqAt.EqAt.none_str b t
  | _=>exact absurd (show false=true from fx) Bool.false_ne_true
 | bl a=>
  cases ry
  cases x with
  | non=>cases rx; exact SeqAt.EqAt.bool_none a
  | bl b=>cases rx; exact SeqAt.EqAt.bool_bool a b
  | int b=>obtain⟨t,rfl⟩:=rx; exact SeqAt.EqAt.bool_int a b t
  | str b=>obtain⟨t,rfl⟩:=rx; exact SeqAt.EqAt.bool_str a b t
  | _=>exact absurd (show false=true from fx) Bool.false_ne_true
 | int a=>
  obtain⟨t',rfl⟩:=ry
  cases x with
  | non=>cases rx; exact SeqAt.EqAt.int_none a t'
  | bl b=>cases rx; exact SeqAt.EqAt.int_bool a t' b
  | int b=>obtain⟨t,rfl⟩:=rx; exact SeqAt.EqAt.int_int a t' b t
  | str b=>obtain⟨t,rfl⟩:=rx; exact SeqAt.EqAt.int_str a t' b t
  | _=>exact absurd (show false=true from fx) Bool.false_ne_true
 | str a=>
  obtain⟨t',rfl⟩:=ry
  cases x with
  | non=>cases rx; exact SeqAt.EqAt.str_none a t'
  | bl b=>cases rx; exact SeqAt.EqAt.str_bool a t' b
  | int b=>obtain⟨t,rfl⟩:=rx; exact SeqAt.EqAt.str_int a t' b t
  | str b=>obtain⟨t,rfl⟩:=rx; exact SeqAt.EqAt.str_str a t' b t
  | _=>exact absurd (show false=true from fx) Bool.false_ne_true
 | _=>exact absurd (show false=true from fy) Bool.false_ne_true
def j1(x:V)(u:Value):Bool:=match u with
 | .none=>fF .non x
 | .bool b=>fF (.bl b) x
 | .int i _=>fF (.int i) x
 | .str z _=>fF (.str z) x
 | _=>false
theorem wb{x y:V}{u:Value}(r:RelV y u)(f:bT y=true):j1 x u=fF y x:=by
 cases y with
 | non=>cases r; rfl
 | bl b=>cases r; rfl
 | int i=>obtain⟨t,rfl⟩:=r; rfl
 | str z=>obtain⟨t,rfl⟩:=r; rfl
 | _=>exact absurd (show false=true from f) Bool.false_ne_true
theorem m6{x:V}:∀ {xs:List V} {us:List Value},Vals xs us→xs.all bT=true→us.any (j1 x)=xs.any fun y=>fF y x
 | _,_,.nil,_=>rfl
 | y::xs,u::us,.cons r t,f=>by
  rw[List.all_cons,Bool.and_eq_true]at f
  rw[List.any_cons,List.any_cons,wb r f.1,m6 t f.2]
theorem lQ{A:Around}{s:Shared}{x:V}{v:Value}(rx:RelV x v)(fx:bT x=true):∀ {xs:List V} {us:List Value},Vals xs us→xs.all bT=true→∀ u∈us,SeqAt.EqAt A s u v (j1 x u)
 | _,_,.nil,_=>fun u hu=>by cases hu
 | y::xs,u::us,.cons r t,f=>fun u' hu=>by
  rw[List.all_cons,Bool.and_eq_true]at f
  rcases List.mem_cons.mp hu with rfl | hu
  ·rw[wb r f.1]; exact js r rx f.1 fx
  ·exact lQ rx fx t f.2 u' hu
def oR(x:V)(xs:List V):Bool:=xs.any fun y=>fF y x
def GX(K:PySem.W.Frag)(neg:Bool):R2:=fun x y H Q=>∃ p xs,y = .ref p∧(SqL K H p xs∨SqT K H p xs)∧bT x=true∧xs.all bT=true∧Q (.bl (if neg then !oR x xs else oR x xs)) H
theorem pz:OpR X (compareOp .NotIn) (GX X.K true):=by
 intro pins s σ H x y v u Q I rx ry h
 obtain⟨p,xs,rfl,hq,fx,fs,q⟩:=h
 cases ry;rcases hq with hq | hq
 ·obtain⟨its,r,pl,hz⟩:=I.list hq
  refine SeqAt.notIn_listAt (j1 x) pl.isList (fun w hw=>lQ rx fx r fs w (by simpa using hw)) ⟨.bl _,H,I,rfl,?_⟩
  rw[show its.toArray.any (j1 x)=its.any (j1 x) by simp,m6 r fs]
  exact q
 ·obtain⟨its,r,pl,hz⟩:=I.tuple hq
  refine SeqAt.notIn_tupleAt (j1 x) pl (fun w hw=>lQ rx fx r fs w (by simpa using hw)) ⟨.bl _,H,I,rfl,?_⟩
  rw[show its.toArray.any (j1 x)=its.any (j1 x) by simp,m6 r fs]
  exact q
theorem p7:CallR X (.builtin "len") (fun xs H Q=>∃ p ys,xs=[.ref p]∧(SqL X.K H p ys∨SqT X.K H p ys)∧Q (.int ys.length) H):=by
 intro pins s σ H xs us Q I r h
 obtain⟨p,ys,rfl,hq,q⟩:=h
 obtain⟨u,rfl,rx⟩:=df r
 cases rx;have hn:=jm;rcases hq with hq | hq
 ·obtain⟨its,r',pl,hz⟩:=I.list hq
  have hlen:=r'.length;exact Calls.call_len_list pl.isList (by simp only[List.size_toArray] <;> omega) ⟨.int ys.length,H,I.tok _,⟨s.toks+1,by rw[List.size_toArray,hlen]⟩,q⟩
 ·obtain⟨its,r',pl,hz⟩:=I.tuple hq
  have hlen:=r'.length;exact len_tuple pl (by simp only[List.size_toArray] <;> omega) ⟨.int ys.length,H,I.tok _,⟨s.toks+1,by rw[List.size_toArray,hlen]⟩,q⟩
theorem pg:CallR X (.builtin "len") (fun xs H Q=>∃ z,xs=[.str z]∧z.length≤sizeLine∧Q (.int z.length) H):=by
 intro pins s σ H xs us Q I r h
 obtain⟨z,rfl,hz,q⟩:=h
 obtain⟨u,rfl,t,rfl⟩:=df r
 have hn:=jm;exact len_str (by omega) ⟨.int z.length,H,I.tok _,⟨_,rfl⟩,q⟩
theorem qp:CallR X (.type "list") (fun xs H Q=>∃ p ys,xs=[.ref p]∧(SqL X.K H p ys∨SqT X.K H p ys)∧∀ l,H l=none→Q (.ref l) (upd H l (.lst ys))):=by
 intro pins s σ H xs us Q I r h
 obtain⟨p,ys,rfl,hq,q⟩:=h
 obtain⟨u,rfl,rx⟩:=df r
 cases rx
 have fin:∀ (its:List Value),Vals ys its→ys.length≤sizeLine→∀ (h':Heap) (c':Nat),(∀ b o',s.heap.get? b=some o'→h'.get? b=some o')→
   h'.get? s.heap.objs.size=some { cls:=.type "list", dict:=none,data:=.seq its.toArray c',slots:=#[] }→EP X pins σ Q (.ref s.heap.objs.size) { s with heap:=h' }:=fun its r' hz h' c' kp e=>
  ⟨.ref s.heap.objs.size,_,I.laid (t':=s.toks) kp (Nat.le_refl _) (show ObjOk X.prog X.w _ h' _ (.lst ys) from ⟨hz,its,c',r',e⟩),rfl,q _ (I.hok.fresh (Nat.le_refl _))⟩
 rcases hq with hq | hq
 ·obtain⟨its,r',pl,hz⟩:=I.list hq
  have hlen:=r'.length;obtain⟨o,ho,hc,n,hd⟩:=pl.isList
  exact call_list_seq p (.inl rfl) ho hc hd (fun h' c' kp e=>fin its r' hz h' c' kp e) (by simp only[List.size_toArray] <;> omega)
 ·obtain⟨its,r',pl,hz⟩:=I.tuple hq
  have hlen:=r'.length;obtain⟨o,ho,hc,n,hd⟩:=pl
  exact call_list_seq p (.inr rfl) ho hc hd (fun h' c' kp e=>fin its r' hz h' c' kp e) (by simp only[List.size_toArray] <;> omega)
theorem ow:CallR X (.type "tuple") (fun xs H Q=>∃ p ys,xs=[.ref p]∧((SqL X.K H p ys∧∀ l,H l=none→Q (.ref l) (upd H l (.tup ys)))∨(SqT X.K H p ys∧Q (.ref p) H))):=by
 intro pins s σ H xs us Q I r h
 obtain⟨p,ys,rfl,h⟩:=h
 obtain⟨u,rfl,rx⟩:=df r
 cases rx;rcases h with ⟨hq,q⟩ | ⟨hq,q⟩
 ·obtain⟨its,r',pl,hz⟩:=I.list hq
  have hlen:=r'.length;refine call_tuple_list pl.isList (fun h' kp=>?_) (by simp only[List.size_toArray] <;> omega)
  have I1:Inv X pins σ H { s with heap:=h' }:=I.kept (t':=s.toks) kp
  have I2:Inv X pins σ (upd H h'.objs.size (.tup ys)) { s with heap:=h'.push { cls:=.type "tuple", data:=.seq its.toArray } }:=
   I1.laid (t':=s.toks) (fun b o e=>Heap.get?_push_of_some _ e) (Nat.le_refl _) (show ObjOk X.prog X.w _ _ _ (.tup ys) from ⟨hz,its,r',IsTupN.new _ _⟩)
  exact⟨.ref h'.objs.size,_,I2,rfl,q _ (I1.hok.fresh (Nat.le_refl _))⟩
 ·obtain⟨its,r',pl,hz⟩:=I.tuple hq
  exact call_tuple_same pl ⟨.ref p,H,I,rfl,q⟩
def uO(K:PySem.W.Frag)(T:String)(x:V)(H:Hp):Prop:=match x with
 | .str _=>T = "str"
 | .int _=>T = "int"
 | .ref p=>(T = "list" ∧ ∃ xs,SqL K H p xs)∨(T = "tuple" ∧ ∃ o,K.lookup p=some o∧o.cls = .type "tuple" ∧ o.dict=none)∨
   (T = "dict" ∧ ((∃ kvs,H p=some (.dK kvs))∨∃ kvs,H p=some (.dT kvs)))∨(T = "set" ∧ ∃ S n,H p=some (.set S n))
 | _=>False
theorem AE{pins:List (Addr × Obj)}{σ : St}{H:Hp}{s:Shared}{T:String}{x:V}{v:Value}(I:Inv X pins σ H s)(r:RelV x v)(ty:uO X.K T x H) :
  s.TypeIs v T∧∀ a,v = .ref a→∃ ob,s.heap.get? a=some ob∧ob.dict=none:=by
 cases x with
 | str z=>
  obtain⟨t,rfl⟩:=r
  cases (show T = "str" from ty)
  exact⟨typeIs_str s z t,fun _ e=>nomatch e⟩
 | int i=>
  obtain⟨t,rfl⟩:=r
  cases (show T = "int" from ty)
  exact⟨typeIs_int s i t,fun _ e=>nomatch e⟩
 | ref p=>
  cases r;rcases ty with ⟨rfl,xs,hq⟩ | ⟨rfl,o,hk,hc,hd⟩ | ⟨rfl,hk⟩ | ⟨rfl,S,n,hk⟩
  ·obtain⟨its,_,pl,_⟩:=I.list hq
   refine⟨pl.isList.typeIs,fun a e=>?_⟩
   cases e;obtain⟨o,n,e,c,hd,_⟩:=pl
   exact⟨o,e,hd⟩
  ·refine⟨⟨o,I.kIn p o hk,hc⟩,fun a e=>?_⟩
   cases e;exact⟨o,I.kIn _ o hk,hd⟩
  ·have z:∃ o,s.heap.get? p=some o∧o.ExactDict:=by
    rcases hk with ⟨kvs,hk⟩ | ⟨kvs,hk⟩
    ·obtain⟨_,_,_,_,o,_,_,e,ex,_⟩:=I.hok p _ hk
     exact⟨o,e,ex⟩
    ·obtain⟨_,_,_,_,o,_,_,e,ex,_⟩:=I.hok p _ hk
     exact⟨o,e,ex⟩
   obtain⟨o,e,ex⟩:=z
   refine⟨⟨o,e,ex.1⟩,fun a e2=>?_⟩
   cases e2;exact⟨o,e,ex.2.1⟩
  ·obtain⟨o,_,_,_,e,ex,_⟩:=I.hok p _ hk
   refine⟨⟨o,e,ex.1⟩,fun a e2=>?_⟩
   cases e2;exact⟨o,e,ex.2.1⟩
 | _=>exact False.elim ty
def yX(K:PySem.W.Frag)(T:String)(r:V→List V→Hp→VK→Prop)(to:TE)(t:TA):TE:=fun σ H Q=>to σ H fun x H1=>uO K T x H1∧t σ H1 fun xs H2=>r x xs H2 Q
variable{o e:Expr}{es:List Expr}{to:TE}{t:TA}{name:Str}{apos cpos:Pos}{T id:String}{r:V→List V→Hp→VK→Prop}
theorem CI(pa:PlainAttrs T)(slot:Slot T name id)(hty:typeOf (.builtin id)=pure (.type "method_descriptor")) (hm:MtR X id r) (ho:PE X o to) (ha:PA X (e::es) t)
  (hbase:attributeBase o name X.env (eval o X.env)=eval o X.env:=by rfl)
  (hfew:((backTo cpos (starEach (e::es) X.env)).all (fun x=>!x.1)&&(backToKw cpos (keywordEach [] X.env)).all (fun x=>x.1.isSome)
   && decide ((e::es).length+([]:List Keyword).length+(if ([]:List Keyword).isEmpty then 0 else 1)<30))=true:=by rfl)
  (hline:(apos.endLine == cpos.line)=true:=by rfl) (hs:starEach (e::es) X.env=(false,eval e X.env)::starEach es X.env:=by rfl) (hplain:(backTo cpos (starEach es X.env)).any (·.1)=false:=by rfl) :
  PE X (.Call (.Attribute o name apos) (e::es) [] cpos) (yX X.K T r to t):=by
 intro pins s σ H Q I h
 refine wpAny_Call_method_late hbase hfew hline rfl (ba (ho pins s σ H _ I h) fun v s1 ⟨x,H1,I1,r1,ty,q1⟩=>?_)
 obtain⟨h1,h2⟩:=AE I1 r1 ty
 refine⟨T,id,pa,slot,hty,h1,h2,?_⟩
 have hA:=ha cpos pins s1 σ H1 _ I1 q1;rw[hs]at hA ⊢
 refine Calls.callWith_builtin (by show (false||(backTo cpos (starEach es X.env)).any (·.1))=false; rw[hplain] <;> rfl) (Calls.evalArgs_plain ?_)
 exact ba hA fun us s2 ⟨vs,H2,I2,r2,q2⟩=>hm pins s2 σ H2 x vs v us Q I2 r1 r2 q2
/- xs.append(e), list.index on a module's tuple .. are MtR facts of 06m -/
end
end L2
namespace L2
open PySem PySem.Spec PyProof.Rows
def FG(X:Cx)(id:String)(r:V→List V→Hp→VK→Prop):Prop:=
 ∀ (pins:List (Addr × Obj)) (s:Shared) (σ : St) (H:Hp) (x:V) (xs:List V) (v:Value) (us:List Value) (Q:VK),Inv X pins σ H s→RelV x v→Vals xs us→r x xs H Q→
  wpAny (model X.prog X.w) X.A (call (.builtin id) (v::us)) (EP X pins σ Q) X.xe s
theorem Vals.one:∀ {x:V} {us:List Value},Vals [x] us→∃ u,us=[u]∧RelV x u
 | _,_,.cons r .nil=>⟨_,rfl,r⟩
section
variable{X:Cx}{pins:List (Addr × Obj)}{σ : St}{H:Hp}{s:Shared}{l b:Addr}{xs ys zs:List V}
theorem Inv.lset{its its':List Value}{n:Nat}{f:Array Value→Array Value}{t':Nat}(I:Inv X pins σ H s)(hH:H l=some (.lst xs))
  (e:s.heap.get? l=some { cls:=.type "list", data:=.seq its.toArray n }) (hf:f its.toArray=its'.toArray) (hv:Vals ys its') (hz:ys.length≤sizeLine) :
  Inv X pins σ (upd H l (.lst ys)) { s with heap:=s.heap.update l (Obj.mapSeq f),toks:=t' }:=by
 have q:=PySem.IsL.update e f;rw[hf]at q
 refine I.write (x:=l) (e:=l) (by rw[hH]; exact trivial) (.inl rfl) (fun b' u hb hu=>(Heap.get?_update_other s.heap (Obj.mapSeq f) (Ne.symm hb)).trans hu) ⟨_,q⟩ ?_
 exact⟨hz,its',_,hv,q⟩
theorem Inv.lnew{its:List Value}{t':Nat}(I:Inv X pins σ H s)(hv:Vals ys its)(hz:ys.length≤sizeLine) :
  Inv X pins σ (upd H s.heap.objs.size (.lst ys)) { s with heap:=s.heap.push { cls:=.type "list", data:=.seq its.toArray },toks:=t' }:=
 I.laid (fun _ _ q=>Heap.get?_push_of_some _ q) (Nat.le_refl _) ⟨hz,its,0,hv,Heap.get?_push_size _ rfl⟩
theorem Inv.fresh(I:Inv X pins σ H s):H s.heap.objs.size=none:=I.hok.fresh (Nat.le_refl _)
theorem Inv.lstM(I:Inv X pins σ H s)(hH:H l=some (.lst xs)):xs.length≤sizeLine∧∃ (its:List Value) (n:Nat),Vals xs its∧xs.length=its.length∧s.heap.get? l=some { cls:=.type "list", data:=.seq its.toArray n }:=by
 obtain⟨z,its,n,r,e⟩:=I.hok l _ hH
 exact⟨z,its,n,r,r.length,e⟩
end
section
variable{X:Cx}
def kF:V→List V→Hp→VK→Prop:=fun x vs H Q=>∃ l xs y,x = .ref l∧vs=[y]∧H l=some (.lst xs)∧xs.length<sizeLine∧Q .non (upd H l (.lst (xs++[y])))
theorem kf:FG X "list.append" kF:=by
 intro pins s σ H x vs v us Q I rx rv h
 obtain⟨l,xs,y,rfl,rfl,hH,hz,q⟩:=h
 cases rx;obtain⟨u,rfl,ru⟩:=rv.one
 obtain⟨z,its,n,r,hl,e⟩:=I.lstM hH
 refine call_meets F.slot_list_append ⟨_,e,rfl⟩ F.entry_list_append (F.args_list_append_2 _ _) (PySem.list_append l its.toArray n u (by rw[List.size_toArray]; omega)) ⟨e,?_⟩
 refine⟨.non,_,I.lset (its':=its++[u]) hH e (by simp) (r.append (.cons ru .nil)) ?_,rfl,q⟩
 rw[List.length_append,List.length_singleton];omega
def Eg:R2:=fun x y H Q=>∃ l b xs zs,x = .ref l∧y = .ref b∧H l=some (.lst xs)∧H b=some (.lst zs)∧xs.length+zs.length≤sizeLine∧∀ p,H p=none→Q (.ref p) (upd H p (.lst (xs++zs)))
theorem AI:OpR X (binaryOp .Add) Eg:=by
 intro pins s σ H x y v u Q I rx ry h
 obtain⟨l,b,xs,zs,rfl,rfl,hH,hB,hz,q⟩:=h
 cases rx
 cases ry;obtain⟨z,its,n,r,hl,e⟩:=I.lstM hH
 obtain⟨z2,its2,n2,r2,hl2,e2⟩:=I.lstM hB
 refine PySem.P.add_list e e2 ?_ (by rw[List.size_toArray,List.size_toArray]; omega)
 have ea:its.toArray++its2.toArray=(its++its2).toArray:=by simp
 rw[ea];exact⟨.ref _,_,I.lnew (t':=s.toks) (r.append r2) (by rw[List.length_append]; omega),rfl,q _ I.fresh⟩
end
section
variable{prog:Program}{w:World}{A:Around}{E:Value→Shared→Prop}{s:Shared}
end
section
variable{X:Cx}
end
end L2
namespace L2
open PySem PySem.Spec PyProof.Rows
section
variable{κ : Type}[DecidableEq κ]
def aH(kvs:List (κ × V))(k:κ):Option V:=(kvs.find? fun kv=>decide (kv.1=k)).map (·.2)
def cL(kvs:List (κ × V))(k:κ)(v:V):List (κ × V):=
 if (kvs.any fun kv=>decide (kv.1=k))=true then kvs.map (fun kv=>if kv.1=k then (kv.1,v) else kv) else kvs++[(k,v)]
theorem ye{k:κ}:aH ([]:List (κ × V)) k=none:=rfl
theorem cF{p:κ × V}{r:List (κ × V)}{k:κ}(e:p.1=k):aH (p::r) k=some p.2:=by simp[aH,List.find?_cons,e]
theorem cw{p:κ × V}{r:List (κ × V)}{k:κ}(e:¬ p.1=k):aH (p::r) k=aH r k:=by simp[aH,List.find?_cons,e]
theorem jA(k:κ):∀ kvs:List (κ × V),(kvs.any fun kv=>decide (kv.1=k))=(aH kvs k).isSome
 | []=>rfl
 | p::r=>by
  rw[List.any_cons]
  by_cases e:p.1=k
  ·simp only[cF e,decide_eq_true e,Bool.true_or,Option.isSome_some]
  ·rw[cw e,decide_eq_false e,Bool.false_or]; exact jA k r
theorem pN(k j:κ)(y:V):∀ kvs:List (κ × V),aH (kvs.map fun kv=>if kv.1=k then (kv.1,y) else kv) j=(aH kvs j).map fun x=>if j=k then y else x
 | []=>rfl
 | p::r=>by
  have ih:=pN k j y r;rw[List.map_cons]
  by_cases h:p.1=k
  ·rw[if_pos h]
   by_cases e:p.1=j
   ·rw[cF (p:=(p.1,y)) e,cF e,Option.map_some,if_pos (e.symm.trans h)]
   ·rw[cw (p:=(p.1,y)) e,cw e,ih]
  ·rw[if_neg h]
   by_cases e:p.1=j
   ·rw[cF (p:=p) e,cF e,Option.map_some,if_neg (fun z=>h (e.trans z))]
   ·rw[cw (p:=p) e,cw e,ih]
theorem iY(k j:κ)(y:V):∀ kvs:List (κ × V),aH kvs k=none→aH (kvs++[(k,y)]) j=if j=k then some y else aH kvs j
 | [],_=>by
  by_cases e:k=j
  ·rw[if_pos e.symm]; exact cF (p:=(k,y)) e
  ·rw[if_neg (fun z=>e z.symm)]; exact cw (p:=(k,y)) e
 | p::r,hn=>by
  rw[List.cons_append];have hk:¬ p.1=k:=fun z=>by rw[cF z]at hn; cases hn
  rw[cw hk]at hn
  have ih:=iY k j y r hn
  by_cases e:p.1=j
  ·rw[cF e,cF e,if_neg (fun z=>hk (e.trans z))]
  ·rw[cw e,cw e,ih]
theorem jR(kvs:List (κ × V))(k j:κ)(y:V):aH (cL kvs k y) j=if j=k then some y else aH kvs j:=by
 unfold cL
 by_cases a:(kvs.any fun kv=>decide (kv.1=k))=true
 ·rw[if_pos a,pN]
  rw[jA]at a
  by_cases e:j=k
  ·obtain⟨x,hx⟩:=Option.isSome_iff_exists.mp a
   rw[if_pos e,e,hx,Option.map_some,if_pos rfl]
  ·rw[if_neg e]
   cases aH kvs j with
   | none=>rfl
   | some x=>rw[Option.map_some,if_neg e]
 ·rw[if_neg a]
  refine iY k j y kvs ?_
  rw[jA]at a
  cases q:aH kvs k with
  | none=>rfl
  | some x=>rw[q]at a; exact(a rfl).elim
theorem dD(kvs:List (κ × V))(k:κ)(v:V):(cL kvs k v).length≤kvs.length+1:=by
 unfold cL;split
 ·rw[List.length_map]; omega
 ·rw[List.length_append,List.length_cons,List.length_nil]; omega
theorem RelO.isSome_eq{o:Option V}{u:Option Value}(r:RelO o u):o.isSome=u.isSome:=by
 cases o with
 | none=>cases u with
  | none=>rfl
  | some _=>exact(show False from r).elim
 | some _=>cases u with
  | none=>exact(show False from r).elim
  | some _=>rfl
theorem RelO.getD{o:Option V}{u:Option Value}{d:V}{d':Value}(r:RelO o u)(rd:RelV d d'):RelV (o.getD d) (u.getD d'):=by
 cases o with
 | none=>cases u with
  | none=>exact rd
  | some _=>exact(show False from r).elim
 | some _=>cases u with
  | none=>exact(show False from r).elim
  | some _=>exact r
theorem KV.val{kvs:List (κ × V)}{vs:List (κ × Value)}(r:KV kvs vs)(k:κ):RelO (aH kvs k) (valueAt vs k):=by
 unfold KV at r
 induction r with
 | nil=>exact True.intro
 | @cons p q ps qs h t ih=>
  obtain⟨h1,h2⟩:=h
  by_cases e:p.1=k
  ·have e':q.1=k:=h1.symm.trans e
   have b:valueAt (q::qs) k=some q.2:=by simp[valueAt,List.find?_cons,e']
   rw[cF e,b]; exact h2
  ·have e':¬ q.1=k:=fun z=>e (h1.trans z)
   have b:valueAt (q::qs) k=valueAt qs k:=by simp[valueAt,List.find?_cons,e']
   rw[cw e,b]; exact ih
theorem KV.any{kvs:List (κ × V)}{vs:List (κ × Value)}(r:KV kvs vs)(k:κ):(kvs.any fun kv=>decide (kv.1=k))=vs.any fun kv=>decide (kv.1=k):=by
 unfold KV at r
 induction r with
 | nil=>rfl
 | cons h t ih=>rw[List.any_cons,List.any_cons,ih,h.1]
theorem KV.repl{kvs:List (κ × V)}{vs:List (κ × Value)}(r:KV kvs vs)(k:κ){y:V}{u:Value}(ry:RelV y u) :
  KV (kvs.map fun kv=>if kv.1=k then (kv.1,y) else kv) (vs.map fun kv=>if kv.1=k then (kv.1,u) else kv):=by
 unfold KV at r ⊢
 induction r with
 | nil=>exact .nil
 | @cons p q ps qs h t ih=>
  rw[List.map_cons,List.map_cons];refine .cons ?_ ih
  obtain⟨h1,h2⟩:=h
  by_cases e:p.1=k
  ·rw[if_pos e,if_pos (h1.symm.trans e)]; exact⟨h1,ry⟩
  ·rw[if_neg e,if_neg (fun z=>e (h1.trans z))]; exact⟨h1,h2⟩
theorem KV.put{kvs:List (κ × V)}{vs:List (κ × Value)}(r:KV kvs vs)(k:κ){y:V}{u:Value}(ry:RelV y u):KV (cL kvs k y) (stored vs k u):=by
 unfold cL stored;rw[r.any k]
 by_cases e:(vs.any fun kv=>decide (kv.1=k))=true
 ·rw[if_pos e,if_pos e]; exact r.repl k ry
 ·rw[if_neg e,if_neg e]; exact Paired.snoc r ⟨rfl,ry⟩
theorem KV.length{kvs:List (κ × V)}{vs:List (κ × Value)}(r:KV kvs vs):kvs.length=vs.length:=Paired.length r
end
theorem kL{P:Program}{w:World}{k:bp}{u:Value}(r:RelV (kV k) u):(cz P w).is k u=true:=by
 cases k with
 | inl i=>obtain⟨t,e⟩:=(show ∃ t,u=Value.int i t from r); subst e; exact qR P w i t
 | inr x=>obtain⟨t,e⟩:=(show ∃ t,u=Value.str x t from r); subst e; exact rg P w x t
theorem nN{P:Program}{w:World}:∀ {ks:List bp} {us:List Value},Vals (ks.map kV) us→ItemsAre (cz P w) ks us
 | [],_,r=>by rw[List.map_nil]at r; cases r; exact .nil
 | k::ks,_,r=>by
  rw[List.map_cons]at r
  cases r with
  | cons h t=>exact .cons (kL h) (nN t)
abbrev KT (H:Hp):List (List bp × V)→List (List bp × Addr × Value)→Prop:=Paired fun p q=>p.1=q.1∧H q.2.1=some (.tup (p.1.map kV))∧RelV p.2 q.2.2
theorem KT.val{H:Hp}{kvs:List (List bp × V)}{xs:List (List bp × Addr × Value)}(r:KT H kvs xs)(k:List bp):RelO (aH kvs k) ((atKey xs k).map (·.2)):=by
 induction r with
 | nil=>exact True.intro
 | @cons p q ps qs h t ih=>
  obtain⟨h1,_,h2⟩:=h
  by_cases e:p.1=k
  ·have e':q.1=k:=h1.symm.trans e
   have b:atKey (q::qs) k=some q.2:=by simp[atKey,List.find?_cons,e']
   rw[cF e,b]; exact h2
  ·have e':¬ q.1=k:=fun z=>e (h1.trans z)
   have b:atKey (q::qs) k=atKey qs k:=by simp[atKey,List.find?_cons,e']
   rw[cw e,b]; exact ih
theorem KT.repl{H:Hp}{kvs:List (List bp × V)}{xs:List (List bp × Addr × Value)}(r:KT H kvs xs)(k:List bp){y:V}{u:Value}(ry:RelV y u) :
  KT H (kvs.map fun kv=>if kv.1=k then (kv.1,y) else kv) (xs.map (putAt k u)):=by
 induction r with
 | nil=>exact .nil
 | @cons p q ps qs h t ih=>
  rw[List.map_cons,List.map_cons];refine .cons ?_ ih
  obtain⟨h1,h2,h3⟩:=h
  unfold putAt
  by_cases e:p.1=k
  ·rw[if_pos e,if_pos (h1.symm.trans e)]; exact⟨h1,h2,ry⟩
  ·rw[if_neg e,if_neg (fun z=>e (h1.trans z))]; exact⟨h1,h2,h3⟩
theorem KT.put{H:Hp}{kvs:List (List bp × V)}{xs:List (List bp × Addr × Value)}(r:KT H kvs xs)(k:List bp){b:Addr}{y:V}{u:Value}(hb:H b=some (.tup (k.map kV)))(ry:RelV y u) :
  KT H (cL kvs k y) (storedH xs k b u):=by
 have e:(kvs.any fun kv=>decide (kv.1=k))=(atKey xs k).isSome:=by
  rw[jA,(r.val k).isSome_eq,Option.isSome_map]
 unfold cL storedH;rw[e]
 by_cases q:(atKey xs k).isSome=true
 ·rw[if_pos q,if_pos q]; exact r.repl k ry
 ·rw[if_neg q,if_neg q]; exact Paired.snoc r ⟨rfl,hb,ry⟩
theorem KT.keeps{H H':Hp}{kvs:List (List bp × V)}{xs:List (List bp × Addr × Value)}(r:KT H kvs xs)(ht:∀ b ys,H b=some (.tup ys)→H' b=some (.tup ys)):KT H' kvs xs:=
 Paired.mapP r fun _ _ z=>⟨z.1,ht _ _ z.2.1,z.2.2⟩
section
variable{P:Program}{w:World}{H:Hp}{h:Heap}{a:Addr}
theorem yI{u:HO}(ok:HOk P w H h)(e:Rd H a u):ObjOk P w H h a u:=e.ok ok
theorem oP{kvs:List (bp × V)}(ok:HOk P w H h)(e:Rd H a (.dK kvs)):kvs.length≤sizeLine∧(a == sysModules)=false∧∃ vs,KV kvs vs∧h.DictOf (cz P w) a vs:=
 show ObjOk P w H h a (.dK kvs) from yI ok e
theorem yH{kvs:List (bp × V)}(ok:HOk P w H h)(e:H a=some (.dK kvs)):kvs.length≤sizeLine∧(a == sysModules)=false∧∃ vs,KV kvs vs∧h.DictOf (cz P w) a vs:=oP ok (.inl e)
theorem mH{ks:List bp}(ok:HOk P w H h)(e:H a=some (.tup (ks.map kV))):(tupleKind (cz P w)).is h ks a:=by
 obtain⟨_,its,r,o,h1,h2,_,n,h3⟩:=(show ObjOk P w H h a (.tup (ks.map kV)) from ok a _ e)
 exact⟨o,its.toArray,n,h1,h2,h3,by simpa using nN r⟩
theorem tG{kvs:List (List bp × V)}(ok:HOk P w H h)(e:Rd H a (.dT kvs)):kvs.length≤sizeLine∧(a == sysModules)=false∧
  ∃ xs,KT H kvs xs∧h.DictOfH (tupleKind (cz P w)) a xs:=by
 obtain⟨z,y,xs,r,o,es,ep,h1,h2,h3,h4,h5⟩:=(show ObjOk P w H h a (.dT kvs) from yI ok e)
 refine⟨z,y,xs,r,o,es,ep,h1,h2,h3,h4,fun x hx=>?_,h5⟩
 have all:∀ {l:List (List bp × V)} {m:List (List bp × Addr × Value)},KT H l m→∀ x∈m,(tupleKind (cz P w)).is h x.1 x.2.1:=by
  intro l m q
  induction q with
  | nil=>intro x hx; exact nomatch hx
  | @cons p q ps qs hq t ih=>
   intro x hx
   rcases List.mem_cons.mp hx with e | hx
   ·subst e
    exact mH ok (by rw[← hq.1]; exact hq.2.1)
   ·exact ih x hx
 exact all r x hx
theorem Cy{kvs:List (List bp × V)}(ok:HOk P w H h)(e:H a=some (.dT kvs)):kvs.length≤sizeLine∧(a == sysModules)=false∧
  ∃ xs,KT H kvs xs∧h.DictOfH (tupleKind (cz P w)) a xs:=tG ok (.inl e)
end
def DGet(H:Hp)(a:Addr)(y:V)(r:Option V):Prop:=
 (∃ kvs k,Rd H a (.dK kvs)∧y=kV k∧r=aH kvs k)∨∃ kvs k b,Rd H a (.dT kvs)∧y = .ref b∧H b=some (.tup (k.map kV))∧r=aH kvs k
def DPut(H:Hp)(a:Addr)(y v:V)(H':Hp):Prop:=
 (∃ kvs k,H a=some (.dK kvs)∧y=kV k∧kvs.length<sizeLine∧H'=upd H a (.dK (cL kvs k v)))∨
 ∃ kvs k b,H a=some (.dT kvs)∧y = .ref b∧H b=some (.tup (k.map kV))∧kvs.length<sizeLine∧H'=upd H a (.dT (cL kvs k v))
theorem DGet.k{H:Hp}{a:Addr}{kvs:List (bp × V)}{k:bp}(e:H a=some (.dK kvs)):DGet H a (kV k) (aH kvs k):=.inl ⟨kvs,k,.inl e,rfl,rfl⟩
theorem DPut.k{H:Hp}{a:Addr}{kvs:List (bp × V)}{k:bp}{v:V}(e:H a=some (.dK kvs))(hl:kvs.length<sizeLine):DPut H a (kV k) v (upd H a (.dK (cL kvs k v))):=.inl ⟨kvs,k,e,rfl,hl,rfl⟩
section
variable{X:Cx}{pins:List (Addr × Obj)}{σ : St}{H:Hp}{s:Shared}{a:Addr}{y v:V}{u r:Value}{o:Option V}{A:Around}{E:Value→Shared→Prop}
theorem Inv.big(I:Inv X pins σ H s):sysModules<s.heap.objs.size:=by
 have h:mainGlobals<s.heap.objs.size:=(I.mod.glob.keeps I.bk).lt
 exact Nat.lt_trans (by decide) h
theorem DJ{Q:Value→Shared→Prop}(hu:A.units+1<cLine)(I:Inv X pins σ H s)(g:DGet H a y o)(ry:RelV y u)(h:∀ s',Inv X pins σ H s'→Q (.bool o.isSome) s') :
  wpAny (model X.prog X.w) A (compareOp .In u (.ref a)) Q E s:=by
 rcases g with ⟨kvs,k,e,ey,l⟩ | ⟨kvs,k,b,e,ey,eb,l⟩
 ·subst ey
  obtain⟨z,hd,vs,rel,dd⟩:=oP I.hok e
  refine wpAny_in_of (kL ry) hd dd.mapOf ?_
  rw[← (rel.val k).isSome_eq,← l];exact h _ (I.tok _)
 ·subst ey
  cases (show u=Value.ref b from ry)
  obtain⟨z,hd,xs,rel,dd⟩:=tG I.hok e
  refine wpAny_in_heap (tupleKind_room_in1 hu) (mH I.hok eb) hd dd ?_
  have q:=(rel.val k).isSome_eq;rw[Option.isSome_map]at q
  rw[← q,← l];exact h _ (I.tok _)
theorem zN{Q:Value→Shared→Prop}(hu:A.units+1<cLine)(I:Inv X pins σ H s)(g:DGet H a y o)(ry:RelV y u)(h:∀ s',Inv X pins σ H s'→Q (.bool (!o.isSome)) s') :
  wpAny (model X.prog X.w) A (compareOp .NotIn u (.ref a)) Q E s:=by
 rcases g with ⟨kvs,k,e,ey,l⟩ | ⟨kvs,k,b,e,ey,eb,l⟩
 ·subst ey
  obtain⟨z,hd,vs,rel,dd⟩:=oP I.hok e
  refine wpAny_notIn_of (kL ry) hd dd.mapOf ?_
  rw[← (rel.val k).isSome_eq,← l];exact h _ (I.tok _)
 ·subst ey
  cases (show u=Value.ref b from ry)
  obtain⟨z,hd,xs,rel,dd⟩:=tG I.hok e
  refine wpAny_notIn_heap (tupleKind_room_in1 hu) (mH I.hok eb) hd dd ?_
  have q:=(rel.val k).isSome_eq;rw[Option.isSome_map]at q
  rw[← q,← l];exact h _ (I.tok _)
theorem gn{h':Heap}{t':Nat}{ob:HO}(I:Inv X pins σ H s)(mu:uE (H a))(hs:Heap.SameBut a s.heap h')(he:∃ q,h'.get? a=some q)(new:ObjOk X.prog X.w (upd H a ob) h' a ob) :
  Inv X pins σ (upd H a ob) { s with heap:=h',toks:=t' }:=
 I.write (x:=a) (e:=a) mu (.inl rfl) (fun b q hb z=>(hs.2 b hb).trans z) he new
theorem wj{P:Program}{w:World}{H':Hp}{h':Heap}{kvs:List (bp × V)}{vs:List (bp × Value)}(z:kvs.length≤sizeLine)(hd:(a == sysModules)=false)(rel:KV kvs vs)(dd:h'.DictOf (cz P w) a vs) :
  ObjOk P w H' h' a (.dK kvs):=⟨z,hd,vs,rel,dd⟩
theorem vh{H':Hp}{Q:Unit→Shared→Prop}(hu:A.units+1<cLine)(I:Inv X pins σ H s)(g:DPut H a y v H')(ry:RelV y u)(rv:RelV v r)(h:∀ s',Inv X pins σ H' s'→Q () s') :
  wpAny (model X.prog X.w) A (setItem (.ref a) u r) Q E s:=by
 rcases g with ⟨kvs,k,e,ey,l,eH⟩ | ⟨kvs,k,b,e,ey,eb,l,eH⟩
 ·subst ey eH
  obtain⟨z,hd,vs,rel,dd⟩:=yH I.hok e
  have hz:vs.length≤sizeLine:=by rw[← rel.length]; exact z
  have hl:(cL kvs k v).length≤sizeLine:=by have:=dD kvs k v; omega
  refine wpAny_setItem_pairs (hsz:=hz) (kL ry) dd fun h' dd' hs=>h _ ?_
  have he:∃ q,h'.get? a=some q:=let ⟨q,_,_,hq,_⟩:=dd'; ⟨q,hq⟩
  exact gn I (by rw[e]; exact True.intro) hs he (wj hl hd (rel.put k rv) dd')
 ·subst ey eH
  cases (show u=Value.ref b from ry)
  obtain⟨z,hd,xs,rel,dd⟩:=Cy I.hok e
  have hz:xs.length≤sizeLine:=by rw[← Paired.length rel]; exact z
  have hl:(cL kvs k v).length≤sizeLine:=by have:=dD kvs k v; omega
  refine wpAny_setItem_heap (hsz:=hz) (tupleKind_room_in1 hu) (mH I.hok eb) dd fun h' dd' hs=>h _ ?_
  obtain⟨q,es,ep,hq,h2,h3,h4,_,h5⟩:=dd'
  refine gn I (by rw[e]; exact True.intro) hs ⟨q,hq⟩ ⟨hl,hd,_,(rel.put k eb rv).keeps fun c ys ec=>?_,q,es,ep,hq,h2,h3,h4,h5⟩
  rw[ai (gS ec e (fun z=>nomatch z))]
  exact ec
end
section
variable{X:Cx}{pins:List (Addr × Obj)}{σ : St}{H:Hp}{s:Shared}{a:Addr}{kvs:List (bp × V)}{k:bp}{u:Value}{A:Around}{E:Value→Shared→Prop}
end
section
variable{X:Cx}{o i e value:Expr}{pos pos' tpos:Pos}{td ty tv:TE}
end
theorem p8{P:Program}{w:World}{H:Hp}(h:Heap)(hb:sysModules<h.objs.size):ObjOk P w H (h.push { cls:=.type "dict", data:=.dict #[] }) h.objs.size (.dK []):=
 ⟨Nat.zero_le _,beq_eq_false_iff_ne.mpr (Ne.symm (Nat.ne_of_lt hb)),[],.nil,Heap.DictOf.new h⟩
def AL:TE:=fun _ H Q=>∀ p,H p=none→Q (.ref p) (upd H p (.dK []))
section
variable{X:Cx}{pos:Pos}
theorem qE:PE X (.Dict [] [] pos) AL:=fun pins s σ H Q I h=>
 wpAny_Dict_empty ⟨.ref s.heap.objs.size,_,I.laid (a:=s.heap.objs.size) (o:=.dK []) (t':=s.toks) (fun _ _ q=>Heap.get?_push_of_some _ q) (Nat.le_refl _) (p8 s.heap I.big),rfl,h _ (I.hok.fresh (Nat.le_refl _))⟩
end
def iP:List (TE × TE)→St→Hp→(List (V × V)→Hp→Prop)→Prop
 | [],_,H,Q=>Q [] H
 | (tk,tv)::r,σ,H,Q=>tk σ H fun x H1=>tv σ H1 fun y H2=>iP r σ H2 fun ps H3=>Q ((x,y)::ps) H3
abbrev VV:List (V × V)→List (Value × Value)→Prop:=Paired fun p q=>RelV p.1 q.1∧RelV p.2 q.2
def PPs(X:Cx)(pos:Pos)(keys:List (Option Expr))(values:List Expr)(trs:List (TE × TE)):Prop:=
 ∀ (pins:List (Addr × Obj)) (s:Shared) (σ : St) (H:Hp) (Q:List (V × V)→Hp→Prop),Inv X pins σ H s→iP trs σ H Q→
  wpAny (model X.prog X.w) X.A (evalPairs (pairTrees keys values X.env pos)) (fun vs s'=>∃ ps H',Inv X pins σ H' s'∧VV ps vs∧Q ps H') X.xe s
theorem zf{X:Cx}{pos:Pos}:PPs X pos [] [] []:=fun pins s σ H Q I h=>pairTrees_nil_walk ⟨[],H,I,.nil,h⟩
theorem xN{X:Cx}{pos:Pos}{k v:Expr}{ks:List (Option Expr)}{vs:List Expr}{tk tv:TE}{trs:List (TE × TE)}(hk:PE X k tk)(hv:PE X v tv)(hr:PPs X pos ks vs trs) :
  PPs X pos (some k::ks) (v::vs) ((tk,tv)::trs):=fun pins s σ H Q I h=>
 pairTrees_cons_walk (ba (hk pins s σ H _ I h) fun u s1 ⟨x,H1,I1,rx,q1⟩=>ba (hv pins s1 σ H1 _ I1 q1) fun w2 s2 ⟨y,H2,I2,ry,q2⟩=>
  ba (hr pins s2 σ H2 _ I2 q2) fun ws s3 ⟨ps,H3,I3,rel,q3⟩=>⟨(x,y)::ps,H3,I3,.cons ⟨rx,ry⟩ rel,q3⟩)
def jo(kvs more:List (bp × V)):List (bp × V):=more.foldl (fun acc kv=>cL acc kv.1 kv.2) kvs
theorem KV.merge:∀ {more:List (bp × V)} {rs:List (bp × Value)} {kvs:List (bp × V)} {vs:List (bp × Value)},KV more rs→KV kvs vs→KV (jo kvs more) (merged vs rs):=by
 intro more rs kvs vs r
 unfold KV at r
 induction r generalizing kvs vs with
 | nil=>intro q; exact q
 | @cons p q ps qs h t ih=>
  intro r0
  have e:KV (cL kvs p.1 p.2) (stored vs q.1 q.2):=by
   have:=r0.put p.1 h.2
   rw[← h.1]; exact this
  exact ih e
theorem jZ:∀ (more kvs:List (bp × V)),(jo kvs more).length≤kvs.length+more.length
 | [],kvs=>by show kvs.length≤kvs.length+0; omega
 | p::r,kvs=>by
  have h1:=jZ r (cL kvs p.1 p.2);have h2:=dD kvs p.1 p.2;show (jo (cL kvs p.1 p.2) r).length≤_
  rw[List.length_cons]; omega
theorem mh{P:Program}{w:World}:∀ {kvs:List (bp × V)} {ws:List (Value × Value)},VV (kvs.map fun kv=>(kV kv.1,kv.2)) ws→∃ rs,Carries (cz P w) ws rs∧KV kvs rs
 | [],_,r=>by rw[List.map_nil]at r; cases r; exact⟨[],True.intro,.nil⟩
 | p::kvs,_,r=>by
  rw[List.map_cons]at r
  cases r with
  | @cons a b as bs h t=>
   obtain⟨rs,c,q⟩:=mh (P:=P) (w:=w) t
   obtain⟨b1,b2⟩:=b
   exact⟨(p.1,b2)::rs,⟨kL h.1,rfl,c⟩,.cons ⟨rfl,h.2⟩ q⟩
def yD(trs:List (TE × TE)):TE:=fun σ H Q=>∀ p,H p=none→iP trs σ (upd H p (.dK [])) fun ps H2=>H2 p=some (.dK [])∧∃ kvs:List (bp × V),ps=kvs.map (fun kv=>(kV kv.1,kv.2))∧kvs.length≤15∧Q (.ref p) (upd H2 p (.dK (jo [] kvs)))
theorem ze{X:Cx}{pos:Pos}{keys:List (Option Expr)}{values:List Expr}{trs:List (TE × TE)}(h:PPs X pos keys values trs)(hall:keys.all (·.isSome)=true)(hl:keys.length=values.length)(h0:keys≠[])
  (h15:keys.length≤15):PE X (.Dict keys values pos) (yD trs):=by
 intro pins s σ H Q I q
 have hn:=I.hok.fresh (Nat.le_refl s.heap.objs.size);have I1:=I.laid (a:=s.heap.objs.size) (o:=.dK []) (h':=s.heap.push { cls:=.type "dict", data:=.dict #[] }) (t':=s.toks) (fun _ _ q=>Heap.get?_push_of_some _ q) (Nat.le_refl _) (p8 s.heap I.big)
 refine wpAny_Dict_walk (knd:=cz X.prog X.w) hall hl h0 h15 (ba (h pins _ σ _ _ I1 (q _ hn)) fun ws s2 ⟨ps,H2,I2,rel,e,kvs,ep,lk,q2⟩=>?_)
 subst ep;obtain⟨rs,c,rk⟩:=mh (P:=X.prog) (w:=X.w) rel
 obtain⟨z,hd,vs0,r0,dd⟩:=yH I2.hok e
 cases r0;refine⟨rs,c,dd,fun h' dd' hs=>⟨.ref s.heap.objs.size,_,?_,rfl,q2⟩⟩
 have hz:(jo [] kvs).length≤sizeLine:=by
  have h1:=jZ kvs [];rw[List.length_nil]at h1
  rw[sizeLine_eq]; omega
 have he:∃ q,h'.get? s.heap.objs.size=some q:=let ⟨q,_,_,hq,_⟩:=dd'; ⟨q,hq⟩
 exact gn I2 (by rw[e]; exact True.intro) hs he (wj hz hd (rk.merge .nil) dd')
structure M1 (X:Cx) (o:Expr) (m:Str) (apos:Pos) (e:Expr) (cpos:Pos):Prop where
 base:attributeBase o m X.env (eval o X.env)=eval o X.env
 few:((backTo cpos (starEach [e] X.env)).all (fun x=>!x.1)&&(backToKw cpos (keywordEach [] X.env)).all (fun x=>x.1.isSome)
  && decide (([e]:List Expr).length+([]:List Keyword).length+(if ([]:List Keyword).isEmpty then 0 else 1)<30))=true
 line:(apos.endLine == cpos.line)=true
 trees:backTo cpos (starEach [e] X.env)=[(false,eval e X.env)]
structure M2 (X:Cx) (o:Expr) (m:Str) (apos:Pos) (e f:Expr) (cpos:Pos):Prop where
 base:attributeBase o m X.env (eval o X.env)=eval o X.env
 few:((backTo cpos (starEach [e,f] X.env)).all (fun x=>!x.1)&&(backToKw cpos (keywordEach [] X.env)).all (fun x=>x.1.isSome)
  && decide (([e,f]:List Expr).length+([]:List Keyword).length+(if ([]:List Keyword).isEmpty then 0 else 1)<30))=true
 line:(apos.endLine == cpos.line)=true
 trees:backTo cpos (starEach [e,f] X.env)=[(false,eval e X.env),(false,eval f X.env)]
section
variable{X:Cx}{pins:List (Addr × Obj)}{σ : St}{H:Hp}{s:Shared}{a:Addr}{y d:V}{u r:Value}{o:Option V}{A:Around}{E:Value→Shared→Prop}
end
section
variable{X:Cx}{o e f:Expr}{apos cpos:Pos}{td ty tx:TE}
end
section
variable{X:Cx}{pins:List (Addr × Obj)}{σ : St}{H:Hp}{s:Shared}{a:Addr}{kvs:List (bp × V)}{A:Around}{E:Value→Shared→Prop}
end
section
variable{X:Cx}{pins:List (Addr × Obj)}{σ : St}{H:Hp}{s:Shared}{a:Addr}{y:V}{u:Value}{A:Around}{E:Value→Shared→Prop}
end
end L2
namespace Att
open PySem PySem.W PySem.Calls PyProof.Rows
theorem mr{P:Params}{h:Heap}:∀ (ns:List Int) (vs:List Value),WellAll P h vs (ns.map WData.int)→IntsAre vs ns:=by
 intro ns
 induction ns with
 | nil=>
  intro vs w
  rw[List.map_nil]at w
  cases w;exact .nil
 | cons n ns ih=>
  intro vs w
  rw[List.map_cons]at w
  cases w with
  | cons a b=>
   cases a;exact .cons _ _ (ih _ b)
theorem vV{l:OpenLaw}{n:Nat}(hn:l.most=some n){P:Params}{h:Heap}{args:List WData}{vals:List Value}
  (hpre:l.row.toRowW.claim.pre args=true) (hwl:WellAll P h vals args) :
  ∃ a vs ns,vals=[Value.ref a]∧args=[WData.list (ns.map WData.int)]∧h.get? a=some { cls:=.type "list", data:=.seq vs.toArray }∧IntsAre vs ns∧ns.length≤n:=by
 have hsh:WShape.hasAll [] args [.list .int]=true:=(pre_splitW hpre).1
 have hc:l.pre.holds [] { args:=args }=true:=(pre_splitW hpre).2
 obtain⟨d,r,rfl,h1,h2⟩:=hasAllW_cons hsh
 obtain rfl:=hasAllW_nil h2
 obtain⟨xs,rfl,h3⟩:=hasW_list h1
 obtain⟨ns,rfl⟩:=items_int h3
 have hlen:ns.length≤n:=by
  unfold OpenLaw.pre at hc
  have h4:(WTm.not (.lt (.lit (.int (n:Int))) (.len (.arg 0)))).holds [] { args:=[.list (ns.map .int)] }=true:=by
   have h4:=(holds_andW hc).1;rw[hn]at h4
   exact h4
  have h5:=condW_of h4 (w_not (w_lt w_lit (w_len_list (w_arg rfl))));rw[List.length_map]at h5
  refine Nat.le_of_not_lt fun q=>?_
  have q':(n:Int)<((ns.length:Nat):Int):=by omega
  first
   | (rw[decide_eq_true q']at h5; exact absurd h5 (by decide))
   | (simp at h5; omega)
 cases hwl with
 | cons w1 w2=>
  cases w2
  cases w1 with
  | list ho hall=>exact⟨_,_,ns,rfl,rfl,ho,mr ns _ hall,hlen⟩
theorem vX(l:OpenLaw)(args:List WData):l.row.toRowW.claim.post args (.bool true) args=true:=
 postW_of (r:=l.row.toRowW) (X:=(true == true))
  (show WShape.has [] (.bool true) .bool=true by first | rfl | decide | simp[WShape.has,WShape.arms,WShape.armsAll])
  (show (WTm.eq .res (.lit (.bool true))).value [] { args:=args,res:=some (.bool true),after:=args }=some (.bool (true == true)) from w_eq_bool (w_res rfl) w_lit) rfl
theorem attach_call{l:OpenLaw}{n:Nat}{q:Program}{loose:List Str}{XP:(Str→Option Value)→Heap→Prop}{YP:World→Heap→Prop}{d:DefRec}
  (hn:l.most=some n) (hdf:d.params.defaults=[])
  (call:∀ (w:World) (s₀ s₁:Shared) (mg mb:Str→Option Value) (fa:Addr) (o:Obj) (pm cd doc:Value) (a:Addr) (vs:List Value) (ns:List Int),
   Ground q loose [] XP w s₀ mg mb s₁.heap→YP w s₁.heap→
   s₁.heap.get? fa=some o→o.data = .func (docDef d.name d.params d.body d.scope pm cd doc)→s₁.heap.CodeRec cd d.name→mg d.name=some (.ref fa)→
   s₁.heap.get? a=some { cls:=.type "list", data:=.seq vs.toArray }→IntsAre vs ns→ns.length≤n→s₁.gens = #[]→
   codeAny (model l.prog w) callerA (.call (.ref fa) ⟨[.ref a],[]⟩) (fun r s'=>r = .ok (.ret (.bool true))∧OldK s₁.heap s'.heap∧s'.os=s₁.os∧AllBare s'.gens) s₁) :
  WalkO q loose XP YP l.row.toRowW d [] (fun f vs=>PySem.call f vs):=by
 intro w s₀ s₁ mg mb G Y fa o pm cd doc dV kV ho hd hcd hD hmg hg args vals as hpre hlay hrd hwl hlo
 obtain rfl:dV = .none:=Dflts.none hD hdf
 obtain rfl:kV = .none:=Dflts.noKw hD
 obtain⟨a,vs,ns,rfl,rfl,hobj,hints,hlen⟩:=vV hn hpre hwl
 refine enter_call (codeAny_mono (call w s₀ s₁ mg mb fa o pm cd doc a vs ns G Y ho (fd_plain hd) hcd hmg hobj hints hlen hg) fun r s' hq=>?_)
 obtain⟨rfl,h2,h3,h4⟩:=hq
 exact⟨.inl ⟨.bool true,.bool true,[],rfl,fun _=>rfl,.bool true,vX l _,fun _=>⟨List.Pairwise.nil,fun _ hm=>(nomatch hm)⟩⟩,h2,h3,h4⟩
section
variable{prog:Program}{w:World}{A:Around}{E:Value→Shared→Prop}{s:Shared}{K:Frag}
end
end Att
namespace L2
open PySem PySem.Spec PyProof.Rows
theorem nZ:∀ {vs:List Value} {ns:List Int},IntsAre vs ns→Vals (ns.map V.int) vs
 | _,_,.nil=>.nil
 | _,_,.cons n t h=>.cons ⟨t,rfl⟩ (nZ h)
def xx(H:Hp):Prop:=∀ b,H b=none∨∃ o xs,H b=some (.frz o (.lst xs))
theorem yd{P:Program}{w:World}{K:PySem.W.Frag}{mg mb:Str→Option Value}{CX:j5}{k:Nat}{fa a:Addr}{fd:FuncData}{x:Str}{sp:Sp}{s₁:Shared}{vs:List Value}{ns:List Int}
  (KX:K.In s₁.heap) (hns:s₁.heap.Ns mainGlobals mg) (hb:s₁.heap.Ns builtinsNs mb) (hbb:∀ x:Str,x ≠ "__name__" → mb x=bootBuiltins x) (hlim:s₁.heap.NoLimit) (hg:s₁.gens = #[])
  (ha:s₁.heap.get? a=some { cls:=.type "list", data:=.seq vs.toArray }) (hi:IntsAre vs ns) (hl:ns.length≤sizeLine) (hr:Room k callerA)
  (F:∀ base:Heap,K.In base→base.Ns mainGlobals mg→iV P w K mg base CX k fa fd [x] sp) (hbind:∀ (s:Shared) (u:Value),BindsTo s fd ⟨[u],[]⟩ [(x,u)])
  (hsp:∀ H:Hp,xx H→SqL K H a (ns.map V.int)→sp [.ref a] H (fun v _=>v = .bl true) fun _ _ _=>False)
  (hCX:∀ H e s',CX [] H s₁ (fun _ _ _=>False) e s'→False) :
  codeAny (model P w) callerA (.call (.ref fa) ⟨[.ref a],[]⟩) (fun r s'=>r = .ok (.ret (.bool true))∧OldK s₁.heap s'.heap∧s'.os=s₁.os∧AllBare s'.gens) s₁:=by
 have rv:=nZ hi;have lenV:=hi.length
 -- from an abstract heap in which nothing but the script may be tracked
 have core:∀ H:Hp,xx H→SqL K H a (ns.map V.int)→HOk P w H s₁.heap→(∀ b,H b≠none→b=a)→(H a≠none→K.lookup a=none)→
   codeAny (model P w) callerA (.call (.ref fa) ⟨[.ref a],[]⟩) (fun r s'=>r = .ok (.ret (.bool true))∧OldK s₁.heap s'.heap∧s'.os=s₁.os∧AllBare s'.gens) s₁:=by
  intro H hO hS hok hA hK
  have base_of:∀ {b:Addr} {o:Obj},s₁.heap.get? b=some o→H b=none→(jW s₁.heap H).get? b=some o:=fun e n=>wJ e n
  have noA:∀ {b:Addr} {o:Obj} {es:Array DictEntry} {ep:Nat},s₁.heap.get? b=some o→o.data = .dict es ep→H b=none:=fun {b o es ep} e d=>by
   cases q:H b with
   | none=>rfl
   | some u=>
    have e':b=a:=hA b (by rw[q]; simp)
    subst e';rw[ha]at e; cases e
    have d':Data.seq vs.toArray _=Data.dict es ep:=d
    cases d'
  have nsK:∀ {b:Addr} {m:Str→Option Value},s₁.heap.Ns b m→(jW s₁.heap H).Ns b m:=fun {b m} ⟨o,es,ep,e,d,r⟩=>⟨o,es,ep,base_of e (noA e d),d,r⟩
  have hKb:K.In (jW s₁.heap H):=fun b o e=>base_of (KX b o e) (by
   cases q:H b with
   | none=>rfl
   | some u=>
    have e':b=a:=hA b (by rw[q]; simp)
    subst e';rw[hK (by rw[q]; simp)]at e; cases e)
  have hM:Mod K mg (jW s₁.heap H):=⟨hKb,nsK hns,⟨mb,nsK hb,hbb⟩,let ⟨mc,h1,h2⟩:=hlim; ⟨mc,nsK h1,h2⟩⟩
  have e0:ue P w K mg (jW s₁.heap H) callerA [] s₁ H:=⟨rfl,hM,fun b o e=>zC e,Nat.le_of_eq (vH _ _),trivial,fun b hb=>absurd (show b∈([]:List Addr) from hb) (by simp),hok,.of_eq hg⟩
  refine codeAny_mono ((F _ hKb (nsK hns)).run callerA [] s₁ H ⟨[.ref a],[]⟩ [.ref a] [.ref a] _ _ hr e0 (hbind s₁ (.ref a)) (.cons rfl .nil) (hsp H hO hS)) fun r s' h=>?_
  cases r with
  | error e=>exact(hCX H e s' h).elim
  | ok fl=>
   cases fl with
   | next=>exact False.elim h
   | brk=>exact False.elim h
   | cont=>exact False.elim h
   | ret u=>
    obtain⟨v,H',os,bare,un,hok',r',q⟩:=h
    have q':v = .bl true:=q
    subst q';obtain rfl:u=Value.bool true:=r'
    refine⟨rfl,OldK.of_keep fun b o e=>?_,os,bare⟩
    cases q:H b with
    | none=>exact un.keep b o e q (by intro z; exact absurd (show b∈([]:List Addr) from z) (by simp)) (by simp)
    | some u=>
     rcases hO b with z | ⟨ob,xs,z⟩
     ·rw[q]at z; cases z
     ·have z2:=un.frzs b ob _ z
      obtain⟨e1,_⟩:=hok b _ z
      obtain⟨e2,_⟩:=hok' b _ z2
      rw[e]at e1; cases e1
      exact e2
 cases hk:K.lookup a with
 | some o=>
  -- the script is one of the module's own objects
  have e:=KX a o hk;rw[ha]at e
  cases e;refine core (fun _=>none) (fun _=>.inl rfl) (.inr ⟨_,vs.toArray,_,hk,rfl,rfl,rfl,by rw[List.size_toArray,lenV]; exact hl,by simpa using rv⟩) (fun b u z=>by have z':(none:Option HO)=some u:=z; cases z') (fun b z=>absurd rfl z) fun z=>absurd rfl z
 | none=>
  refine core (fun b=>if b=a then some (.frz { cls:=.type "list", data:=.seq vs.toArray } (.lst (ns.map V.int))) else none) (fun b=>?_) (.inl (.inr ⟨{ cls:=.type "list", data:=.seq vs.toArray },if_pos rfl⟩)) (fun b u z=>?_) (fun b z=>?_) fun _=>hk
  ·by_cases hb:b=a
   ·exact .inr ⟨_,_,if_pos hb⟩
   ·exact .inl (if_neg hb)
  ·by_cases hb:b=a
   ·have z':=(if_pos hb).symm.trans z
    cases z';subst hb;exact⟨ha,by rw[List.length_map]; exact hl,vs,_,rv,ha⟩
   ·have z':=(if_neg hb).symm.trans z
    cases z'
  ·by_cases hb:b=a
   ·exact hb
   ·exact absurd (if_neg hb) z
end L2
namespace L2
open PySem PySem.Spec PyProof.Rows
abbrev KOf {K:PySem.W.Frag} {h:Heap} (_:K.In h):PySem.W.Frag:=K
theorem walk_of{l:PySem.W.OpenLaw}{n k:Nat}{q:Program}{loose:List Str}{XP:(Str→Option Value)→Heap→Prop}{YP:World→Heap→Prop}{d:DefRec}{K:Params→PySem.W.Frag}{CX:World→j5}{sp:World→Sp}{x:Str}
  (hn:l.most=some n) (hn2:n≤sizeLine) (hdf:d.params.defaults=[]) (hr:Room k callerA)
  (hY:∀ (w:World) (h:Heap),YP w h→(K w.params).In h)
  (F:∀ (w:World) (mg:Str→Option Value) (fa:Addr) (h:Heap),(K w.params).In h→h.Ns mainGlobals mg→mg d.name=some (.ref fa)→
   ∃ fd:FuncData,(∀ (s:Shared) (u:Value),BindsTo s fd ⟨[u],[]⟩ [(x,u)])∧
    ∀ base:Heap,(K w.params).In base→base.Ns mainGlobals mg→iV l.prog w (K w.params) mg base (CX w) k fa fd [x] (sp w))
  (hsp:∀ (w:World) (H:Hp) (a:Addr) (ns:List Int),ns.length≤n→xx H→SqL (K w.params) H a (ns.map V.int)→sp w [.ref a] H (fun v _=>v = .bl true) fun _ _ _=>False)
  (hCX:∀ (w:World) (H:Hp) (s:Shared) (e:Value) (s':Shared),CX w [] H s (fun _ _ _=>False) e s'→False) :
  PySem.W.WalkO q loose XP YP l.row.toRowW d [] (fun f vs=>PySem.call f vs):=by
 refine Att.attach_call hn hdf fun w s₀ s₁ mg mb fa o pm cd doc a vs ns G Y ho hd hcd hmg hobj hints hlen hg=>?_
 have KX:=hY w _ Y;obtain⟨fd,hb,hF⟩:=F w mg fa _ KX G.T.g hmg
 exact yd KX G.T.g G.T.b G.T.builtins G.T.nolimit hg hobj hints (Nat.le_trans hlen hn2) hr hF hb (fun H hO hS=>hsp w H a ns hlen hO hS) fun H e s'=>hCX w H s₁ e s'
end L2
/- THE LAST THEOREM (shape; LID, My.* are yours):
   My.Adr: a structure of the addresses that your layer names (classes,functions); My.Txt K t: a structure (Prop) of the equations over K;
   My.txt_mk:{K} {implicit addresses ..} (e1:nsIn K mainGlobals "law" = some (some (.ref f))) (e2:K.lookup f=some ⟨oc,od,.func (fnOf "law" "law" params body scope dV kV doc pm an cdv ct),sl⟩) (e3:codeIn K cdv "law" = true) .. : ∃ t,My.Txt K t
set_option maxRecDepth 100000 in
set_option maxHeartbeats 0 in
theorem PySem.Challenge.cw_LID_holds : PySem.Challenge.rw_LID.Holds := by
 w_on; o_law; k_head; (case hw=>w_witness2)
 k_fill
 refine L2.walk_of (l:=PySem.Challenge.rw_LID) (n:=63) (k:=40) (x := "script") (CX:=fun w=>..) (sp:=fun _=>My.sp_law) rfl (by decide) rfl ⟨rfl,by decide,by decide⟩ (fun w h Y=>PySem.W.kIn_of Y) ?F ?S ?C
 case F=>
  intro w mg fa h KX G hmg
  have T:∃ t,My.Txt (L2.KOf KX) t:=by
   dsimp only[L2.KOf]                          -- K must stand as «<heap const> w.params» for k_is
   refine' My.txt_mk ?e1 ?e2 ?e3 ..
   (case e1=>PySem.W.k_is)                    -- in the order: a name -> its address -> its object -> its parts
   (case e2=>PySem.W.k_is)
   ..
  obtain⟨t,T⟩:=T
  have e0:=hmg.symm.trans (PySem.W.mg_of KX G T.law)
  cases e0                                       -- fa is the law's own address
  exact⟨_,fun s u=>.of_eq rfl,fun base kb nb=>My.law_fn T kb nb⟩     -- if «.of_eq rfl» comes too early: refine' ⟨_,?b,fun base kb nb=>My.law_fn T kb nb⟩; exact fun s u=>.of_eq rfl
 case S=>exact fun w H a ns hl hO hS=>..
 case C=>exact ..
(the tactic k_is has no namespace: write k_is) -/
namespace L2
open PySem PySem.Spec PyProof.Rows
abbrev kY:j5:=fun _ _ _ _ _ _=>False
abbrev E0:XK:=fun _ _ _=>False
theorem yP{X:Cx}:ql kY X E0:=fun _ _ _ _ _ _ _ h=>h.elim
structure Fun (K:PySem.W.Frag) (x qual:Str) (st:Stmt) (f:Addr) (fd:FuncData):Prop where
 ex:∃ (oc:Value) (od:Option Addr) (kV doc pm:Value) (an:Option Addr) (cdv ct:Value) (osl:Array (Option Value)),
  fd=PySem.W.fnOf x qual (defArgs st) (defBody st) (defScope st) .none kV doc pm an cdv ct∧K.lookup f=some ⟨oc,od,.func fd,osl⟩∧PySem.W.codeIn K cdv qual=true
 kp:PySem.W.keepIn K (.ref f)=true
section
variable{P:Program}{w:World}{K:PySem.W.Frag}{mg:Str→Option Value}{base:Heap}
theorem Fun.ok{x qual:Str}{st:Stmt}{f:Addr}{fd:FuncData}{N ps:List Str}{k:Nat}{sp:Sp}(F:Fun K x qual st f fd)(S:aU N ps (defScope st))(len:∀ vs H Q E,sp vs H Q E→vs.length=ps.length)
  (hbody:∀ (cdv:Value) (A:Around) (outer:List Env) (s:Shared) (H:Hp) (vs:List V) (Q:VK) (E:XK),Room k (A.deeper (envOfC qual (defScope st) s.heap.objs.size f cdv))→sp vs H Q E→
   ∃ t,PSs (lO kY P w K mg base N qual (defScope st) f cdv A outer s H E).nox (defBody st) t∧t { nx:=fun _ H'=>Q .non H',rt:=Q } (start N vs) H):iV P w K mg base kY (k+1) f fd ps sp:=by
 obtain⟨oc,od,kV,doc,pm,an,cdv,ct,osl,rfl,lk,hcd⟩:=F.ex
 refine CD lk hcd S len fun A outer s H vs Q E hr hsp=>?_
 obtain⟨t,h,q⟩:=hbody cdv A outer s H vs Q E hr hsp
 exact⟨t,h.nox,q⟩
theorem Fun.binds{x qual:Str}{st:Stmt}{f:Addr}{fd:FuncData}{ps:List Str}(F:Fun K x qual st f fd)
  (h:∀ (kV doc pm:Value) (an:Option Addr) (cdv ct:Value) (us:List Value),us.length=ps.length→bindArgs (PySem.W.fnOf x qual (defArgs st) (defBody st) (defScope st) .none kV doc pm an cdv ct) ⟨us,[]⟩=pure (ps.zip us)):Binds K fd ps []:=by
 obtain⟨oc,od,kV,doc,pm,an,cdv,ct,osl,rfl,lk,hcd⟩:=F.ex
 exact .all (h kV doc pm an cdv ct)
theorem bj{x qual:Str}{st:Stmt}{f:Addr}{oc:Value}{od an:Option Addr}{osl:Array (Option Value)}{kV doc pm cdv ct:Value}(l:K.lookup f=some ⟨oc,od,.func (PySem.W.fnOf x qual (defArgs st) (defBody st) (defScope st) .none kV doc pm an cdv ct),osl⟩)
  (c:PySem.W.codeIn K cdv qual=true) (k:PySem.W.keepIn K (.ref f)=true):Fun K x qual st f (PySem.W.fnOf x qual (defArgs st) (defBody st) (defScope st) .none kV doc pm an cdv ct):=⟨⟨oc,od,kV,doc,pm,an,cdv,ct,osl,rfl,l,c⟩,k⟩
end
section
variable{X:Cx}
theorem pv(i:Nat){x:Str}{pos:Pos}(hN:X.N[i]? = some x:=by rfl)(hv:ap X.env.scope x:=by first | exact vSs (by decide +kernel) | exact Or.inl rfl)(hd:(x == ("__debug__" : Str))=false:=by decide)
  (hcd:(x == ("__classdict__" : Str))=false:=by decide):PE X (.Name x pos) (mY i):=vd hN hv hd hcd
end
theorem bh{c A B:Prop}[Decidable c](h1:c→A)(h2:¬ c→B):if c then A else B:=by
 by_cases h:c
 ·rw[if_pos h]
  exact h1 h
 ·rw[if_neg h]
  exact h2 h
def Same(H H':Hp):Prop:=∀ b o,H b=some o→H' b=some o
theorem Same.refl(H:Hp):Same H H:=fun _ _ h=>h
theorem Same.trans{H H1 H2:Hp}(a:Same H H1)(b:Same H1 H2):Same H H2:=fun c o h=>b c o (a c o h)
theorem Same.free{H H':Hp}(e:Same H H'){l:Addr}(h:H' l=Option.none):H l=Option.none:=by
 cases q:H l with
 | none=>rfl
 | some o=>
  rw[e l o q]at h
  cases h
theorem Same.seq{K:PySem.W.Frag}{H H':Hp}{a:Addr}{xs:List V}(e:Same H H')(h:SqL K H a xs):SqL K H' a xs:=by
 rcases h with (h | ⟨o,h⟩) | h
 ·exact .inl (.inl (e _ _ h))
 ·exact .inl (.inr ⟨o,e _ _ h⟩)
 ·exact .inr h
section
variable{κ : Type}[DecidableEq κ]
end
end L2
namespace L2
open PySem PySem.Spec PyProof.Rows
def cv(cells:List (Str × Addr)):List (Str × NameKind)→List (Str × Addr)→List (Str × Addr)
 | [],acc=>acc
 | (n,k)::r,acc=>cv cells r (if k == .free then (n,(cells.lookup n).getD 0)::acc else acc)
theorem qA{env:Env}{f:(Str × NameKind)→List (Str × Addr)→Sem (ForInStep (List (Str × Addr)))}
  (hf:∀ n k cs,f (n,k) cs=if (k == NameKind.free)=true then (cellOf env n >>= fun c=>pure (ForInStep.yield ((n,c)::cs))) else pure (ForInStep.yield cs)) :
  ∀ (names:List (Str × NameKind)) (acc:List (Str × Addr)),(∀ x∈names,x.2 = .free→∃ c,env.cells.lookup x.1=some c)→
  forIn names acc f=(pure (cv env.cells names acc):Sem _)
 | [],acc,_=>rfl
 | (n,k)::r,acc,h=>by
  rw[List.forIn_cons,hf];have ih:=fun acc=>qA hf r acc fun x hx=>h x (List.mem_cons_of_mem _ hx)
  by_cases hk:(k == NameKind.free)=true
  ·rw[if_pos hk]
   obtain⟨c,hc⟩:=h (n,k) List.mem_cons_self (by simpa using hk)
   have e:cellOf env n=pure c:=by unfold cellOf; rw[hc]
   rw[e,pure_bind,pure_bind];show forIn r ((n,c)::acc) f=_
   rw[ih];show _=pure (cv env.cells r (if (k == NameKind.free)=true then (n,(env.cells.lookup n).getD 0)::acc else acc))
   rw[if_pos hk,hc]; rfl
  ·rw[if_neg hk,pure_bind]
   show forIn r acc f=_
   rw[ih];show _=pure (cv env.cells r (if (k == NameKind.free)=true then (n,(env.cells.lookup n).getD 0)::acc else acc))
   rw[if_neg hk]
theorem gL{env:Env}{scope:Scope}(h:∀ x∈scope.names,x.2 = .free→∃ c,env.cells.lookup x.1=some c):closureFor scope env=pure (cv env.cells scope.names []):=by
 unfold closureFor;show (forIn scope.names ([]:List (Str × Addr)) _ >>= fun cs=>pure cs)=_
 rw[qA (env:=env) (fun n k cs=>?_) _ _ h]
 ·rfl
 ·rfl
theorem jj{cells:List (Str × Addr)}:∀ {names:List (Str × NameKind)} {acc:List (Str × Addr)} {x:Str} {c:Addr},(∀ y∈names,y.2 = .free→∃ c,cells.lookup y.1=some c)→
  (∀ y c,acc.lookup y=some c→cells.lookup y=some c)→(cv cells names acc).lookup x=some c→cells.lookup x=some c
 | [],acc,x,c,_,ha,h=>ha x c h
 | (n,k)::r,acc,x,c,hn,ha,h=>by
  refine jj (names:=r) (fun y hy=>hn y (List.mem_cons_of_mem _ hy)) ?_ h
  intro y d hy
  by_cases hk:(k == NameKind.free)=true
  ·rw[if_pos hk]at hy
   obtain⟨e,he⟩:=hn (n,k) List.mem_cons_self (by simpa using hk)
   have he':cells.lookup n=some e:=he
   rw[List.lookup_cons]at hy
   by_cases hyn:(y == n)=true
   ·rw[hyn]at hy
    have hy':(cells.lookup n).getD 0=d:=Option.some.inj hy
    rw[he']at hy'
    have e1:y=n:=by simpa using hyn
    rw[e1,he',← hy']; rfl
   ·have hf:(y == n)=false:=by simpa using hyn
    rw[hf]at hy
    exact ha y d hy
  ·rw[if_neg hk]at hy
   exact ha y d hy
theorem lZ{cells:List (Str × Addr)}:∀ {names:List (Str × NameKind)} {acc:List (Str × Addr)} {x:Str},(∃ c,acc.lookup x=some c)→∃ c,(cv cells names acc).lookup x=some c
 | [],_,_,h=>h
 | (n,k)::r,acc,x,h=>by
  refine lZ (names:=r) ?_
  by_cases hk:(k == NameKind.free)=true
  ·rw[if_pos hk,List.lookup_cons]
   cases hx:(x == n) with
   | true=>exact⟨_,rfl⟩
   | false=>exact h
  ·rw[if_neg hk]; exact h
theorem fu{cells:List (Str × Addr)}:∀ {names:List (Str × NameKind)} {acc:List (Str × Addr)} {x:Str},(x,NameKind.free)∈names→∃ c,(cv cells names acc).lookup x=some c
 | (n,k)::r,acc,x,h=>by
  rcases List.mem_cons.mp h with e | h
  ·have e1:x=n:=congrArg (·.1) e
   have e2:NameKind.free=k:=congrArg (·.2) e
   subst e1 e2;refine lZ (names:=r) ?_
   rw[if_pos (by rfl),List.lookup_cons]
   rw[beq_self_eq_true];exact⟨_,rfl⟩
  ·exact fu (names:=r) h
theorem dI{env:Env}:∀ {names:List (Str × NameKind)} {x:Str} {k:NameKind},(∀ y∈names,y.2 ≠ .cell)→
  (names.map fun (n,k)=>if (k == NameKind.free&&env.scope.kind == .function&&env.kindOf n == some .cell) then (n,NameKind.cell) else (n,k)).lookup x=some k→(k = .cell∨k = .free)→(x,NameKind.free)∈names
 | [],_,_,_,h,_=>by simp at h
 | (n,k0)::r,x,k,hc,h,hk=>by
  have ih:=@dI env r x k (fun y hy=>hc y (List.mem_cons_of_mem _ hy))
  rw[List.map_cons]at h
  by_cases hf:(k0 == NameKind.free&&env.scope.kind == .function&&env.kindOf n == some .cell)=true
  ·have hk0:k0 = .free:=by
    have:(k0 == NameKind.free)=true:=by
     rw[Bool.and_eq_true,Bool.and_eq_true]at hf; exact hf.1.1
    simpa using this
   dsimp only at h
   rw[if_pos hf,List.lookup_cons]at h
   cases hx:(x == n) with
   | true=>
    have:x=n:=by simpa using hx
    rw[this,hk0]; exact List.mem_cons_self
   | false=>rw[hx]at h; exact List.mem_cons_of_mem _ (ih h hk)
  ·dsimp only at h
   rw[if_neg hf,List.lookup_cons]at h
   cases hx:(x == n) with
   | true=>
    rw[hx]at h
    have e:k0=k:=Option.some.inj h
    have:x=n:=by simpa using hx
    rcases hk with z | z
    ·exact absurd (e.trans z) (hc (n,k0) List.mem_cons_self)
    ·rw[this,e,z]; exact List.mem_cons_self
   | false=>rw[hx]at h; exact List.mem_cons_of_mem _ (ih h hk)
def bI(X:Cx)(N0 T:List Str)(scope:Scope)(C:Addr)(fp:List Addr)(s:Shared)(H:Hp):Cx:=
 { X with N:=N0++T,s₀:=s,H₀:=H,env:=compEnvC scope (cv X.env.cells scope.names []) C X.env,outer:=X.stack,stack:=X.stack,ex:=fp,fn:=fun _=>false,pn:=[],xe:=fun _ _=>False }
structure jd (X:Cx) (N0 T:List Str) (scope:Scope):Prop where
 kind:scope.kind = .function
 nocell:∀ y∈scope.names,y.2 ≠ .cell
 names:∀ y∈scope.names,y.2 = .local→scope.names.lookup y.1=some .local
 free:∀ y∈scope.names,y.2 = .free→X.env.kindOf y.1=some .cell∨X.env.kindOf y.1=some .free
 apart:∀ y∈scope.names,y.2 = .local→y.1∉N0
 len0:N0.length=X.N.length
 same:∀ (i:Nat) (x:Str) (k:NameKind),N0[i]? = some x→(x,k)∈scope.names→X.N[i]? = some x
theorem fI{prog:Program}{w:World}{A:Around}{R:Result→Shared→Prop}{s:Shared}{elt target iter:Expr}{ifs:List Expr}{scope:Scope}{pos:Pos}{it acc:Value}{env:Env}(I:Nat→Shared→Prop)
  (turn:∀ n s,I n s→wpAny (model prog w) A (pyNext it) (fun r s₁=>match r with
   | none=>R (.ok .next) s₁
   | some v=>wpAny (model prog w) A (letOwnedTupleGo target it v) (fun _ s₀=>wpAny (model prog w) A (assign target env v) (fun _ s₂=>
     wpAny (model prog w) A (forIn ifs true fun c r=>if r=true then do let ok ← isTrue c env (eval c env); pure (ForInStep.yield ok) else pure (ForInStep.yield r)) (fun ok s₃=>
      if ok=true then wpAny (model prog w) A (eval elt env) (fun x s₄=>
       wpAny (model prog w) A (call (.builtin "list.append") [acc,x]) (fun _ s₅=>∃ m,m<n∧I m s₅) (fun _ _=>False) s₄) (fun _ _=>False) s₃
      else ∃ m,m<n∧I m s₃) (fun _ _=>False) s₂) (fun _ _=>False) s₀) (fun _ _=>False) s₁) (fun _ _=>False) s)
  (n:Nat) (h:I n s) :
  codeAny (model prog w) A (.compLoop (.ListComp elt [⟨target,iter,ifs,0⟩] scope pos) 0 it acc env) R s:=by
 refine codeAny_loop rfl I (fun n s hI=>?_) n h
 show wpAny _ A ((compTurn (.ListComp elt [⟨target,iter,ifs,0⟩] scope pos) 0 it acc env).onRaise (fun x=>do noteFrame x env; theTreesLotGoes x)) _ _ s
 refine wpAny_noted ?_
 rw[compTurn_list];refine wpAny_bind (wpAny_standAt (wpAny_bind (wpAny_mono (turn n s hI) (fun r s₁ h₁=>?_) fun _ _ h'=>h'.elim)))
 cases r with
 | none=>exact wpAny_pure h₁
 | some v=>
  refine wpAny_bind (wpAny_mono h₁ (fun _ s₀ h₀=>?_) fun _ _ h'=>h'.elim)
  refine wpAny_bind (wpAny_mono h₀ (fun _ s₂ h₂=>wpAny_bind (wpAny_mono h₂ (fun ok s₃ h₃=>?_) fun _ _ h'=>h'.elim)) fun _ _ h'=>h'.elim)
  cases ok with
  | false=>exact wpAny_pure ⟨rfl,h₃⟩
  | true=>
   exact wpAny_bind (wpAny_bind (wpAny_mono h₃ (fun x s₄ h₄=>wpAny_bind (wpAny_mono h₄ (fun _ s₅ h₅=>wpAny_pure (wpAny_pure ⟨rfl,h₅⟩)) fun _ _ h'=>h'.elim)) fun _ _ h'=>h'.elim))
def PIfs(X:Cx)(ifs:List Expr)(tc:TT):Prop:=
 ∀ (pins:List (Addr × Obj)) (s:Shared) (σ : St) (H:Hp) (Q:Bool→Hp→Prop),Inv X pins σ H s→tc σ H Q→
  wpAny (model X.prog X.w) X.A (forIn ifs true fun c r=>if r=true then do let ok ← isTrue c X.env (eval c X.env); pure (ForInStep.yield ok) else pure (ForInStep.yield r)) (TP X pins σ Q) X.xe s
def lm:TT:=fun _ H Q=>Q true H
theorem cD{X:Cx}:PIfs X [] lm:=fun _ _ _ H _ I h=>wpAny_tests_nil ⟨H,I,h⟩
theorem wB{X:Cx}{c:Expr}{tc:TT}(hc:PT X c tc):PIfs X [c] tc:=fun pins s σ H Q I h=>wpAny_tests_one (hc pins s σ H Q I h)
def n_(g:TG)(n:Nat):Prop:=∀ x σ H Q,g x σ H Q→g x σ H fun σ' H'=>Q σ' H'∧σ'.length=σ.length∧∀ k,k<n→σ'[k]? = σ[k]?
def uo(g:fH)(n:Nat):Prop:=∀ x σ H Q,g x σ H Q→g x σ H fun σ' H'=>Q σ' H'∧σ'.length=σ.length∧∀ k,k<n→σ'[k]? = σ[k]?
theorem b9{i n:Nat}(h:n≤i):n_ (jc i) n:=fun x σ H Q q=>⟨q,by simp,fun k hk=>by rw[List.getElem?_set_ne (by omega)]⟩
theorem wG{n:Nat}:uo uv n:=fun x σ H Q q=>⟨q.1,q.2,rfl,fun _ _=>rfl⟩
def um(g:TG):Prop:=∀ x σ H Q Q',(∀ σ' H',Q σ' H'→Q' σ' H')→g x σ H Q→g x σ H Q'
def mI(g:fH):Prop:=∀ x σ H Q Q',(∀ σ' H',Q σ' H'→Q' σ' H')→g x σ H Q→g x σ H Q'
theorem ni{i:Nat}:um (jc i):=fun x σ H Q Q' h q=>h _ _ q
theorem rA:mI uv:=fun x σ H Q Q' h q=>⟨q.1,h _ _ q.2⟩
theorem wF{t:TG}{u:fH}(h1:um t)(h2:mI u):mI (oI t u):=fun x σ H Q Q' h ⟨v,r,e,q⟩=>⟨v,r,e,h1 _ _ _ _ _ (fun σ' H' z=>h2 _ _ _ _ _ h z) q⟩
theorem nJ{t:TG}{u:fH}{n:Nat}(h1:n_ t n)(m1:um t)(h2:uo u n)(m2:mI u):uo (oI t u) n:=fun x σ H Q ⟨v,r,e,q⟩=>by
 refine⟨v,r,e,?_⟩
 refine m1 _ _ _ _ _ (fun σ' H' z=>?_) (h1 _ _ _ _ q)
 obtain⟨z,l1,k1⟩:=z
 exact m2 _ _ _ _ _ (fun σ2 H2 y=>⟨y.1,y.2.1.trans l1,fun k hk=>(y.2.2 k hk).trans (k1 k hk)⟩) (h2 _ _ _ _ z)
theorem zT{K:PySem.W.Frag}{m n:Nat}{t:fH}(h:uo t n):n_ (tP K m t) n:=fun x σ H Q ⟨a,xs,e,q,l,z⟩=>⟨a,xs,e,q,l,h _ _ _ _ z⟩
def fB(J:It)(g:TG)(tc:TT)(te:TE)(nT:Nat)(σ : St)(D:Addr)(Q:VK)(H:Hp):Prop:=
 ∃ W:Nat→Nat→List V→Hp→Prop,(∃ m,W 0 m [] H)∧∀ i m ys H2,W i m ys H2→
  (J.stop i H2∧Q (.ref D) H2)∨(J.go i H2∧∀ x H',J.yld i H2 x H'→g x (σ++List.replicate nT none) H' fun σ2 H3=>tc σ2 H3 fun b H4=>
   if b=true then te σ2 H4 fun y H5=>H5 D=some (.lst ys)∧ys.length<sizeLine∧∃ m',m'<m∧W (i+1) m' (ys++[y]) (upd H5 D (.lst (ys++[y]))) else ∃ m',m'<m∧W (i+1) m' ys H4)
def oQ(wi:TI)(g:TG)(tc:TT)(te:TE)(nT:Nat):TE:=fun σ H Q=>wi σ H fun J H1=>∀ D,H1 D=none→fB J g tc te nT σ D Q (upd H1 D (.lst []))
theorem HOk.sameBut{P:Program}{w:World}{H:Hp}{h h':Heap}{C:Addr}(x:HOk P w H h)(hs:Heap.SameBut C h h')(hC:H C=none):HOk P w H h':=fun a o e=>
 (x a o e).stay (fun b u hb q=>(hs.2 b (by
  rintro rfl
  rcases hb with z | z
  ·rw[z]at hC; rw[hC]at e; cases e
  ·rw[hC]at z; cases z)).trans q) (fun _ q=>q) fun _ _ q=>q
section
variable{X:Cx}{N0 T:List Str}{scope:Scope}{tg elt iter:Expr}{ifs:List Expr}{pos:Pos}{wi:TI}{g:TG}{tc:TT}{te:TE}
theorem nI{pins:List (Addr × Obj)}{σ : St}{H:Hp}{s:Shared}{E:Value→Shared→Prop}{it:Addr}{fp:List Addr}{tn:Nat→Heap→Prop}{J:It}{Q:VK}{RR:Value→Addr→Result→Shared→Prop}
  (S:jd X N0 T scope) (hc:X.calm=true)
  (hg:∀ C fp s H,PG (bI X N0 T scope C fp s H) tg g) (hfr:n_ g X.N.length) (hi:∀ C fp s H,PIfs (bI X N0 T scope C fp s H) ifs tc) (he:∀ C fp s H,PE (bI X N0 T scope C fp s H) elt te)
  (I:Inv X pins σ H s) (Tn:lH X.prog X.w X.K tg J fp it tn) (st:tn 0 s.heap) (hf:∀ b∈fp,gK X pins H b)
  (h:∀ D,H D=none→fB J g tc te T.length σ D Q (upd H D (.lst [])))
  (hRR:∀ D C s' H' m,s'.heap.Ns C m→H' C=none→C≠X.env.locals→(∀ x c,X.env.cells.lookup x=some c→c≠C)→(∀ p∈X.pn++pins,p.1≠C)→X.s₀.heap.objs.size≤C→Inv X pins σ H' s'→
   (∀ h',Heap.SameBut C s'.heap h'→Inv X pins σ H' { s' with heap:=h' })→Q (.ref D) H'→RR (.ref D) C (.ok .next) s') :
  wpAny (model X.prog X.w) X.A (newList []) (fun acc s₃=>wpAny (model X.prog X.w) X.A (newFunctionEnv scope X.env.globals (cv X.env.cells scope.names []) [] X.env.qual none .none (some X.env)) (fun cenv s₄=>
   codeAny (model X.prog X.w) X.A (.compStart (.ListComp elt [⟨tg,iter,ifs,0⟩] scope pos) 0 (.ref it) acc { cenv with scope:=relabel scope X.env }) (RR acc cenv.locals) s₄) E s₃) E s:=by
 refine wpAny_newObj_type (wpAny_newFunctionEnv S.nocell (by intro y hy; simp at hy) (fun h₁ hns₁ hsb₁=>?_) S.kind)
 dsimp only at hns₁ hsb₁ ⊢
 generalize hH2:s.heap.push { cls:=.type "list", dict:=none,data:=.seq ([]:List Value).toArray }=P2 at hns₁ hsb₁ ⊢;have hC:P2.objs.size=s.heap.objs.size+1:=by rw[← hH2,Heap.size_push]
 -- the new list D, the block's names C
 obtain⟨D,hD⟩ : ∃ D:Nat,D=s.heap.objs.size:=⟨_,rfl⟩
 obtain⟨C,hCC⟩ : ∃ C:Nat,C=P2.objs.size:=⟨_,rfl⟩
 rw[← hCC]at hns₁ hsb₁ hC ⊢
 rw[← hD]at hC ⊢
 have hDC:D≠C:=by omega
 have hDlt:D<C:=by omega
 have neD:∀ b o,s.heap.get? b=some o→b≠D:=fun b o e=>hD ▸ Nat.ne_of_lt (Heap.lt_size e)
 have neC:∀ b o,s.heap.get? b=some o→b≠C:=fun b o e=>Nat.ne_of_lt (Nat.lt_trans (hD ▸ Heap.lt_size e) hDlt)
 have old:∀ b o,s.heap.get? b=some o→h₁.get? b=some o:=fun b o e=>hsb₁.extBut b o (neC b o e) (Heap.get?_push_of_some _ (hH2 ▸ Heap.get?_push_of_some _ e))
 have hHD:H D=none:=I.hok.fresh (by omega)
 have hHC:H C=none:=I.hok.fresh (by omega)
 have dat:h₁.get? D=some { cls:=.type "list", data:=.seq ([]:List Value).toArray 0 }:=by
  refine hsb₁.extBut _ _ hDC (Heap.get?_push_of_some _ ?_)
  rw[← hH2,hD];exact Heap.get?_push_size _ rfl
 -- the block's context stands
 have hcl:∀ x c,(cv X.env.cells scope.names []).lookup x=some c→X.env.cells.lookup x=some c:=fun x c e=>
  jj (fun y hy hk=>I.ok.has y.1 (S.free y hy hk)) (fun y c z=>by simp at z) e
 have okC:(bI X N0 T scope C fp s H).Ok:=by
  refine⟨I.ok.mod,?_,I.ok.glob,I.ok.blt,?_,fun x y c e1 e2=>I.ok.inj x y c (hcl x c e1) (hcl y c e2),fun x hx=>?_,fun x c z _=>(by cases z),I.ok.hd,I.ok.frames,.inl rfl,fun b hb=>⟨?_,fun x c e=>(hf b hb).2.2.2.2.1 x c (hcl x c e)⟩,
   I.bs,?_,fun b o e hb=>?_,fun b hb z=>?_,I.stack,I.stkFree⟩
  ·show (relabel scope X.env).kind = .function
   exact S.kind
  ·show s.heap.objs.size≤C
   omega
  ·have hx':(relabel scope X.env).names.lookup x=some .cell∨(relabel scope X.env).names.lookup x=some .free:=hx
   have m:(x,NameKind.free)∈scope.names:=by
    rcases hx' with z | z
    ·exact dI S.nocell z (.inl rfl)
    ·exact dI S.nocell z (.inr rfl)
   exact fu m
  ·show b≠C
   obtain⟨o,e,_⟩:=Tn.obj 0 _ st b hb
   exact neC b o e
  ·exact Nat.le_trans I.ok.bsz I.sz
  ·obtain⟨_,_,_,z,_⟩:=hf b hb
   rcases z with z | z
   ·exact I.ok.noex b o e z
   ·exact absurd (Nat.lt_of_lt_of_le (Nat.lt_of_lt_of_le (Heap.lt_size e) I.ok.bsz) z) (Nat.lt_irrefl _)
  ·obtain⟨_,z1,z2,_⟩:=hf b hb
   rcases List.mem_cons.mp (I.stkSub b z) with q | q
   ·exact z1 q
   ·exact z2 q
 have I1:Inv (bI X N0 T scope C fp s H) [] (σ++List.replicate T.length none) (upd H D (.lst [])) { s with heap:=h₁,toks:=s.toks+([]:List (Str × Value)).length }:=by
  refine⟨okC,rfl,I.bare,Un.laid (h:=s.heap) old (by omega) hHD,⟨_,hns₁,fun i x v e1 e2 e3=>?_⟩,fun x c e=>?_,?_,fun x c e=>?_,fun p hp=>(by simp[bI]at hp),I.hok.laid old (by omega) ?_,?_⟩
  ·have e1':(N0++T)[i]? = some x:=e1
   have hl:=I.len;have hl0:=S.len0
   have hi:i<σ.length:=by
    rcases Nat.lt_or_ge i σ.length with z | z
    ·exact z
    ·rw[List.getElem?_append_right z]at e2
     rw[List.getElem?_replicate]at e2
     split at e2 <;> cases e2
   rw[List.getElem?_append_left hi]at e2
   rw[List.getElem?_append_left (by omega)]at e1'
   have hxN:x∈N0:=List.mem_of_getElem? e1'
   have e3':(relabel scope X.env).names.lookup x=some .local∨(relabel scope X.env).names.lookup x=some .cell∨(relabel scope X.env).names.lookup x=some .free:=e3
   have fr:(relabel scope X.env).names.lookup x=some .cell∨(relabel scope X.env).names.lookup x=some .free:=by
    rcases e3' with z | z | z
    ·exfalso
     -- a local of the block is no tracked name
     have key:∀ (names:List (Str × NameKind)),(names.map fun (n,k)=>if (k == NameKind.free&&X.env.scope.kind == .function&&X.env.kindOf n == some .cell) then (n,NameKind.cell) else (n,k)).lookup x=some .local→(x,NameKind.local)∈names:=by
      intro names
      induction names with
      | nil=>intro z; simp at z
      | cons y r ih=>
       obtain⟨n,k⟩:=y
       intro z
       rw[List.map_cons]at z
       dsimp only at z
       by_cases hfk:(k == NameKind.free&&X.env.scope.kind == .function&&X.env.kindOf n == some .cell)=true
       ·rw[if_pos hfk,List.lookup_cons]at z
        cases hx:(x == n) with
        | true=>rw[hx]at z; cases z
        | false=>rw[hx]at z; exact List.mem_cons_of_mem _ (ih z)
       ·rw[if_neg hfk,List.lookup_cons]at z
        cases hx:(x == n) with
        | true=>
         rw[hx]at z
         have ek:k = .local:=Option.some.inj z
         have en:x=n:=by simpa using hx
         rw[ek,en]; exact List.mem_cons_self
        | false=>rw[hx]at z; exact List.mem_cons_of_mem _ (ih z)
     exact S.apart (x,.local) (key _ z) rfl hxN
    ·exact .inl z
    ·exact .inr z
   have m:(x,NameKind.free)∈scope.names:=by
    rcases fr with z | z
    ·exact dI S.nocell z (.inl rfl)
    ·exact dI S.nocell z (.inr rfl)
   have kX:=S.free _ m rfl;obtain⟨mm,hn,hl'⟩:=I.loc
   obtain⟨u,r,lk⟩:=hl' i x v (S.same i x _ e1' m) e2 (.inr kX)
   refine⟨u,r,.inr ⟨fr,?_⟩⟩
   rcases lk with ⟨z,_⟩ | ⟨_,c,ec,cc⟩
   ·rcases kX with q | q
    ·rw[q]at z; cases z
    ·rw[q]at z; cases z
   ·obtain⟨c',ec'⟩:=fu (cells:=X.env.cells) (acc:=[]) m
    have:=hcl x c' ec'
    rw[ec]at this; cases this
    exact⟨c,ec',cc.keeps old⟩
  ·obtain⟨v,z⟩:=I.cell x c (hcl x c e)
   exact⟨v,z.keeps old⟩
  ·show upd H D (.lst []) C=none
   rw[ai (Ne.symm hDC)]; exact hHC
  ·have q:=I.freeC x c (hcl x c e)
   obtain⟨v,o,z,_⟩:=I.cell x c (hcl x c e)
   rw[ai (neD c o z)]; exact q
  ·exact⟨Nat.zero_le _,[],0,.nil,dat⟩
  ·show (σ++List.replicate T.length none).length=(N0++T).length
   rw[List.length_append,List.length_append,List.length_replicate,I.len,S.len0]
 have st1:tn 0 h₁:=Tn.keep _ _ _ st fun b _ o e=>old b o e
 have fp1:∀ {H':Hp},(∀ b∈fp,H' b=none)→∀ b∈fp,gK (bI X N0 T scope C fp s H) [] H' b:=fun hn b hb=>
  ⟨hn b hb,(okC.exf b hb).1,okC.exfs b hb,.inl hb,(okC.exf b hb).2,fun p hp=>(by simp[bI]at hp)⟩
 have fp0:∀ b∈fp,upd H D (.lst []) b=none:=fun b hb=>by
  obtain⟨o,e,_⟩:=Tn.obj 0 _ st b hb
  rw[ai (neD b o e)]; exact(hf b hb).1
 obtain⟨W,⟨m0,w0⟩,turn⟩:=h D hHD
 have loop:∀ s₃ : Shared,s₃={ s with heap:=h₁,toks:=s.toks+([]:List (Str × Value)).length }→
   codeAny (model X.prog X.w) X.A (.compLoop (.ListComp elt [⟨tg,iter,ifs,0⟩] scope pos) 0 (.ref it) (.ref D) (compEnvC scope (cv X.env.cells scope.names []) C X.env)) (RR (.ref D) C) s₃:=by
  rintro s₃ rfl
  refine fI (fun n s'=>∃ i H' ys,Inv (bI X N0 T scope C fp s H) [] (σ++List.replicate T.length none) H' s'∧tn i s'.heap∧(∀ b∈fp,H' b=none)∧W i n ys H') ?_ m0 ⟨0,_,[],I1,st1,fp0,w0⟩
  rintro n s3 ⟨i,H3,ys,I3,st3,fr3,w3⟩
  rcases turn i n ys H3 w3 with ⟨stop,qn⟩ | ⟨go,step⟩
  ·refine ba (Tn.done (bI X N0 T scope C fp s H) rfl rfl rfl hc i [] s3 _ H3 (fun _ _=>False) I3 (fp1 fr3) st3 stop) fun r s4 ⟨hr,I4⟩=>?_
   subst hr;obtain⟨m,hm,_⟩:=I4.loc
   have hch:∀ b∈fp,(b∈X.ex∨X.s₀.heap.objs.size≤b)∧b≠X.env.locals∧(∀ x c,X.env.cells.lookup x=some c→c≠b)∧∀ p∈X.pn++pins,p.1≠b:=fun b hb=>
    ⟨(hf b hb).2.2.2.1,(hf b hb).2.1,(hf b hb).2.2.2.2.1,(hf b hb).2.2.2.2.2⟩
   have u4:Un (jq X.stack) fp H H3 s.heap s4.heap:=I4.base
   refine hRR D C s4 H3 m hm I4.free (Ne.symm (Nat.ne_of_lt (Nat.lt_trans (hD ▸ I.lt) hDlt))) (fun x c e=>?_) (fun p hp=>?_) (Nat.le_trans (hD ▸ I.sz) (Nat.le_of_lt hDlt)) (I.call' (ch:=fp) I4.os u4 I4.hok I4.bare hch) (fun h' hs'=>?_) qn
   ·obtain⟨v,o,q,_⟩:=I.cell x c e
    exact neC c o q
   ·exact neC _ _ (I.pin p hp).1
   ·refine I.call' (ch:=fp) (s':={ s4 with heap:=h' }) I4.os ⟨fun b o q n' hb hx=>(hs'.2 b (neC b o q)).trans (u4.keep b o q n' hb hx),fun b o q n' hb hx=>?_,u4.free,fun b o q hx=>?_,u4.tups,u4.frzs,u4.tbls⟩ (I4.hok.sameBut hs' I4.free) I4.bare hch
    ·obtain⟨sl,e⟩:=u4.slot b o q n' hb hx
     exact⟨sl,(hs'.2 b (neC b o q)).trans e⟩
    ·obtain⟨o',e⟩:=u4.there b o q hx
     exact⟨o',(hs'.2 b (neC b o q)).trans e⟩
  ·refine ba (Tn.item (bI X N0 T scope C fp s H) rfl rfl rfl hc i [] s3 _ H3 (fun _ _=>False) I3 (fp1 fr3) st3 go) fun r s4 ⟨u,hr,h4⟩=>?_
   subst hr;refine ba h4 fun _ s5 ⟨x,H5,I5,r5,y5,st5,fr5⟩=>?_
   have I5':=I5.pinned (fp1 fr5) (Tn.obj _ _ st5);refine ba (hg C fp s H _ s5 _ H5 x u _ I5' r5 (hfr _ _ _ _ (step x H5 y5))) fun _ s6 ⟨σ6,H6,I6,q6,l6,k6⟩=>?_
   have back:∀ {H7:Hp} {s7:Shared},Inv (bI X N0 T scope C fp s H) ([]++jy fp s5.heap) σ6 H7 s7→(∀ {m':Nat} {zs:List V},m'<n→W (i+1) m' zs H7→∃ m,m<n∧∃ i H' ys,Inv (bI X N0 T scope C fp s H) [] (σ++List.replicate T.length none) H' s7∧tn i s7.heap∧(∀ b∈fp,H' b=none)∧W i m ys H'):=fun {H7 s7} I7 {m' zs} hm w7=>by
    refine⟨m',hm,i+1,H7,zs,I7.unpinned.weak (by rw[l6]) (fun j v e=>?_),Tn.keep _ _ _ st5 fun b hb o e=>(I7.pin (b,o) (List.mem_append_right _ (List.mem_append_right _ (d0 hb e)))).1,fun b hb=>?_,w7⟩
    ·have hj:j<σ.length:=by
      rcases Nat.lt_or_ge j σ.length with z | z
      ·exact z
      ·rw[List.getElem?_append_right z,List.getElem?_replicate]at e
       split at e <;> cases e
     rw[k6 j (by rw[← I.len]; exact hj)]
     exact e
    ·obtain⟨o,e,d⟩:=Tn.obj _ _ st5 b hb
     exact(I7.pin (b,o) (List.mem_append_right _ (List.mem_append_right _ (d0 hb e)))).2.1
   refine ba (hi C fp s H _ s6 σ6 H6 _ I6 q6) fun b s7 ⟨H7,I7,q7⟩=>?_
   cases b with
   | false=>
    obtain⟨m',hm,w7⟩:=(show ∃ m',m'<n∧W (i+1) m' ys H7 from by simpa using q7)
    exact back I7 hm w7
   | true=>
    rw[if_pos rfl]at q7
    refine ba (he C fp s H _ s7 σ6 H7 _ I7 q7) fun v s8 ⟨y,H8,I8,r8,hD8,hz,m',hm,w8⟩=>?_
    refine ba (kf (X:=bI X N0 T scope C fp s H) _ s8 σ6 H8 (.ref D) [y] (.ref D) [v] (fun _ H9=>H9=upd H8 D (.lst (ys++[y]))) I8 rfl (.cons r8 .nil) ⟨D,ys,y,rfl,rfl,hD8,hz,rfl⟩) fun v9 s9 ⟨y9,H9,I9,_,e9⟩=>?_
    subst e9;exact back I9 hm w8
 exact codeAny_compStart_list (loop _ rfl) (Tn.self X.A 0 _ _ _ st1 (loop _ rfl))
theorem dC(S:jd X N0 T scope)(hc:X.calm=true)(hI:PI X tg iter wi)
  (hg:∀ C fp s H,PG (bI X N0 T scope C fp s H) tg g) (hfr:n_ g X.N.length) (hi:∀ C fp s H,PIfs (bI X N0 T scope C fp s H) ifs tc) (he:∀ C fp s H,PE (bI X N0 T scope C fp s H) elt te)
  (hs:∀ x,foldedSetIterable iter X.env x=pure x:=by intro _; rfl):PE X (.ListComp elt [⟨tg,iter,ifs,0⟩] scope pos) (oQ wi g tc te T.length):=by
 intro pins s σ H Q I h
 rw[eval_ListComp];refine wpAny_comprehension_free (use:=none) rfl hs (gL fun x hx hk=>I.ok.has x.1 (S.free x hx hk)) S.kind S.names (ba (hI pins s σ H _ I h) fun v s1 h1=>ba h1 fun itv s2 h2=>?_)
 obtain⟨it,fp,tn,J,H2,e,I2,Tn,st2,f2,q2⟩:=h2
 subst e;refine nI (RR:=fun acc C=>compPost (model X.prog X.w) X.A X.xe none (EP X pins σ Q) acc C) S hc hg hfr hi he I2 Tn st2 f2 q2 ?_
 intro D C s' H' m hn hC hL hcells hpins hfresh I' hI' q
 exact⟨m,hn,fun h' hs'=>⟨.ref D,H',hI' h' hs',rfl,q⟩⟩
theorem jC{i:Nat}{x:Str}{pos' spos:Pos}(S:jd X N0 T scope)(hc:X.calm=true)(hN:X.N.Nodup)(hi':X.N[i]? = some x)(hx:X.env.scope.names.lookup x=some .local)(hI:PI X tg iter wi)
  (hg:∀ C fp s H,PG (bI X N0 T scope C fp s H) tg g) (hfr:n_ g X.N.length) (hi:∀ C fp s H,PIfs (bI X N0 T scope C fp s H) ifs tc) (he:∀ C fp s H,PE (bI X N0 T scope C fp s H) elt te)
  (hsw:swapsWith (.ListComp elt [⟨tg,iter,ifs,0⟩] scope pos) (some (.Name x pos')) spos.line X.env=pure true:=by rfl)
  (hs:∀ x,foldedSetIterable iter X.env x=pure x:=by intro _; rfl):PS X (.Assign [.Name x pos'] (.ListComp elt [⟨tg,iter,ifs,0⟩] scope pos) spos) (p5 (oQ wi g tc te T.length) (jc i)):=by
 intro pins s σ H D I h
 rw[exec_Assign_Name_used _ _ _ _ hsw];refine wpAny_bind (wpAny_standAt (wpAny_bind ?_))
 show wpAny _ X.A (do let _ ← comprehension (.ListComp elt [⟨tg,iter,ifs,0⟩] scope pos) scope X.env _ (newList []) false (eval iter X.env) (some (assign (.Name x pos') X.env))) _ _ s
 refine wpAny_bind (wpAny_mono (wpAny_comprehension_free (use:=some (assign (.Name x pos') X.env)) (Q:=fun _ s'=>SP X pins D .next s') rfl hs (gL fun x hx hk=>I.ok.has x.1 (S.free x hx hk)) S.kind S.names
  (ba (hI pins s σ H _ I h) fun v s1 h1=>ba h1 fun itv s2 h2=>?_)) (fun _ s' hq=>wpAny_pure (wpAny_pure hq)) fun _ _ e=>e)
 obtain⟨it,fp,tn,J,H2,e,I2,Tn,st2,f2,q2⟩:=h2
 subst e;refine nI (RR:=fun acc C=>compPost (model X.prog X.w) X.A X.xe (some (assign (.Name x pos') X.env)) (fun _ s'=>SP X pins D .next s') acc C) S hc hg hfr hi he I2 Tn st2 f2 q2 ?_
 intro L C s' H' m hn hC hL hcells hpins hfresh I' hI' q
 show wpAny _ X.A (assign (.Name x pos') X.env (.ref L)) _ _ _
 refine wpAny_assign_Name (n8 (v:=.ref L) I' hN hi' (.inl hx) rfl (fun s'' I'' ⟨a,hsa,ha⟩=>?_) (.inr hx))
 have hCa:C≠a:=by
  rintro rfl
  rcases ha with z | z
  ·exact hL z
  ·exact hcells x C z rfl
 refine⟨m,hn.sameBut hsa hCa,fun h' hs'=>?_⟩
 exact⟨σ.set i (some (.ref L)),H',I''.turned (t':=s''.toks) (fun b o hb e=>(hs'.2 b hb).trans e) hC hL (.inr hfresh) hcells hpins,q⟩
end
end L2
namespace L2
open PySem PySem.Spec PyProof.Rows
theorem Vals.of:∀ {xs:List V} {us:List Value} {i:Nat} {u:Value},Vals xs us→us[i]? = some u→∃ x,xs[i]? = some x∧RelV x u
 | _,_,0,u,.cons r _,e=>⟨_,rfl,by simp at e; subst e; exact r⟩
 | _,_,i+1,u,.cons _ rr,e=>by
  obtain⟨x,hx,r⟩:=Vals.of (i:=i) rr (by simpa using e)
  exact⟨x,by simpa using hx,r⟩
theorem kn:∀ {ss:List Str} {us:List Value},Vals (ss.map V.str) us→StrsAre us ss
 | [],_,.nil=>.nil
 | s::ss,_,.cons r rr=>by
  obtain⟨t,rfl⟩:=r
  exact .cons s t (kn rr)
theorem kr:∀ {us:List Value} {ss:List Str},StrsAre us ss→Vals (ss.map V.str) us
 | _,_,.nil=>.nil
 | _,_,.cons y t h=>.cons ⟨t,rfl⟩ (kr h)
theorem uF(bs:List Bool):(List.range bs.length).any (fun i=>bs.getD i false)=bs.any id:=by
 rw[Bool.eq_iff_iff,List.any_eq_true,List.any_eq_true]
 constructor
 ·rintro⟨i,hi,h⟩
  have hi':=List.mem_range.mp hi;rw[List.getD_eq_getElem?_getD,List.getElem?_eq_getElem hi']at h
  exact⟨_,List.getElem_mem hi',h⟩
 ·rintro⟨b,hb,h⟩
  obtain⟨i,hi,rfl⟩:=List.mem_iff_getElem.mp hb
  refine⟨i,List.mem_range.mpr hi,?_⟩
  rw[List.getD_eq_getElem?_getD,List.getElem?_eq_getElem hi];exact h
theorem xn{bs:List Bool}{us:List Value}(r:Vals (bs.map V.bl) us){i:Nat}{v:Value}(e:us.toArray[i]? = some v):v = .bool (bs.getD i false):=by
 obtain⟨x,hx,rx⟩:=r.of (i:=i) (by simpa using e)
 rw[List.getElem?_map]at hx
 cases hb:bs[i]? with
 | none=>rw[hb]at hx; cases hx
 | some b=>
  rw[hb]at hx
  have hx':V.bl b=x:=Option.some.inj hx
  subst hx';rw[List.getD_eq_getElem?_getD,hb];exact rx
section
variable{X:Cx}
def w_(K:PySem.W.Frag):List V→Hp→VK→Prop:=fun xs H Q=>∃ (p:Addr) (bs:List Bool),xs=[.ref p]∧SqL K H p (bs.map V.bl)∧Q (.bl (bs.any id)) H
theorem ir{K:PySem.W.Frag}{H:Hp}{Q:VK}(p:Addr):w_ K [.ref p] H Q=∃ bs:List Bool,SqL K H p (bs.map V.bl)∧Q (.bl (bs.any id)) H:=propext ⟨fun ⟨_,bs,e,q⟩=>by cases e; exact⟨bs,q⟩,fun ⟨bs,q⟩=>⟨p,bs,rfl,q⟩⟩
theorem wf(hc:X.calm=true):CallR X (.builtin "any") (w_ X.K):=by
 intro pins s σ H xs us Q I r h
 obtain⟨p,bs,rfl,hq,q⟩:=h
 obtain⟨u,rfl,ru⟩:=df r
 cases ru;obtain⟨its,rv,pl,hz⟩:=I.list hq
 have hlen:its.length=bs.length:=by rw[← rv.length,List.length_map]
 refine call_any_walk (wpAny_pyIter_list pl.isList ?_)
 refine⟨_,_,_,_,_,_,fun i=>bs.getD i false,rfl,Walks.list (A:=X.A.in1) (I.ok.hd hc) s.heap.objs.size p (Nat.ne_of_lt pl.lt) its.toArray,⟨⟨_,Heap.get?_push_size _ rfl,rfl,rfl⟩,(pl.keeps fun b o e=>Heap.get?_push_of_some _ e).isList⟩,?_,fun h' tk hk=>?_⟩
 ·intro i v s' Q' E' hP hQ
  rw[xn rv hP];exact wpAny_truthy_bool hQ
 ·refine⟨.bl (bs.any id),H,I.kept (t':=tk) fun b o e=>hk b o (fun z=>?_) (Heap.get?_push_of_some _ e),?_,q⟩
  ·exact Nat.ne_of_lt (Heap.lt_size e) (by simpa using z)
  ·have e:(List.range its.toArray.size).any (fun i=>bs.getD i false)=bs.any id:=by rw[List.size_toArray,hlen,uF]
   show Value.bool ((List.range its.toArray.size).any fun i=>bs.getD i false)=Value.bool (bs.any id)
   rw[e]
end
def mR(J:It)(g:TG)(tb:TS)(D:dF)(σ : St)(H:Hp):Prop:=∃ W:Nat→Nat→St→Hp→Prop,(∃ m,W 0 m σ H)∧∀ i m σ H,W i m σ H→
 (J.stop i H∧D.nx σ H)∨(J.go i H∧∃ N:St→Hp→Prop,(∀ σ' H',N σ' H'→∃ m',m'<m∧W (i+1) m' σ' H')∧∀ x H',J.yld i H x H'→g x σ H' fun σ2 H2=>tb { D with nx:=N,ct:=N,bk:=D.nx } σ2 H2)
theorem iL(wi:TI)(g:TG)(tb:TS)(D:dF)(σ : St)(H:Hp):Bs wi g tb D σ H=wi σ H fun J H1=>mR J g tb D σ H1:=rfl
theorem rF{J:It}{g:TG}{tb:TS}{D:dF}{σ : St}{H:Hp}(n:Nat)(Pv:Nat→St→Hp→Prop)(h0:Pv 0 σ H)(hgo:∀ i σ H,i<n→Pv i σ H→J.go i H)(hst:∀ σ H,Pv n σ H→J.stop n H)
  (hs:∀ i σ H x H',i<n→Pv i σ H→J.yld i H x H'→g x σ H' fun σ2 H2=>tb { D with nx:=Pv (i+1),ct:=Pv (i+1),bk:=D.nx } σ2 H2) (hd:∀ σ H,Pv n σ H→D.nx σ H):mR J g tb D σ H:=by
 refine⟨fun i m σ H=>m=n - i∧i≤n∧Pv i σ H,⟨n,by simp,Nat.zero_le _,h0⟩,?_⟩
 rintro i m σ H ⟨rfl,hi,p⟩
 by_cases hlt:i<n
 ·exact .inr ⟨hgo i σ H hlt p,Pv (i+1),fun σ' H' p'=>⟨n - (i+1),by omega,rfl,hlt,p'⟩,fun x H' y=>hs i σ H x H' hlt p y⟩
 ·have e:i=n:=by omega
  subst e;exact .inl ⟨hst σ H p,hd σ H p⟩
theorem ke{K:PySem.W.Frag}{a:Addr}{xs:List V}{g:TG}{tb:TS}{D:dF}{σ : St}{H:Hp}(Pv:Nat→St→Hp→Prop)(h0:Pv 0 σ H)(hl:∀ i σ H,i≤xs.length→Pv i σ H→SqL K H a xs)
  (hs:∀ i x σ H,xs[i]? = some x→Pv i σ H→g x σ H fun σ2 H2=>tb { D with nx:=Pv (i+1),ct:=Pv (i+1),bk:=D.nx } σ2 H2) (hd:∀ σ H,Pv xs.length σ H→D.nx σ H):mR (ma K a) g tb D σ H:=
 yp Pv h0 hl hs hd
theorem dv{lo:Int}{n:Nat}{g:TG}{tb:TS}{D:dF}{σ : St}{H:Hp}(Pv:Nat→St→Hp→Prop)(h0:Pv 0 σ H)
  (hs:∀ i σ H,i<n→Pv i σ H→g (.int (lo+i)) σ H fun σ2 H2=>tb { D with nx:=Pv (i+1),ct:=Pv (i+1),bk:=D.nx } σ2 H2) (hd:∀ σ H,Pv n σ H→D.nx σ H):mR (kZ lo n) g tb D σ H:=
 vD Pv h0 hs hd
def gF(n i:Nat)(Pv:Nat→List V→Hp→Prop)(D:Addr)(ys:List V)(y:V)(H:Hp):Prop:=
 H D=some (.lst ys)∧ys.length<sizeLine∧∃ m',m'<n - i∧(m'=n - (i+1)∧i+1≤n∧Pv (i+1) (ys++[y]) (upd H D (.lst (ys++[y]))))
theorem eJ{n i:Nat}{Pv:Nat→List V→Hp→Prop}{D:Addr}{ys:List V}{y:V}{H:Hp}(hi:i<n)(hlen:ys.length=i)(hz:n≤sizeLine)(h1:H D=some (.lst ys))(h2:Pv (i+1) (ys++[y]) (upd H D (.lst (ys++[y])))):gF n i Pv D ys y H:=
 ⟨h1,by omega,n - (i+1),by omega,rfl,hi,h2⟩
def jD(n i:Nat)(Pv:Nat→List V→Hp→Prop)(D:Addr)(ys:List V)(te:TE)(σ : St)(H:Hp):Prop:=
 if true=true then te σ H (gF n i Pv D ys) else ∃ m',m'<n - i∧(m'=n - (i+1)∧i+1≤n∧Pv (i+1) ys H)
theorem eP{n i:Nat}{Pv:Nat→List V→Hp→Prop}{D:Addr}{ys:List V}{te:TE}{σ : St}{H:Hp}:jD n i Pv D ys te σ H=te σ H (gF n i Pv D ys):=by
 unfold jD; rw[if_pos rfl]
theorem lU{J:It}{g:TG}{te:TE}{nT:Nat}{σ : St}{D:Addr}{Q:VK}{H:Hp}(n:Nat)(Pv:Nat→List V→Hp→Prop)(h0:Pv 0 [] H)(hgo:∀ i ys H,i<n→Pv i ys H→J.go i H)(hst:∀ ys H,Pv n ys H→J.stop n H)
  (hs:∀ i ys H x H',i<n→Pv i ys H→J.yld i H x H'→g x (σ++List.replicate nT none) H' (jD n i Pv D ys te))
  (hd:∀ ys H,Pv n ys H→Q (.ref D) H):fB J g lm te nT σ D Q H:=by
 refine⟨fun i m ys H=>m=n - i∧i≤n∧Pv i ys H,⟨n,by simp,Nat.zero_le _,h0⟩,?_⟩
 rintro i m ys H ⟨rfl,hi,p⟩
 by_cases hlt:i<n
 ·exact .inr ⟨hgo i ys H hlt p,fun x H' y=>hs i ys H x H' hlt p y⟩
 ·have e:i=n:=by omega
  subst e;exact .inl ⟨hst ys H p,hd ys H p⟩
theorem cT{K:PySem.W.Frag}{a:Addr}{xs:List V}{g:TG}{te:TE}{nT:Nat}{σ : St}{D:Addr}{Q:VK}{H:Hp}(Pv:Nat→List V→Hp→Prop)(h0:Pv 0 [] H)(hl:∀ i ys H,i≤xs.length→Pv i ys H→SqL K H a xs)
  (hs:∀ i ys H x,xs[i]? = some x→i<xs.length→Pv i ys H→g x (σ++List.replicate nT none) H (jD xs.length i Pv D ys te))
  (hd:∀ ys H,Pv xs.length ys H→Q (.ref D) H):fB (ma K a) g lm te nT σ D Q H:=by
 refine lU xs.length Pv h0 (fun i ys H hi p=>⟨xs,xs[i],hl i ys H (Nat.le_of_lt hi) p,by simp[hi]⟩) (fun ys H p=>⟨xs,hl _ ys H (Nat.le_refl _) p,Nat.le_refl _⟩) (fun i ys H x H' hi p yl=>?_) hd
 obtain⟨rfl,y⟩:=yl
 exact hs i ys _ x (y xs (hl i ys _ (Nat.le_of_lt hi) p)) hi p
theorem lc{lo:Int}{n:Nat}{g:TG}{te:TE}{nT:Nat}{σ : St}{D:Addr}{Q:VK}{H:Hp}(Pv:Nat→List V→Hp→Prop)(h0:Pv 0 [] H)
  (hs:∀ i ys H,i<n→Pv i ys H→g (.int (lo+i)) (σ++List.replicate nT none) H (jD n i Pv D ys te))
  (hd:∀ ys H,Pv n ys H→Q (.ref D) H):fB (kZ lo n) g lm te nT σ D Q H:=by
 refine lU n Pv h0 (fun i ys H hi p=>hi) (fun ys H p=>Nat.le_refl _) (fun i ys H x H' hi p yl=>?_) hd
 obtain⟨rfl,rfl⟩:=yl
 exact hs i ys _ hi p
end L2
namespace L2
open PySem PySem.Spec PyProof.Rows
def oS(u:TS)(D:dF)(σ : St)(H:Hp):Prop:=u D σ H
section
variable{D:dF}{σ : St}{H:Hp}{Q:VK}{B:Bool→Hp→Prop}{L:List V→Hp→Prop}{R:It→Hp→Prop}{G:St→Hp→Prop}
theorem iy(t u:TS):wK t u D σ H=t { D with nx:=oS u D } σ H:=rfl
theorem gf(u:TS):oS u D σ H=u D σ H:=rfl
theorem fW:yT D σ H=D.nx σ H:=rfl
theorem gD:yG D σ H=D.ct σ H:=rfl
theorem gZ(c:TT)(t u:TS):AD c t u D σ H=c σ H fun b H1=>if b=true then t D σ H1 else u D σ H1:=rfl
theorem hJ(t:TE):AS t D σ H=t σ H D.rt:=rfl
theorem fV(t:TE):uj t D σ H=t σ H fun _ H1=>D.nx σ H1:=rfl
theorem hG(t:TE)(g:TG):p5 t g D σ H=t σ H fun x H1=>g x σ H1 D.nx:=rfl
theorem fZ(i:Nat)(v:V):jc i v σ H G=G (σ.set i (some v)) H:=rfl
theorem iD(vs:List V):uv vs σ H G=(vs=[]∧G σ H):=rfl
theorem gh(t:TG)(u:fH)(vs:List V):oI t u vs σ H G=∃ v r,vs=v::r∧t v σ H fun σ' H'=>u r σ' H' G:=rfl
theorem ix(K:PySem.W.Frag)(n:Nat)(t:fH)(v:V):tP K n t v σ H G=∃ a xs,v = .ref a∧SqT K H a xs∧xs.length=n∧t xs σ H G:=rfl
theorem ii(to ti:TE)(t:ka)(v:V):Ah to ti t v σ H G=to σ H fun o H1=>ti σ H1 fun i H2=>t o i v H2 fun H3=>G σ H3:=rfl
theorem iK(i:Nat):mY i σ H Q=∃ v,σ[i]? = some (some v)∧Q v H:=rfl
theorem kI(v:V):tC v σ H Q=Q v H:=rfl
theorem jp(r:R2)(ta tb:TE):u6 r ta tb σ H Q=ta σ H fun x H1=>tb σ H1 fun y H2=>r x y H2 Q:=rfl
theorem gj(t:TE):yC t σ H B=t σ H fun x H'=>∃ k,x = .bl k∧B k H':=rfl
theorem kD(t:TE):tB t σ H B=t σ H fun x H'=>∃ k,x = .bl k∧B k H':=rfl
theorem iH(t u:TT):AZ t u σ H B=t σ H fun c H1=>if c=true then u σ H1 B else B false H1:=rfl
theorem jr(t u:TT):CT t u σ H B=t σ H fun c H1=>if c=true then B true H1 else u σ H1 B:=rfl
theorem ij(t:TT):Bi t σ H B=t σ H fun c H1=>B (!c) H1:=rfl
theorem fX(ta tb:TE):y6 ta tb σ H Q=ta σ H fun x H1=>∃ c,x = .bl c∧if c=true then tb σ H1 Q else Q (.bl false) H1:=rfl
theorem iq(ta tb:TE):Av ta tb σ H Q=ta σ H fun x H1=>∃ c,x = .bl c∧if c=true then Q (.bl true) H1 else tb σ H1 Q:=rfl
theorem jx(t:TT)(ta tb:TE):CQ t ta tb σ H Q=t σ H fun c H1=>if c=true then ta σ H1 Q else tb σ H1 Q:=rfl
theorem jl(r:List V→Hp→VK→Prop)(t:TA):uW r t σ H Q=t σ H fun vs H1=>r vs H1 Q:=rfl
theorem fU(ta:TE)(tr:TA):tT ta tr σ H L=ta σ H fun x H1=>tr σ H1 fun xs H2=>L (x::xs) H2:=rfl
theorem ie:wU σ H L=L [] H:=rfl
theorem ik(t:TA):Am t σ H Q=t σ H fun xs H1=>xs.length≤sizeLine∧∀ p,H1 p=none→Q (.ref p) (upd H1 p (.tup xs)):=rfl
theorem iM(t:TA):A9 t σ H Q=t σ H fun xs H1=>xs.length≤sizeLine∧∀ p,H1 p=none→Q (.ref p) (upd H1 p (.lst xs)):=rfl
theorem fY(sp:Sp)(dvs:List V)(E:XK)(t:TA):oK sp dvs E t σ H Q=t σ H fun vs H1=>sp (vs++dvs) H1 Q E:=rfl
theorem jn(K:PySem.W.Frag)(T:String)(r:V→List V→Hp→VK→Prop)(to:TE)(t:TA):yX K T r to t σ H Q=to σ H fun x H1=>uO K T x H1∧t σ H1 fun xs H2=>r x xs H2 Q:=rfl
theorem jt(r:V→Option Int→Option Int→Hp→VK→Prop)(te:TE)(tl th:TO):CW r te tl th σ H Q=te σ H fun x H1=>tl σ H1 fun l H2=>th σ H2 fun u H3=>r x l u H3 Q:=rfl
theorem gi(t:TE)(O:Option Int→Hp→Prop):yy t σ H O=t σ H fun x H1=>∃ i,x = .int i∧O (some i) H1:=rfl
theorem d9(O:Option Int→Hp→Prop):rM σ H O=O none H:=rfl
theorem fO(wi:TI)(g:TG)(tc:TT)(te:TE)(nT:Nat):oQ wi g tc te nT σ H Q=wi σ H fun J H1=>∀ D,H1 D=none→fB J g tc te nT σ D Q (upd H1 D (.lst [])):=rfl
theorem im:lm σ H B=B true H:=rfl
theorem f_(K:PySem.W.Frag)(tl:TE):uc K tl σ H R=tl σ H fun x H1=>∃ a,x = .ref a∧(∃ xs,SqL K H1 a xs)∧R (ma K a) H1:=rfl
theorem gz(ta:TA):yR ta σ H R=ta σ H fun vs H1=>∃ j:Int,vs=[.int j]∧-(2 ^ 62)≤j∧j<2 ^ 62∧R (kZ 0 j.toNat) H1:=rfl
theorem jv(g:Int→Int→V)(i j:Int):pc g (.int i) (.int j) H Q=Q (g i j) H:=propext ⟨fun ⟨_,_,e1,e2,q⟩=>by cases e1; cases e2; exact q,fun q=>⟨i,j,rfl,rfl,q⟩⟩
theorem kz(C:Int→Int→Prop)(g:Int→Int→V)(i j:Int):rI C g (.int i) (.int j) H Q=(C i j∧Q (g i j) H):=propext ⟨fun ⟨_,_,e1,e2,q⟩=>by cases e1; cases e2; exact q,fun q=>⟨i,j,rfl,rfl,q⟩⟩
end
structure DefAt (K:PySem.W.Frag) (mg:Str→Option Value) (x:Str) (st:Stmt):Prop where
 ex:∃ f fd,Fun K x x st f fd∧mg x=some (.ref f)
structure Cal (P:Program) (w:World) (K:PySem.W.Frag) (mg:Str→Option Value) (base:Heap) (k:Nat) (x:Str) (ps:List Str) (sp:Sp):Prop where
 ex:∃ f fd,iV P w K mg base kY k f fd ps sp∧Binds K fd ps []∧PySem.W.keepIn K (.ref f)=true∧mg x=some (.ref f)
section
variable{P:Program}{w:World}{K:PySem.W.Frag}{mg:Str→Option Value}{base:Heap}
theorem DefAt.cal{x:Str}{st:Stmt}{N ps:List Str}{k:Nat}{sp:Sp}(D:DefAt K mg x st)(S:aU N ps (defScope st))
  (hb:∀ (kV doc pm:Value) (an:Option Addr) (cdv ct:Value) (us:List Value),us.length=ps.length→bindArgs (PySem.W.fnOf x x (defArgs st) (defBody st) (defScope st) .none kV doc pm an cdv ct) ⟨us,[]⟩=pure (ps.zip us))
  (len:∀ vs H Q E,sp vs H Q E→vs.length=ps.length)
  (hbody:∀ (f:Addr) (cdv:Value) (A:Around) (outer:List Env) (s:Shared) (H:Hp) (vs:List V) (Q:VK) (E:XK),Room k (A.deeper (envOfC x (defScope st) s.heap.objs.size f cdv))→sp vs H Q E→
   ∃ t,PSs (lO kY P w K mg base N x (defScope st) f cdv A outer s H E).nox (defBody st) t∧t { nx:=fun _ H'=>Q .non H',rt:=Q } (start N vs) H):Cal P w K mg base (k+1) x ps sp:=by
 obtain⟨f,fd,F,m⟩:=D.ex
 exact⟨f,fd,F.ok S len fun cdv A outer s H vs Q E hr h=>hbody f cdv A outer s H vs Q E hr h,F.binds hb,F.kp,m⟩
end
section
variable{X:Cx}
theorem aq{j k:Nat}{x:Str}{ps:List Str}{sp:Sp}{p pos:Pos}{e:Expr}{es:List Expr}{t:TA}(c:Cal X.prog X.w X.K X.mg X.base j x ps sp)(hr:Room k X.A)(ha:PA X (e::es) t)(hle:j≤k:=by decide)(hg:Gl X x:=by first | exact vGg (by decide +kernel) | rfl)
  (hdb:(x == ("__debug__" : Str))=false:=by decide) (he:starEach (e::es) X.env=(false,eval e X.env)::starEach es X.env:=by rfl) (hpl:(backTo pos (starEach es X.env)).any (·.1)=false:=by rfl) :
  PE X (.Call (.Name x p) (e::es) [] pos) (oK sp [] E0 t):=by
 obtain⟨f,fd,F,b,kp,m⟩:=c.ex
 exact zM F (hr.mono hle) hg m kp b .nil yP ha hdb he hpl
theorem rU{x:Str}{i:Int}{pos:Pos}(h:∃ t,X.mg x=some (.int i t))(hg:Gl X x:=by first | exact vGg (by decide +kernel) | rfl)(hd:(x == ("__debug__" : Str))=false:=by decide):PE X (.Name x pos) (tC (.int i)):=by
 obtain⟨t,h⟩:=h
 exact rj hg h ⟨t,rfl⟩ hd
theorem bZ{x:Str}{p pos:Pos}{e:Expr}{es:List Expr}{t:TA}{id:String}{r:List V→Hp→VK→Prop}(hc:CallR X (.builtin id) r)(hm:X.mg x=none)(hv:bootBuiltins x=some (.builtin id))(ha:PA X (e::es) t)(hg:Gl X x:=by first | exact vGg (by decide +kernel) | rfl)
  (hn:x ≠ "__name__" := by decide) (hdb:(x == ("__debug__" : Str))=false:=by decide) (he:starEach (e::es) X.env=(false,eval e X.env)::starEach es X.env:=by rfl) (hpl:(backTo pos (starEach es X.env)).any (·.1)=false:=by rfl) :
  PE X (.Call (.Name x p) (e::es) [] pos) (uW r t):=xV hc hg hm hv ha hn hdb he hpl
theorem fA{x:Str}{p pos:Pos}{e:Expr}{es:List Expr}{t:TA}{T:String}{r:List V→Hp→VK→Prop}(hc:CallR X (.type T) r)(hm:X.mg x=none)(hv:bootBuiltins x=some (.type T))(ha:PA X (e::es) t)(hg:Gl X x:=by first | exact vGg (by decide +kernel) | rfl)
  (hn:x ≠ "__name__" := by decide) (hdb:(x == ("__debug__" : Str))=false:=by decide) (he:starEach (e::es) X.env=(false,eval e X.env)::starEach es X.env:=by rfl) (hpl:(backTo pos (starEach es X.env)).any (·.1)=false:=by rfl) :
  PE X (.Call (.Name x p) (e::es) [] pos) (uW r t):=vF hc hg hm hv ha hn hdb he hpl
end
section
variable{X:Cx}
def oM:R2:=fun x y H Q=>match x,y with
 | .int i,.int j=>Q (.int (i+j)) H
 | .str a,.str b=>a.length+b.length≤sizeLine∧Q (.str (a++b)) H
 | .ref l,.ref b=>∃ xs zs,H l=some (.lst xs)∧H b=some (.lst zs)∧xs.length+zs.length≤sizeLine∧∀ p,H p=none→Q (.ref p) (upd H p (.lst (xs++zs)))
 | _,_=>False
theorem bK:OpR X (binaryOp .Add) oM:=by
 intro pins s σ H x y v u Q I rx ry h
 cases x <;> cases y <;> first
  | exact(show False from h).elim
  | exact BC pins s σ H _ _ v u Q I rx ry ⟨_,_,rfl,rfl,h⟩
  | exact tu pins s σ H _ _ v u Q I rx ry ⟨_,_,rfl,rfl,h⟩
  | (obtain⟨xs,zs,h1,h2,h3,h4⟩:=h; exact AI pins s σ H _ _ v u Q I rx ry ⟨_,_,xs,zs,rfl,rfl,h1,h2,h3,h4⟩)
def xA:R2:=fun x y H Q=>match x,y with
 | .int i,.int j=>Q (.bl (decide (i<j))) H
 | .str i,.str j=>Q (.bl (decide (i.cps.toList<j.cps.toList))) H
 | _,_=>False
theorem mN:OpR X (compareOp .Lt) xA:=by
 intro pins s σ H x y v u Q I rx ry h
 cases x <;> cases y <;> first
  | exact(show False from h).elim
  | exact CG pins s σ H _ _ v u Q I rx ry ⟨_,_,rfl,rfl,h⟩
  | exact vR pins s σ H _ _ v u Q I rx ry ⟨_,_,rfl,rfl,h⟩
def kE(K:PySem.W.Frag):R2:=fun x y H Q=>match x,y with
 | .str i,.str j=>Q (.bl (!(!(Builtin.Str.occurrences j i 0 j.length 1).isEmpty))) H
 | x,.ref p=>∃ xs,(SqL K H p xs∨SqT K H p xs)∧bT x=true∧xs.all bT=true∧Q (.bl (!oR x xs)) H
 | _,_=>False
theorem vP:OpR X (compareOp .NotIn) (kE X.K):=by
 intro pins s σ H x y v u Q I rx ry h
 cases y with
 | str j=>
  cases x with
  | str i=>exact qc pins s σ H _ _ v u Q I rx ry ⟨i,j,rfl,rfl,h⟩
  | _=>exact(show False from h).elim
 | ref p=>
  have h':∃ xs,(SqL X.K H p xs∨SqT X.K H p xs)∧bT x=true∧xs.all bT=true∧Q (.bl (!oR x xs)) H:=by cases x <;> exact h
  obtain⟨xs,h1,h2,h3,h4⟩:=h'
  exact pz pins s σ H _ _ v u Q I rx ry ⟨p,xs,rfl,h1,h2,h3,h4⟩
 | _=>cases x <;> exact(show False from h).elim
def oO(K:PySem.W.Frag):List V→Hp→VK→Prop:=fun xs H Q=>match xs with
 | [.str z]=>z.length≤sizeLine∧Q (.int z.length) H
 | [.ref p]=>∃ ys,(SqL K H p ys∨SqT K H p ys)∧Q (.int ys.length) H
 | _=>False
theorem vj:CallR X (.builtin "len") (oO X.K):=by
 intro pins s σ H xs us Q I r h
 match xs,h with
 | [.str z],h=>exact pg pins s σ H _ us Q I r ⟨z,rfl,h⟩
 | [.ref p],h=>obtain⟨ys,h1,h2⟩:=h; exact p7 pins s σ H _ us Q I r ⟨p,ys,rfl,h1,h2⟩
def pF(K:PySem.W.Frag):R2:=fun x y H Q=>match x,y with
 | .ref p,.int i=>∃ xs v,(SqL K H p xs∨SqT K H p xs)∧eB xs i=some v∧Q v H
 | .str z,.int i=>∃ c,z.length≤sizeLine∧eB z.cps.toList i=some c∧Q (.str ⟨#[c]⟩) H
 | _,_=>False
theorem EF:IxR X (pF X.K):=by
 intro value slice pins s σ H x y v u Q I rx ry h hs
 refine BS value slice pins s σ H x y v u Q I rx ry ?_ hs
 match x,y,h with
 | .ref p,.int i,h=>
  obtain⟨xs,v',h1,h2,h3⟩:=h
  rcases h1 with h1 | h1
  ·exact .inl ⟨p,xs,i,v',rfl,rfl,h1,h2,h3⟩
  ·exact .inr (.inl ⟨p,xs,i,v',rfl,rfl,h1,h2,h3⟩)
 | .str z,.int i,h=>
  obtain⟨c,h1,h2,h3⟩:=h
  exact .inr (.inr ⟨z,i,c,rfl,rfl,h1,h2,h3⟩)
end
section
variable{K:PySem.W.Frag}{H:Hp}{Q:VK}
theorem fc(i j:Int):oM (.int i) (.int j) H Q=Q (.int (i+j)) H:=rfl
theorem eW(a b:Str):oM (.str a) (.str b) H Q=(a.length+b.length≤sizeLine∧Q (.str (a++b)) H):=rfl
theorem e_(l b:Addr):oM (.ref l) (.ref b) H Q=∃ xs zs,H l=some (.lst xs)∧H b=some (.lst zs)∧xs.length+zs.length≤sizeLine∧∀ p,H p=none→Q (.ref p) (upd H p (.lst (xs++zs))):=rfl
theorem gb(i j:Int):xA (.int i) (.int j) H Q=Q (.bl (decide (i<j))) H:=rfl
theorem fM(i j:Str):xA (.str i) (.str j) H Q=Q (.bl (decide (i.cps.toList<j.cps.toList))) H:=rfl
theorem dB(i j:Str):kE K (.str i) (.str j) H Q=Q (.bl (!(!(Builtin.Str.occurrences j i 0 j.length 1).isEmpty))) H:=rfl
theorem dA(x:V)(p:Addr):kE K x (.ref p) H Q=∃ xs,(SqL K H p xs∨SqT K H p xs)∧bT x=true∧xs.all bT=true∧Q (.bl (!oR x xs)) H:=by cases x <;> rfl
theorem fj(z:Str):oO K [.str z] H Q=(z.length≤sizeLine∧Q (.int z.length) H):=rfl
theorem fg(p:Addr):oO K [.ref p] H Q=∃ ys,(SqL K H p ys∨SqT K H p ys)∧Q (.int ys.length) H:=rfl
theorem fQ(p:Addr)(i:Int):pF K (.ref p) (.int i) H Q=∃ xs v,(SqL K H p xs∨SqT K H p xs)∧eB xs i=some v∧Q v H:=rfl
theorem fP(z:Str)(i:Int):pF K (.str z) (.int i) H Q=∃ c,z.length≤sizeLine∧eB z.cps.toList i=some c∧Q (.str ⟨#[c]⟩) H:=rfl
theorem fN(p:Addr)(k:Int)(v:V)(G:Hp→Prop):tM (.ref p) (.int k) v H G=∃ xs j,H p=some (.lst xs)∧k_ xs.length k=some j∧G (upd H p (.lst (xs.set j v))):=
 propext ⟨fun ⟨_,xs,_,j,e1,e2,q⟩=>by cases e1; cases e2; exact⟨xs,j,q⟩,fun ⟨xs,j,q⟩=>⟨p,xs,k,j,rfl,rfl,q⟩⟩
theorem dU(p:Addr)(y:V):kF (.ref p) [y] H Q=∃ xs,H p=some (.lst xs)∧xs.length<sizeLine∧Q .non (upd H p (.lst (xs++[y]))):=
 propext ⟨fun ⟨_,xs,_,e1,e2,q⟩=>by cases e1; cases e2; exact⟨xs,q⟩,fun ⟨xs,q⟩=>⟨p,xs,y,rfl,rfl,q⟩⟩
theorem ic(y:Str):uO K "str" (.str y) H=True:=eq_true rfl
theorem iz(p:Addr):(uO K "list" (.ref p) H)=∃ xs,SqL K H p xs:=by
 refine propext ⟨fun h=>?_,fun h=>.inl ⟨rfl,h⟩⟩
 rcases h with ⟨_,h⟩ | ⟨h,_⟩ | ⟨h,_⟩ | ⟨h,_⟩
 ·exact h
 ·exact absurd h (by decide)
 ·exact absurd h (by decide)
 ·exact absurd h (by decide)
end
theorem cR:bootBuiltins "len" = some (.builtin "len"):=by decide +kernel
theorem Ca:bootBuiltins "any" = some (.builtin "any"):=by decide +kernel
theorem AJ:bootBuiltins "min" = some (.builtin "min"):=by decide +kernel
theorem nQ:bootBuiltins "sorted" = some (.builtin "sorted"):=by decide +kernel
theorem B2:bootBuiltins "str" = some (.type "str"):=by decide +kernel
theorem Bj:bootBuiltins "int" = some (.type "int"):=by decide +kernel
theorem iN:bootBuiltins "list" = some (.type "list"):=by decide +kernel
theorem wQ:bootBuiltins "tuple" = some (.type "tuple"):=by decide +kernel
theorem ax{X:Cx}(i:Nat){x:Str}{e:Expr}{te:TE}{pos pos':Pos}(hN:X.N.Nodup)(he:PE X e te)(hi:X.N[i]? = some x:=by rfl)(hx:aS X.env.scope x:=by first | exact vLl (by decide +kernel) | exact Or.inl rfl)(hs:swapsWith e (some (.Name x pos')) pos.line X.env=pure false:=by rfl)
  (hf:X.fn x=true∨X.env.scope.names.lookup x=some .local:=by first | exact .inl rfl | exact .inr rfl | assumption):PS X (.Assign [.Name x pos'] e pos) (p5 te (jc i)):=Bn hN hi hx he hs hf
theorem bc{X:Cx}(i:Nat){x:Str}{pos:Pos}(hN:X.N.Nodup)(hi:X.N[i]? = some x:=by rfl)(hx:aS X.env.scope x:=by first | exact vLl (by decide +kernel) | exact Or.inl rfl)
  (hf:X.fn x=true∨X.env.scope.names.lookup x=some .local:=by first | exact .inl rfl | exact .inr rfl | assumption):PG X (.Name x pos) (jc i):=zG hN hi hx hf
structure CompSc (fsc:Scope) (N N0 T:List Str) (scope:Scope):Prop where
 kind:scope.kind = .function
 nocell:∀ y∈scope.names,y.2 ≠ .cell
 names:∀ y∈scope.names,y.2 = .local→scope.names.lookup y.1=some .local
 free:∀ y∈scope.names,y.2 = .free→fsc.names.lookup y.1=some .cell∨fsc.names.lookup y.1=some .free
 apart:∀ y∈scope.names,y.2 = .local→y.1∉N0
 len0:N0.length=N.length
 same:((N0.zip N).all fun p=>p.1 == p.2 || !(scope.names.any fun y=>y.1 == p.1))=true
theorem CompSc.to{X:Cx}{fsc:Scope}{N N0 T:List Str}{scope:Scope}(S:CompSc fsc N N0 T scope)(h1:X.env.scope=fsc)(h2:X.N=N):jd X N0 T scope:=by
 subst h1 h2;refine⟨S.kind,S.nocell,S.names,S.free,S.apart,S.len0,fun i x k e m=>?_⟩
 have hl:=S.len0;have hi:i<N0.length:=(List.getElem?_eq_some_iff.mp e).1
 have hN:X.N[i]? = some X.N[i]:=List.getElem?_eq_getElem (by omega)
 have hz:(x,X.N[i])∈N0.zip X.N:=List.mem_of_getElem? (i:=i) (by rw[List.getElem?_zip_eq_some]; exact⟨e,hN⟩)
 have q:=List.all_eq_true.mp S.same _ hz;simp only[Bool.or_eq_true,beq_iff_eq,Bool.not_eq_true']at q
 rcases q with q | q
 ·rw[hN,← q]
 ·have:(scope.names.any fun y=>y.1 == x)=true:=List.any_eq_true.mpr ⟨_,m,by simp⟩
  rw[this]at q; cases q
def BW:R2:=CV
def xC:R2:=CU
theorem jw{X:Cx}:OpR X (compareOp .Eq) BW:=Cu
theorem mJ{X:Cx}:OpR X (compareOp .NotEq) xC:=Cq
section
variable{K:PySem.W.Frag}{H:Hp}{Q:VK}
theorem ga(i j:Int):BW (.int i) (.int j) H Q=Q (.bl (decide (i=j))) H:=by
 have e:decide (V.int i=V.int j)=decide (i=j):=by by_cases h:i=j <;> simp[h]
 show (pS (.int i) (.int j)=true∧Q (.bl (decide (V.int i=V.int j))) H)=_
 rw[e]; exact propext ⟨fun h=>h.2,fun h=>⟨rfl,h⟩⟩
theorem eL(i j:Int):xC (.int i) (.int j) H Q=Q (.bl (!decide (i=j))) H:=by
 have e:decide (V.int i=V.int j)=decide (i=j):=by by_cases h:i=j <;> simp[h]
 show (pS (.int i) (.int j)=true∧Q (.bl (!decide (V.int i=V.int j))) H)=_
 rw[e]; exact propext ⟨fun h=>h.2,fun h=>⟨rfl,h⟩⟩
end
theorem ui{X:Cx}:PSet X tM:=w4
section
variable{X:Cx}(K:PySem.W.Frag)
theorem vm(hK:X.K=K:=by rfl):OpR X (compareOp .NotIn) (kE K):=hK ▸ vP
theorem bO(hK:X.K=K:=by rfl):CallR X (.builtin "len") (oO K):=hK ▸ vj
theorem bd(hK:X.K=K:=by rfl):IxR X (pF K):=hK ▸ EF
theorem uZ(hK:X.K=K:=by rfl)(hc:X.calm=true:=by rfl):CallR X (.builtin "any") (w_ K):=hK ▸ wf hc
theorem xU(hK:X.K=K:=by rfl):SlR X (yv K):=hK ▸ zn
theorem cx{tg l:Expr}{tl:TE}(hl:PE X l tl)(hK:X.K=K:=by rfl):PI X tg l (uc K tl):=hK ▸ zm hl
theorem gs{es:List Expr}{k n:Nat}{t:fH}{pos:Pos}(h:PGs X es t)(hn:(assignEach es X.env).length=n:=by rfl)(hst:(assignEach es X.env).findIdx? (·.1)=none:=by rfl)(hK:X.K=K:=by rfl)(hc:X.calm=true:=by rfl):PG X (.Tuple es k pos) (tP K n t):=hK ▸ BR hc h hn hst
theorem dh{o e:Expr}{es:List Expr}{to:TE}{t:TA}{name:Str}{apos cpos:Pos}{T id:String}{r:V→List V→Hp→VK→Prop}(pa:PlainAttrs T)(slot:Slot T name id)(hty:typeOf (.builtin id)=pure (.type "method_descriptor")) (hm:MtR X id r) (ho:PE X o to) (ha:PA X (e::es) t)
  (hbase:attributeBase o name X.env (eval o X.env)=eval o X.env:=by rfl)
  (hfew:((backTo cpos (starEach (e::es) X.env)).all (fun x=>!x.1)&&(backToKw cpos (keywordEach [] X.env)).all (fun x=>x.1.isSome)&&decide ((e::es).length+([]:List Keyword).length+(if ([]:List Keyword).isEmpty then 0 else 1)<30))=true:=by rfl)
  (hline:(apos.endLine == cpos.line)=true:=by rfl) (hs:starEach (e::es) X.env=(false,eval e X.env)::starEach es X.env:=by rfl) (hplain:(backTo cpos (starEach es X.env)).any (·.1)=false:=by rfl) (hK:X.K=K:=by rfl) :
  PE X (.Call (.Attribute o name apos) (e::es) [] cpos) (yX K T r to t):=hK ▸ CI pa slot hty hm ho ha hbase hfew hline hs hplain
theorem tN(hK:X.K=K:=by rfl):CallR X (.type "list") (fun xs H Q=>∃ p ys,xs=[.ref p]∧(SqL K H p ys∨SqT K H p ys)∧∀ l,H l=none→Q (.ref l) (upd H l (.lst ys))):=hK ▸ qp
theorem qU(hK:X.K=K:=by rfl):CallR X (.type "tuple") (fun xs H Q=>∃ p ys,xs=[.ref p]∧((SqL K H p ys∧∀ l,H l=none→Q (.ref l) (upd H l (.tup ys)))∨(SqT K H p ys∧Q (.ref p) H))):=hK ▸ ow
end
theorem jk(n:Int)(P:Int→Prop):(∃ j,[V.int n]=[V.int j]∧P j)=P n:=propext ⟨fun ⟨_,e,h⟩=>by cases e; exact h,fun h=>⟨n,rfl,h⟩⟩
theorem ip(x:V)(xs:List V)(P:V→List V→Prop):(∃ v r,x::xs=v::r∧P v r)=P x xs:=propext ⟨fun ⟨_,_,e,h⟩=>by cases e; exact h,fun h=>⟨x,xs,rfl,h⟩⟩
def bg(scope fsc:Scope):Scope:={ scope with names:=scope.names.map fun (n,k)=>if (k == .free&&fsc.kind == .function&&fsc.names.lookup n == some .cell) then (n,.cell) else (n,k) }
section
variable{X:Cx}{N0 T:List Str}{scope:Scope}{C:Addr}{fp:List Addr}{s:Shared}{H:Hp}{x:Str}
theorem pX(fsc:Scope)(h:(bg scope fsc).names.lookup x=some .globalImplicit)(e:X.env.scope=fsc:=by rfl):Gl (bI X N0 T scope C fp s H) x:=by subst e; exact h
theorem bV(fsc:Scope)(h:((bg scope fsc).names.lookup x=some .local||(bg scope fsc).names.lookup x=some .cell||(bg scope fsc).names.lookup x=some .free)=true)(e:X.env.scope=fsc:=by rfl):ap (bI X N0 T scope C fp s H).env.scope x:=by
 subst e;simp only[Bool.or_eq_true,decide_eq_true_eq]at h
 rcases h with (h | h) | h
 ·exact .inl h
 ·exact .inr (.inl h)
 ·exact .inr (.inr h)
theorem fo(fsc:Scope)(h:(bg scope fsc).names.lookup x=some .local)(e:X.env.scope=fsc:=by rfl):aS (bI X N0 T scope C fp s H).env.scope x:=by subst e; exact .inl h
theorem iZ(fsc:Scope)(h:(bg scope fsc).names.lookup x=some .local)(e:X.env.scope=fsc:=by rfl):(bI X N0 T scope C fp s H).fn x=true∨(bI X N0 T scope C fp s H).env.scope.names.lookup x=some .local:=by subst e; exact .inr h
end
theorem b6{X:Cx}:MtR X "list.append" kF:=kf
theorem PW.pt'{X:Cx}{e:Expr}{t:TT}(h:PW X e t):PT X e t:=h.pt
theorem ww{t u:TS}{D:dF}{σ : St}{H:Hp}(I:St→Hp→Prop)(h:∀ k:St→Hp→Prop,(∀ σ' H',I σ' H'→k σ' H')→t { D with nx:=k } σ H)(hu:∀ σ' H',I σ' H'→oS u D σ' H'):oS (wK t u) D σ H:=h _ hu
theorem gw{σ : St}{H:Hp}{Q:VK}(trs:List (TE × TE)):yD trs σ H Q=∀ p,H p=none→iP trs σ (upd H p (.dK [])) fun ps H2=>H2 p=some (.dK [])∧∃ kvs:List (bp × V),ps=kvs.map (fun kv=>(kV kv.1,kv.2))∧kvs.length≤15∧Q (.ref p) (upd H2 p (.dK (jo [] kvs))):=rfl
theorem dZ{σ : St}{H:Hp}{Q:List (V × V)→Hp→Prop}:iP [] σ H Q=Q [] H:=rfl
theorem dz{σ : St}{H:Hp}{Q:List (V × V)→Hp→Prop}(tk tv:TE)(r:List (TE × TE)):iP ((tk,tv)::r) σ H Q=tk σ H fun x H1=>tv σ H1 fun y H2=>iP r σ H2 fun ps H3=>Q ((x,y)::ps) H3:=rfl
theorem Same.upd{H H':Hp}{p:Addr}(sm:Same H H')(h:H p=none)(o:HO):Same H (upd H' p o):=fun b u q=>by rw[ai (aA q h)]; exact sm b u q
theorem al{H:Hp}{p:Addr}(h:H p=none)(o:HO):Same H (upd H p o):=fun b u q=>by rw[ai (aA q h)]; exact q
end L2
namespace L2
open PySem PySem.Spec PyProof.Rows PySem.SeqAt
def EqN(K:PySem.W.Frag)(H:Hp):Nat→V→V→Bool→Prop
 | 0,x,y,b=>bT x=true∧bT y=true∧b=fF x y
 | n+1,x,y,b=>(bT x=true∧bT y=true∧b=fF x y)∨∃ a c xs ys,x = .ref a∧y = .ref c∧((SqL K H a xs∧SqL K H c ys)∨(SqT K H a xs∧SqT K H c ys))∧
   ((∃ e:Nat→Bool,xs.length=ys.length∧(∀ (i:Nat) x y,xs[i]? = some x→ys[i]? = some y→EqN K H n x y (e i))∧b=(List.range xs.length).all e)∨
    (SqL K H a xs∧SqL K H c ys∧xs.length≠ys.length∧b=false))
theorem lP:∀ {x:V},bT x=true→fF x x=true
 | .non,_=>rfl
 | .bl b,_=>by simp[fF]
 | .int i,_=>by simp[fF]
 | .str y,_=>by simp[fF]
section
variable{X:Cx}{pins:List (Addr × Obj)}{σ : St}{H:Hp}{s:Shared}
theorem EqN.self(I:Inv X pins σ H s):∀ {n:Nat} {x:V} {b:Bool},EqN X.K H n x x b→b=true
 | 0,x,b,h=>by obtain⟨h1,_,rfl⟩:=h; exact lP h1
 | n+1,x,b,h=>by
  rcases h with ⟨h1,_,rfl⟩ | ⟨a,c,xs,ys,rfl,e,hq,h⟩
  ·exact lP h1
  ·cases e
   have exy:xs=ys:=by
    rcases hq with ⟨q1,q2⟩ | ⟨q1,q2⟩
    ·exact I.list_inj q1 q2
    ·exact I.tuple_inj q1 q2
   subst exy;rcases h with ⟨e,_,he,rfl⟩ | ⟨_,_,z,_⟩
   ·rw[List.all_eq_true]
    intro i hi
    have hi':=List.mem_range.mp hi;have q:=he i xs[i] xs[i] (List.getElem?_eq_getElem hi') (List.getElem?_eq_getElem hi');exact EqN.self I q
   ·exact absurd rfl z
theorem EqN.rc(I:Inv X pins σ H s){n:Nat}(ih:∀ {A:Around} {x y:V} {b:Bool} {u v:Value},A.units+n<cLine→EqN X.K H n x y b→RelV x u→RelV y v→EqAt A s u v b)
  {A:Around} {a c:Addr} {xs ys:List V} {b:Bool} (hu:A.units+(n+1)<cLine) (hq:(SqL X.K H a xs∧SqL X.K H c ys)∨(SqT X.K H a xs∧SqT X.K H c ys))
  (h:(∃ e:Nat→Bool,xs.length=ys.length∧(∀ (i:Nat) x y,xs[i]? = some x→ys[i]? = some y→EqN X.K H n x y (e i))∧b=(List.range xs.length).all e)∨(SqL X.K H a xs∧SqL X.K H c ys∧xs.length≠ys.length∧b=false)) :
  RcAt A s (.ref a) (.ref c) b∧RcNeAt A s (.ref a) (.ref c) (!b):=by
 have hin:A.in1.units+n<cLine:=by
  have:A.in1.units=A.units+1:=rfl
  omega
 rcases h with ⟨e,hl,he,rfl⟩ | ⟨q1,q2,hl,rfl⟩
 ·rcases hq with ⟨q1,q2⟩ | ⟨q1,q2⟩
  ·obtain⟨i1,r1,p1,z1⟩:=I.list q1
   obtain⟨i2,r2,p2,z2⟩:=I.list q2
   have l1:=r1.length;have l2:=r2.length
   have hit:∀ j (h1:j<i1.toArray.size) (h2:j<i2.toArray.size),EqAt A.in1 s i1.toArray[j] i2.toArray[j] (e j):=fun j h1 h2=>by
    obtain⟨x,hx,rx⟩:=r1.of (i:=j) (u:=i1.toArray[j]) (by simp at h1 ⊢)
    obtain⟨y,hy,ry⟩:=r2.of (i:=j) (u:=i2.toArray[j]) (by simp at h2 ⊢)
    exact ih hin (he j x y hx hy) rx ry
   have ez:xs.length=i1.toArray.size:=by simp; omega
   rw[ez];exact⟨RcAt.lists p1.isList p2.isList (by simp; omega) (by omega) hit,RcNeAt.lists p1.isList p2.isList (by simp; omega) (by omega) hit⟩
  ·obtain⟨i1,r1,p1,z1⟩:=I.tuple q1
   obtain⟨i2,r2,p2,z2⟩:=I.tuple q2
   have l1:=r1.length;have l2:=r2.length
   have hit:∀ j (h1:j<i1.toArray.size) (h2:j<i2.toArray.size),EqAt A.in1 s i1.toArray[j] i2.toArray[j] (e j):=fun j h1 h2=>by
    obtain⟨x,hx,rx⟩:=r1.of (i:=j) (u:=i1.toArray[j]) (by simp at h1 ⊢)
    obtain⟨y,hy,ry⟩:=r2.of (i:=j) (u:=i2.toArray[j]) (by simp at h2 ⊢)
    exact ih hin (he j x y hx hy) rx ry
   have ez:(List.range xs.length).all e=((List.range (min i1.toArray.size i2.toArray.size)).all e&&i1.toArray.size == i2.toArray.size):=by
    have e1:i1.toArray.size=xs.length:=by simp; omega
    have e2:i2.toArray.size=xs.length:=by simp; omega
    rw[e1,e2,Nat.min_self]; simp
   rw[ez];exact⟨RcAt.tuples (show s.heap.IsTuple a i1.toArray from p1) (show s.heap.IsTuple c i2.toArray from p2) (by omega) hit,RcNeAt.tuples (show s.heap.IsTuple a i1.toArray from p1) (show s.heap.IsTuple c i2.toArray from p2) (by omega) hit⟩
 ·obtain⟨i1,r1,p1,z1⟩:=I.list q1
  obtain⟨i2,r2,p2,z2⟩:=I.list q2
  have l1:=r1.length;have l2:=r2.length
  have hne:(i1.toArray.size != i2.toArray.size)=true:=by
   rw[bne_iff_ne]; simp; omega
  exact⟨RcAt.lists_lengths p1.isList p2.isList hne (by omega),RcNeAt.lists_lengths p1.isList p2.isList hne (by omega)⟩
theorem EqN.at(I:Inv X pins σ H s):∀ {n:Nat} {A:Around} {x y:V} {b:Bool} {u v:Value},A.units+n<cLine→EqN X.K H n x y b→RelV x u→RelV y v→EqAt A s u v b
 | 0,A,x,y,b,u,v,_,h,rx,ry=>by obtain⟨h1,h2,rfl⟩:=h; exact js rx ry h1 h2
 | n+1,A,x,y,b,u,v,hu,h,rx,ry=>by
  have h0:=h;rcases h with ⟨h1,h2,rfl⟩ | ⟨a,c,xs,ys,rfl,rfl,hq,h⟩
  ·exact js rx ry h1 h2
  ·cases rx
   cases ry
   by_cases hac:a=c
   ·subst hac
    rw[EqN.self I h0];exact EqAt.same _
   ·exact EqAt.of_refs hac (EqN.rc I (fun hu' q rx ry=>EqN.at I hu' q rx ry) hu hq h).1
end
section
variable{X:Cx}
def yn(K:PySem.W.Frag):R2:=fun x y H Q=>∃ (a c:Addr) (n:Nat) (b:Bool),x = .ref a∧y = .ref c∧n≤100∧EqN K H (n+1) x y b∧Q (.bl b) H
def xO(K:PySem.W.Frag):R2:=fun x y H Q=>∃ (a c:Addr) (n:Nat) (b:Bool),x = .ref a∧y = .ref c∧n≤100∧EqN K H (n+1) x y b∧Q (.bl (!b)) H
theorem Bw(hu:X.A.units+101<cLine):OpR X (compareOp .Eq) (yn X.K):=by
 intro pins s σ H x y v u Q I rx ry h
 obtain⟨a,c,n,b,rfl,rfl,hn,he,q⟩:=h
 cases rx
 cases ry;rcases he with ⟨h1,_⟩ | ⟨a',c',xs,ys,e1,e2,hq,h⟩
 ·cases h1
 ·cases e1
  cases e2;exact(EqN.rc I (fun hu' q rx ry=>EqN.at I hu' q rx ry) (by omega) hq h).1 _ _ _ _ ⟨.bl b,H,I,rfl,q⟩
theorem BG(hu:X.A.units+101<cLine):OpR X (compareOp .NotEq) (xO X.K):=by
 intro pins s σ H x y v u Q I rx ry h
 obtain⟨a,c,n,b,rfl,rfl,hn,he,q⟩:=h
 cases rx
 cases ry;rcases he with ⟨h1,_⟩ | ⟨a',c',xs,ys,e1,e2,hq,h⟩
 ·cases h1
 ·cases e1
  cases e2;exact(EqN.rc I (fun hu' q rx ry=>EqN.at I hu' q rx ry) (by omega) hq h).2 _ _ _ _ ⟨.bl (!b),H,I,rfl,q⟩
theorem kJ(K:PySem.W.Frag){k:Nat}(hr:Room k X.A)(hK:X.K=K:=by rfl):OpR X (compareOp .Eq) (yn K):=by subst hK; exact Bw (by have:=hr.un; omega)
theorem dW(K:PySem.W.Frag){k:Nat}(hr:Room k X.A)(hK:X.K=K:=by rfl):OpR X (compareOp .NotEq) (xO K):=by subst hK; exact BG (by have:=hr.un; omega)
end
section
variable{K:PySem.W.Frag}{H:Hp}{Q:VK}
theorem iw(a c:Addr):yn K (.ref a) (.ref c) H Q=∃ (n:Nat) (b:Bool),n≤100∧EqN K H (n+1) (.ref a) (.ref c) b∧Q (.bl b) H:=
 propext ⟨fun ⟨_,_,n,b,e1,e2,q⟩=>⟨n,b,q⟩,fun ⟨n,b,q⟩=>⟨a,c,n,b,rfl,rfl,q⟩⟩
theorem ig(a c:Addr):xO K (.ref a) (.ref c) H Q=∃ (n:Nat) (b:Bool),n≤100∧EqN K H (n+1) (.ref a) (.ref c) b∧Q (.bl (!b)) H:=
 propext ⟨fun ⟨_,_,n,b,e1,e2,q⟩=>⟨n,b,q⟩,fun ⟨n,b,q⟩=>⟨a,c,n,b,rfl,rfl,q⟩⟩
theorem EqN.flat{n:Nat}{x y:V}(hx:bT x=true)(hy:bT y=true):EqN K H n x y (fF x y):=by
 cases n with
 | zero=>exact⟨hx,hy,rfl⟩
 | succ n=>exact .inl ⟨hx,hy,rfl⟩
theorem EqN.refl{n:Nat}{x:V}(hx:bT x=true):EqN K H n x x true:=by
 have q:EqN K H n x x (fF x x):=EqN.flat hx hx
 rwa [lP hx]at q
theorem EqN.seq{n:Nat}{a c:Addr}{xs ys:List V}(hq:(SqL K H a xs∧SqL K H c ys)∨(SqT K H a xs∧SqT K H c ys))(hl:xs.length=ys.length)(he:∀ (i:Nat) x y,xs[i]? = some x→ys[i]? = some y→EqN K H n x y true):EqN K H (n+1) (.ref a) (.ref c) true:=
 .inr ⟨a,c,xs,ys,rfl,rfl,hq,.inl ⟨fun _=>true,hl,he,by simp⟩⟩
theorem EqN.seqFlat{n:Nat}{a c:Addr}{xs:List V}(hq:(SqL K H a xs∧SqL K H c xs)∨(SqT K H a xs∧SqT K H c xs))(hf:∀ x∈xs,bT x=true):EqN K H (n+1) (.ref a) (.ref c) true:=
 EqN.seq hq rfl fun i x y e1 e2=>by
  rw[e1]at e2; cases e2
  exact EqN.refl (hf x (List.mem_of_getElem? e1))
theorem EqN.strs{n:Nat}{a c:Addr}{ss ts:List Str}(h1:SqL K H a (ss.map V.str))(h2:SqL K H c (ts.map V.str)):EqN K H (n+1) (.ref a) (.ref c) (decide (ss=ts)):=by
 refine .inr ⟨a,c,_,_,rfl,rfl,.inl ⟨h1,h2⟩,?_⟩
 by_cases hl:ss.length=ts.length
 ·refine .inl ⟨fun i=>ss.getD i default == ts.getD i default,by simp[hl],fun i x y e1 e2=>?_,?_⟩
  ·rw[List.getElem?_map]at e1 e2
   cases q1:ss[i]? with
   | none=>rw[q1]at e1; cases e1
   | some u=>
    cases q2:ts[i]? with
    | none=>rw[q2]at e2; cases e2
    | some v=>
     rw[q1]at e1; rw[q2]at e2
     cases e1; cases e2
     dsimp only
     rw[List.getD_eq_getElem?_getD,List.getD_eq_getElem?_getD,q1,q2];exact EqN.flat rfl rfl
  ·rw[List.length_map]
   by_cases e:ss=ts
   ·subst e
    rw[decide_eq_true rfl]
    symm
    rw[List.all_eq_true];intro i _
    simp
   ·rw[decide_eq_false e]
    symm
    rw[List.all_eq_false]
    have:∃ i:Nat,ss[i]? ≠ ts[i]?:=by
     refine Classical.byContradiction fun hn=>e (List.ext_getElem? fun i=>?_)
     exact Classical.byContradiction fun h=>hn ⟨i,h⟩
    obtain⟨i,hi⟩:=this
    have hlt:i<ss.length:=by
     refine Classical.byContradiction fun hn=>hi ?_
     rw[List.getElem?_eq_none (by omega),List.getElem?_eq_none (by omega)]
    refine⟨i,List.mem_range.mpr hlt,?_⟩
    rw[List.getD_eq_getElem?_getD,List.getD_eq_getElem?_getD,List.getElem?_eq_getElem hlt,List.getElem?_eq_getElem (by omega)]
    rw[List.getElem?_eq_getElem hlt,List.getElem?_eq_getElem (by omega)]at hi
    simpa using hi
 ·have e:ss≠ts:=fun e=>hl (by rw[e])
  rw[decide_eq_false e];exact .inr ⟨h1,h2,by simpa using hl,rfl⟩
end
theorem wx{y:Str}:∀ {l:List Str} {j:Nat},j<l.idxOf y→∀ (h:j<l.length),l[j]≠y
 | n::r,0,h,_=>by
  intro e
  have e':n=y:=e
  subst e';simp at h
 | n::r,j+1,h,h2=>by
  by_cases e:n=y
  ·subst e; simp at h
  ·rw[List.idxOf_cons]at h
   have hb:(n == y)=false:=beq_eq_false_iff_ne.mpr e
   rw[hb]at h
   have h':j+1<r.idxOf y+1:=h
   have q:=wx (y:=y) (l:=r) (j:=j) (by omega) (by simpa using h2)
   simpa using q
section
variable{X:Cx}
def vA(K:PySem.W.Frag):List V→Hp→VK→Prop:=fun xs H Q=>∃ (p:Addr) (ss:List Str),xs=[.ref p]∧SqL K H p (ss.map V.str)∧ss.length<64∧∀ (l:Addr) (ts:List Str),H l=none→ts.Perm ss→sortedS ts=true→Q (.ref l) (upd H l (.lst (ts.map V.str)))
theorem fe{K:PySem.W.Frag}{H:Hp}{Q:VK}(p:Addr):vA K [.ref p] H Q=∃ ss:List Str,SqL K H p (ss.map V.str)∧ss.length<64∧∀ (l:Addr) (ts:List Str),H l=none→ts.Perm ss→sortedS ts=true→Q (.ref l) (upd H l (.lst (ts.map V.str))):=
 propext ⟨fun ⟨_,ss,e,q⟩=>by cases e; exact⟨ss,q⟩,fun ⟨ss,q⟩=>⟨p,ss,rfl,q⟩⟩
theorem ut(K:PySem.W.Frag)(hK:X.K=K:=by rfl):CallR X (.builtin "sorted") (vA K):=by
 subst hK;intro pins s σ H xs us Q I r h
 obtain⟨p,ss,rfl,hq,h64,q⟩:=h
 obtain⟨u,rfl,ru⟩:=df r
 cases ru;obtain⟨its,rv,pl,hz⟩:=I.list hq
 have hlen:its.length=ss.length:=by rw[← rv.length,List.length_map]
 refine sorted_strs pl.isList (kn rv) (by omega) fun out ts h1 h2 h3=>?_
 obtain⟨e,he⟩:=sortedAll_at s.heap its out
 have hl:ts.length=ss.length:=h2.length_eq
 have hs:sizeLine=16777216:=sizeLine_eq
 exact⟨.ref (s.heap.objs.size+1),_,I.laid (t':=s.toks) (fun b o e=>sortedAll_old e) (Nat.le_succ _) (show ObjOk X.prog X.w _ _ _ (.lst (ts.map V.str)) from ⟨by rw[List.length_map]; omega,out.toList,e,kr h1,by simpa using he⟩),rfl,
  q _ ts (I.hok.fresh (Nat.le_succ _)) h2 h3⟩
def sg(K:PySem.W.Frag):V→List V→Hp→VK→Prop:=fun x vs H Q=>∃ (p:Addr) (ss:List Str) (y:Str),x = .ref p∧vs=[.str y]∧SqL K H p (ss.map V.str)∧y∈ss∧Q (.int (ss.idxOf y:Nat)) H
theorem dY{K:PySem.W.Frag}{H:Hp}{Q:VK}(p:Addr)(y:Str):sg K (.ref p) [.str y] H Q=∃ ss:List Str,SqL K H p (ss.map V.str)∧y∈ss∧Q (.int (ss.idxOf y:Nat)) H:=
 propext ⟨fun ⟨_,ss,_,e1,e2,q⟩=>by cases e1; cases e2; exact⟨ss,q⟩,fun ⟨ss,q⟩=>⟨p,ss,y,rfl,rfl,q⟩⟩
theorem vb(K:PySem.W.Frag)(hK:X.K=K:=by rfl):MtR X "list.index" (sg K):=by
 subst hK;intro pins s σ H x xs v us Q I rx r h
 obtain⟨p,ss,y,rfl,rfl,hq,hy,q⟩:=h
 cases rx;obtain⟨u,rfl,ru⟩:=df r
 obtain⟨t,rfl⟩:=ru
 obtain⟨its,rv,pl,hz⟩:=I.list hq
 have hlen:its.length=ss.length:=by rw[← rv.length,List.length_map]
 rw[List.length_map]at hz
 have hs:sizeLine=16777216:=sizeLine_eq
 obtain⟨⟨cls,dd,data,sl⟩,ho,hc,n,hd⟩:=pl.isList
 simp only at hc hd
 subst hc hd;have hj:ss.idxOf y<ss.length:=List.idxOf_lt_length_iff.mpr hy
 have rel:∀ (i:Nat) (h:i<its.length),∃ t',its[i] = .str ss[i] t':=fun i h=>by
  obtain⟨x,hx,rx⟩:=rv.of (i:=i) (u:=its[i]) (List.getElem?_eq_getElem h)
  rw[List.getElem?_map,List.getElem?_eq_getElem (by omega)]at hx
  have hx':V.str ss[i]=x:=Option.some.inj hx
  subst hx';exact rx
 refine call_meets PySem.F.slot_list_index ⟨_,ho,rfl⟩ PySem.F.entry_list_index (PySem.F.args_list_index_2 _ _)
  (list_indexAt p its.toArray n dd sl (.str y t) (j1 (.str y)) (ss.idxOf y) (by simpa [hlen] using hj) (by omega) ?_ ?_) ⟨ho,fun z hz=>?_,⟨.int _,H,I.tok _,⟨_,rfl⟩,q⟩⟩
 ·show j1 (.str y) its[ss.idxOf y]=true
  obtain⟨t',e⟩:=rel (ss.idxOf y) (by omega)
  rw[e];show (ss[ss.idxOf y] == y)=true
  rw[List.getElem_idxOf hj]; simp
 ·intro j hjs hlt
  have hj':j<its.length:=by simpa using hjs
  show j1 (.str y) its[j]=false
  obtain⟨t',e⟩:=rel j hj'
  rw[e];show (ss[j] == y)=false
  exact beq_eq_false_iff_ne.mpr (wx hlt _)
 ·have hz':z∈its:=by simpa using hz
  obtain⟨i,hi,rfl⟩:=List.mem_iff_getElem.mp hz'
  obtain⟨t',e⟩:=rel i hi
  have q':=js (A:=X.A.in1) (s:=s) (y:=.str ss[i]) (x:=.str y) (u:=its[i]) (v:=.str y t) ⟨t',e⟩ ⟨t,rfl⟩ rfl rfl;rw[e]; rw[e]at q'
  exact q'
end
section
variable{X:Cx}
def BO:R2:=fun x y H Q=>y = .non∧Q (.bl (decide (x = .non))) H
def yL:R2:=fun x y H Q=>y = .non∧Q (.bl (!decide (x = .non))) H
theorem bU:OpR X (compareOp .Is) BO:=BE
theorem qm:OpR X (compareOp .IsNot) yL:=zi
def yx:List V→Hp→VK→Prop:=fun xs H Q=>∃ i,xs=[.int i]∧i.natAbs.log2<1920∧Q (.str (toString i)) H
theorem v5:CallR X (.type "str") yx:=qC
def yY:List V→Hp→VK→Prop:=fun xs H Q=>(∃ i,xs=[.int i]∧Q (.int i) H)∨∃ k,xs=[.bl k]∧Q (.int (if k then 1 else 0)) H
theorem uV:CallR X (.type "int") yY:=vM
def rE(K:PySem.W.Frag):List V→Hp→VK→Prop:=fun xs H Q=>∃ p ys,xs=[.ref p]∧(SqL K H p ys∨SqT K H p ys)∧∀ l,H l=none→Q (.ref l) (upd H l (.lst ys))
theorem gR(K:PySem.W.Frag)(hK:X.K=K:=by rfl):CallR X (.type "list") (rE K):=tN K hK
def uT(K:PySem.W.Frag):List V→Hp→VK→Prop:=fun xs H Q=>∃ p ys,xs=[.ref p]∧((SqL K H p ys∧∀ l,H l=none→Q (.ref l) (upd H l (.tup ys)))∨(SqT K H p ys∧Q (.ref p) H))
theorem vG(K:PySem.W.Frag)(hK:X.K=K:=by rfl):CallR X (.type "tuple") (uT K):=qU K hK
def yA:List V→Hp→VK→Prop:=fun xs H Q=>∃ i j,xs=[.int i,.int j]∧Q (.int (if j<i then j else i)) H
theorem wk(hc:X.calm=true:=by rfl):CallR X (.builtin "min") yA:=uN hc
def tW:R2:=fun x y H Q=>match x,y with
 | .int i,.int j=>CMul i j∧Q (.int (i * j)) H
 | .str z,.int n=>0≤n∧n≤4096∧z.length≤4096∧Q (.str (Txt.mul z n)) H
 | _,_=>False
theorem iu:OpR X (binaryOp .Mult) tW:=by
 intro pins s σ H x y v u Q I rx ry h
 match x,y,h with
 | .int i,.int j,h=>exact AK pins s σ H _ _ v u Q I rx ry ⟨_,_,rfl,rfl,h⟩
 | .str z,.int n,h=>
  obtain⟨t,rfl⟩:=rx
  obtain⟨t',rfl⟩:=ry
  obtain⟨h0,h1,h2,q⟩:=h
  exact SB.mul (mulOk_of 4096 4096 h2 (by omega) (by omega) (by decide) (by decide)) fun t' k=>⟨.str (Txt.mul z n),H,I.tok k,⟨t',rfl⟩,q⟩
end
section
variable{K:PySem.W.Frag}{H:Hp}{Q:VK}
theorem il(x:V):BO x .non H Q=Q (.bl (decide (x = .non))) H:=propext ⟨fun h=>h.2,fun h=>⟨rfl,h⟩⟩
theorem gC(x:V):yL x .non H Q=Q (.bl (!decide (x = .non))) H:=propext ⟨fun h=>h.2,fun h=>⟨rfl,h⟩⟩
theorem gA(i:Int):yx [.int i] H Q=(i.natAbs.log2<1920∧Q (.str (toString i)) H):=propext ⟨fun ⟨_,e,q⟩=>by cases e; exact q,fun q=>⟨i,rfl,q⟩⟩
theorem gx(k:Bool):yY [.bl k] H Q=Q (.int (if k then 1 else 0)) H:=propext ⟨fun h=>by rcases h with ⟨_,e,q⟩ | ⟨_,e,q⟩ <;> cases e; exact q,fun q=>.inr ⟨k,rfl,q⟩⟩
theorem ee(p:Addr):rE K [.ref p] H Q=∃ ys,(SqL K H p ys∨SqT K H p ys)∧∀ l,H l=none→Q (.ref l) (upd H l (.lst ys)):=propext ⟨fun ⟨_,ys,e,q⟩=>by cases e; exact⟨ys,q⟩,fun ⟨ys,q⟩=>⟨p,ys,rfl,q⟩⟩
theorem eR(p:Addr):uT K [.ref p] H Q=∃ ys,((SqL K H p ys∧∀ l,H l=none→Q (.ref l) (upd H l (.tup ys)))∨(SqT K H p ys∧Q (.ref p) H)):=propext ⟨fun ⟨_,ys,e,q⟩=>by cases e; exact⟨ys,q⟩,fun ⟨ys,q⟩=>⟨p,ys,rfl,q⟩⟩
theorem gB(i j:Int):yA [.int i,.int j] H Q=Q (.int (if j<i then j else i)) H:=propext ⟨fun ⟨_,_,e,q⟩=>by cases e; exact q,fun q=>⟨i,j,rfl,q⟩⟩
theorem eT(i j:Int):tW (.int i) (.int j) H Q=(CMul i j∧Q (.int (i * j)) H):=rfl
theorem eV(z:Str)(n:Int):tW (.str z) (.int n) H Q=(0≤n∧n≤4096∧z.length≤4096∧Q (.str (Txt.mul z n)) H):=rfl
theorem hV(a:Addr)(lo hi:Option Int):yv K (.ref a) lo hi H Q=∃ xs,SqL K H a xs∧∀ p,H p=none→Q (.ref p) (upd H p (.lst (lz xs lo hi))):=propext ⟨fun ⟨_,xs,e,q⟩=>by cases e; exact⟨xs,q⟩,fun ⟨xs,q⟩=>⟨a,xs,rfl,q⟩⟩
end
theorem ce{n:Nat}(h:n≤1000000):n<sizeLine:=by
 have:sizeLine=16777216:=sizeLine_eq
 omega
theorem cg{n:Nat}(h:n≤1000000):n≤sizeLine:=Nat.le_of_lt (ce h)
theorem p9{α : Type}{f:α→V}{xs:List α}{i:Int}{x:α}(h0:0≤i)(h:xs[i.toNat]? = some x):eB (xs.map f) i=some (f x):=by
 have q:(xs.map f)[i.toNat]? = some (f x):=by rw[List.getElem?_map,h]; rfl
 have q':=aZ q
 rwa [show ((i.toNat:Nat):Int)=i by omega]at q'
theorem Aj{α : Type}{xs:List α}{i:Int}(h0:0≤i)(h:i<xs.length):∃ x,xs[i.toNat]? = some x∧eB xs i=some x:=by
 have hk:i.toNat<xs.length:=by omega
 refine⟨xs[i.toNat],List.getElem?_eq_getElem hk,?_⟩
 have q:=aZ (List.getElem?_eq_getElem hk)
 rwa [show ((i.toNat:Nat):Int)=i by omega]at q
theorem ef{H H':Hp}{p:Addr}{o:HO}(h:upd H p o=H')(hp:H p=none):Same H H':=h ▸ al hp o
theorem jb{H H':Hp}{p:Addr}{o:HO}(h:upd H p o=H'):H' p=some o:=h ▸ ae
end L2
namespace L2
open PySem PySem.Spec PyProof.Rows
theorem Inv.turnedL{X:Cx}{pins:List (Addr × Obj)}{σ : St}{H:Hp}{s:Shared}{h':Heap}{t':Nat}{ch:List Addr}(I:Inv X pins σ H s)(k:∀ b o,b∉ch→s.heap.get? b=some o→h'.get? b=some o)
  (hf:∀ b∈ch,gK X pins H b):Inv X pins σ H { s with heap:=h',toks:=t' }:=by
 have nit:∀ b u,H b=some u→b∉ch:=fun b u e z=>by rw[(hf b z).1]at e; cases e
 refine I.step (g':=s.gens) (d':=s.drawn) (ch:=ch) (fun b hb=>?_) (fun b o _ _ hc e _=>k b o hc e) (fun b o _ _ hc e _=>⟨o.slots,k b o hc e⟩) (fun _ _ _ _ n=>n)
  (fun b o hc e=>⟨o,k b o hc e⟩) (fun _ _ e=>e) (fun _ _ _ e=>e) (fun b ps e=>⟨#[],by rw[e]; simp⟩) (fun m hm=>?_) (fun b u e=>?_) I.bare
 ·obtain⟨_,f1,_,f3,f4,f5⟩:=hf b hb
  exact⟨f3,f1,f4,f5⟩
 ·obtain⟨o,es,ep,ho,r⟩:=hm
  exact⟨o,es,ep,k _ o (fun z=>(hf _ z).2.1 rfl) ho,r⟩
 ·refine(I.hok b u e).stay (fun c v hc q=>k c v ?_ q) (fun _ q=>q) fun _ _ q=>q
  rcases hc with z | z
  ·rw[z]; exact nit b u e
  ·exact nit c _ z
theorem Inv.turnedLaid{X:Cx}{pins:List (Addr × Obj)}{σ : St}{H:Hp}{s:Shared}{h':Heap}{t':Nat}{ch:List Addr}{a:Addr}{o:HO}(I:Inv X pins σ H s)(k:∀ b o,b∉ch→s.heap.get? b=some o→h'.get? b=some o)
  (hf:∀ b∈ch,gK X pins H b) (hp:s.heap.objs.size≤a) (new:ObjOk X.prog X.w (upd H a o) h' a o):Inv X pins σ (upd H a o) { s with heap:=h',toks:=t' }:=by
 have hn:H a=none:=I.hok.fresh hp
 have nit:∀ b u,H b=some u→b∉ch:=fun b u e z=>by rw[(hf b z).1]at e; cases e
 refine I.step (g':=s.gens) (d':=s.drawn) (ch:=ch) (fun b hb=>?_) (fun b o _ _ hc e _=>k b o hc e) (fun b o _ _ hc e _=>⟨o.slots,k b o hc e⟩) (fun b u _ q n=>?_)
  (fun b o hc e=>⟨o,k b o hc e⟩) (fun b xs q=>?_) (fun b u xs q=>?_) (fun b ps q=>⟨#[],?_⟩) (fun m hm=>?_) (fun b u e=>?_) I.bare
 ·obtain⟨_,f1,_,f3,f4,f5⟩:=hf b hb
  exact⟨f3,f1,f4,f5⟩
 ·rw[ai (Nat.ne_of_lt (Nat.lt_of_lt_of_le (Heap.lt_size q) hp))]; exact n
 ·rw[ai (aA q hn)]; exact q
 ·rw[ai (aA q hn)]; exact q
 ·rw[ai (aA q hn),q]; simp
 ·obtain⟨o,es,ep,ho,r⟩:=hm
  exact⟨o,es,ep,k _ o (fun z=>(hf _ z).2.1 rfl) ho,r⟩
 ·by_cases hb:b=a
  ·subst hb; rw[ae]at e; cases e; exact new
  ·rw[ai hb]at e
   refine(I.hok b u e).stay (fun c v hc q=>k c v ?_ q) (fun c q=>by rw[ai (aA q hn)]; exact q) fun c xs q=>by rw[ai (aA q hn)]; exact q
   rcases hc with z | z
   ·rw[z]; exact nit b u e
   ·exact nit c _ z
def yB(K:PySem.W.Frag)(a b:Addr):It:=
  ⟨fun i H=>∃ xs ys x y,SqL K H a xs∧SqL K H b ys∧xs[i]? = some x∧ys[i]? = some y,
   fun i H v H'=>∃ t x y,H t=none∧v = .ref t∧H'=upd H t (.tup [x,y])∧(∀ xs,SqL K H a xs→xs[i]? = some x)∧∀ ys,SqL K H b ys→ys[i]? = some y,
   fun i H=>∃ xs ys,SqL K H a xs∧SqL K H b ys∧(xs.length≤i∨ys.length≤i)⟩
structure o_ (z TI TO i1 i2:Addr):Prop where
 TIz:TI≠z
 TOz:TO≠z
 i1z:i1≠z
 i2z:i2≠z
 TITO:TI≠TO
 TIi1:TI≠i1
 TIi2:TI≠i2
 TOi1:TO≠i1
 TOi2:TO≠i2
 i12:i1≠i2
theorem eZ{h:Heap}{l c:Addr}{xs:Array Value}{o:Obj}(hl:h.IsList l xs)(e:h.get? c=some o)(hc:o.cls ≠ .type "list"):l≠c:=by
 rintro rfl
 obtain⟨o',e',c',_⟩:=hl
 rw[e]at e'; cases e'
 exact hc c'
def C0(z TI TO i1 i2 l1 l2:Addr)(i:Nat)(h:Heap):Prop:=
 IsZip h z TI TO .none∧IsPair h TI (.ref i1) (.ref i2)∧(∃ a b,IsPair h TO a b)∧h.IsListIter i1 l1 i∧h.IsListIter i2 l2 i
theorem uP{h:Heap}{z TI TO i1 i2 l1 l2:Addr}{i:Nat}{xs ys:Array Value}(D:o_ z TI TO i1 i2)(st:C0 z TI TO i1 i2 l1 l2 i h)(h1:h.IsList l1 xs)(h2:h.IsList l2 ys):ZipApart z TI TO i1 i2 l1 l2:=by
 obtain⟨s1,s2,⟨a,b,s3⟩,⟨o4,s4,c4,_⟩,⟨o5,s5,c5,_⟩⟩:=st
 have n4:o4.cls ≠ .type "list" := by rw[c4]; decide
 have n5:o5.cls ≠ .type "list" := by rw[c5]; decide
 have nz:Value.type "zip" ≠ Value.type "list" := by decide
 have nt:Value.type "tuple" ≠ Value.type "list" := by decide
 exact⟨D.TIz,D.TOz,D.i1z,D.i2z,D.TITO,D.TIi1,D.TIi2,D.TOi1,D.TOi2,D.i12,eZ h1 s1 nz,eZ h1 s3 nt,eZ h1 s4 n4,eZ h1 s5 n5,eZ h2 s1 nz,eZ h2 s3 nt,eZ h2 s4 n4,eZ h2 s5 n5⟩
theorem yb{P:Program}{w:World}{K:PySem.W.Frag}{elts:List Expr}{k:Nat}{pos:Pos}{z TI TO i1 i2 l1 l2:Addr}(D:o_ z TI TO i1 i2):lH P w K (.Tuple elts k pos) (yB K l1 l2) [z,TI,TO,i1,i2] z (C0 z TI TO i1 i2 l1 l2) where
 mem:=by simp
 obj:=fun i h st b hb=>by
  obtain⟨s1,s2,⟨_,_,s3⟩,⟨o4,s4,c4,d4⟩,⟨o5,s5,c5,d5⟩⟩:=st
  simp only[List.mem_cons,List.mem_nil_iff,or_false]at hb
  rcases hb with rfl | rfl | rfl | rfl | rfl
  ·exact⟨_,s1,fun v e=>by cases e⟩
  ·exact⟨_,s2,fun v e=>by cases e⟩
  ·exact⟨_,s3,fun v e=>by cases e⟩
  ·exact⟨_,s4,fun v e=>by rw[d4]at e; cases e⟩
  ·exact⟨_,s5,fun v e=>by rw[d5]at e; cases e⟩
 keep:=fun i h h' st kk=>by
  obtain⟨s1,s2,⟨a,b,s3⟩,s4,s5⟩:=st
  exact⟨kk z (by simp) _ s1,kk TI (by simp) _ s2,⟨a,b,kk TO (by simp) _ s3⟩,s4.at fun o e=>kk i1 (by simp) o e,s5.at fun o e=>kk i2 (by simp) o e⟩
 item:=by
  intro X hP hw hK hc i pins s σ H E I hf st hg
  subst hP hw hK;obtain⟨xs,ys,x,y,q1,q2,hx,hy⟩:=hg
  obtain⟨is1,rv1,p1,_⟩:=I.list q1
  obtain⟨is2,rv2,p2,_⟩:=I.list q2
  obtain⟨u1,hu1,ru1⟩:=rv1.get hx
  obtain⟨u2,hu2,ru2⟩:=rv2.get hy
  have D':=uP D st p1.isList p2.isList;obtain⟨s1,s2,⟨a,b,s3⟩,s4,s5⟩:=st
  refine wpAny_pyNext_zip_item D' s1 s2 s3 s4 s5 p1.isList p2.isList (x:=u1) (y:=u2) (by simpa using hu1) (by simpa using hu2) fun h' a1 a2 a3 a4 a5 a6 kk=>?_
  refine⟨_,rfl,wpAny_letOwnedTupleGo_zip a1 fun h'' hz' hs'=>?_⟩
  have lt:∀ {c o},s.heap.get? c=some o→s.heap.objs.size≠c:=fun e=>Nat.ne_of_gt (Heap.lt_size e)
  have zne:s.heap.objs.size≠z:=lt s1
  have keep2:∀ b o,b∉[z,TI,TO,i1,i2]→s.heap.get? b=some o→h''.get? b=some o:=fun b o hb e=>by
   simp only[List.mem_cons,List.mem_nil_iff,or_false,not_or]at hb
   exact hs'.extBut _ _ hb.1 (kk b o hb.1 hb.2.2.1 hb.2.2.2.1 hb.2.2.2.2 e)
  have hsz:H s.heap.objs.size=none:=I.hok.fresh (Nat.le_refl _)
  have tupN:IsPair h'' s.heap.objs.size u1 u2:=hs'.extBut _ _ zne a5
  have nlt:∀ c∈[z,TI,TO,i1,i2],c≠s.heap.objs.size:=fun c hc'=>by
   obtain⟨o4,e4,_⟩:=id s4
   obtain⟨o5,e5,_⟩:=id s5
   simp only[List.mem_cons,List.mem_nil_iff,or_false]at hc'
   rcases hc' with rfl | rfl | rfl | rfl | rfl
   ·exact(lt s1).symm
   ·exact(lt s2).symm
   ·exact(lt s3).symm
   ·exact(lt e4).symm
   ·exact(lt e5).symm
  refine⟨.ref s.heap.objs.size,upd H s.heap.objs.size (.tup [x,y]),I.turnedLaid (t':=s.toks) keep2 hf (Nat.le_refl _) ⟨cg (by show 2≤1000000; decide),[u1,u2],.cons ru1 (.cons ru2 .nil),⟨_,tupN,rfl,rfl,0,rfl⟩⟩,rfl,⟨_,x,y,hsz,rfl,rfl,fun xs' q'=>?_,fun ys' q'=>?_⟩,
   ⟨hz',hs'.extBut _ _ D.TIz (kk _ _ D.TIz D.TITO D.TIi1 D.TIi2 s2),⟨_,_,hs'.extBut _ _ D.TOz a2⟩,a3.extBut hs'.extBut D.i1z,a4.extBut hs'.extBut D.i2z⟩,fun c hc'=>?_⟩
  ·rw[I.list_inj q' q1]; exact hx
  ·rw[I.list_inj q' q2]; exact hy
  ·rw[ai (nlt c hc')]; exact(hf c hc').1
 done:=by
  intro X hP hw hK hc i pins s σ H E I hf st hg
  subst hP hw hK;obtain⟨xs,ys,q1,q2,hlen⟩:=hg
  obtain⟨is1,rv1,p1,_⟩:=I.list q1
  obtain⟨is2,rv2,p2,_⟩:=I.list q2
  have l1:=rv1.length;have l2:=rv2.length;have D':=uP D st p1.isList p2.isList;obtain⟨s1,s2,⟨a,b,s3⟩,s4,s5⟩:=st
  refine wpAny_pyNext_zip_end (I.ok.hd hc) D' s1 s2 s3 s4 s5 p1.isList p2.isList ?_ fun h' kk=>⟨rfl,I.turnedL (t':=s.toks) (fun b o hb e=>?_) hf⟩
  ·rcases hlen with z | z
   ·exact .inl (by simp; omega)
   ·exact .inr (by simp; omega)
  ·simp only[List.mem_cons,List.mem_nil_iff,or_false,not_or]at hb
   exact kk b o hb.1 hb.2.2.1 hb.2.2.2.1 hb.2.2.2.2 e
 self:=fun A i s Q E st h=>wpAny_pyIter_zip st.1 h
theorem CS(n:Nat):o_ (n+4) (n+2) (n+3) n (n+1):=⟨(show (@Ne Nat (n+2) (n+4):Prop) by omega),(show (@Ne Nat (n+3) (n+4):Prop) by omega),(show (@Ne Nat (n) (n+4):Prop) by omega),(show (@Ne Nat (n+1) (n+4):Prop) by omega),(show (@Ne Nat (n+2) (n+3):Prop) by omega),(show (@Ne Nat (n+2) (n):Prop) by omega),(show (@Ne Nat (n+2) (n+1):Prop) by omega),(show (@Ne Nat (n+3) (n):Prop) by omega),(show (@Ne Nat (n+3) (n+1):Prop) by omega),(show (@Ne Nat (n) (n+1):Prop) by omega)⟩
theorem oV:bootBuiltins "zip" = some (.type "zip"):=by decide +kernel
def wH(K:PySem.W.Frag)(ta:TA):TI:=fun σ H R=>ta σ H fun vs H1=>∃ a b:Addr,vs=[.ref a,.ref b]∧(∃ xs,SqL K H1 a xs)∧(∃ ys,SqL K H1 b ys)∧R (yB K a b) H1
theorem iG(K:PySem.W.Frag)(ta:TA){σ : St}{H:Hp}{R:It→Hp→Prop}:wH K ta σ H R=ta σ H fun vs H1=>∃ a b:Addr,vs=[.ref a,.ref b]∧(∃ xs,SqL K H1 a xs)∧(∃ ys,SqL K H1 b ys)∧R (yB K a b) H1:=rfl
theorem gq(n m:Addr)(P:Addr→Addr→Prop):(∃ i j,[V.ref n,V.ref m]=[V.ref i,V.ref j]∧P i j)=P n m:=propext ⟨fun ⟨_,_,e,h⟩=>by cases e; exact h,fun h=>⟨n,m,rfl,h⟩⟩
theorem Ap{X:Cx}{elts:List Expr}{k:Nat}{tpos:Pos}{a b:Expr}{ta:TA}{p pos:Pos}(hg:Gl X "zip") (hm:X.mg "zip" = none) (ha:PA X [a,b] ta) (hs:starEach [a,b] X.env=[(false,eval a X.env),(false,eval b X.env)]:=by rfl) (hs2:starEach [b] X.env=[(false,eval b X.env)]:=by rfl) :
  PI X (.Tuple elts k tpos) (.Call (.Name "zip" p) [a,b] [] pos) (wH X.K ta):=by
 intro pins s σ H R I h
 refine Call_ (fC I hg hm oV (PyProof.Rows.callWith_type1 (ba (ha pos pins s σ H _ I h) fun us s1 ⟨vs,H1,I1,r1,q1⟩=>?_) (by rw[hs,hs2]) (by rw[hs2]; rfl)))
 obtain⟨l1,l2,e,⟨xs,h1⟩,⟨ys,h2⟩,q⟩:=q1
 subst e;obtain⟨u1,u2,rfl,r1,r2⟩:=oN r1
 cases r1
 cases r2;obtain⟨is1,_,p1,_⟩:=I1.list h1
 obtain⟨is2,_,p2,_⟩:=I1.list h2
 refine call_zip_2 p1.isList p2.isList fun h' a1 a2 a3 a4 a5 a6 kk=>?_
 refine wpAny_pyIter_zip a1 ⟨_,[s1.heap.objs.size+4,s1.heap.objs.size+2,s1.heap.objs.size+3,s1.heap.objs.size,s1.heap.objs.size+1],_,_,H1,rfl,I1.kept (t':=s1.toks) kk,
  yb (z:=s1.heap.objs.size+4) (TI:=s1.heap.objs.size+2) (TO:=s1.heap.objs.size+3) (i1:=s1.heap.objs.size) (i2:=s1.heap.objs.size+1) (CS _),⟨a1,a2,⟨_,_,a3⟩,a4,a5⟩,fun b hb=>?_,q⟩
 have hb':s1.heap.objs.size≤b:=by
  simp only[List.mem_cons,List.mem_nil_iff,or_false]at hb
  rcases hb with rfl | rfl | rfl | rfl | rfl <;> first | exact Nat.le_refl _ | exact Nat.le_add_right _ _
 exact I1.fpOk hb' (I1.hok.fresh hb')
theorem zH(K:PySem.W.Frag){X:Cx}{elts:List Expr}{k:Nat}{tpos:Pos}{a b:Expr}{ta:TA}{p pos:Pos}(hg:Gl X "zip") (hm:X.mg "zip" = none) (ha:PA X [a,b] ta) (hs:starEach [a,b] X.env=[(false,eval a X.env),(false,eval b X.env)]:=by rfl) (hs2:starEach [b] X.env=[(false,eval b X.env)]:=by rfl) (hK:X.K=K:=by rfl) :
  PI X (.Tuple elts k tpos) (.Call (.Name "zip" p) [a,b] [] pos) (wH K ta):=hK ▸ Ap hg hm ha hs hs2
section
variable{X:Cx}
end
section
variable{σ : St}{H:Hp}{Q:VK}
end
end L2
namespace L2
open PySem PySem.Spec PyProof.Rows
def vo(K:PySem.W.Frag)(a:Addr):It:=
  ⟨fun i H=>∃ xs x,SqL K H a xs∧xs[i]? = some x,
   fun i H v H'=>∃ t x,H t=none∧v = .ref t∧H'=upd H t (.tup [.int i,x])∧∀ xs,SqL K H a xs→xs[i]? = some x,
   fun i H=>∃ xs,SqL K H a xs∧xs.length≤i⟩
def FA(e it l:Addr)(i:Nat)(h:Heap):Prop:=(∃ old,IsEnum h e it i old)∧h.IsListIter it l i
theorem vE{P:Program}{w:World}{K:PySem.W.Frag}{elts:List Expr}{k:Nat}{pos:Pos}{e it l:Addr}(hei:e≠it):lH P w K (.Tuple elts k pos) (vo K l) [e,it] e (FA e it l) where
 mem:=by simp
 obj:=fun i h st b hb=>by
  obtain⟨⟨old,s1⟩,⟨o4,s4,c4,d4⟩⟩:=st
  simp only[List.mem_cons,List.mem_nil_iff,or_false]at hb
  rcases hb with rfl | rfl
  ·exact⟨_,s1,fun v e=>by cases e⟩
  ·exact⟨_,s4,fun v e=>by rw[d4]at e; cases e⟩
 keep:=fun i h h' st kk=>by
  obtain⟨⟨old,s1⟩,s4⟩:=st
  exact⟨⟨old,kk e (by simp) _ s1⟩,s4.at fun o z=>kk it (by simp) o z⟩
 item:=by
  intro X hP hw hK hc i pins s σ H E I hf st hg
  subst hP hw hK;obtain⟨xs,x,q1,hx⟩:=hg
  obtain⟨is1,rv1,p1,_⟩:=I.list q1
  obtain⟨u1,hu1,ru1⟩:=rv1.get hx
  obtain⟨⟨old,s1⟩,s4⟩:=st
  refine wpAny_pyNext_enum_item s1 s4 p1.isList (x:=u1) (by simpa using hu1) hei fun h' a1 a3 a5 a6 kk=>?_
  refine⟨_,rfl,wpAny_letOwnedTupleGo_enum a1 fun h'' hz' hs'=>?_⟩
  have lt:∀ {c o},s.heap.get? c=some o→s.heap.objs.size≠c:=fun z=>Nat.ne_of_gt (Heap.lt_size z)
  have zne:s.heap.objs.size≠e:=lt s1
  have keep2:∀ b o,b∉[e,it]→s.heap.get? b=some o→h''.get? b=some o:=fun b o hb z=>by
   simp only[List.mem_cons,List.mem_nil_iff,or_false,not_or]at hb
   exact hs'.extBut _ _ hb.1 (kk b o hb.1 hb.2 z)
  have hsz:H s.heap.objs.size=none:=I.hok.fresh (Nat.le_refl _)
  have tupN:=hs'.extBut _ _ zne a5
  have nlt:∀ c∈[e,it],c≠s.heap.objs.size:=fun c hc'=>by
   obtain⟨o4,e4,_⟩:=id s4
   simp only[List.mem_cons,List.mem_nil_iff,or_false]at hc'
   rcases hc' with rfl | rfl
   ·exact(lt s1).symm
   ·exact(lt e4).symm
  refine⟨.ref s.heap.objs.size,upd H s.heap.objs.size (.tup [.int i,x]),I.turnedLaid (t':=s.toks+1) keep2 hf (Nat.le_refl _) ⟨cg (by show 2≤1000000; decide),[.int i s.toks,u1],.cons ⟨_,rfl⟩ (.cons ru1 .nil),⟨_,tupN,rfl,rfl,0,rfl⟩⟩,rfl,⟨_,x,hsz,rfl,rfl,fun xs' q'=>?_⟩,
   ⟨⟨_,by simpa using hz'⟩,a3.extBut hs'.extBut hei.symm⟩,fun c hc'=>?_⟩
  ·rw[I.list_inj q' q1]; exact hx
  ·rw[ai (nlt c hc')]; exact(hf c hc').1
 done:=by
  intro X hP hw hK hc i pins s σ H E I hf st hg
  subst hP hw hK;obtain⟨xs,q1,hlen⟩:=hg
  obtain⟨is1,rv1,p1,_⟩:=I.list q1
  have l1:=rv1.length;obtain⟨⟨old,s1⟩,s4⟩:=st
  refine wpAny_pyNext_enum_end (I.ok.hd hc) s1 s4 p1.isList (by simp; omega) fun h' kk=>⟨rfl,I.turnedL (t':=s.toks) (fun b o hb z=>?_) hf⟩
  simp only[List.mem_cons,List.mem_nil_iff,or_false,not_or]at hb
  exact kk b o hb.2 z
 self:=fun A i s Q E st h=>by
  obtain⟨⟨old,s1⟩,_⟩:=st
  exact wpAny_pyIter_enum s1 h
theorem mT:bootBuiltins "enumerate" = some (.type "enumerate"):=by decide +kernel
def yM(K:PySem.W.Frag)(ta:TA):TI:=fun σ H R=>ta σ H fun vs H1=>∃ a:Addr,vs=[.ref a]∧(∃ xs,H1 a=some (.lst xs))∧R (vo K a) H1
theorem fT(K:PySem.W.Frag)(ta:TA){σ : St}{H:Hp}{R:It→Hp→Prop}:yM K ta σ H R=ta σ H fun vs H1=>∃ a:Addr,vs=[.ref a]∧(∃ xs,H1 a=some (.lst xs))∧R (vo K a) H1:=rfl
theorem hU(n:Addr)(P:Addr→Prop):(∃ i,[V.ref n]=[V.ref i]∧P i)=P n:=propext ⟨fun ⟨_,e,h⟩=>by cases e; exact h,fun h=>⟨n,rfl,h⟩⟩
theorem gk(K:PySem.W.Frag){X:Cx}{elts:List Expr}{k:Nat}{tpos:Pos}{a:Expr}{ta:TA}{p pos:Pos}(hg:Gl X "enumerate") (hm:X.mg "enumerate" = none) (ha:PA X [a] ta) (hs:starEach [a] X.env=[(false,eval a X.env)]:=by rfl) (hK:X.K=K:=by rfl) :
  PI X (.Tuple elts k tpos) (.Call (.Name "enumerate" p) [a] [] pos) (yM K ta):=by
 subst hK;intro pins s σ H R I h
 refine Call_ (fC I hg hm mT (PyProof.Rows.callWith_type1 (ba (ha pos pins s σ H _ I h) fun us s1 ⟨vs,H1,I1,r1,q1⟩=>?_) hs rfl))
 obtain⟨l,e,⟨xs,h1⟩,q⟩:=q1
 subst e;obtain⟨u1,rfl,r1'⟩:=df r1
 obtain rfl:u1=Value.ref l:=r1'
 obtain⟨hz,its,n,rv,hl⟩ : xs.length≤sizeLine∧∃ (its:List Value) (n:Nat),Vals xs its∧s1.heap.get? l=some { cls:=.type "list", data:=.seq its.toArray n }:=I1.hok l _ h1
 refine call_enumerate_1 hl fun h' a1 a4 a6 kk=>?_
 refine wpAny_pyIter_enum a1 ⟨_,[s1.heap.objs.size+1,s1.heap.objs.size],_,_,H1,rfl,I1.kept (t':=s1.toks) kk,
  vE (e:=s1.heap.objs.size+1) (it:=s1.heap.objs.size) (Nat.ne_of_gt (Nat.lt_succ_self _)),⟨⟨_,a1⟩,a4⟩,fun b hb=>?_,q⟩
 have hb':s1.heap.objs.size≤b:=by
  simp only[List.mem_cons,List.mem_nil_iff,or_false]at hb
  rcases hb with rfl | rfl <;> first | exact Nat.le_refl _ | exact Nat.le_add_right _ _
 exact I1.fpOk hb' (I1.hok.fresh hb')
section
variable{K:PySem.W.Frag}{a b:Addr}{xs ys:List V}{g:TG}{te:TE}{nT:Nat}{σ : St}{D:Addr}{Q:VK}{H:Hp}
theorem tU(Pv:Nat→List V→Hp→Prop)(h0:Pv 0 [] H)(hl:∀ i zs H,i≤xs.length→Pv i zs H→SqL K H a xs)
  (hs:∀ i zs H x t,xs[i]? = some x→i<xs.length→Pv i zs H→H t=none→g (.ref t) (σ++List.replicate nT none) (upd H t (.tup [.int i,x])) (jD xs.length i Pv D zs te))
  (hd:∀ zs H,Pv xs.length zs H→Q (.ref D) H):fB (vo K a) g lm te nT σ D Q H:=by
 refine lU xs.length Pv h0 (fun i zs H hi p=>⟨xs,xs[i],hl i zs H (Nat.le_of_lt hi) p,by simp[hi]⟩) (fun zs H p=>⟨xs,hl _ zs H (Nat.le_refl _) p,Nat.le_refl _⟩) (fun i zs H v H' hi p yl=>?_) hd
 obtain⟨t,x,ht,rfl,rfl,y1⟩:=yl
 exact hs i zs H x t (y1 xs (hl i zs H (Nat.le_of_lt hi) p)) hi p ht
theorem gJ{tb:TS}{D:dF}(Pv:Nat→St→Hp→Prop)(h0:Pv 0 σ H)(hl:∀ i σ H,i≤xs.length→Pv i σ H→SqL K H a xs)
  (hs:∀ i x t σ H,xs[i]? = some x→Pv i σ H→H t=none→g (.ref t) σ (upd H t (.tup [.int i,x])) fun σ2 H2=>tb { D with nx:=Pv (i+1),ct:=Pv (i+1),bk:=D.nx } σ2 H2) (hd:∀ σ H,Pv xs.length σ H→D.nx σ H):mR (vo K a) g tb D σ H:=by
 refine rF xs.length Pv h0 (fun i σ H hi p=>⟨xs,xs[i],hl i σ H (Nat.le_of_lt hi) p,by simp[hi]⟩) (fun σ H p=>⟨xs,hl _ σ H (Nat.le_refl _) p,Nat.le_refl _⟩) (fun i σ H v H' hi p yl=>?_) hd
 obtain⟨t,x,ht,rfl,rfl,y1⟩:=yl
 exact hs i x t σ H (y1 xs (hl i σ H (Nat.le_of_lt hi) p)) p ht
theorem xL{tb:TS}{D:dF}(Pv:Nat→St→Hp→Prop)(hn:xs.length=ys.length)(h0:Pv 0 σ H)(hl:∀ i σ H,i≤xs.length→Pv i σ H→SqL K H a xs∧SqL K H b ys)
  (hs:∀ i x y t σ H,xs[i]? = some x→ys[i]? = some y→Pv i σ H→H t=none→g (.ref t) σ (upd H t (.tup [x,y])) fun σ2 H2=>tb { D with nx:=Pv (i+1),ct:=Pv (i+1),bk:=D.nx } σ2 H2) (hd:∀ σ H,Pv xs.length σ H→D.nx σ H):mR (yB K a b) g tb D σ H:=by
 refine rF xs.length Pv h0 (fun i σ H hi p=>⟨xs,ys,xs[i],ys[i],(hl i σ H (Nat.le_of_lt hi) p).1,(hl i σ H (Nat.le_of_lt hi) p).2,by simp[hi],by simp[hn ▸ hi]⟩) (fun σ H p=>⟨xs,ys,(hl _ σ H (Nat.le_refl _) p).1,(hl _ σ H (Nat.le_refl _) p).2,.inl (Nat.le_refl _)⟩) (fun i σ H v H' hi p yl=>?_) hd
 obtain⟨t,x,y,ht,rfl,rfl,y1,y2⟩:=yl
 exact hs i x y t σ H (y1 xs (hl i σ H (Nat.le_of_lt hi) p).1) (y2 ys (hl i σ H (Nat.le_of_lt hi) p).2) p ht
def ur(n i:Nat)(Pv:Nat→List V→Hp→Prop)(ys:List V)(H:Hp):Prop:=∃ m',m'<n - i∧(m'=n - (i+1)∧i+1≤n∧Pv (i+1) ys H)
theorem CC{n i:Nat}{Pv:Nat→List V→Hp→Prop}{ys:List V}{H:Hp}(hi:i<n)(h:Pv (i+1) ys H):ur n i Pv ys H:=⟨n - (i+1),by omega,rfl,hi,h⟩
theorem Az{n i:Nat}{Pv:Nat→List V→Hp→Prop}{D:Addr}{ys:List V}{y:V}{H:Hp}(hi:i<n)(hlen:ys.length≤i)(hz:n≤sizeLine)(h1:H D=some (.lst ys))(h2:Pv (i+1) (ys++[y]) (upd H D (.lst (ys++[y])))):gF n i Pv D ys y H:=
 ⟨h1,by omega,n - (i+1),by omega,rfl,hi,h2⟩
def tj(n i:Nat)(Pv:Nat→List V→Hp→Prop)(D:Addr)(ys:List V)(tc:TT)(te:TE)(σ : St)(H:Hp):Prop:=
 tc σ H fun b H4=>if b=true then te σ H4 (gF n i Pv D ys) else ur n i Pv ys H4
theorem gm{n i:Nat}{Pv:Nat→List V→Hp→Prop}{D:Addr}{ys:List V}{tc:TT}{te:TE}{σ : St}{H:Hp}:tj n i Pv D ys tc te σ H=tc σ H fun b H4=>if b=true then te σ H4 (gF n i Pv D ys) else ur n i Pv ys H4:=rfl
theorem xf{J:It}{tc:TT}(n:Nat)(Pv:Nat→List V→Hp→Prop)(h0:Pv 0 [] H)(hgo:∀ i ys H,i<n→Pv i ys H→J.go i H)(hst:∀ ys H,Pv n ys H→J.stop n H)
  (hs:∀ i ys H x H',i<n→Pv i ys H→J.yld i H x H'→g x (σ++List.replicate nT none) H' (tj n i Pv D ys tc te))
  (hd:∀ ys H,Pv n ys H→Q (.ref D) H):fB J g tc te nT σ D Q H:=by
 refine⟨fun i m ys H=>m=n - i∧i≤n∧Pv i ys H,⟨n,by simp,Nat.zero_le _,h0⟩,?_⟩
 rintro i m ys H ⟨rfl,hi,p⟩
 by_cases hlt:i<n
 ·exact .inr ⟨hgo i ys H hlt p,fun x H' y=>hs i ys H x H' hlt p y⟩
 ·have e:i=n:=by omega
  subst e;exact .inl ⟨hst ys H p,hd ys H p⟩
theorem qI{tc:TT}{lo:Int}{n:Nat}(Pv:Nat→List V→Hp→Prop)(h0:Pv 0 [] H)
  (hs:∀ i ys H,i<n→Pv i ys H→g (.int (lo+i)) (σ++List.replicate nT none) H (tj n i Pv D ys tc te))
  (hd:∀ ys H,Pv n ys H→Q (.ref D) H):fB (kZ lo n) g tc te nT σ D Q H:=by
 refine xf n Pv h0 (fun i ys H hi p=>hi) (fun ys H p=>Nat.le_refl _) (fun i ys H x H' hi p yl=>?_) hd
 obtain⟨rfl,rfl⟩:=yl
 exact hs i ys _ hi p
end
end L2
namespace L2
open PySem PySem.Spec PyProof.Rows
end L2
namespace L2
open PySem PySem.Spec PyProof.Rows
set_option genInjectivity false in
set_option genSizeOf false in
structure IK (prog:Program) (w:World) (κ : Type) [DecidableEq κ] where
 is:Heap→κ→Value→Prop
 hash:κ→Int
 draws:κ→Nat
 deep:Nat
 inj:∀ {h:Heap} {v:Value} {x y:κ},is h x v→is h y v→x=y
 keeps:∀ {h h':Heap} {k:κ} {v:Value} {d:Addr} {o:Obj} {es ep},is h k v→h.get? d=some o→o.data = .dict es ep→Heap.SameBut d h h'→is h' k v
 pyHash:∀ {A:Around} {E:Value→Shared→Prop} {s:Shared} {k:κ} {v:Value} {Q:Int→Shared→Prop},A.units+deep<cLine→is s.heap k v→Q (hash k) { s with toks:=s.toks+draws k }→
  wpAny (model prog w) A (PySem.pyHash v) Q E s
 eqBool:∀ {A:Around} {E:Value→Shared→Prop} {s:Shared} {x y:κ} {u v:Value} {Q:Bool→Shared→Prop},A.units+deep<cLine→is s.heap x u→is s.heap y v→Q (decide (x=y)) s→
  wpAny (model prog w) A (PySem.eqBool u v) Q E s
 quiet:∀ {A:Around} {E:Value→Shared→Prop} {s:Shared} {k:κ} {v:Value} {n:Nat} {Q:Bool→Shared→Prop},is s.heap k v→Q true s→wpAny (model prog w) A (eqIsQuiet (n+deep) v) Q E s
section
variable{prog:Program}{w:World}{κ : Type}[DecidableEq κ](K:IK prog w κ)
inductive IsItems (h:Heap):List κ→List Value→Prop
 | nil:IsItems h [] []
 | cons {k:κ} {v:Value} {ks:List κ} {vs:List Value}:K.is h k v→IsItems h ks vs→IsItems h (k::ks) (v::vs)
def IsTupK(h:Heap)(ks:List κ)(v:Value):Prop:=∃ a o items n,v = .ref a∧h.get? a=some o∧o.cls = .type "tuple" ∧ o.data = .seq items n∧IsItems K h ks items.toList
variable{K}
theorem IsItems.inj{h:Heap}:∀ {x y:List κ} {vs:List Value},IsItems K h x vs→IsItems K h y vs→x=y
 | _,_,_,.nil,.nil=>rfl
 | _,_,_,.cons a b,.cons c d=>by rw[K.inj a c,IsItems.inj b d]
theorem IsItems.keeps{h h':Heap}{d:Addr}{o:Obj}{es ep}(ho:h.get? d=some o)(hd:o.data = .dict es ep)(hs:Heap.SameBut d h h'):∀ {x:List κ} {vs:List Value},IsItems K h x vs→IsItems K h' x vs
 | _,_,.nil=>.nil
 | _,_,.cons a b=>.cons (K.keeps a ho hd hs) (b.keeps ho hd hs)
theorem IsItems.len{h:Heap}:∀ {x:List κ} {vs:List Value},IsItems K h x vs→x.length=vs.length
 | _,_,.nil=>rfl
 | _,_,.cons _ b=>by rw[List.length_cons,List.length_cons,b.len]
def ji(K:IK prog w κ)(ks:List κ):Nat:=(ks.map K.draws).sum
def pk(K:IK prog w κ)(ks:List κ):Int:=reduceHash (Builtin.Tuple.tupleHashOf (ks.map K.hash))
theorem j6{A:Around}{E:Value→Shared→Prop}{s:Shared}{ks:List κ}{v:Value}{Q:Int→Shared→Prop}(hu:A.units+(K.deep+1)<cLine)(hk:IsTupK K s.heap ks v)(h:Q (pk K ks) { s with toks:=s.toks+(ji K ks+1) }) :
  wpAny (model prog w) A (PySem.pyHash v) Q E s:=by
 obtain⟨a,o,items,n,rfl,ho,hc,hd,hi⟩:=hk
 have hT:s.TypeIs (.ref a) "tuple" := ⟨o,ho,hc⟩
 unfold PySem.pyHash
 first | unfold pyHashByItsType | skip
 first | refine wpAny_bind (wpAny_cRoomFor_or (.inr (by omega)) ?_) | skip
 refine wpAny_bind (wpAny_specialOf hT PySem.F.slot_tuple_hash.lookup ?_)
 rw[if_neg (by rw[beq_builtin_none]; exact Bool.false_ne_true)]
 refine wpAny_bind (wpAny_specialOf hT PySem.F.slot_tuple_hash.lookup ?_)
 show wpAny _ _ (callSpecialIfBoundUnlessNone? (.ref a) "__hash__" _ >>= _) Q E s
 refine wpAny_bind (wpAny_callSpecialIfBoundUnlessNone?_slot hT PySem.F.slot_tuple_hash (wpAny_call_entry PySem.F.slot_tuple_hash hT
  PySem.F.entry_tuple_hash ?_ (PySem.F.args_tuple_hash_1 _)))
 show wpAny _ _ (Builtin.Tuple.tupleItemsOf (.ref a) >>= _) _ _ s
 refine wpAny_bind (wpAny_tupleItemsOf ho hd (wpAny_bind ?_))
 rw[← Array.forIn_toList];refine wpAny_forIn_list _ (fun rest (b:Array Int) s'=>∃ done left,ks=done++left∧IsItems K s.heap left rest∧b.toList=done.map K.hash∧s'={ s with toks:=s.toks+ji K done }) _ ?_ ?_ _ _ ⟨[],ks,rfl,hi,rfl,rfl⟩
 ·rintro x rest b s' ⟨done,left,rfl,hl,hb,rfl⟩
  cases hl with
  | @cons k _ ks' _ h1 hl'=>
   have e:ji K (done++[k])=ji K done+K.draws k:=by simp[ji]
   refine wpAny_bind (K.pyHash (show A.in1.units+K.deep<cLine from by show A.units+1+K.deep<cLine; omega) h1 ?_)
   have fin:∃ done' left',done++k::ks'=done'++left'∧IsItems K s.heap left' rest∧(b.push (K.hash k)).toList=done'.map K.hash∧({ s with toks:=s.toks+ji K done+K.draws k }:Shared)={ s with toks:=s.toks+ji K done' }:=
    ⟨done++[k],ks',by simp,hl',by simp[hb],by rw[e,Nat.add_assoc]⟩
   first
    | exact wpAny_pure fin
    | exact wpAny_bind (wpAny_pure (wpAny_pure fin))
 ·rintro b s' ⟨done,left,rfl,hl,hb,rfl⟩
  cases hl;rw[List.append_nil]at h
  show wpAny _ _ (retInt (Builtin.Tuple.tupleHashOf b.toList)) _ _ _
  rw[hb];refine wpAny_ret_mkInt ?_
  unfold pk reduceHash at h;show wpAny _ _ (if (decide (-(2:Int) ^ 63≤Builtin.Tuple.tupleHashOf (done.map K.hash))&&decide (Builtin.Tuple.tupleHashOf (done.map K.hash)<2 ^ 63))=true then _ else _) Q E _
  by_cases hr:(decide (-(2:Int) ^ 63≤Builtin.Tuple.tupleHashOf (done.map K.hash))&&decide (Builtin.Tuple.tupleHashOf (done.map K.hash)<2 ^ 63))=true
  ·rw[if_pos hr]at h ⊢
   exact wpAny_pure (by simpa [Nat.add_assoc] using h)
  ·rw[if_neg hr]at h ⊢
   exact wpAny_bind (wpAny_rule (wpAny_pure (by simpa [Nat.add_assoc] using h)))
theorem ug{A:Around}{E:Value→Shared→Prop}{s:Shared}{x y:List κ}{a b:Addr}{P:Fin→Shared→Prop}(hu:A.units+K.deep<cLine)(hx:IsTupK K s.heap x (.ref a))(hy:IsTupK K s.heap y (.ref b))(h:P (.done (.ret (.bool (decide (x=y))))) s) :
  wpAny (model prog w) A (Builtin.«tuple.__eq__» ⟨[.ref a,.ref b],[]⟩) P E s:=by
 obtain⟨_,oa,xs,na,e1,hoa,ca,hda,hia⟩:=hx
 obtain⟨_,ob,ys,nb,e2,hob,cb,hdb,hib⟩:=hy
 cases e1
 cases e2;show wpAny _ _ (isInstance (.ref b) (.type "tuple") >>= _) _ _ s
 refine wpAny_bind (wpAny_isInstance ⟨ob,hob,cb⟩ isSubtype_tuple_tuple ?_)
 simp only[Bool.not_true,Bool.false_eq_true,if_false]
 refine wpAny_bind (wpAny_tupleItemsOf hoa hda (wpAny_bind (wpAny_tupleItemsOf hob hdb (wpAny_bind ?_))))
 refine wpAny_forIn_list _ (fun rest r s'=>r.1=none∧s'=s∧∃ x' y' xs' ys',rest=List.zip xs' ys'∧IsItems K s.heap x' xs'∧IsItems K s.heap y' ys'∧decide (x'=y')=decide (x=y)∧(xs'.length == ys'.length)=(xs.size == ys.size)) _ ?_ ?_ _ _
  ⟨rfl,rfl,x,y,xs.toList,ys.toList,rfl,hia,hib,rfl,by simp⟩
 ·rintro⟨u,v⟩ rest r s' ⟨hr,rfl,x',y',xs',ys',hz,hx',hy',hdec,hlen⟩
  cases hx' with
  | nil=>simp at hz
  | @cons k1 u' x'' xs'' h1 hx''=>
   cases hy' with
   | nil=>simp at hz
   | @cons k2 v' y'' ys'' h2 hy''=>
    simp only[List.zip_cons_cons,List.cons.injEq,Prod.mk.injEq]at hz
    obtain⟨⟨rfl,rfl⟩,rfl⟩:=hz
    refine wpAny_bind (K.eqBool (x:=k1) (y:=k2) hu h1 h2 ?_)
    by_cases hk:k1=k2
    ·subst hk
     rw[decide_eq_true rfl];simp only[Bool.not_true,Bool.false_eq_true,if_false]
     refine wpAny_pure ⟨rfl,rfl,x'',y'',xs'',ys'',rfl,hx'',hy'',?_,by simpa using hlen⟩
     rw[← hdec]
     by_cases hxy:x''=y'' <;> simp[hxy]
    ·rw[decide_eq_false hk]
     simp only[Bool.not_false,if_true]
     have hf:decide (x=y)=false:=by rw[← hdec]; simp[hk]
     rw[hf]at h
     exact wpAny_bind (wpAny_pure (wpAny_pure (wpAny_pure h)))
 ·rintro⟨r1,r2⟩ s' ⟨hr,rfl,x',y',xs',ys',hz,hx',hy',hdec,hlen⟩
  simp only at hr
  subst hr;refine wpAny_pure ?_
  have hfin:(xs.size == ys.size)=decide (x=y):=by
   rw[← hdec,← hlen]
   cases hx' with
   | nil=>cases hy' <;> simp
   | cons _ _=>
    cases hy' with
    | nil=>simp
    | cons _ _=>simp at hz
  show P (.done (.ret (.bool (xs.size == ys.size)))) s'
  rw[hfin]; exact h
theorem nh{A:Around}{E:Value→Shared→Prop}{s:Shared}{x y:List κ}{u v:Value}{Q:Bool→Shared→Prop}(hu:A.units+(K.deep+1)<cLine)(hx:IsTupK K s.heap x u)(hy:IsTupK K s.heap y v)(h:Q (decide (x=y)) s) :
  wpAny (model prog w) A (PySem.eqBool u v) Q E s:=by
 have hx0:=hx;have hy0:=hy;obtain⟨a,oa,xs,na,rfl,hoa,ca,hda,hia⟩:=hx
 obtain⟨b,ob,ys,nb,rfl,hob,cb,hdb,hib⟩:=hy
 unfold PySem.eqBool
 try with_reducible refine wpAny_holding ?_
 show wpAny _ _ (if (Value.ref a == Value.ref b)=true then _ else _) Q E s
 by_cases hab:(Value.ref a == Value.ref b)=true
 ·rw[if_pos hab]
  have e:a=b:=by have:=eq_of_beq hab; injection this
  subst e;rw[hoa]at hob
  cases hob;rw[hda]at hdb
  injection hdb with e1 _
  subst e1;rw[decide_eq_true (hia.inj hib)]at h
  exact wpAny_bind (wpAny_rule (wpAny_pure h))
 ·rw[if_neg hab]
  have ta:s.TypeIs (.ref a) "tuple" := ⟨oa,hoa,ca⟩
  have tb:s.TypeIs (.ref b) "tuple" := ⟨ob,hob,cb⟩
  refine wpAny_bind (wpAny_richCompare_same_room (op:=.Eq) ta tb PySem.F.slot_tuple_eq (wpAny_call_entry PySem.F.slot_tuple_eq ta PySem.F.entry_tuple_eq ?_ (PySem.F.args_tuple_eq_2 _ _)) (by omega))
  refine ug (K:=K) ?_ hx0 hy0 ⟨_,rfl,(fun e=>nomatch e),wpAny_truthy_bool h⟩
  show A.units+1+K.deep<cLine
  omega
theorem jU{A:Around}{E:Value→Shared→Prop}{s:Shared}{ks:List κ}{v:Value}{n:Nat}{Q:Bool→Shared→Prop}(hk:IsTupK K s.heap ks v)(h:Q true s):wpAny (model prog w) A (eqIsQuiet (n+(K.deep+1)) v) Q E s:=by
 obtain⟨a,o,items,m,rfl,ho,hc,hd,hi⟩:=hk
 have hT:s.TypeIs (.ref a) "tuple" := ⟨o,ho,hc⟩
 rw[show n+(K.deep+1)=(n+K.deep)+1 from rfl];unfold eqIsQuiet;refine wpAny_bind (wpAny_specialOf hT PySem.F.slot_tuple_eq.lookup ?_)
 show wpAny _ _ (isInstance (.ref a) (.type "tuple") >>= _) _ _ s
 refine wpAny_bind (wpAny_isInstance hT isSubtype_tuple_tuple ?_)
 simp only[Bool.not_true,Bool.false_eq_true,if_false]
 refine wpAny_bind (wpAny_seqItems ho hd (wpAny_bind ?_))
 show wpAny _ _ (forIn items _ _) _ _ s
 rw[← Array.forIn_toList];refine wpAny_forIn_list _ (fun rest r s'=>r.1=none∧s'=s∧∃ ks',IsItems K s.heap ks' rest) _ ?_ ?_ _ _ ⟨rfl,rfl,ks,hi⟩
 ·rintro v rest r s' ⟨hr,rfl,ks',hall⟩
  cases hall with
  | cons h1 h2=>
   refine wpAny_bind (K.quiet h1 ?_)
   simp only[Bool.not_true,Bool.false_eq_true,if_false]
   exact wpAny_pure ⟨rfl,rfl,_,h2⟩
 ·rintro⟨r1,r2⟩ s' ⟨hr,rfl,_⟩
  simp only at hr
  subst hr;exact wpAny_pure h
def tS(K:IK prog w κ):IK prog w (List κ) where
 is:=IsTupK K
 hash:=pk K
 draws:=fun ks=>ji K ks+1
 deep:=K.deep+1
 inj:=by
  rintro h v x y ⟨a,oa,xs,na,rfl,hoa,ca,hda,hia⟩ ⟨b,ob,ys,nb,e,hob,cb,hdb,hib⟩
  cases e;rw[hoa]at hob
  cases hob;rw[hda]at hdb
  injection hdb with e1 _
  subst e1;exact hia.inj hib
 keeps:=by
  rintro h h' k v d o es ep ⟨a,oa,xs,na,rfl,hoa,ca,hda,hia⟩ ho hd hs
  have hne:a≠d:=by
   rintro rfl
   rw[hoa]at ho
   cases ho;rw[hd]at hda; cases hda
  exact⟨a,oa,xs,na,rfl,(hs.2 a hne).trans hoa,ca,hda,hia.keeps ho hd hs⟩
 pyHash:=fun hu hk h=>j6 hu hk h
 eqBool:=fun hu hx hy h=>nh hu hx hy h
 quiet:=fun hk h=>jU hk h
def y8(K:IK prog w κ)(hd:K.deep≤7):HeapKind prog w (List κ) where
 is:=fun h k a=>IsTupK K h k (.ref a)
 hash:=pk K
 draws:=fun ks=>ji K ks+1
 room:=fun A=>A.units+(K.deep+1)<cLine
 inj:=(tS K).inj
 keeps:=(tS K).keeps
 pyHash:=fun hu hk h=>j6 hu hk h
 eqBool:=fun hu hx hy h=>nh hu hx hy h
 quiet:=fun {A E s k a Q} hk h=>by
  have q:=jU (n:=7 - K.deep) (A:=A) (E:=E) hk h
  rwa [show 7 - K.deep+(K.deep+1)=8 by omega]at q
end
end L2
namespace L2
open PySem PySem.Spec PyProof.Rows
def cQ:Option Int→V
 | none=>.non
 | some i=>.int i
theorem xg{x y:Option Int}{v:Value}(a:RelV (cQ x) v)(b:RelV (cQ y) v):x=y:=by
 have e:=a.inj b
 cases x <;> cases y <;> simp_all [cQ]
theorem ja(x:Option Int):bT (cQ x)=true:=by cases x <;> rfl
theorem rH(x y:Option Int):fF (cQ x) (cQ y)=decide (x=y):=by
 cases x with
 | none=>cases y <;> rfl
 | some i=>
  cases y with
  | none=>rfl
  | some j=>
   show (i == j)=_
   by_cases h:i=j <;> simp[h]
theorem nG{prog:Program}{w:World}{A:Around}{E:Value→Shared→Prop}{s:Shared}{Q:Int→Shared→Prop}(h:Q 0xFCA86420 { s with toks:=s.toks+1 }):wpAny (model prog w) A (PySem.pyHash .none) Q E s:=by
 have hT:s.TypeIs .none "NoneType" := rfl
 unfold PySem.pyHash
 first | unfold pyHashByItsType | skip
 refine wpAny_bind ?_
 rw[cRoomFor,if_neg (by decide)]
 refine wpAny_pure (wpAny_bind (wpAny_specialOf hT PySem.F.slot_NoneType_hash.lookup ?_))
 rw[if_neg (by rw[beq_builtin_none]; exact Bool.false_ne_true)]
 refine wpAny_bind (wpAny_specialOf hT PySem.F.slot_NoneType_hash.lookup ?_)
 show wpAny _ _ (callSpecialIfBoundUnlessNone? .none "__hash__" _ >>= _) Q E s
 refine wpAny_bind (wpAny_callSpecialIfBoundUnlessNone?_slot hT PySem.F.slot_NoneType_hash (wpAny_call_entry PySem.F.slot_NoneType_hash hT
  PySem.F.entry_NoneType_hash ?_ (PySem.F.args_NoneType_hash_1 _)))
 show wpAny _ _ (retInt 0xFCA86420) _ _ s
 refine wpAny_ret_mkInt ?_
 exact wpAny_pure h
def dk(prog:Program)(w:World):IK prog w (Option Int) where
 is:=fun _ k v=>RelV (cQ k) v
 hash:=fun k=>match k with
  | none=>0xFCA86420
  | some i=>hashInt i
 draws:=fun _=>1
 deep:=0
 inj:=fun a b=>xg a b
 keeps:=fun a _ _ _=>a
 pyHash:=fun {A E s k v Q} _ hk h=>by
  cases k with
  | none=>
   obtain rfl:v=Value.none:=hk
   exact nG h
  | some i=>
   obtain⟨t,rfl⟩:=(show ∃ t,v=Value.int i t from hk)
   exact wpAny_pyHash_int h
 eqBool:=fun {A E s x y u v Q} _ hx hy h=>by
  have q:=js (A:=A) (s:=s) hx hy (ja x) (ja y);rw[rH]at q
  exact q prog w E Q h
 quiet:=fun {A E s k v n Q} hk h=>by
  have e:carriedByValue v=true:=by
   cases k with
   | none=>obtain rfl:v=Value.none:=hk; rfl
   | some i=>obtain⟨t,rfl⟩:=(show ∃ t,v=Value.int i t from hk); rfl
  rw[eqIsQuiet_byValue _ e];exact wpAny_pure h
abbrev NI:=Sum Int (List (Option Int))
def xw(prog:Program)(w:World)(h:Heap):NI→Value→Prop
 | .inl i,v=>∃ t,v=Value.int i t
 | .inr l,v=>IsTupK (dk prog w) h l v
theorem IsTupK.tup{prog:Program}{w:World}{κ : Type}[DecidableEq κ]{K:IK prog w κ}{h:Heap}{l:List κ}{v:Value}(x:IsTupK K h l v):∃ a its,v = .ref a∧h.IsTuple a its:=by
 obtain⟨a,o,items,n,rfl,ho,hc,hd,hi⟩:=x
 exact⟨a,items,rfl,o,ho,hc,n,hd⟩
theorem r_{A:Around}{prog:Program}{w:World}(hu:A.units+1<cLine):A.units+((dk prog w).deep+1)<cLine:=hu
theorem Cd(i j:Int):(i == j)=decide ((Sum.inl i:NI)=Sum.inl j):=by
 by_cases z:i=j
 ·subst z; simp
 ·have z':¬ ((Sum.inl i:NI)=Sum.inl j):=fun q=>z (Sum.inl.inj q)
  rw[decide_eq_false z']; simpa using z
theorem Cc(l l':List (Option Int)):decide (l=l')=decide ((Sum.inr l:NI)=Sum.inr l'):=by
 by_cases z:l=l'
 ·subst z; simp
 ·have z':¬ ((Sum.inr l:NI)=Sum.inr l'):=fun q=>z (Sum.inr.inj q)
  rw[decide_eq_false z',decide_eq_false z]
theorem Cz(i:Int)(l:List (Option Int)):decide ((Sum.inl i:NI)=Sum.inr l)=false:=decide_eq_false (fun q=>nomatch q)
theorem Cj(i:Int)(l:List (Option Int)):decide ((Sum.inr l:NI)=Sum.inl i)=false:=decide_eq_false (fun q=>nomatch q)
theorem Cw{prog:Program}{w:World}{A:Around}{E:Value→Shared→Prop}{s:Shared}{u v:Value}{Q:Bool→Shared→Prop}(hu:A.units+1<cLine):∀ (x y:NI),xw prog w s.heap x u→xw prog w s.heap y v→Q (decide (x=y)) s→
  wpAny (model prog w) A (PySem.eqBool u v) Q E s
 | .inl i,.inl j,⟨t,e1⟩,⟨t',e2⟩,h=>by
  subst e1 e2;rw[← Cd]at h
  exact wpAny_eqBool_int h
 | .inl i,.inr l,⟨t,e1⟩,hy,h=>by
  subst e1;obtain⟨b,its,rfl,ht⟩:=IsTupK.tup (K:=dk prog w) hy
  rw[Cz]at h
  exact SeqAt.EqAt.int_tuple i t ht (Nat.lt_of_succ_lt hu) prog w E Q h
 | .inr l,.inl j,hx,⟨t,e1⟩,h=>by
  subst e1;obtain⟨b,its,rfl,ht⟩:=IsTupK.tup (K:=dk prog w) hx
  rw[Cj]at h
  exact SeqAt.EqAt.tuple_int j t ht (Nat.lt_of_succ_lt hu) prog w E Q h
 | .inr l,.inr l',hx,hy,h=>by
  rw[← Cc]at h
  exact nh (K:=dk prog w) (r_ hu) hx hy h
def C4(prog:Program)(w:World):IK prog w NI where
 is:=xw prog w
 hash:=fun k=>match k with
  | .inl i=>hashInt i
  | .inr l=>pk (dk prog w) l
 draws:=fun k=>match k with
  | .inl _=>1
  | .inr l=>ji (dk prog w) l+1
 deep:=1
 inj:=fun {h v x y} a b=>by
  cases x with
  | inl i=>
   obtain⟨t,rfl⟩:=(show ∃ t,v=Value.int i t from a)
   cases y with
   | inl j=>obtain⟨t',e⟩:=(show ∃ t',Value.int i t=Value.int j t' from b); injection e with e1 _; rw[e1]
   | inr l=>obtain⟨a,_,e,_⟩:=IsTupK.tup (show IsTupK (dk prog w) h l _ from b); cases e
  | inr l=>
   cases y with
   | inl j=>
    obtain⟨t,rfl⟩:=(show ∃ t,v=Value.int j t from b)
    obtain⟨a,_,e,_⟩:=IsTupK.tup (show IsTupK (dk prog w) h l _ from a); cases e
   | inr l'=>rw[(tS (dk prog w)).inj (show IsTupK (dk prog w) h l v from a) (show IsTupK (dk prog w) h l' v from b)]
 keeps:=fun {h h' k v d o es ep} a ho hd hs=>by
  cases k with
  | inl i=>exact a
  | inr l=>exact(tS (dk prog w)).keeps (show IsTupK (dk prog w) h l v from a) ho hd hs
 pyHash:=fun {A E s k v Q} hu hk h=>by
  cases k with
  | inl i=>
   obtain⟨t,rfl⟩:=(show ∃ t,v=Value.int i t from hk)
   exact wpAny_pyHash_int h
  | inr l=>exact j6 (K:=dk prog w) (r_ hu) hk h
 eqBool:=fun {A E s x y u v Q} hu hx hy h=>Cw hu x y hx hy h
 quiet:=fun {A E s k v n Q} hk h=>by
  cases k with
  | inl i=>
   obtain⟨t,rfl⟩:=(show ∃ t,v=Value.int i t from hk)
   rw[eqIsQuiet_byValue _ rfl];exact wpAny_pure h
  | inr l=>exact jU (K:=dk prog w) hk h
end L2
namespace L2
open PySem PySem.Spec PyProof.Rows
abbrev dL:=Int × List (Option Int)
def nk(k:dL):List NI:=[.inl k.1,.inr k.2]
theorem An{k k':dL}(h:nk k=nk k'):k=k':=by
 obtain⟨a,b⟩:=k
 obtain⟨c,d⟩:=k'
 unfold nk at h;simp at h
 rw[h.1,h.2]
def MK(P:Program)(w:World):HeapKind P w (List NI):=y8 (C4 P w) (show 1≤7 by decide)
def kA(P:Program)(w:World)(a:Addr)(xs:List (List NI × Addr × Value)):HO:=
 .ext fun h=>∃ o es ep,h.get? a=some o∧o.ExactDict∧o.data = .dict es ep∧es.toList=xs.map (entryOfKey (MK P w))∧(xs.map (·.1)).Nodup
def KeyAt(H:Hp)(k:dL)(b:Addr):Prop:=∃ t,H b=some (.tup [.int k.1,.ref t])∧H t=some (.tup (k.2.map cQ))
def NRow(H:Hp)(p:dL × V)(q:List NI × Addr × Value):Prop:=q.1=nk p.1∧KeyAt H p.1 q.2.1∧RelV p.2 q.2.2
def DN(P:Program)(w:World)(H:Hp)(a:Addr)(kvs:List (dL × V)):Prop:=
 ∃ xs,H a=some (kA P w a xs)∧(a == sysModules)=false∧xs.length≤sizeLine∧Paired (NRow H) kvs xs
theorem KeyAt.mono{H H':Hp}{k:dL}{b:Addr}(h:KeyAt H k b)(sm:∀ c xs,H c=some (.tup xs)→H' c=some (.tup xs)):KeyAt H' k b:=by
 obtain⟨t,h1,h2⟩:=h
 exact⟨t,sm _ _ h1,sm _ _ h2⟩
theorem DN.mono{P:Program}{w:World}{H H':Hp}{a:Addr}{kvs:List (dL × V)}(h:DN P w H a kvs)(sm:Same H H'):DN P w H' a kvs:=by
 obtain⟨xs,h1,h2,h3,h4⟩:=h
 exact⟨xs,sm _ _ h1,h2,h3,Paired.imp' (fun p q z=>⟨z.1,z.2.1.mono fun c ys e=>sm _ _ e,z.2.2⟩) h4⟩
section
variable{P:Program}{w:World}{H:Hp}
theorem NRow.val:∀ {kvs:List (dL × V)} {xs:List (List NI × Addr × Value)} (k:dL),Paired (NRow H) kvs xs→RelO (aH kvs k) ((atKey xs (nk k)).map (·.2))
 | _,_,k,.nil=>True.intro
 | _,_,k,@Paired.cons _ _ _ p q kvs xs r t=>by
  have ih:=NRow.val k t;obtain⟨e1,e2,e3⟩:=r
  by_cases h:p.1=k
  ·have h1:aH (p::kvs) k=some p.2:=by simp[aH,h]
   have h2:atKey (q::xs) (nk k)=some q.2:=by simp[atKey,e1,h]
   rw[h1,h2]; exact e3
  ·have hn:¬ q.1=nk k:=fun z=>h (An (e1.symm.trans z))
   have h1:aH (p::kvs) k=aH kvs k:=by simp[aH,h]
   have h2:atKey (q::xs) (nk k)=atKey xs (nk k):=by simp[atKey,hn]
   rw[h1,h2]; exact ih
theorem gN{h:Heap}:∀ {l:List (Option Int)} {us:List Value},Vals (l.map cQ) us→IsItems (dk P w) h l us
 | [],_,.nil=>.nil
 | x::l,_,.cons r t=>.cons r (gN t)
end
section
variable{X:Cx}{pins:List (Addr × Obj)}{σ : St}{H:Hp}{s:Shared}{a b:Addr}{k:dL}{kvs:List (dL × V)}
theorem Inv.key(I:Inv X pins σ H s)(h:KeyAt H k b):(MK X.prog X.w).is s.heap (nk k) b:=by
 obtain⟨t,h1,h2⟩:=h
 obtain⟨_,its,r,o,e,c,n,d⟩ : ([V.int k.1,V.ref t]:List V).length≤sizeLine∧∃ its:List Value,Vals [V.int k.1,V.ref t] its∧IsTup s.heap b its.toArray:=by obtain⟨z,its,r,p⟩:=I.hok b _ h1; exact⟨z,its,r,p.tup⟩
 obtain⟨_,its2,r2,o2,e2,c2,n2,d2⟩ : (k.2.map cQ).length≤sizeLine∧∃ its:List Value,Vals (k.2.map cQ) its∧IsTup s.heap t its.toArray:=by obtain⟨z,its,r,p⟩:=I.hok t _ h2; exact⟨z,its,r,p.tup⟩
 obtain⟨u,v,rfl,ru,rv⟩:=oN r
 cases rv;refine⟨b,o,_,n,rfl,e,c,d,?_⟩
 show IsItems (C4 X.prog X.w) s.heap [.inl k.1,.inr k.2] [u,.ref t]
 exact .cons ru (.cons ⟨t,o2,_,n2,rfl,e2,c2,d2,by simpa using gN r2⟩ .nil)
theorem Inv.dn(I:Inv X pins σ H s)(h:DN X.prog X.w H a kvs):∃ xs,H a=some (kA X.prog X.w a xs)∧(a == sysModules)=false∧xs.length≤sizeLine∧Paired (NRow H) kvs xs∧s.heap.DictOfH (MK X.prog X.w) a xs:=by
 obtain⟨xs,h1,h2,h3,h4⟩:=h
 obtain⟨⟨o,es,ep,e1,e2,e3,e4,e5⟩,_,_⟩:=I.hok a _ h1
 refine⟨xs,h1,h2,h3,h4,o,es,ep,e1,e2,e3,e4,?_,e5⟩
 have all:∀ {l:List (dL × V)} {m:List (List NI × Addr × Value)},Paired (NRow H) l m→∀ x∈m,(MK X.prog X.w).is s.heap x.1 x.2.1:=by
  intro l m r
  induction r with
  | nil=>intro x hx; simp at hx
  | cons r t ih=>
   intro x hx
   rcases List.mem_cons.mp hx with rfl | hx
   ·rw[r.1]; exact I.key r.2.1
   ·exact ih x hx
 exact all h4
theorem qu{P:Program}{w:World}{H':Hp}{h':Heap}{xs:List (List NI × Addr × Value)}(m:h'.DictOfH (MK P w) a xs):ObjOk P w H' h' a (kA P w a xs):=by
 obtain⟨o,es,ep,e1,e2,e3,e4,_,e5⟩:=m
 exact⟨⟨o,es,ep,e1,e2,e3,e4,e5⟩,⟨o,e1⟩,fun h1 h2 ⟨o,es,ep,q1,q⟩ z=>⟨o,es,ep,z _ q1,q⟩⟩
def zO(P:Program)(w:World):R2:=fun x y H Q=>∃ b a k kvs,x = .ref b∧y = .ref a∧DN P w H a kvs∧KeyAt H k b∧Q (.bl (!(aH kvs k).isSome)) H
theorem we{n:Nat}(hr:Room n X.A):OpR X (compareOp .NotIn) (zO X.prog X.w):=by
 intro pins s σ H x y v u Q I rx ry h
 obtain⟨b,a,k,kvs,rfl,rfl,hd,hk,q⟩:=h
 cases rx
 cases ry;obtain⟨xs,h1,h2,h3,h4,m⟩:=I.dn hd
 refine wpAny_notIn_heap (show (MK X.prog X.w).room X.A.in1 from by show X.A.units+1+2<cLine; have:=hr.un; omega) (I.key hk) h2 m ?_
 have e:=(NRow.val k h4).isSome_eq;rw[Option.isSome_map]at e
 rw[← e];exact⟨.bl _,H,I.tok _,rfl,q⟩
def E9(P:Program)(w:World):R2:=fun x y H Q=>∃ a b k kvs v,x = .ref a∧y = .ref b∧DN P w H a kvs∧KeyAt H k b∧aH kvs k=some v∧Q v H
theorem EG{n:Nat}(hr:Room n X.A):IxR X (E9 X.prog X.w):=by
 intro value slice pins s σ H x y v u Q I rx ry h hs
 obtain⟨a,b,k,kvs,z,rfl,rfl,hd,hk,hv,q⟩:=h
 cases rx
 cases ry;obtain⟨xs,h1,h2,h3,h4,m⟩:=I.dn hd
 obtain⟨w',hw,rw'⟩:=RelO.some_of (v:=z) (o:=(atKey xs (nk k)).map (·.2)) (by rw[← hv]; exact NRow.val k h4)
 obtain⟨p,hp,hp2⟩:=Option.map_eq_some_iff.mp hw
 have hl:typeLookup (.type "dict") "__getitem__" = pure (some (.builtin "dict.__getitem__")):=PySem.F.slot_dict_getitem.lookup
 refine subscriptTail_builtinR (x:=w') m.typeIs hl ?_ hs
 refine wpAny_getItem_heap (show (MK X.prog X.w).room X.A.in1 from by show X.A.units+1+2<cLine; have:=hr.un; omega) (I.key hk) m hp ?_
 rw[hp2];exact⟨rfl,z,H,I.tok _,rw',q⟩
def Co(P:Program)(w:World):ka:=fun o i v H Q=>∃ a b k kvs,o = .ref a∧i = .ref b∧DN P w H a kvs∧KeyAt H k b∧aH kvs k=none∧kvs.length<sizeLine∧∀ u,DN P w (upd H a u) a (kvs++[(k,v)])→Q (upd H a u)
theorem Paired.snoc{α β : Type}{F:α→β→Prop}{x:α}{y:β}(h:F x y):∀ {l:List α} {m:List β},Paired F l m→Paired F (l++[x]) (m++[y])
 | _,_,.nil=>.cons h .nil
 | _,_,.cons r t=>.cons r (Paired.snoc h t)
theorem Cv{n:Nat}(hr:Room n X.A):PSet X (Co X.prog X.w):=by
 intro pins s σ H o i v ov iv u Q I ro ri rv h
 obtain⟨a,b,k,kvs,rfl,rfl,hd,hk,hv,hl,q⟩:=h
 cases ro
 cases ri;obtain⟨xs,h1,h2,h3,h4,m⟩:=I.dn hd
 have hx:atKey xs (nk k)=none:=by
  have e:=NRow.val k h4;rw[hv]at e
  cases hq:atKey xs (nk k) with
  | none=>rfl
  | some p=>rw[hq]at e; exact e.elim
 refine wpAny_setItem_heap (hsz:=h3) (show (MK X.prog X.w).room X.A.in1 from by show X.A.units+1+2<cLine; have:=hr.un; omega) (I.key hk) m fun h' m' hs=>?_
 rw[storedH_new hx]at m'
 have keep:∀ c ys,H c=some (.tup ys)→upd H a (kA X.prog X.w a (xs++[(nk k,b,u)])) c=some (.tup ys):=fun c ys e=>by
  rw[ai (gS e h1 (fun z=>nomatch z))]; exact e
 refine⟨upd H a (kA X.prog X.w a (xs++[(nk k,b,u)])),gn I (by rw[h1]; exact True.intro) hs (let ⟨o,_,_,e,_⟩:=m'; ⟨o,e⟩) (qu m'),q _ ⟨_,ae,h2,?_,?_⟩⟩
 ·rw[List.length_append,← Paired.length h4]
  show kvs.length+1≤sizeLine
  omega
 ·exact Paired.snoc ⟨rfl,hk.mono keep,rv⟩ (Paired.imp' (fun p q z=>⟨z.1,z.2.1.mono keep,z.2.2⟩) h4)
def Cg(P:Program)(w:World):List V→Hp→VK→Prop:=fun xs H Q=>∃ a kvs,xs=[.ref a]∧DN P w H a kvs∧Q (.int kvs.length) H
theorem AQ{P:Program}{w:World}{A:Around}{E:Value→Shared→Prop}{Q:Value→Shared→Prop}{xs:List (List NI × Addr × Value)}(hd:(a == sysModules)=false)(m:s.heap.DictOfH (MK P w) a xs)(hz:xs.length≤sizeLine)
  (h:∀ t tk,Q (.int xs.length t) { s with toks:=tk }):wpAny (model P w) A (call (.builtin "len") [.ref a]) Q E s:=by
 have hs:sizeLine=16777216:=sizeLine_eq
 refine Calls.call_function_entry kind_len plain_len entry_len (args_len1 _) ?_
 unfold Builtin.«len»
 refine wpAny_bind (m:=oneArg "len" _) (wpAny_pure ?_)
 have body:MeetsIn P w (Builtin.«dict.__len__» ⟨[.ref a],[]⟩) (fun _ R s'=>s'=s∧R (.ok (.ret (.int xs.length s'.toks))) { s' with toks:=s'.toks+1 }):=.of_wp fun A R s' ⟨e,hR⟩=>by
  subst e;obtain⟨o,es,ep,ho,hc,hdat,hk,_⟩:=id m
  show wpAny _ _ (dictSize a >>= _) _ _ s'
  unfold dictSize;refine wpAny_bind (wpAny_bind (wpAny_dictEntries ho hdat (wpAny_pure ?_)))
  show wpAny _ _ (Builtin.Dict.pendingCount a >>= _) _ _ s'
  refine wpAny_bind (wpAny_pendingCount_other hd (wpAny_ret_mkInt ?_))
  have e:es.size=xs.length:=by rw[← Array.length_toList,hk,List.length_map]
  rw[Nat.add_zero,e]; exact hR
 refine wpAny_bind (m:=callSpecial? (.ref a) (Str.ofString "__len__")) (wpAny_callSpecial?_slot (name:=Str.ofString "__len__") m.typeIs PySem.F.slot_dict_len
  (call_meetsIn PySem.F.slot_dict_len m.typeIs PySem.F.entry_dict_len (PySem.F.args_dict_len_1 _) body ⟨rfl,?_⟩))
 refine wpAny_bind (wpAny_holding (wpAny_pure (wpAny_bind (wpAny_letGo ?_))))
 show wpAny _ _ (if ((xs.length:Nat):Int)<0 then _ else _) _ _ _
 rw[if_neg (by omega)]
 show wpAny _ _ (if ((xs.length:Nat):Int)≥2 ^ 63 then _ else _) _ _ _
 rw[if_neg (by omega)]
 exact wpAny_bind (wpAny_mkInt (wpAny_pure ⟨_,rfl,h _ _⟩))
theorem uQ:CallR X (.builtin "len") (Cg X.prog X.w):=by
 intro pins s σ H xs us Q I r h
 obtain⟨a,kvs,rfl,hd,q⟩:=h
 obtain⟨u,rfl,ru⟩:=df r
 cases ru;obtain⟨ys,h1,h2,h3,h4,m⟩:=I.dn hd
 refine AQ h2 m h3 fun t tk=>⟨.int kvs.length,H,I.tok tk,?_,q⟩
 rw[← Paired.length h4];exact⟨t,rfl⟩
def BY(P:Program)(w:World):TE:=fun _ H Q=>∀ p,H p=none→∀ u,DN P w (upd H p u) p []→Q (.ref p) (upd H p u)
theorem wC{pos:Pos}:PE X (.Dict [] [] pos) (BY X.prog X.w):=fun pins s σ H Q I h=>by
 have hm:(s.heap.push { cls:=.type "dict", data:=.dict #[] }).DictOfH (MK X.prog X.w) s.heap.objs.size []:=⟨_,#[],0,Heap.get?_push_size _ rfl,⟨rfl,rfl,rfl⟩,rfl,rfl,(fun x hx=>by simp at hx),List.nodup_nil⟩
 exact wpAny_Dict_empty ⟨.ref s.heap.objs.size,_,I.laid (a:=s.heap.objs.size) (o:=kA X.prog X.w s.heap.objs.size []) (t':=s.toks) (fun _ _ q=>Heap.get?_push_of_some _ q) (Nat.le_refl _) (qu hm),rfl,
  h _ (I.hok.fresh (Nat.le_refl _)) _ ⟨[],ae,beq_eq_false_iff_ne.mpr (Ne.symm (Nat.ne_of_lt I.big)),Nat.zero_le _,.nil⟩⟩
end
end L2
namespace L2
open PySem PySem.Spec PyProof.Rows PySem.SeqAt
section
variable{X:Cx}
def E_(K:PySem.W.Frag):R2:=fun x y H Q=>pF K x y H Q∨∃ a kvs k v,x = .ref a∧y=kV k∧H a=some (.dK kvs)∧aH kvs k=some v∧Q v H
theorem B3(K:PySem.W.Frag)(hK:X.K=K:=by rfl):IxR X (E_ K):=by
 intro value slice pins s σ H x y v u Q I rx ry h hs
 rcases h with h | ⟨a,kvs,k,z,rfl,rfl,e,l,q⟩
 ·exact bd K hK value slice pins s σ H x y v u Q I rx ry h hs
 ·cases rx
  obtain⟨_,hd,vs,rel,dd⟩:=oP I.hok (.inl e)
  obtain⟨w',hw,rw'⟩:=RelO.some_of (v:=z) (o:=valueAt vs k) (by rw[← l]; exact rel.val k)
  have hl:typeLookup (.type "dict") "__getitem__" = pure (some (.builtin "dict.__getitem__")):=PySem.F.slot_dict_getitem.lookup
  exact subscriptTail_builtinR (x:=w') dd.typeIs hl (wpAny_getItem_of (kL ry) dd.mapOf hw ⟨rfl,z,H,I.tok _,rw',q⟩) hs
def zD:R2:=fun x y H Q=>∃ a kvs k,y = .ref a∧x=kV k∧H a=some (.dK kvs)∧Q (.bl (!(aH kvs k).isSome)) H
theorem vn{n:Nat}(hr:Room n X.A):OpR X (compareOp .NotIn) zD:=by
 intro pins s σ H x y v u Q I rx ry h
 obtain⟨a,kvs,k,rfl,rfl,e,q⟩:=h
 cases ry;exact zN (by have:=hr.un; omega) I (DGet.k e) rx fun s' I'=>⟨.bl _,H,I',rfl,q⟩
def Cm:ka:=fun o i v H Q=>∃ a kvs k,o = .ref a∧i=kV k∧H a=some (.dK kvs)∧kvs.length<sizeLine∧Q (upd H a (.dK (cL kvs k v)))
theorem sX{n:Nat}(hr:Room n X.A):PSet X Cm:=by
 intro pins s σ H o i v ov iv u Q I ro ri rv h
 obtain⟨a,kvs,k,rfl,rfl,e,hl,q⟩:=h
 cases ro;exact vh (by have:=hr.un; omega) I (DPut.k e hl) ri rv fun s' I'=>⟨_,I',q⟩
end
section
variable{K:PySem.W.Frag}{H:Hp}{Q:VK}
theorem EqN.ints{n:Nat}{a c:Addr}{ss ts:List Int}(h1:SqL K H a (ss.map V.int))(h2:SqL K H c (ts.map V.int)):EqN K H (n+1) (.ref a) (.ref c) (decide (ss=ts)):=by
 refine .inr ⟨a,c,_,_,rfl,rfl,.inl ⟨h1,h2⟩,?_⟩
 by_cases hl:ss.length=ts.length
 ·refine .inl ⟨fun i=>ss.getD i 0 == ts.getD i 0,by simp[hl],fun i x y e1 e2=>?_,?_⟩
  ·rw[List.getElem?_map]at e1 e2
   cases q1:ss[i]? with
   | none=>rw[q1]at e1; cases e1
   | some u=>
    cases q2:ts[i]? with
    | none=>rw[q2]at e2; cases e2
    | some v=>
     rw[q1]at e1; rw[q2]at e2
     cases e1; cases e2
     dsimp only
     rw[List.getD_eq_getElem?_getD,List.getD_eq_getElem?_getD,q1,q2];exact EqN.flat rfl rfl
  ·rw[List.length_map]
   by_cases e:ss=ts
   ·subst e
    rw[decide_eq_true rfl]
    symm
    rw[List.all_eq_true];intro i _
    simp
   ·rw[decide_eq_false e]
    symm
    rw[List.all_eq_false]
    have:∃ i:Nat,ss[i]? ≠ ts[i]?:=by
     refine Classical.byContradiction fun hn=>e (List.ext_getElem? fun i=>?_)
     exact Classical.byContradiction fun h=>hn ⟨i,h⟩
    obtain⟨i,hi⟩:=this
    have hlt:i<ss.length:=by
     refine Classical.byContradiction fun hn=>hi ?_
     rw[List.getElem?_eq_none (by omega),List.getElem?_eq_none (by omega)]
    refine⟨i,List.mem_range.mpr hlt,?_⟩
    rw[List.getD_eq_getElem?_getD,List.getD_eq_getElem?_getD,List.getElem?_eq_getElem hlt,List.getElem?_eq_getElem (by omega)]
    rw[List.getElem?_eq_getElem hlt,List.getElem?_eq_getElem (by omega)]at hi
    simpa using hi
 ·have e:ss≠ts:=fun e=>hl (by rw[e])
  rw[decide_eq_false e];exact .inr ⟨h1,h2,by simpa using hl,rfl⟩
end
section
variable{X:Cx}
def Dp:R2:=fun x y H Q=>∃ o j,x=cQ o∧y = .int j∧Q (.bl (decide (o≠some j))) H
theorem AT:OpR X (compareOp .NotEq) Dp:=by
 intro pins s σ H x y v u Q I rx ry h
 obtain⟨o,j,rfl,rfl,q⟩:=h
 obtain⟨t,rfl⟩:=ry
 cases o with
 | none=>
  cases (show v=Value.none from rx)
  rw[decide_eq_true (by simp)]at q
  exact RcNeAt.none_int j t _ _ _ _ ⟨.bl true,H,I,rfl,q⟩
 | some i=>
  have e:(!decide (i=j))=decide ((some i:Option Int)≠some j):=by by_cases h:i=j <;> simp[h]
  rw[← e]at q
  refine mJ pins s σ H (.int i) (.int j) v _ Q I rx ⟨t,rfl⟩ ?_
  rw[eL]; exact q
end
end L2
namespace L2
open PySem PySem.Spec PyProof.Rows PySem.SeqAt
section
variable{K:PySem.W.Frag}{H:Hp}{Q:VK}
theorem iI(i j:Bool):xC (.bl i) (.bl j) H Q=Q (.bl (!(i == j))) H:=by
 show (pS (.bl i) (.bl j)=true∧Q (.bl (!decide (V.bl i=V.bl j))) H)=_
 rw[pY]; exact propext ⟨fun h=>h.2,fun h=>⟨rfl,h⟩⟩
end
end L2
namespace L2
open PySem PySem.Spec PyProof.Rows PySem.SeqAt
theorem m7:∀ (xs:List V) (us:List Value),xs.length=us.length→(∀ (j:Nat) x u,xs[j]? = some x→us[j]? = some u→RelV x u)→Vals xs us
 | [],[],_,_=>.nil
 | [],u::us,hl,_=>by simp at hl
 | x::xs,[],hl,_=>by simp at hl
 | x::xs,u::us,hl,h=>.cons (h 0 x u rfl rfl) (m7 xs us (by simpa using hl) fun j a b e1 e2=>h (j+1) a b e1 e2)
section
variable{X:Cx}
end
section
variable{X:Cx}
end
section
variable{prog:Program}{w:World}{K:Type}[DecidableEq K]{knd:KeyKind prog w K}{A:Around}{E:Value→Shared→Prop}{s:Shared}
end
section
variable{X:Cx}
theorem gQ{α β : Type}{F:α→β→Prop}:∀ {l:List α} {m:List β} {j:Nat} {a:α} {b:β},Paired F l m→l[j]? = some a→m[j]? = some b→F a b
 | _,_,0,_,_,.cons h _,e1,e2=>by
  cases e1; cases e2; exact h
 | _,_,j+1,_,_,.cons _ t,e1,e2=>gQ (j:=j) t e1 e2
 | _,_,0,_,_,.nil,e1,_=>by cases e1
 | _,_,_+1,_,_,.nil,e1,_=>by cases e1
theorem v3:bootBuiltins "set" = some (.type "set"):=by decide +kernel
end
end L2
namespace L2
open PySem PySem.Spec PyProof.Rows PySem.SeqAt
def fw(xs:Array Nat):Prop:=∀ (a b:Nat) (ha:a<xs.size) (hb:b<xs.size),a<b→xs[a]<xs[b]
theorem lJ{xs:Array Nat}(h:fw xs)(j:Nat):∀ (fuel lo hi:Nat),lo≤hi→hi≤xs.size→hi - lo≤fuel→(∀ k (hk:k<xs.size),k<lo→xs[k]<j)→(∀ k (hk:k<xs.size),hi≤k→j≤xs[k])→
  SetTable.below.go xs j fuel lo hi≤xs.size∧(∀ k (hk:k<xs.size),k<SetTable.below.go xs j fuel lo hi→xs[k]<j)∧(∀ k (hk:k<xs.size),SetTable.below.go xs j fuel lo hi≤k→j≤xs[k])
 | 0,lo,hi,h1,h2,h3,h4,h5=>by
  have e:lo=hi:=by omega
  subst e;exact⟨h2,h4,h5⟩
 | fuel+1,lo,hi,h1,h2,h3,h4,h5=>by
  unfold SetTable.below.go;split
  ·rename_i hlt
   have hm:(lo+hi) / 2<xs.size:=by omega
   have eg:xs.getD ((lo+hi) / 2) j=xs[(lo+hi) / 2]:=by simp[Array.getD,hm]
   dsimp only
   rw[eg];split
   ·rename_i hj
    refine lJ h j fuel _ hi (by omega) h2 (by omega) (fun k hk hkm=>?_) h5
    rcases Nat.lt_or_ge k ((lo+hi) / 2) with z | z
    ·exact Nat.lt_trans (h k _ hk hm z) hj
    ·have:k=(lo+hi) / 2:=by omega
     subst this; exact hj
   ·rename_i hj
    refine lJ h j fuel lo _ (by omega) (by omega) (by omega) h4 (fun k hk hkm=>?_)
    rcases Nat.lt_or_ge ((lo+hi) / 2) k with z | z
    ·exact Nat.le_trans (Nat.le_of_not_lt hj) (Nat.le_of_lt (h _ k hm hk z))
    ·have:k=(lo+hi) / 2:=by omega
     subst this; exact Nat.le_of_not_lt hj
  ·have e:lo=hi:=by omega
   subst e;exact⟨h2,h4,h5⟩
theorem gX{xs:Array Nat}(h:fw xs)(j:Nat):SetTable.below xs j≤xs.size∧(∀ k (hk:k<xs.size),k<SetTable.below xs j→xs[k]<j)∧(∀ k (hk:k<xs.size),SetTable.below xs j≤k→j≤xs[k]):=
 lJ h j xs.size 0 xs.size (Nat.zero_le _) (Nat.le_refl _) (by omega) (fun k _ z=>absurd z (Nat.not_lt_zero _)) (fun k hk z=>absurd hk (by omega))
theorem tK{xs:Array Nat}(h:fw xs):SetTable.below xs 0=0:=by
 obtain⟨h1,h2,h3⟩:=gX h 0
 refine Classical.byContradiction fun hn=>?_
 exact absurd (h2 0 (by omega) (by omega)) (Nat.not_lt_zero _)
theorem uk{xs:Array Nat}(h:fw xs){i:Nat}(hi:i<xs.size):SetTable.below xs (xs[i]+1)=i+1:=by
 obtain⟨h1,h2,h3⟩:=gX h (xs[i]+1)
 rcases Nat.lt_trichotomy (SetTable.below xs (xs[i]+1)) (i+1) with z | z | z
 ·have:=h3 i hi (by omega); omega
 ·exact z
 ·have h4:=h2 (i+1) (by omega) z
  have h5:=h i (i+1) hi (by omega) (by omega)
  omega
theorem n9{xs:Array Nat}{p x k:Nat}(hp:p≤xs.size)(hk:k<(SetTable.insertAt xs p x).size):(SetTable.insertAt xs p x)[k]=if h:k<p then xs[k]'(by omega) else if k=p then x else xs.getD (k - 1) 0:=by
 have hs:(SetTable.insertAt xs p x).size=xs.size+1:=by
  unfold SetTable.insertAt; simp; omega
 have e:(SetTable.insertAt xs p x)[k]? = some (if h:k<p then xs[k]'(by omega) else if k=p then x else xs.getD (k - 1) 0):=by
  unfold SetTable.insertAt;rw[Array.getElem?_append];simp only[Array.size_push,Array.size_extract]
  split
  ·rename_i h
   rw[Array.getElem?_push];simp only[Array.size_extract]
   by_cases hkp:k<p
   ·rw[if_neg (by omega),dif_pos hkp,Array.getElem?_extract]
    simp; omega
   ·have:k=p:=by omega
    subst this;rw[if_pos (by omega),dif_neg hkp,if_pos rfl]
  ·rename_i h
   rw[dif_neg (by omega),if_neg (by omega),Array.getElem?_extract]
   have hk':k - 1<xs.size:=by omega
   rw[if_pos (by omega),show p+(k - (min p xs.size - 0+1))=k - 1 by omega]
   simp[Array.getD,hk']
 rw[Array.getElem?_eq_getElem hk]at e
 exact Option.some.inj e
theorem ph{xs:Array Nat}(h:fw xs){j:Nat}(hj:∀ k (hk:k<xs.size),xs[k]≠j):fw (SetTable.insertAt xs (SetTable.below xs j) j):=by
 obtain⟨h1,h2,h3⟩:=gX h j
 have hs:(SetTable.insertAt xs (SetTable.below xs j) j).size=xs.size+1:=by
  unfold SetTable.insertAt; simp; omega
 generalize SetTable.below xs j=p at h1 h2 h3 hs;intro a b ha hb hab
 rw[n9 h1 ha,n9 h1 hb];have gd:∀ k,k<xs.size→∃ hk:k<xs.size,xs.getD k 0=xs[k]:=fun k hk=>⟨hk,by simp[Array.getD,hk]⟩
 by_cases a1:a<p
 ·rw[dif_pos a1]
  by_cases b1:b<p
  ·rw[dif_pos b1]; exact h a b _ _ hab
  ·rw[dif_neg b1]
   by_cases b2:b=p
   ·rw[if_pos b2]; exact h2 a (by omega) a1
   ·rw[if_neg b2]
    obtain⟨hk,e⟩:=gd (b - 1) (by omega)
    rw[e]; exact h a (b - 1) _ _ (by omega)
 ·rw[dif_neg a1,dif_neg (by omega)]
  by_cases a2:a=p
  ·rw[if_pos a2,if_neg (by omega)]
   obtain⟨hk,e⟩:=gd (b - 1) (by omega)
   rw[e];have:=h3 (b - 1) hk (by omega)
   have:=hj (b - 1) hk
   omega
  ·rw[if_neg a2,if_neg (by omega)]
   obtain⟨hk,e⟩:=gd (b - 1) (by omega)
   obtain⟨hk2,e2⟩:=gd (a - 1) (by omega)
   rw[e,e2]; exact h _ _ _ _ (by omega)
theorem wy{t:SetTable}{j:Nat}(h:fw t.place)(e:∀ i,t.slot j ≠ .live i):∀ k (hk:k<t.place.size),t.place[k]≠j:=fun k hk ek=>by
 obtain⟨h1,h2,h3⟩:=gX h j
 have hb:SetTable.below t.place j=k:=by
  rcases Nat.lt_trichotomy (SetTable.below t.place j) k with z | z | z
  ·have:=h3 (SetTable.below t.place j) (by omega) (Nat.le_refl _)
   have:=h (SetTable.below t.place j) k (by omega) hk z
   omega
  ·exact z
  ·have:=h2 k hk z; omega
 refine e k ?_
 unfold SetTable.slot;rw[hb]
 dsimp only
 rw[Array.getElem?_eq_getElem hk,ek];simp
theorem lL{t:SetTable}{hashAt:Nat→Int}{h:Int}:∀ (fuel:Nat) (p:SetTable.Probe),(∀ d,p.dummy=some d→t.slot d = .dummy)→∀ j dm,SetTable.probe.go t hashAt h fuel p=some (.empty j dm)→t.slot j = .empty∧∀ d,dm=some d→t.slot d = .dummy
 | 0,p,_,j,dm,e=>by unfold SetTable.probe.go at e; cases e
 | fuel+1,p,hp,j,dm,e=>by
  unfold SetTable.probe.go at e;have adv:∀ q:SetTable.Probe,(t.advance q).dummy=q.dummy:=fun q=>by unfold SetTable.advance; split <;> rfl
  cases hs:t.slot p.j with
  | empty=>
   rw[hs]at e
   cases e;exact⟨hs,hp⟩
  | dummy=>
   rw[hs]at e
   refine lL fuel _ (fun d hd=>?_) j dm e
   rw[adv]at hd
   cases hd;exact hs
  | live i=>
   rw[hs]at e
   dsimp only at e
   split at e
   ·cases e
   ·exact lL fuel _ (fun d hd=>by rw[adv]at hd; exact hp d hd) j dm e
structure bn (L:Bool) (t:SetTable):Prop where
 led:t.led=L
 rise:fw t.place
theorem q8(n:Nat):fw (Array.range n):=fun a b ha hb hab=>by simpa using hab
theorem fG{L:Bool}{t:SetTable}(h:bn L t)(n:Nat):bn L (t.standIn n):=⟨h.led,q8 n⟩
theorem vJ{L:Bool}{t:SetTable}(h:bn L t){hh:Int}{j:Nat}{b:Bool}(e:t.freeSlot hh=some (j,b)):bn L (t.put j).1:=by
 refine⟨h.led,ph h.rise (wy h.rise ?_)⟩
 unfold SetTable.freeSlot at e;split at e
 ·rename_i j' dm hpr
  have:=lL (t:=t) _ (t.probeStart hh) (fun d hd=>by cases hd) j' dm hpr
  cases dm with
  | none=>
   cases e;exact fun i z=>by have:=this.1; rw[show (none:Option Nat).getD j'=j' from rfl,this]at z; cases z
  | some d=>
   cases e;exact fun i z=>by have:=this.2 d rfl; rw[show (some d:Option Nat).getD j'=d from rfl,this]at z; cases z
 ·cases e
theorem la{L:Bool}{t:SetTable}(h:bn L t)(es:Array (Int × Value))(hh:Int)(x:Value):bn L (layNew t es hh x).2.1:=by
 unfold layNew
 cases e:t.freeSlot hh with
 | none=>exact fG h _
 | some q=>
  obtain⟨j,b⟩:=q
  have hg:=vJ h e;show bn L ((t.put j).1.orStandIn _)
  unfold SetTable.orStandIn;split
  ·exact hg
  ·exact fG hg _
theorem gO{l:List Nat}(h:l.Pairwise (· < ·)):fw l.toArray:=fun a b ha hb hab=>by
 have:=(List.pairwise_iff_getElem.mp h) a b (by simpa using ha) (by simpa using hb) hab
 simpa using this
theorem mD{L:Bool}{t:SetTable}(h:bn L t)(es:Array (Int × Value))(n:Nat):bn L (relayAll t es n).2.1:=by
 unfold relayAll;split
 ·rename_i t' order e
  dsimp only
  split
  ·unfold SetTable.relaid SetTable.laid at e
   cases ho:SetTable.layClean (SetTable.sizeAbove n - 1) (es.map (·.1)) with
   | none=>rw[ho]at e; cases e
   | some owner=>
    rw[ho]at e
    cases e;refine⟨h.led,gO ?_⟩
    refine List.pairwise_map.mpr ?_
    refine List.Pairwise.filterMap _ ?_ List.pairwise_lt_range
    intro a b hab x hx y hy
    obtain⟨k,_,rfl⟩:=Option.map_eq_some_iff.mp hx
    obtain⟨k',_,rfl⟩:=Option.map_eq_some_iff.mp hy
    exact hab
  ·exact fG h _
 ·exact fG h _
end L2
namespace L2
open PySem PySem.Spec PyProof.Rows PySem.SeqAt
section
variable{prog:Program}{w:World}{K:Type}[DecidableEq K]{knd:KeyKind prog w K}{A:Around}{E:Value→Shared→Prop}{s:Shared}{G:SetTable→Prop}
def Apart(knd:KeyKind prog w K)(l:List (Int × Value)):Prop:=l.Pairwise fun e e'=>∀ k,knd.is k e.2=true→knd.is k e'.2=false
theorem Apart.perm{l l':List (Int × Value)}(h:Apart knd l)(p:l'.Perm l):Apart knd l':=
 (p.pairwise_iff fun {x y} hxy k hk=>by
  cases e:knd.is k x.2 with
  | false=>rfl
  | true=>rw[hxy k e]at hk; cases hk).mpr h
theorem Apart.push{l:List (Int × Value)}{k:K}{x:Value}{hh:Int}(h:Apart knd l)(hn:∀ e∈l,knd.is k e.2=false)(hk:knd.is k x=true):Apart knd (l++[(hh,x)]):=by
 refine List.pairwise_append.mpr ⟨h,List.pairwise_singleton _ _,fun e he b hb k' hk'=>?_⟩
 rw[List.mem_singleton.mp hb];show knd.is k' x=false
 rw[KeyKind.is_eq_decide hk k'];refine decide_eq_false fun e'=>?_
 subst e';rw[hn e he]at hk'; cases hk'
structure j9 (knd:KeyKind prog w K) (G:SetTable→Prop) (o:Obj) (es:Array (Int × Value)) (ep:Nat) (t:SetTable) (S:K→Bool) (n:Nat):Prop where
 ex:o.ExactSet
 dat:o.data = .set es ep t
 el:ElemsOf knd es.toList
 mem:∀ k,S k=true ↔ ∃ e∈es.toList,knd.is k e.2=true
 few:es.size<scanBound
 fit:t.fits es.size=true
 num:es.size=n
 good:G t
 apart:Apart knd es.toList
def SetG(knd:KeyKind prog w K)(G:SetTable→Prop)(h:Heap)(a:Addr)(S:K→Bool)(n:Nat):Prop:=∃ o es ep t,h.get? a=some o∧j9 knd G o es ep t S n
theorem stored{h:Heap}{a:Addr}{o:Obj}{es:Array (Int × Value)}{ep:Nat}{t:SetTable}{S:K→Bool}{n:Nat}{es':Array (Int × Value)}{t':SetTable}{S':K→Bool}{n':Nat}(ho:h.get? a=some o)(T:j9 knd G o es ep t S n)
  (T':∀ o',o'.ExactSet→o'.data = .set es' (ep+1) t'→j9 knd G o' es' (ep+1) t' S' n'):∃ o',(h.update a (Obj.putSet es' t')).get? a=some o'∧j9 knd G o' es' (ep+1) t' S' n':=by
 have hp:=putSet_of es' t' T.dat;have hg:=Heap.get?_update_self (Obj.putSet es' t') ho (by rw[hp]; rfl)
 rw[hp]at hg
 exact⟨_,hg,T' _ T.ex rfl⟩
theorem pR(gr:∀ t es n,G t→G (relayAll t es n).2.1){g:Bool→Sem Unit}(hg:∀ (b:Bool) (s₁:Shared) (Q':Unit→Shared→Prop),Q' () s₁→wpAny (model prog w) A (g b) Q' E s₁)
  {a:Addr} {o:Obj} {es:Array (Int × Value)} {ep:Nat} {t:SetTable} {S:K→Bool} {n:Nat} (ho:s.heap.get? a=some o) (T:j9 knd G o es ep t S n)
  {es1:Array (Int × Value)} {t2:SetTable} {S':K→Bool} {n':Nat} (T1:∀ o',o'.ExactSet→o'.data = .set es1 (ep+1) t2→j9 knd G o' es1 (ep+1) t2 S' n') {wasDummy:Bool} {R:Option Bool→Shared→Prop}
  (h:∀ h',Heap.SameBut a s.heap h'→SetG knd G h' a S' n'→R (some true) { s with heap:=h' }) :
  wpAny (model prog w) A (do
    storeSet a es1 t2
    if (!wasDummy&&t2.tooFull)=true then do
      g (relayAll t2 es1 (SetTable.grown es1.size)).2.2
      storeSet a (relayAll t2 es1 (SetTable.grown es1.size)).1 (relayAll t2 es1 (SetTable.grown es1.size)).2.1
      pure (some true)
     else pure (some true)) R E s:=by
 obtain⟨o1,ho1,U1⟩:=stored ho T T1
 refine wpAny_bind (wpAny_storeSet_of ho T.dat ?_ (fits_of_scanBound U1.few))
 have hsb1:=Heap.SameBut.update s.heap a (Obj.putSet es1 t2);split
 ·have hp:=relayAll_perm t2 es1 (SetTable.grown es1.size)
  have hfr:=relayAll_fits t2 es1 (SetTable.grown es1.size);have hgr:=gr t2 es1 (SetTable.grown es1.size) U1.good;generalize relayAll t2 es1 (SetTable.grown es1.size)=Rl at hp hfr hgr ⊢;obtain⟨es2,t3,gave2⟩:=Rl
  dsimp only at hp hfr hgr ⊢
  have hsz:es2.size=es1.size:=by rw[← Array.length_toList,hp.length_eq,Array.length_toList]
  obtain⟨o2,ho2,U2⟩:=stored (es':=es2) (t':=t3) (S':=S') (n':=n') ho1 U1 fun o' ex da=>⟨ex,da,U1.el.perm hp,fun k'=>(U1.mem k').trans ⟨fun ⟨e,he,q⟩=>⟨e,hp.mem_iff.mpr he,q⟩,fun ⟨e,he,q⟩=>⟨e,hp.mem_iff.mp he,q⟩⟩,by rw[hsz]; exact U1.few,hfr,by rw[hsz]; exact U1.num,hgr,U1.apart.perm hp⟩
  refine wpAny_bind (hg _ _ _ ?_)
  refine wpAny_bind (wpAny_storeSet_of ho1 U1.dat ?_ (fits_of_scanBound U2.few))
  exact wpAny_pure (h _ (hsb1.trans (Heap.SameBut.update _ a _)) ⟨_,_,_,_,ho2,U2⟩)
 ·exact wpAny_pure (h _ hsb1 ⟨_,_,_,_,ho1,U1⟩)
theorem BJ(gl:∀ t es h x,G t→G (layNew t es h x).2.1)(gr:∀ t es n,G t→G (relayAll t es n).2.1)(gp:∀ t:SetTable,G t→G { t with plain:=false })
  {a:Addr} {S:K→Bool} {n:Nat} {k:K} {x:Value} {Q:Bool→Shared→Prop} (hkey:knd.is k x=true) (hsc:x.scannable=true) (hS:SetG knd G s.heap a S n) (hroom:n+1<scanBound)
  (h:∀ h',Heap.SameBut a s.heap h'→SetG knd G h' a (fun k'=>S k'||decide (k'=k)) (if S k then n else n+1)→Q (!S k) { s with heap:=h' }) :
  wpAny (model prog w) A (setAddHashed a x (knd.hash k)) Q E s:=by
 obtain⟨o,es,ep,t,ho,T⟩:=hS
 have hb1:es.size+1<scanBound:=by rw[T.num]; exact hroom
 unfold setAddHashed setAddHashedIn;refine wpAny_holding (wpAny_bind (wpAny_setState_of ho T.dat T.fit ?_))
 dsimp only
 rw[byScan_of hsc T.few T.el];simp only[↓reduceIte]
 unfold setAddByScan;refine wpAny_bind ?_
 refine wpAny_bind (wpAny_rule ?_)
 refine wpAny_bind (wpAny_setScan_of hkey ho T.dat T.fit T.el ?_)
 cases hr:List.findIdx? (fun e=>knd.is k e.2) es.toList with
 | some j=>
  dsimp only
  obtain⟨hj,hpj,_⟩:=List.findIdx?_eq_some_iff_getElem.mp hr
  have hSk:S k=true:=(T.mem k).mpr ⟨es.toList[j],List.getElem_mem hj,hpj⟩
  refine wpAny_pure (wpAny_pure ?_)
  have e:s={ s with heap:=s.heap }:=by cases s; rfl
  have q:=h s.heap (Heap.SameBut.refl a s.heap) ⟨o,es,ep,t,ho,T.ex,T.dat,T.el,fun k'=>by
   rw[Bool.or_eq_true,decide_eq_true_eq,← T.mem k'];exact⟨fun hk=>hk.elim id (fun e=>e ▸ hSk),.inl⟩,T.few,T.fit,by rw[hSk]; exact T.num,T.good,T.apart⟩
  rw[hSk]at q; rw[e]; exact q
 | none=>
  dsimp only
  have hno:=List.findIdx?_eq_none_iff.mp hr
  have hSk:S k=false:=by
   cases hk:S k with
   | false=>rfl
   | true=>obtain⟨e,he,hp⟩:=(T.mem k).mp hk; rw[hno e he]at hp; cases hp
  have hgw:∀ (b:Bool) {s₁:Shared} {Q':Unit→Shared→Prop},Q' () s₁→wpAny (model prog w) A (match b with | true=>rule "set.scan.the-table-gave-way" | false=>pure ()) Q' E s₁:=fun b s₁ Q' hq=>by
   cases b <;> first | exact wpAny_pure hq | exact wpAny_rule hq
  have hperm:=layNew_perm t es (knd.hash k) x;have hfits:=layNew_fits t es (knd.hash k) x;have hgood:=gl t es (knd.hash k) x T.good;generalize layNew t es (knd.hash k) x=Ly at hperm hfits hgood ⊢;obtain⟨es1,t1,wasDummy,gave⟩:=Ly
  dsimp only at hperm hfits hgood ⊢
  rw[Array.toList_push]at hperm
  have hsz1:es1.size=n+1:=by rw[← Array.length_toList,hperm.length_eq,List.length_append,Array.length_toList,T.num]; rfl
  have mk:∀ t2:SetTable,t2.fits es1.size=true→G t2→∀ o',o'.ExactSet→o'.data = .set es1 (ep+1) t2→j9 knd G o' es1 (ep+1) t2 (fun k'=>S k'||decide (k'=k)) (n+1):=fun t2 hf2 g2 o' ex da=>
   ⟨ex,da,(T.el.push hkey hsc).perm hperm,mem_push_iff hkey T.mem hperm,by rw[hsz1]; exact hroom,hf2,hsz1,g2,(T.apart.push (fun e he=>by have:=hno e he; simpa using this) hkey).perm hperm⟩
  refine wpAny_bind (hgw _ ?_)
  have hend:∀ h',Heap.SameBut a s.heap h'→SetG knd G h' a (fun k'=>S k'||decide (k'=k)) (n+1)→Q true { s with heap:=h' }:=by
   intro h' hsb hS'; have:=h h' hsb; rw[hSk]at this; exact this hS'
  split
  ·refine wpAny_bind ?_
   rw[hashByValue_scannable 8 hsc];refine wpAny_pure ?_
   refine pR gr ?_ ho T (mk _ ?_ ?_) ?_
   ·intro b s₁ Q' hq; cases b <;> first | exact wpAny_pure hq | exact wpAny_rule hq
   ·split
    ·exact hfits
    ·exact SetTable.fits_plain_off hfits
   ·split
    ·exact hgood
    ·exact gp _ hgood
   ·intro h' hsb hS'; dsimp only; exact wpAny_pure (hend h' hsb hS')
  ·refine wpAny_bind (wpAny_pure ?_)
   simp only[↓reduceIte]
   refine pR gr ?_ ho T (mk _ hfits hgood) ?_
   ·intro b s₁ Q' hq; cases b <;> first | exact wpAny_pure hq | exact wpAny_rule hq
   ·intro h' hsb hS'; dsimp only; exact wpAny_pure (hend h' hsb hS')
end
end L2
namespace L2
open PySem PySem.Spec PyProof.Rows PySem.SeqAt
section
variable{prog:Program}{w:World}{A:Around}{R:Result→Shared→Prop}{I:Addr}{fp wr:List Addr}{Gm:Array GenState→Array GenState→Prop}{n:Nat}{P:Nat→Value→Prop}{St:Nat→Shared→Prop}{L:Bool}
theorem mv{t:SetTable}(h:bn L t):bn L { t with plain:=false }:=⟨h.led,h.rise⟩
theorem SetG.at'{K:Type}[DecidableEq K]{knd:KeyKind prog w K}{G:SetTable→Prop}{h h':Heap}{a:Addr}{S S':K→Bool}{m m':Nat}(x:SetG knd G h a S m)(e:∀ o,h.get? a=some o→h'.get? a=some o)(eS:∀ k,S k=S' k)(em:m=m'):SetG knd G h' a S' m':=by
 obtain⟨o,es,ep,t,ho,T⟩:=x
 have:S=S':=funext eS
 subst this; subst em
 exact⟨o,es,ep,t,e o ho,T⟩
end
section
variable{prog:Program}{w:World}{A:Around}{E:Value→Shared→Prop}{s:Shared}
def bi(w:World):Bool:=!(w.params.followText "set-order")
theorem wO(a:Value){Q₁:Value→Shared→Prop}
  (h:Q₁ (.ref s.heap.objs.size) { s with heap:=s.heap.push { cls:=.type "set", dict:=none,data:=.set #[] 0 (.fresh 0 0 (bi w)) } }) :
  codeAny (model prog w) A (.call (.builtin "set.__new__") ⟨[.type "set", a],[]⟩) (wants Q₁ E) s:=by
 refine codeAny_of_tree ?_
 show wpAny _ A.in1 (do checkBuiltinCall "set.__new__" ⟨[.type "set", a],[]⟩; again (.builtin "set.__new__" ⟨[.type "set", a],[]⟩)) _ _ s
 refine wpAny_bind (wpAny_of_eq (F.newCall_set_1 a) (wpAny_pure ⟨plainId_quiet F.plain_set_new _,codeAny_builtin F.entry_set_new ?_⟩))
 rw[Around.under_plainId F.plain_set_new _];unfold Builtin.«set.__new__» Builtin.Frozenset.newClass
 have hsub:=sub_set_self;obtain⟨hp,g,d,tk,os⟩:=s
 dsimp only
 wp_walk
 refine wpAny_askSetting (wpAny_pure ?_)
 dsimp only
 simp only[newObj]
 refine wpAny_bind (wpAny_alloc (wpAny_pure ?_))
 exact wpAny_pure h
end
end L2
namespace L2
open PySem PySem.Spec PyProof.Rows PySem.SeqAt
section
variable{X:Cx}
end
end L2
namespace L2
open PySem PySem.Spec PyProof.Rows PySem.SeqAt
theorem jF{α : Type}:∀ (l:List α) (i:Nat) (hi:i<l.length),(l[i]::l.eraseIdx i).Perm l
 | x::l,0,_=>.rfl
 | x::l,i+1,hi=>(List.Perm.swap x (l[i]'(by simpa using hi)) (l.eraseIdx i)).trans (List.Perm.cons x (jF l i (by simpa using hi)))
theorem rB{α : Type}(next:Nat→Nat):∀ (fuel k:Nat) (left:List α) (out:Array α),fuel=left.length→(pickOrder.go next fuel k left out).toList.Perm (out.toList++left)
 | 0,k,left,out,h=>by
  have:left=[]:=List.eq_nil_of_length_eq_zero h.symm
  subst this;unfold pickOrder.go; simp
 | fuel+1,k,left,out,h=>by
  unfold pickOrder.go;have hi:next k % left.length<left.length:=Nat.mod_lt _ (by omega)
  rw[List.getElem?_eq_getElem hi]
  dsimp only
  refine(rB next fuel (k+1) _ _ (by rw[List.length_eraseIdx]; rw[if_pos hi]; omega)).trans ?_
  rw[Array.toList_push,List.append_assoc];refine List.Perm.append_left _ ?_
  exact jF _ _ hi
theorem nA{α : Type}(next:Nat→Nat)(xs:Array α):(pickOrder next xs).toList.Perm xs.toList:=by
 unfold pickOrder;have:=rB next xs.size 0 xs.toList #[] (by simp)
 simpa using this
section
variable{M:Model}{A:Around}{E:Value→Shared→Prop}
theorem qV{s:Shared}{n:Nat}{Q:Nat→Shared→Prop}(hn:n≠0)(h:∀ i d',i<n→Q i { s with drawn:=d' }):wpAny M A (choose .order n) Q E s:=fun Γ p hΓ=>by
 show Sem.wp M Γ (.choose .order n .pure) _ _ _ _
 rw[Sem.wp_choose];refine⟨hn,?_⟩
 rw[Sem.wp_pure];exact h _ _ (Nat.mod_lt _ (by omega))
theorem n6{α : Type}:∀ (n:Nat) (xs:List α) (s:Shared) (Q:List α→Shared→Prop),n=xs.length→(∀ ys d',ys.Perm xs→Q ys { s with drawn:=d' })→wpAny M A (drawOrder n xs) Q E s
 | 0,xs,s,Q,hn,h=>by
  have:xs=[]:=List.eq_nil_of_length_eq_zero hn.symm
  subst this;unfold drawOrder;exact wpAny_pure (by have:=h [] s.drawn .nil; cases s; exact this)
 | n+1,[],s,Q,hn,h=>by simp at hn
 | n+1,x::xs,s,Q,hn,h=>by
  unfold drawOrder;refine wpAny_bind (qV (by simp) fun i d' hi=>?_)
  rw[List.getElem?_eq_getElem hi]
  dsimp only
  refine wpAny_bind (n6 n _ _ _ (by rw[List.length_eraseIdx,if_pos hi]; omega) fun ys d'' hp=>?_)
  refine wpAny_pure ?_
  exact h _ d'' ((List.Perm.cons _ hp).trans (jF _ _ hi))
end
end L2
namespace L2
open PySem PySem.Spec PyProof.Rows PySem.SeqAt
theorem slot_si_next:Slot "set_iterator" "__next__" "set_iterator.__next__" :=
 .of (owner := "set_iterator") (n := "__next__") (by rw[typeLookup_type,builtinLookup_eq_fast]; kernel_rfl) (by decide +kernel) (by decide +kernel) (by decide +kernel)
  (by first | exact .inl (by decide +kernel) | exact .inr (by decide +kernel)) (by rw[isSubtype_type]; kernel_rfl)
theorem eF:entryFor table "set_iterator.__next__" = some Builtin.«set_iterator.__next__»:=entryFor_of_tree (by kernel_rfl)
theorem nc:entryFor table "set.__iter__" = some Builtin.«frozenset.__iter__»:=
 entryFor_alias (id' := "frozenset.__iter__") (by kernel_rfl) rfl (by decide +kernel) (by kernel_rfl)
theorem qB : Manifest.owners.lookup (String.ofList ['r', 'o', 't', 'a', 'r', 'e', 't', 'i', '_', 't', 'e', 's'].reverse) = some Manifest.sig_set_iterator := by kernel_rfl
theorem fD(a:Value):argsOk "set_iterator.__next__" ⟨[a],[]⟩:=by
 unfold argsOk; rw [signature?_of (id := "set_iterator.__next__") (n:=['_','_','t','x','e','n','_','_']) (o:=['r','o','t','a','r','e','t','i','_','t','e','s']) (by kernel_rfl) qB]; kernel_rfl
section
variable{prog:Program}{w:World}{A:Around}{E:Value→Shared→Prop}{s:Shared}
def gG(w:World)(a:Addr)(ep:Nat)(es:Array (Int × Value)):List Value:=((if w.params.followText "set-order" then pickOrder (w.params.setOrder a ep) es else es).toList.map (·.2))
def di(w:World)(t:SetTable)(i:Nat):Nat:=if w.params.followText "set-order" then 0 else if i=0 then 0 else t.place.getD (i - 1) 0+1
theorem jB(a:Addr)(ep:Nat)(es:Array (Int × Value)):(gG w a ep es).Perm (es.toList.map (·.2)):=by
 unfold gG;split
 ·exact(nA _ _).map _
 ·exact .rfl
theorem nO{a:Addr}{o:Obj}{es:Array (Int × Value)}{ep:Nat}{t:SetTable}{i:Nat}{Q:Option (Value × Nat)→Shared→Prop}(ho:s.heap.get? a=some o)(hd:o.data = .set es ep t)(hf:t.fits es.size=true)(hg:bn (bi w) t)(hi:i≤es.size)
  (hn:w.params.followText "set-order" = true∨(!t.plain&&decide (es.size>1))=false) (h:Q (((gG w a ep es)[i]?).map fun x=>(x,di w t (i+1))) s):wpAny (model prog w) A (setNext a (di w t i) i ep) Q E s:=by
 have hps:t.place.size=es.size:=by
  unfold SetTable.fits at hf;simp only[Bool.and_eq_true,beq_iff_eq]at hf
  exact hf.1
 unfold setNext;refine wpAny_bind (wpAny_setState_of ho hd hf ?_)
 refine wpAny_bind ?_
 unfold setsByText;refine wpAny_bind (wpAny_askSetting (wpAny_pure ?_))
 show wpAny _ _ (if w.params.followText "set-order" = true then _ else _) _ _ _
 unfold gG di at h;unfold di
 cases hb:w.params.followText "set-order" with
 | true=>
  rw[hb]at h
  simp only[if_true]at h ⊢
  rw[if_neg (by simp)]
  refine wpAny_bind ?_
  unfold setWalk;refine wpAny_bind (wpAny_setState_of ho hd hf ?_)
  refine wpAny_bind ?_
  unfold setsByText;refine wpAny_bind (wpAny_askSetting (wpAny_pure ?_))
  show wpAny _ _ (if w.params.followText "set-order" = true then _ else _) _ _ _
  rw[if_pos hb];refine wpAny_bind (wpAny_askSetting (wpAny_pure ?_))
  refine wpAny_pure ?_
  rw[List.getElem?_map,Option.map_map,Array.getElem?_toList]at h
  exact h
 | false=>
  rw[hb]at h
  simp only[Bool.false_eq_true,if_false]at h ⊢
  have hled:t.led=true:=by rw[hg.led]; unfold bi; rw[hb]; rfl
  refine wpAny_ite_split (fun hab=>?_) (fun _=>?_)
  ·rcases hn with z | z
   ·rw[hb]at z; cases z
   ·exact absurd (z.symm.trans hab) (by decide)
  refine wpAny_bind ?_
  show wpAny _ _ (if (!t.led && !es.isEmpty)=true then unsupported "set:maker-not-led" else pure ()) _ _ _
  rw[if_neg (by rw[hled]; simp)]
  refine wpAny_pure (wpAny_pure ?_)
  have hbel:SetTable.below t.place (if i=0 then 0 else t.place.getD (i - 1) 0+1)=i:=by
   by_cases h0:i=0
   ·rw[if_pos h0,tK hg.rise,h0]
   ·have hi1:i - 1<t.place.size:=by omega
    rw[if_neg h0,show t.place.getD (i - 1) 0=t.place[i - 1] by simp[Array.getD,hi1],uk hg.rise hi1]
    omega
  rw[hbel];rw[List.getElem?_map,Array.getElem?_toList,if_neg (by omega),Nat.add_sub_cancel]at h
  by_cases hlt:i<es.size
  ·have hlp:i<t.place.size:=by omega
   rw[Array.getElem?_eq_getElem hlt,Array.getElem?_eq_getElem hlp];rw[Array.getElem?_eq_getElem hlt,show t.place.getD i 0=t.place[i] by simp[Array.getD,hlp]]at h
   exact h
  ·rw[Array.getElem?_eq_none (by omega)]
   rw[Array.getElem?_eq_none (by omega)]at h
   exact h
end
end L2
namespace L2
open PySem PySem.Spec PyProof.Rows PySem.SeqAt
section
variable{prog:Program}{w:World}{A:Around}{E:Value→Shared→Prop}{s:Shared}
def IsSI(h:Heap)(it:Addr)(first:Value)(i:Nat)(a:Addr)(n ep:Nat):Prop:=∃ o,h.get? it=some o∧o.cls = .type "set_iterator" ∧ o.data = .fields #[first,.int i 0,.ref a,.int n 0,.int ep 0]
theorem IsSI.typeIs{it a:Addr}{first:Value}{i n ep:Nat}(x:IsSI s.heap it first i a n ep):s.TypeIs (.ref it) "set_iterator" := let ⟨o,ho,hc,_⟩:=x; ⟨o,ho,hc⟩
theorem zJ{it a:Addr}{o:Obj}{es:Array (Int × Value)}{ep:Nat}{t:SetTable}{i:Nat}{v:Value}{Q:Option Value→Shared→Prop}(hit:IsSI s.heap it (.int (di w t i) 0) i a es.size ep)(ho:s.heap.get? a=some o)(hd:o.data = .set es ep t)(hf:t.fits es.size=true)(hg:bn (bi w) t)
  (hn:w.params.followText "set-order" = true∨(!t.plain&&decide (es.size>1))=false) (hi:i<es.size) (hv:(gG w a ep es)[i]? = some v)
  (hQ:∀ h',IsSI h' it (.int (di w t (i+1)) 0) (i+1) a es.size ep→Heap.SameBut it s.heap h'→Q (some v) { s with heap:=h' }):wpAny (model prog w) A (pyNext (.ref it)) Q E s:=by
 obtain⟨oi,hoi,hci,hdi⟩:=id hit
 unfold pyNext;refine wpAny_bind (wpAny_attempt (wpAny_callSpecial?_slot (name:=Str.ofString "__next__") hit.typeIs slot_si_next (wpAny_call_entry slot_si_next hit.typeIs eF ?_ (fD _))))
 unfold Builtin.«set_iterator.__next__»
 refine wpAny_bind (wpAny_pure ?_)
 refine wpAny_bind (wpAny_fieldsOf hoi hdi ?_)
 dsimp only
 refine wpAny_bind (wpAny_setEntries_of ho hd hf ?_)
 rw[if_neg (by simp)]
 simp only[Int.toNat_natCast]
 refine wpAny_bind (nO ho hd hf hg (by omega) hn ?_)
 rw[hv];show wpAny _ _ (setField (.ref it) 0 (rawInt (di w t (i+1):Nat)) >>= fun _=>setField (.ref it) 1 (rawInt ((i:Int)+1)) >>= fun _=>ret v) _ _ _
 refine wpAny_bind (wpAny_setField hoi hdi (by simp) ?_)
 have hdi1:=Obj.data_mapFields hdi (fun xs=>xs.setIfInBounds 0 (rawInt (di w t (i+1):Nat)))
 have hoi1:=Heap.get?_update_self (Obj.mapFields (fun xs=>xs.setIfInBounds 0 (rawInt (di w t (i+1):Nat)))) hoi (Obj.isFreed_of_fields hdi1)
 refine wpAny_bind (wpAny_setField hoi1 hdi1 (by simp) ?_)
 have hdi2:=Obj.data_mapFields hdi1 (fun xs=>xs.setIfInBounds 1 (rawInt ((i:Int)+1)))
 have hoi2:=Heap.get?_update_self (Obj.mapFields (fun xs=>xs.setIfInBounds 1 (rawInt ((i:Int)+1)))) hoi1 (Obj.isFreed_of_fields hdi2)
 refine wpAny_pure ⟨_,rfl,wpAny_pure (hQ _ ⟨_,hoi2,?_,?_⟩ ((Heap.SameBut.update ..).trans (Heap.SameBut.update ..)))⟩
 ·rw[Obj.cls_mapFields,Obj.cls_mapFields]; exact hci
 ·rw[hdi2]; simp[rawInt]
theorem As{it a:Addr}{o:Obj}{es:Array (Int × Value)}{ep:Nat}{t:SetTable}{Q:Option Value→Shared→Prop}(hh:A.handled=none)(hit:IsSI s.heap it (.int (di w t es.size) 0) es.size a es.size ep)(ho:s.heap.get? a=some o)(hd:o.data = .set es ep t)(hf:t.fits es.size=true)(hg:bn (bi w) t)
  (hn:w.params.followText "set-order" = true∨(!t.plain&&decide (es.size>1))=false)
  (hQ:∀ h',Heap.ExtBut it s.heap h'→Q none { s with heap:=h' }):wpAny (model prog w) A (pyNext (.ref it)) Q E s:=by
 obtain⟨oi,hoi,hci,hdi⟩:=id hit
 have hv:(gG w a ep es)[es.size]? = none:=List.getElem?_eq_none (by rw[(jB (w:=w) a ep es).length_eq]; simp)
 unfold pyNext;refine wpAny_bind (wpAny_attempt (wpAny_callSpecial?_slot (name:=Str.ofString "__next__") hit.typeIs slot_si_next (wpAny_call_entry slot_si_next hit.typeIs eF ?_ (fD _))))
 unfold Builtin.«set_iterator.__next__»
 refine wpAny_bind (wpAny_pure ?_)
 refine wpAny_bind (wpAny_fieldsOf hoi hdi ?_)
 dsimp only
 refine wpAny_bind (wpAny_setEntries_of ho hd hf ?_)
 rw[if_neg (by simp)]
 simp only[Int.toNat_natCast]
 refine wpAny_bind (nO ho hd hf hg (Nat.le_refl _) hn ?_)
 rw[hv];show wpAny _ _ (setField (.ref it) 2 .none >>= fun _=>newExc (.type "StopIteration") [] >>= fun e=>raiseNew e) _ _ _
 refine wpAny_bind (wpAny_setField hoi hdi (by simp) ?_)
 refine wpAny_bind ?_
 simp only[newExc,newTuple]
 refine wpAny_bind (wpAny_newObj_type ?_ (by size_fits))
 refine wpAny_bind (m:=firstArgMember _ _) (wpAny_of_eq (a:=Value.none) (by first | rfl | (simp only[firstArgMember]; rfl)) ?_)
 refine wpAny_newObj_type ?_ (by size_fits)
 simp only[raiseNew]
 refine wpAny_bind (wpAny_handled ?_)
 rw[show A.in1.handled=none from hh];refine wpAny_bind (wpAny_pure (wpAny_throw ?_))
 refine wpAny_bind (wpAny_isInstance (T := "StopIteration") (b:=true) ⟨_,Heap.get?_push_size _ rfl,rfl⟩ isSubtype_stop ?_)
 exact wpAny_pure (hQ _ (((Heap.SameBut.update ..).extBut.push _).push _))
end
end L2
namespace L2
open PySem PySem.Spec PyProof.Rows PySem.SeqAt
section
variable{prog:Program}{w:World}{A:Around}{E:Value→Shared→Prop}{s:Shared}
theorem uh{a:Addr}{o:Obj}{es:Array (Int × Value)}{ep:Nat}{t:SetTable}{Q:Bool→Shared→Prop}(ho:s.heap.get? a=some o)(hd:o.data = .set es ep t)(hf:t.fits es.size=true)
  (h:Q (!(w.params.followText "set-order")&&(!t.plain&&decide (es.size>1))) s):wpAny (model prog w) A (setDrawn a) Q E s:=by
 unfold setDrawn;refine wpAny_bind (wpAny_setState_of ho hd hf ?_)
 refine wpAny_bind ?_
 unfold setsByText;refine wpAny_bind (wpAny_askSetting (wpAny_pure ?_))
 exact wpAny_pure h
theorem zW{a:Addr}{o:Obj}{es:Array (Int × Value)}{ep:Nat}{t:SetTable}{Q:Value→Shared→Prop}(ho:s.heap.get? a=some o)(hx:o.ExactSet)(hd:o.data = .set es ep t)(hf:t.fits es.size=true)(hfew:es.size<scanBound)
  (h1:(!(w.params.followText "set-order")&&(!t.plain&&decide (es.size>1)))=false→Q (.ref s.heap.objs.size) { s with heap:=s.heap.push { cls:=.type "set_iterator", data:=.fields #[.int 0 0,.int 0 0,.ref a,.int es.size 0,.int ep 0] } })
  (h2:∀ (ps:List Nat) d',ps.Perm (List.range es.size)→Q (.ref (s.heap.objs.size+1)) { s with heap:=(s.heap.push { cls:=.type "tuple", data:=.seq (ps.map fun i:Nat=>rawInt i).toArray }).push { cls:=.type "set_iterator", data:=.fields #[.ref s.heap.objs.size,.int 0 0,.ref a,.int es.size 0,.int ep 0] },drawn:=d' }) :
  wpAny (model prog w) A (pyIter (.ref a)) Q E s:=by
 have hT:s.TypeIs (.ref a) "set" := ⟨o,ho,hx.1⟩
 refine wpAny_pyIter_slot hT F.slot_set_iter (wpAny_call_entry F.slot_set_iter hT nc ?_ (F.args_set_iter_1 _))
 unfold Builtin.«frozenset.__iter__»
 refine wpAny_bind (wpAny_pure ?_)
 refine wpAny_bind ?_
 unfold Builtin.Frozenset.sizeOf;refine wpAny_bind (wpAny_setEntries_of ho hd hf (wpAny_pure ?_))
 refine wpAny_bind (uh ho hd hf ?_)
 dsimp only
 refine wpAny_ite_split (fun hab=>?_) (fun hab=>?_)
 ·refine wpAny_bind (n6 _ _ _ _ (by simp) fun ps d' hp=>?_)
  have hlen:ps.length=es.size:=by rw[hp.length_eq]; simp
  refine wpAny_bind ?_
  unfold newTuple;have hz:=fits_of_scanBound hfew;refine wpAny_newObj_type ?_ (by show (List.map _ ps).toArray.size≤sizeLine; simp; omega)
  refine wpAny_bind ?_
  unfold setEpoch;refine wpAny_bind (wpAny_setState_of (Heap.get?_push_of_some _ ho) hd hf (wpAny_pure ?_))
  refine wpAny_bind ?_
  unfold newFields;refine wpAny_newObj_type (wpAny_pure ⟨_,rfl, "set_iterator", _,⟨_,Heap.get?_push_size _ rfl,rfl⟩,slot_si_next.lookup,?_⟩)
  rw[Heap.size_push];exact h2 ps d' hp
 ·refine wpAny_bind (wpAny_pure ?_)
  refine wpAny_bind ?_
  unfold setEpoch;refine wpAny_bind (wpAny_setState_of ho hd hf (wpAny_pure ?_))
  refine wpAny_bind ?_
  unfold newFields;refine wpAny_newObj_type (wpAny_pure ⟨_,rfl, "set_iterator", _,⟨_,Heap.get?_push_size _ rfl,rfl⟩,slot_si_next.lookup,?_⟩)
  exact h1 (by simpa using hab)
end
end L2
namespace L2
open PySem PySem.Spec PyProof.Rows PySem.SeqAt
section
variable{prog:Program}{w:World}{A:Around}{E:Value→Shared→Prop}{s:Shared}
theorem y_{it a tp:Addr}{o ot:Obj}{es:Array (Int × Value)}{ep ct:Nat}{t:SetTable}{i k:Nat}{ps:List Nat}{v:Value}{hh:Int}{Q:Option Value→Shared→Prop}(hit:IsSI s.heap it (.ref tp) i a es.size ep)(ho:s.heap.get? a=some o)(hd:o.data = .set es ep t)(hf:t.fits es.size=true)
  (hot:s.heap.get? tp=some ot) (hdt:ot.data = .seq (ps.map fun i:Nat=>rawInt i).toArray ct) (hk:ps[i]? = some k) (hv:es[k]? = some (hh,v))
  (hQ:∀ h',IsSI h' it (.ref tp) (i+1) a es.size ep→Heap.SameBut it s.heap h'→Q (some v) { s with heap:=h' }):wpAny (model prog w) A (pyNext (.ref it)) Q E s:=by
 obtain⟨oi,hoi,hci,hdi⟩:=id hit
 unfold pyNext;refine wpAny_bind (wpAny_attempt (wpAny_callSpecial?_slot (name:=Str.ofString "__next__") hit.typeIs slot_si_next (wpAny_call_entry slot_si_next hit.typeIs eF ?_ (fD _))))
 unfold Builtin.«set_iterator.__next__»
 refine wpAny_bind (wpAny_pure ?_)
 refine wpAny_bind (wpAny_fieldsOf hoi hdi ?_)
 dsimp only
 refine wpAny_bind (wpAny_setEntries_of ho hd hf ?_)
 rw[if_neg (by simp)]
 refine wpAny_bind (wpAny_seqItems hot hdt ?_)
 simp only[Int.toNat_natCast]
 have e1:(List.map (fun i:Nat=>rawInt (i:Int)) ps).toArray[i]? = some (.int (k:Int) 0):=by
  rw[List.getElem?_toArray,List.getElem?_map,hk]; rfl
 rw[e1]
 dsimp only
 refine wpAny_bind ?_
 unfold setNextDrawn;refine wpAny_bind (wpAny_setState_of ho hd hf ?_)
 dsimp only
 simp only[Int.toNat_natCast]
 rw[if_neg (by simp)]
 rw[hv];refine wpAny_pure ?_
 refine wpAny_bind (wpAny_setField hoi hdi (by simp) ?_)
 have hdi1:=Obj.data_mapFields hdi (fun xs=>xs.setIfInBounds 1 (rawInt ((i:Int)+1)))
 have hoi1:=Heap.get?_update_self (Obj.mapFields (fun xs=>xs.setIfInBounds 1 (rawInt ((i:Int)+1)))) hoi (Obj.isFreed_of_fields hdi1)
 refine wpAny_pure ⟨_,rfl,wpAny_pure (hQ _ ⟨_,hoi1,?_,?_⟩ (Heap.SameBut.update ..))⟩
 ·rw[Obj.cls_mapFields]; exact hci
 ·rw[hdi1]; simp[rawInt]
theorem AB{it a tp:Addr}{o ot:Obj}{es:Array (Int × Value)}{ep ct:Nat}{t:SetTable}{ps:List Nat}{Q:Option Value→Shared→Prop}(hh:A.handled=none)(hit:IsSI s.heap it (.ref tp) es.size a es.size ep)(ho:s.heap.get? a=some o)(hd:o.data = .set es ep t)(hf:t.fits es.size=true)
  (hot:s.heap.get? tp=some ot) (hdt:ot.data = .seq (ps.map fun i:Nat=>rawInt i).toArray ct) (hp:ps.length=es.size)
  (hQ:∀ h',Heap.ExtBut it s.heap h'→Q none { s with heap:=h' }):wpAny (model prog w) A (pyNext (.ref it)) Q E s:=by
 obtain⟨oi,hoi,hci,hdi⟩:=id hit
 unfold pyNext;refine wpAny_bind (wpAny_attempt (wpAny_callSpecial?_slot (name:=Str.ofString "__next__") hit.typeIs slot_si_next (wpAny_call_entry slot_si_next hit.typeIs eF ?_ (fD _))))
 unfold Builtin.«set_iterator.__next__»
 refine wpAny_bind (wpAny_pure ?_)
 refine wpAny_bind (wpAny_fieldsOf hoi hdi ?_)
 dsimp only
 refine wpAny_bind (wpAny_setEntries_of ho hd hf ?_)
 rw[if_neg (by simp)]
 refine wpAny_bind (wpAny_seqItems hot hdt ?_)
 simp only[Int.toNat_natCast]
 have e1:(List.map (fun i:Nat=>rawInt (i:Int)) ps).toArray[es.size]? = none:=by
  rw[List.getElem?_toArray,List.getElem?_eq_none (by simp; omega)]
 rw[e1]
 dsimp only
 refine wpAny_bind (wpAny_setField hoi hdi (by simp) ?_)
 have hdi1:=Obj.data_mapFields hdi (fun xs=>xs.setIfInBounds 0 (rawInt 0))
 have hoi1:=Heap.get?_update_self (Obj.mapFields (fun xs=>xs.setIfInBounds 0 (rawInt 0))) hoi (Obj.isFreed_of_fields hdi1)
 refine wpAny_bind (wpAny_setField hoi1 hdi1 (by simp) ?_)
 refine wpAny_bind ?_
 simp only[newExc,newTuple]
 refine wpAny_bind (wpAny_newObj_type ?_ (by size_fits))
 refine wpAny_bind (m:=firstArgMember _ _) (wpAny_of_eq (a:=Value.none) (by first | rfl | (simp only[firstArgMember]; rfl)) ?_)
 refine wpAny_newObj_type ?_ (by size_fits)
 simp only[raiseNew]
 refine wpAny_bind (wpAny_handled ?_)
 rw[show A.in1.handled=none from hh];refine wpAny_bind (wpAny_pure (wpAny_throw ?_))
 refine wpAny_bind (wpAny_isInstance (T := "StopIteration") (b:=true) ⟨_,Heap.get?_push_size _ rfl,rfl⟩ isSubtype_stop ?_)
 exact wpAny_pure (hQ _ ((((Heap.SameBut.update ..).trans (Heap.SameBut.update ..)).extBut.push _).push _))
end
end L2
namespace L2
open PySem PySem.Spec PyProof.Rows PySem.SeqAt
theorem kj:Slot "set_iterator" "__iter__" "set_iterator.__iter__" :=
 .of (owner := "set_iterator") (n := "__iter__") (by rw[typeLookup_type,builtinLookup_eq_fast]; kernel_rfl) (by decide +kernel) (by decide +kernel) (by decide +kernel)
  (by first | exact .inl (by decide +kernel) | exact .inr (by decide +kernel)) (by rw[isSubtype_type]; kernel_rfl)
theorem oy:entryFor table "set_iterator.__iter__" = some Builtin.«dict_keyiterator.__iter__»:=
 entryFor_alias (id' := "dict_keyiterator.__iter__") (by kernel_rfl) rfl (by decide +kernel) (by kernel_rfl)
theorem pO(a:Value):argsOk "set_iterator.__iter__" ⟨[a],[]⟩:=by
 unfold argsOk; rw [signature?_of (id := "set_iterator.__iter__") (n:=['_','_','r','e','t','i','_','_']) (o:=['r','o','t','a','r','e','t','i','_','t','e','s']) (by kernel_rfl) qB]; kernel_rfl
section
variable{prog:Program}{w:World}{A:Around}{E:Value→Shared→Prop}{s:Shared}
theorem sr{it a:Addr}{first:Value}{i n ep:Nat}{Q:Value→Shared→Prop}(hit:IsSI s.heap it first i a n ep)(h:Q (.ref it) s):wpAny (model prog w) A (pyIter (.ref it)) Q E s:=
 wpAny_pyIter_slot hit.typeIs kj (wpAny_call_entry kj hit.typeIs oy (wpAny_bind (wpAny_pure (wpAny_pure ⟨_,rfl, "set_iterator", _,hit.typeIs,slot_si_next.lookup,h⟩))) (pO _))
theorem IsSI.at'{h h':Heap}{it a:Addr}{first:Value}{i n ep:Nat}(x:IsSI h it first i a n ep)(e:∀ o,h.get? it=some o→h'.get? it=some o):IsSI h' it first i a n ep:=let ⟨o,ho,r⟩:=x; ⟨o,e _ ho,r⟩
theorem Cp(hh:A.handled=none)(I a:Addr)(hne:a≠I){o:Obj}{es:Array (Int × Value)}{ep:Nat}{t:SetTable}(hd:o.data = .set es ep t)(hf:t.fits es.size=true)(hg:bn (bi w) t)(hn:w.params.followText "set-order" = true∨(!t.plain&&decide (es.size>1))=false) :
  Walks prog w A I [I,a] [I] es.size (fun i v=>(gG w a ep es)[i]? = some v) (fun i h=>IsSI h I (.int (di w t i) 0) i a es.size ep∧h.get? a=some o) where
 sub:=fun b hb=>by simp at hb; simp[hb]
 frame:=fun _ _ _ st hk=>⟨st.1.at' fun o e=>hk I (by simp) o e,hk a (by simp) o st.2⟩
 item:=fun i s Q E hi st hQ=>by
  have hl:(gG w a ep es).length=es.size:=by rw[(jB (w:=w) a ep es).length_eq]; simp
  have hv:(gG w a ep es)[i]? = some (gG w a ep es)[i]:=List.getElem?_eq_getElem (by omega)
  refine zJ st.1 st.2 hd hf hg hn hi hv fun h' hit' hs'=>?_
  exact hQ _ h' s.toks hv ⟨hit',hs'.extBut a o hne st.2⟩ (fun b o hb e=>hs'.extBut b o (fun h=>hb (by simp[h])) e)
 done:=fun s Q E st hQ=>As hh st.1 st.2 hd hf hg hn fun h' he'=>hQ h' s.toks fun b o hb e=>he' b o (fun h=>hb (by simp[h])) e
 self:=fun _ _ _ _ st hQ=>sr st.1 hQ
theorem Ce(hh:A.handled=none)(I a tp:Addr)(hne:a≠I)(hnt:tp≠I){o ot:Obj}{es:Array (Int × Value)}{ep ct:Nat}{t:SetTable}{ps:List Nat}(hd:o.data = .set es ep t)(hf:t.fits es.size=true)(hdt:ot.data = .seq (ps.map fun i:Nat=>rawInt i).toArray ct)(hp:ps.Perm (List.range es.size)) :
  Walks prog w A I [I,a,tp] [I] es.size (fun i v=>(ps.map fun k=>(es.getD k (0,.none)).2)[i]? = some v) (fun i h=>IsSI h I (.ref tp) i a es.size ep∧h.get? a=some o∧h.get? tp=some ot) where
 sub:=fun b hb=>by simp at hb; simp[hb]
 frame:=fun _ _ _ st hk=>⟨st.1.at' fun o e=>hk I (by simp) o e,hk a (by simp) o st.2.1,hk tp (by simp) ot st.2.2⟩
 item:=fun i s Q E hi st hQ=>by
  have hl:ps.length=es.size:=by rw[hp.length_eq]; simp
  have hk:ps[i]? = some (ps[i]'(by omega)):=List.getElem?_eq_getElem (by omega)
  have hlt:ps[i]'(by omega)<es.size:=List.mem_range.mp (hp.mem_iff.mp (List.getElem_mem _))
  have hv:(ps.map fun k=>(es.getD k (0,.none)).2)[i]? = some (es[ps[i]'(by omega)]'hlt).2:=by
   rw[List.getElem?_map,hk];simp[Array.getD,hlt]
  refine y_ st.1 st.2.1 hd hf st.2.2 hdt hk (hh:=(es[ps[i]'(by omega)]'hlt).1) (v:=(es[ps[i]'(by omega)]'hlt).2) (Array.getElem?_eq_getElem hlt) fun h' hit' hs'=>?_
  exact hQ _ h' s.toks hv ⟨hit',hs'.extBut a o hne st.2.1,hs'.extBut tp ot hnt st.2.2⟩ (fun b o hb e=>hs'.extBut b o (fun h=>hb (by simp[h])) e)
 done:=fun s Q E st hQ=>AB hh st.1 st.2.1 hd hf st.2.2 hdt (by rw[hp.length_eq]; simp) fun h' he'=>hQ h' s.toks fun b o hb e=>he' b o (fun h=>hb (by simp[h])) e
 self:=fun _ _ _ _ st hQ=>sr st.1 hQ
end
end L2
namespace L2
open PySem PySem.Spec PyProof.Rows PySem.SeqAt
section
variable{prog:Program}{w:World}{A:Around}{E:Value→Shared→Prop}{s:Shared}
theorem qz{a:Addr}{Q:Bool→Shared→Prop}(hT:s.TypeIs (.ref a) "set") (h:Q false s):wpAny (model prog w) A (Builtin.List.listLengthHint (.ref a)) Q E s:=by
 unfold Builtin.List.listLengthHint;refine wpAny_bind (wpAny_specialOf hT F.slot_set_len.lookup ?_)
 generalize hid:("set.__len__" : String)=id0
 wp_delta
 rw[show splitId id0=some ("set", "__len__") from by subst hid; decide +kernel]
 subst hid;refine wpAny_bind (wpAny_isInstance (T := "set") (b:=true) hT (by rw[isSubtype_type]; kernel_rfl) ?_)
 refine wpAny_ite_split (fun hab=>absurd hab (by decide)) (fun _=>?_)
 refine wpAny_ite_split (fun _=>?_) (fun hab=>absurd (by decide +kernel) hab)
 refine wpAny_bind (wpAny_typeOf hT ?_)
 exact wpAny_pure h
theorem x4{l:List Value}{acc:Array Value}(h:ItemsOf (fun i v=>l[i]? = some v) acc l.length):acc.toList=l:=by
 refine List.ext_getElem? fun i=>?_
 rw[Array.getElem?_toList]
 cases e:acc[i]? with
 | some v=>exact(h.2 i v e).symm
 | none=>
  have:acc.size≤i:=by simpa using e
  exact(List.getElem?_eq_none (by have:=h.1; omega)).symm
theorem rf{es:Array (Int × Value)}{ps:List Nat}(hp:ps.Perm (List.range es.size)):(ps.map fun k=>(es.getD k (0,.none)).2).Perm (es.toList.map (·.2)):=by
 refine(hp.map _).trans ?_
 refine List.Perm.of_eq ?_
 refine List.ext_getElem (by simp) fun i h1 h2=>?_
 have hi:i<es.size:=by simpa using h1
 simp[Array.getD,hi]
theorem sG{R:Result→Shared→Prop}{a:Addr}{o:Obj}{es:Array (Int × Value)}{ep:Nat}{t:SetTable}(hh:A.handled=none)(ho:s.heap.get? a=some o)(hx:o.ExactSet)(hd:o.data = .set es ep t)(hf:t.fits es.size=true)(hfew:es.size<scanBound)(hg:bn (bi w) t)
  (S:Addr) (res:Value) (c₀ : Nat) (hS:s.heap.get? S=some { cls:=.type "list", data:=.seq #[] c₀ })
  (hR:∀ h' d' tk acc' c',(∀ b o,b≠S→s.heap.get? b=some o→h'.get? b=some o)→h'.get? S=some { cls:=.type "list", dict:=none,data:=.seq acc' c',slots:=#[] }→acc'.toList.Perm (es.toList.map (·.2))→R (.ok (.ret res)) { s with heap:=h',drawn:=d',toks:=tk }) :
  wpAny (model prog w) A.in1 (Builtin.List.listExtendWith (.ref S) (.ref a) res)
   (fun fin s'=>match fin with | .done f=>R (.ok f) s' | .again c'=>c'.quiet=true∧codeAny (model prog w) A c' R s') (fun e s'=>R (.error e) s') s:=by
 have hz:=fits_of_scanBound hfew;have halt:a<s.heap.objs.size:=Heap.lt_size ho
 have hSlt:S<s.heap.objs.size:=Heap.lt_size hS
 have hSa:S≠a:=fun e=>by
  rw[e,ho]at hS
  cases hS
  cases hd
 have hT:s.TypeIs (.ref a) "set" := ⟨o,ho,hx.1⟩
 have e1:Builtin.List.listSameRef (.ref S) (.ref a)=false:=by simp[Builtin.List.listSameRef,hSa]
 have key:∀ (h2:Heap) (d2:Drawn) (c tk:Nat) (I:Addr) (fp:List Addr) (l:List Value) (St:Nat→Heap→Prop),l.length=es.size→l.Perm (es.toList.map (·.2))→Walks prog w A.in1 I fp [I] es.size (fun i v=>l[i]? = some v) St→S∉fp→s.heap.objs.size≤I→
   (∀ b o,b≠S→s.heap.get? b=some o→h2.get? b=some o)→h2.get? S=some { cls:=.type "list", data:=.seq #[] c }→St 0 h2→codeAny (model prog w) A (.builtin "list.extend.loop" ⟨[.ref S,.ref I,res],[]⟩) R { s with heap:=h2,drawn:=d2,toks:=tk }:=by
  intro h2 d2 c tk I fp l St hl hp W hSf hI hk hS2 hst
  refine codeAny_extend_loopS W.toS hz S hSf res es.size 0 _ #[] c rfl (Nat.zero_le _) hst hS2 (ItemsOf.nil _) fun s' acc' c' hm hS' hacc=>?_
  rw[Moved.eq_with hm];refine hR s'.heap d2 s'.toks acc' c' (fun b o hb e=>hm.heap b o (fun hmem=>?_) (hk b o hb e)) hS' (by rw[x4 (by rw[hl]; exact hacc)]; exact hp)
  rcases List.mem_cons.mp hmem with e' | hmem
  ·exact hb e'
  ·have:=Heap.lt_size e
   rw[List.mem_singleton.mp hmem]at this
   exact absurd this (Nat.not_lt.mpr hI)
 unfold Builtin.List.listExtendWith;refine wpAny_bind (wpAny_typeOf hT ?_)
 rw[if_neg (by rw[e1]; decide)]
 /- the list makes room, then the loop -/
 have touch:∀ (h2:Heap) (d2:Drawn) (I:Addr) (fp:List Addr) (l:List Value) (St:Nat→Heap→Prop),l.length=es.size→l.Perm (es.toList.map (·.2))→Walks prog w A.in1 I fp [I] es.size (fun i v=>l[i]? = some v) St→S∉fp→s.heap.objs.size≤I→
   (∀ b o,s.heap.get? b=some o→h2.get? b=some o)→St 0 h2→
   wpAny (model prog w) A.in1 (updateSeq S (·.push .none) >>= fun _=>updateSeq S (·.pop)) (fun _ s'=>codeAny (model prog w) A (.builtin "list.extend.loop" ⟨[.ref S,.ref I,res],[]⟩) R s') (fun e s'=>R (.error e) s') { s with heap:=h2,drawn:=d2 }:=by
  intro h2 d2 I fp l St hl hp W hSf hI hk hst
  have hS₁:=hk _ _ hS;refine wpAny_bind (wpAny_updateSeq hS₁ rfl ?_)
  have hS₂:=Heap.get?_update_self (Obj.mapSeq (·.push Value.none)) hS₁ rfl;refine wpAny_updateSeq (hz:=by seq_fits) hS₂ rfl ?_
  have hS₃:=Heap.get?_update_self (Obj.mapSeq (·.pop)) hS₂ rfl
  have oth:∀ b o,b≠S→h2.get? b=some o→((h2.update S (Obj.mapSeq (·.push Value.none))).update S (Obj.mapSeq (·.pop))).get? b=some o:=fun b o hb e=>
   (Heap.get?_update_other _ _ (Ne.symm hb)).trans ((Heap.get?_update_other _ _ (Ne.symm hb)).trans e)
  exact key _ d2 _ s.toks I fp l St hl hp W hSf hI (fun b o hb e=>oth b o hb (hk b o e)) hS₃ (W.frame 0 _ _ hst fun b hb o e=>oth b o (fun z=>hSf (z ▸ hb)) e)
 refine wpAny_bind (zW ho hx hd hf hfew (fun hnd=>?_) fun ps d' hp=>?_)
 ·have hTi:Shared.TypeIs { s with heap:=s.heap.push { cls:=.type "set_iterator", data:=.fields #[.int 0 0,.int 0 0,.ref a,.int es.size 0,.int ep 0] } } (.ref a) "set" := ⟨o,Heap.get?_push_of_some _ ho,hx.1⟩
  refine wpAny_bind (wpAny_holding (qz hTi ?_))
  have hn:w.params.followText "set-order" = true∨(!t.plain&&decide (es.size>1))=false:=by
   cases hb:w.params.followText "set-order" with
   | true=>exact .inl rfl
   | false=>rw[hb]at hnd; exact .inr (by simpa using hnd)
  have hst:IsSI (s.heap.push { cls:=.type "set_iterator", data:=.fields #[.int 0 0,.int 0 0,.ref a,.int es.size 0,.int ep 0] }) s.heap.objs.size (.int (di w t 0) 0) 0 a es.size ep:=by
   refine⟨_,Heap.get?_push_size _ rfl,rfl,?_⟩
   unfold di;split <;> simp
  refine wpAny_ite_split (fun _=>?_) (fun hab=>absurd (by decide +kernel) hab)
  refine wpAny_bind (wpAny_rule ?_)
  refine wpAny_bind (wpAny_mono (touch _ s.drawn _ _ _ _ (by rw[(jB (w:=w) a ep es).length_eq]; simp) (jB a ep es) (Cp (A:=A.in1) hh s.heap.objs.size a (Nat.ne_of_lt halt) hd hf hg hn) (fun hm=>?_) (Nat.le_refl _) (fun b o e=>Heap.get?_push_of_some _ e) ⟨hst,Heap.get?_push_of_some _ ho⟩) (fun _ s' hc=>wpAny_pure ⟨plainId_quiet F.plain_extend_loop _,hc⟩) (fun _ _ he=>he))
  rcases List.mem_cons.mp hm with z | z
  ·exact absurd z (Nat.ne_of_lt hSlt)
  ·exact hSa (List.mem_singleton.mp z)
 ·have hTi:Shared.TypeIs { s with heap:=(s.heap.push { cls:=.type "tuple", data:=.seq (ps.map fun i:Nat=>rawInt i).toArray }).push { cls:=.type "set_iterator", data:=.fields #[.ref s.heap.objs.size,.int 0 0,.ref a,.int es.size 0,.int ep 0] },drawn:=d' } (.ref a) "set" := ⟨o,Heap.get?_push_of_some _ (Heap.get?_push_of_some _ ho),hx.1⟩
  refine wpAny_bind (wpAny_holding (qz hTi ?_))
  refine wpAny_ite_split (fun _=>?_) (fun hab=>absurd (by decide +kernel) hab)
  refine wpAny_bind (wpAny_rule ?_)
  have hst:IsSI ((s.heap.push { cls:=.type "tuple", data:=.seq (ps.map fun i:Nat=>rawInt i).toArray }).push { cls:=.type "set_iterator", data:=.fields #[.ref s.heap.objs.size,.int 0 0,.ref a,.int es.size 0,.int ep 0] }) (s.heap.objs.size+1) (.ref s.heap.objs.size) 0 a es.size ep:=by
   have:=Heap.get?_push_size (s.heap.push { cls:=.type "tuple", data:=.seq (ps.map fun i:Nat=>rawInt i).toArray }) (rfl:Obj.isFreed { cls:=.type "set_iterator", data:=.fields #[.ref s.heap.objs.size,.int 0 0,.ref a,.int es.size 0,.int ep 0] }=false)
   rw[Heap.size_push]at this
   exact⟨_,this,rfl,rfl⟩
  refine wpAny_bind (wpAny_mono (touch _ d' _ _ _ _ (by rw[List.length_map,hp.length_eq]; simp) (rf hp) (Ce (A:=A.in1) hh (s.heap.objs.size+1) a s.heap.objs.size (Nat.ne_of_lt (Nat.lt_succ_of_lt halt)) (Nat.ne_of_lt (Nat.lt_succ_self _)) hd hf rfl hp) (fun hm=>?_) (Nat.le_succ _) (fun b o e=>Heap.get?_push_of_some _ (Heap.get?_push_of_some _ e)) ⟨hst,Heap.get?_push_of_some _ (Heap.get?_push_of_some _ ho),Heap.get?_push_of_some _ (Heap.get?_push_size _ rfl)⟩) (fun _ s' hc=>wpAny_pure ⟨plainId_quiet F.plain_extend_loop _,hc⟩) (fun _ _ he=>he))
  rcases List.mem_cons.mp hm with z | z
  ·exact absurd z (Nat.ne_of_lt (Nat.lt_succ_of_lt hSlt))
  ·rcases List.mem_cons.mp z with z | z
   ·exact hSa z
   ·exact absurd (List.mem_singleton.mp z) (Nat.ne_of_lt hSlt)
theorem ud{a:Addr}{o:Obj}{es:Array (Int × Value)}{ep:Nat}{t:SetTable}{Q:List Value→Shared→Prop}(hh:A.handled=none)(ho:s.heap.get? a=some o)(hx:o.ExactSet)(hd:o.data = .set es ep t)(hf:t.fits es.size=true)(hfew:es.size<scanBound)(hg:bn (bi w) t)
  (hQ:∀ h' d' tk acc,(∀ b o,s.heap.get? b=some o→h'.get? b=some o)→s.heap.objs.size<h'.objs.size→acc.Perm (es.toList.map (·.2))→Q acc { s with heap:=h',drawn:=d',toks:=tk }):wpAny (model prog w) A (collect (.ref a)) Q E s:=by
 have ext:∀ R:Result→Shared→Prop,(∀ h' d' tk acc' c',(∀ b o,s.heap.get? b=some o→h'.get? b=some o)→h'.get? s.heap.objs.size=some { cls:=.type "list", dict:=none,data:=.seq acc' c',slots:=#[] }→acc'.toList.Perm (es.toList.map (·.2))→R (.ok (.ret (.ref s.heap.objs.size))) { s with heap:=h',drawn:=d',toks:=tk })→
   codeAny (model prog w) A (.builtin "proto.collect" ⟨[.ref a],[]⟩) R s:=fun R hR=>by
  refine codeAny_builtin F.entry_proto_collect ?_
  rw[Around.under_plainId F.plain_proto_collect _];show wpAny _ A.in1 (newList [] >>= fun l=>again (.builtin "list.__iadd__" ⟨[l,.ref a],[]⟩)) _ _ s
  refine wpAny_bind (wpAny_newObj_type ?_)
  refine wpAny_pure ⟨plainId_quiet F.plain_list_iadd _,codeAny_builtin F.entry_list_iadd ?_⟩
  rw[Around.under_plainId F.plain_list_iadd _];show wpAny _ A.in1 (Builtin.List.listExtendWith (.ref s.heap.objs.size) (.ref a) (.ref s.heap.objs.size)) _ _ _
  refine sG (R:=R) (s:={ s with heap:=s.heap.push { cls:=.type "list", data:=.seq ([]:List Value).toArray } }) hh (Heap.get?_push_of_some _ ho) hx hd hf hfew hg s.heap.objs.size _ 0 (Heap.get?_push_size _ rfl) fun h' d' tk acc' c' hk hS' hp=>?_
  exact hR h' d' tk acc' c' (fun b o e=>hk b o (Nat.ne_of_lt (Heap.lt_size e)) (Heap.get?_push_of_some _ e)) hS' hp
 unfold collect;refine wpAny_bind (wpAny_runValue (ext _ fun h' d' tk acc' c' hk hS' hp=>?_))
 show wpAny _ A (load s.heap.objs.size >>= _) _ _ _
 refine wpAny_bind (wpAny_load hS' ?_)
 exact wpAny_pure (hQ h' d' tk acc'.toList hk (Heap.lt_size hS') hp)
end
section
variable{X:Cx}
end
end L2
namespace L2
open PySem PySem.Spec PyProof PyProof.Rows
section
variable{X:Cx}
def tO(K:PySem.W.Frag):List V→Hp→VK→Prop:=fun xs H Q=>∃ (p:Addr) (ns:List Int),xs=[.ref p]∧SqL K H p (ns.map V.int)∧ns≠[]∧∀ M,M∈ns→(∀ a∈ns,a≤M)→Q (.int M) H
theorem gy{K:PySem.W.Frag}{H:Hp}{Q:VK}(p:Addr):tO K [.ref p] H Q=∃ ns:List Int,SqL K H p (ns.map V.int)∧ns≠[]∧∀ M,M∈ns→(∀ a∈ns,a≤M)→Q (.int M) H:=propext ⟨fun ⟨_,bs,e,q⟩=>by cases e; exact⟨bs,q⟩,fun ⟨bs,q⟩=>⟨p,bs,rfl,q⟩⟩
theorem s_(hc:X.calm=true):CallR X (.builtin "max") (tO X.K):=by
 intro pins s σ H xs us Q I r h
 obtain⟨p,ns,rfl,hq,hne,q⟩:=h
 obtain⟨u,rfl,ru⟩:=df r
 cases ru;obtain⟨its,rv,pl,hz⟩:=I.list hq
 have hi:IntsAre its ns:=sJ rv
 obtain⟨xs,e⟩:=hi.allInts.items
 have hns:ns=xs.toList.map (·.1):=by
  rw[← hi.numsOf,← nums_intItems,← e]
 have hsz:0<xs.size:=by
  have h3:=List.length_pos_iff.mpr hne; rw[hns,List.length_map,Array.length_toList]at h3; exact h3
 have hl:=pl.isList;rw[e]at hl
 refine max_intList (I.ok.hd hc) hl hsz fun v h' tk hv hk=>?_
 obtain⟨t,rfl⟩:=intItems_at hv
 obtain⟨h1,h2⟩:=argBest_gt (numAt xs) (xs.size - 1)
 refine⟨.int (numAt xs (argBest (fun i j=>decide (numAt xs i>numAt xs j)) (xs.size - 1))),H,I.kept (t':=tk) hk,⟨t,rfl⟩,q _ ?_ fun a ha=>?_⟩
 ·rw[hns,numAt_eq]; exact getD_mem (by rw[List.length_map,Array.length_toList]; omega)
 ·rw[hns]at ha
  obtain⟨j,hj,rfl⟩:=mem_getD ha
  rw[List.length_map,Array.length_toList]at hj
  rw[← numAt_eq]; exact h2 j (by omega)
theorem wq(K:PySem.W.Frag)(hK:X.K=K:=by rfl)(hc:X.calm=true:=by rfl):CallR X (.builtin "max") (tO K):=hK ▸ s_ hc
theorem Ao:bootBuiltins "max" = some (.builtin "max"):=by decide +kernel
end
end L2
namespace L2
open PySem PySem.Spec PyProof PyProof.Rows
section
variable{X:Cx}{pins:List (Addr × Obj)}{σ : St}{H:Hp}{s:Shared}{d:Addr}{kvs:List (Str × V)}
end
section
variable{X:Cx}
end
end L2
namespace L2
open PySem PySem.Spec PyProof PyProof.Rows
section
variable{prog:Program}{w:World}{A:Around}{E:Value→Shared→Prop}{s:Shared}
variable{z TI TO i1 i2 t1 t2:Addr}{xs ys:Array Value}{k1 k2:Nat}{a b:Value}
end
end L2
namespace L2
open PySem PySem.Spec PyProof PyProof.Rows
section
variable{prog:Program}{w:World}{A:Around}{E:Value→Shared→Prop}{s:Shared}{z TI TO i1 i2 t1 t2:Addr}{xs ys:Array Value}{k1 k2:Nat}{a b:Value}
end
end L2
namespace L2
open PySem PySem.Spec PyProof PyProof.Rows
end L2
namespace L2
open PySem PySem.Spec PyProof PyProof.Rows
section
variable{prog:Program}{w:World}{A:Around}{E:Value→Shared→Prop}{s:Shared}
end
section
variable{X:Cx}
end
section
variable{K:PySem.W.Frag}{a b:Addr}{xs ys:List V}{g:TG}{te:TE}{nT:Nat}{σ : St}{D:Addr}{Q:VK}{H:Hp}
end
theorem j_{α : Type}{x:α}{xs:List α}:eB (x::xs) 0=some x:=aZ (j:=0) rfl
end L2
namespace L2
open PySem PySem.Spec PyProof PyProof.Rows
section
variable{X:Cx}
end
end L2
namespace L2
open PySem PySem.Spec PyProof PyProof.Rows
theorem oq:bootBuiltins "reversed" = some (.type "reversed"):=by decide +kernel
section
variable{K:PySem.W.Frag}{a:Addr}{xs:List V}{g:TG}{σ : St}{H:Hp}
end
end L2
namespace L2
open PySem PySem.Spec PyProof PyProof.Rows
section
variable{X:Cx}
end
end L2
namespace L2
open PySem PySem.Spec PyProof PyProof.Rows PySem.SeqAt
section
variable{X:Cx}
end
end L2
namespace L2
open PySem PySem.Spec PyProof.Rows PySem.SeqAt
section
variable{P:Program}{w:World}{K:PySem.W.Frag}{mg:Str→Option Value}{base:Heap}
end
section
variable{X:Cx}{o e value:Expr}{es:List Expr}{f m:Str}{pos pos' apos p:Pos}{ta tv:TE}{t:TA}{C:Addr}{x:Str}{ps:List Str}{sp:Sp}{j k:Nat}
end
section
variable{C:Addr}{f m:Str}{sp:Sp}{ta tv:TE}{t:TA}{σ : St}{H:Hp}{Q:VK}
end
theorem BH{f:Str}:List.lookup f ([]:List (Str × V))=none:=rfl
theorem x5{f:Str}{v:V}:A6 f v []=[(f,v)]:=rfl
end L2
namespace L2
open PySem PySem.Spec PyProof.Rows PySem.SeqAt
section
variable{X:Cx}
end
end L2
namespace L2
open PySem PySem.Spec PyProof.Rows
section
variable{X:Cx}{tg e:Expr}
end
end L2
namespace L2
open PySem PySem.Spec PyProof.Rows PySem.SeqAt
def jK(l:List Str)(x:Str):List Str:=if l.any (· == x)=true then l else l++[x]
def gH(val:Nat→Str)(i:Nat):List Str:=((List.range i).map val).foldl jK []
theorem oX(val:Nat→Str):gH val 0=[]:=rfl
theorem jN(val:Nat→Str)(i:Nat):gH val (i+1)=jK (gH val i) (val i):=by
 unfold gH; rw[List.range_succ,List.map_append,List.foldl_append]; rfl
theorem mW(val:Nat→Str):∀ i,(gH val i).length≤i
 | 0=>by rw[oX]; exact Nat.le_refl _
 | i+1=>by
  rw[jN]; unfold jK
  have ih:=mW val i;split
  ·omega
  ·rw[List.length_append,List.length_singleton]; omega
theorem nS(l:List Str)(v k:Str):(jK l v).any (· == k)=(l.any (· == k)||decide (k=v)):=by
 unfold jK
 by_cases h:l.any (· == v)=true
 ·rw[if_pos h]
  by_cases e:k=v
  ·subst e; rw[h]; simp
  ·simp[e]
 ·rw[if_neg h,List.any_append]
  by_cases e:k=v
  ·subst e; simp
  ·have hb:(v == k)=false:=by simpa [beq_iff_eq] using (fun h':v=k=>e h'.symm)
   simp[hb,e]
theorem vc(l:List Str)(v:Str):(jK l v).length=if l.any (· == v) then l.length else l.length+1:=by
 unfold jK; split <;> simp
theorem rL(val:Nat→Str):∀ (i:Nat) (k:Str),(gH val i).any (· == k)=((List.range i).map val).any (· == k)
 | 0,k=>rfl
 | i+1,k=>by
  rw[jN,nS,rL val i k,List.range_succ,List.map_append,List.any_append]
  congr 1
  by_cases e:k=val i
  ·simp[e]
  ·simp[e]; exact fun h=>e h.symm
theorem rD:∀ {vs:List Value} {ss:List Str},StrsAre vs ss→∀ (i:Nat) (v:Value),vs[i]? = some v→∃ t,v = .str (ss.getD i "") t
 | _,_,.nil,i,v,h=>by simp at h
 | _,_,.cons n t hr,0,v,h=>by simp at h; exact⟨t,by rw[← h]; rfl⟩
 | _,_,.cons n t hr,i+1,v,h=>by
  simp only[List.getElem?_cons_succ]at h
  obtain⟨t',e⟩:=rD hr i v h
  exact⟨t',by rw[e]; rfl⟩
theorem mX(prog:Program)(w:World)(x:Str)(t:Tok):(strKind prog w).is x (.str x t)=true:=by
 show Value.isStrOf x (.str x t)=true
 simp[Value.isStrOf]
section
variable{prog:Program}{w:World}{A:Around}{R:Result→Shared→Prop}{I:Addr}{fp wr:List Addr}{Gm:Array GenState→Array GenState→Prop}{n:Nat}{P:Nat→Value→Prop}{St:Nat→Shared→Prop}{L:Bool}
theorem yf(W:WalksS prog w A.in1 I fp wr Gm n P St)(S:Addr)(hSf:S∉fp)(val:Nat→Str)(hval:∀ i v,P i v→∃ t,v = .str (val i) t)(hb:n+1<scanBound) :
  ∀ (k i:Nat) (s:Shared),n - i=k→i≤n→St i s→SetG (strKind prog w) (bn L) s.heap S (fun k'=>(gH val i).any (· == k')) (gH val i).length→
   (∀ s',Moved (S::wr) Gm s s'→SetG (strKind prog w) (bn L) s'.heap S (fun k'=>(gH val n).any (· == k')) (gH val n).length→R (.ok (.ret .none)) s')→
   codeAny (model prog w) A (.builtin "set.update.loop" ⟨[.ref S,.ref I],[]⟩) R s:=by
 have hSw:S∉wr:=fun h=>hSf (W.sub _ h)
 have hsub:∀ b∈wr,b∈S::wr:=fun b hb=>List.mem_cons_of_mem _ hb
 intro k
 induction k with
 | zero=>
  intro i s hk hi hst hS hR
  have hin:i=n:=by omega
  subst hin;refine codeAny_builtin F.entry_set_update_loop ?_
  rw[Around.under_plainId F.plain_set_update_loop _];show wpAny _ A.in1 (pyNext (.ref I) >>= _) _ _ s
  refine wpAny_bind (W.done s _ _ hst fun s' hm=>?_)
  show wpAny _ A.in1 (ret Value.none) _ _ s'
  exact wpAny_pure (hR s' (hm.mono hsub) (hS.at' (fun o e=>hm.heap S _ hSw e) (fun _=>rfl) rfl))
 | succ k ih=>
  intro i s hk hi hst hS hR
  have hlt:i<n:=by omega
  refine codeAny_builtin F.entry_set_update_loop ?_
  rw[Around.under_plainId F.plain_set_update_loop _];show wpAny _ A.in1 (pyNext (.ref I) >>= _) _ _ s
  refine wpAny_bind (W.item i s _ _ hlt hst fun v s' hP hst' hm=>?_)
  obtain⟨t,rfl⟩:=hval i v hP
  have hS':=hS.at' (h':=s'.heap) (fun o e=>hm.heap S _ hSw e) (fun _=>rfl) rfl
  show wpAny _ A.in1 (holding [Value.str (val i) t] (setAdd S (.str (val i) t)) >>= _) _ _ s'
  refine wpAny_bind (wpAny_holding ?_)
  unfold setAdd;refine wpAny_holding ?_
  refine wpAny_bind ((strKind prog w).pyHash (k:=val i) (mX _ _ _ _) ?_)
  have hroom:(gH val i).length+1<scanBound:=by have:=mW val i; omega
  refine BJ (G:=bn L) (knd:=strKind prog w) (s:={ s' with toks:=s'.toks+1 }) (fun t es h x g=>la g es h x) (fun t es m g=>mD g es m) (fun t g=>mv g) (mX _ _ _ _) rfl hS' hroom fun h' hsb hS2=>?_
  have hSi:=hS2.at' (h':=h') (fun o e=>e) (S':=fun k'=>(gH val (i+1)).any (· == k')) (m':=(gH val (i+1)).length) (fun k'=>by rw[jN,nS]) (by rw[jN,vc])
  refine wpAny_pure ⟨plainId_quiet F.plain_set_update_loop _,ih (i+1) _ (by omega) hlt (W.frame _ s' _ _ hst' (Nat.le_succ _) fun b hb o e=>?_) hSi fun s'' hm'' hS''=>?_⟩
  ·rw[hsb.2 b (fun h:b=S=>hSf (by rw[← h]; exact hb))]; exact e
  ·refine hR s'' (Moved.trans W.gtrans ((hm.mono hsub).then_heap (Nat.le_succ _) fun b o hb e=>?_) hm'') hS''
   rw[hsb.2 b (fun h:b=S=>hb (by rw[h]; exact List.mem_cons_self))]; exact e
end
section
variable{prog:Program}{w:World}{A:Around}{E:Value→Shared→Prop}{s:Shared}
theorem uX{l:Addr}{items:Array Value}{ns:List Str}{Q:Value→Shared→Prop}(hh:A.handled=none)(hl:s.heap.IsList l items)(hi:StrsAre items.toList ns)(hb:items.size+1<scanBound)
  (h:∀ (h':Heap) (tk:Nat),SetG (strKind prog w) (bn (bi w)) h' s.heap.objs.size (fun k'=>(gH (fun i=>ns.getD i "") items.size).any (· == k')) (gH (fun i=>ns.getD i "") items.size).length→
   (∀ b o,b<s.heap.objs.size→s.heap.get? b=some o→h'.get? b=some o)→Q (.ref s.heap.objs.size) { s with heap:=h',toks:=tk }) :
  wpAny (model prog w) A (call (.type "set") [.ref l]) Q E s:=by
 obtain⟨c,tl,hmro⟩:=F.called_set.mro
 have hmade:=F.called_set.made;have hsub:=F.called_set.sub;refine wpAny_call (codeAny_of_tree ?_)
 show wpAny _ _ (callAny (.type "set") _) _ _ _
 refine wpAny_pure ⟨Code.quiet_builtin _ (by decide +kernel),codeAny_builtin F.entry_type_call ?_⟩
 rw[Around.under_plain (weight_type_call_type "set" [.ref l] []) rfl];have h1:=F.called_set.notType;have h2:=F.called_set.canCreate;have hct:=F.typeCall_set_1 (.ref l)
 repeat (any_goals (first | assumption | wp_step))
 refine codeAny_mono (wO (.ref l) (E:=E) (Q₁:=fun obj s₁=>obj = .ref s.heap.objs.size∧s₁={ s with heap:=s.heap.push { cls:=.type "set", dict:=none,data:=.set #[] 0 (.fresh 0 0 (bi w)) } }) ⟨rfl,rfl⟩) fun r s₁ hr=>?_
 cases r with
 | error e=>exact hr
 | ok fl=>
  cases fl with
  | ret obj=>
   obtain⟨rfl,rfl⟩:=hr
   have hS:(s.heap.push { cls:=.type "set", dict:=none,data:=.set #[] 0 (.fresh 0 0 (bi w)) }).get? s.heap.objs.size=some { cls:=.type "set", dict:=none,data:=.set #[] 0 (.fresh 0 0 (bi w)) }:=Heap.get?_push_size _ rfl
   have hT:Shared.TypeIs { s with heap:=s.heap.push { cls:=.type "set", dict:=none,data:=.set #[] 0 (.fresh 0 0 (bi w)) } } (.ref s.heap.objs.size) "set" := ⟨_,hS,rfl⟩
   have hli:=F.called_set.init.lookup;have hbi:=F.called_set.init.bind (.ref s.heap.objs.size)
   repeat (any_goals (first | assumption | wp_step))
   refine codeAny_mono (codeAny_call_builtin (R:=wants (fun r s₂=>r = .none∧∃ h' tk,s₂={ s with heap:=h',toks:=tk }∧
     SetG (strKind prog w) (bn (bi w)) h' s.heap.objs.size (fun k'=>(gH (fun i=>ns.getD i "") items.size).any (· == k')) (gH (fun i=>ns.getD i "") items.size).length∧
     (∀ b o,b<s.heap.objs.size→s.heap.get? b=some o→h'.get? b=some o)) E) F.called_set.init.plain F.entry_set_init (check_set_init_1 hT ?_)) fun r₂ s₂ hr₂=>?_
   ·obtain⟨ol,hol,hcl,nl,hdl⟩:=hl
    obtain⟨ocls,odict,odata,oslots⟩:=ol
    simp only at hcl hdl
    subst hcl; subst hdl
    have hol':(s.heap.push { cls:=.type "set", dict:=none,data:=.set #[] 0 (.fresh 0 0 (bi w)) }).get? l=some { cls:=.type "list", dict:=odict,data:=.seq items nl,slots:=oslots }:=Heap.get?_push_of_some _ hol
    have hsls:=F.sub_list_set;have hslf:=F.sub_list_frozenset;have hne:(Value.type "list" == Value.type "dict")=false:=by decide
    have hl1:(s.heap.push { cls:=.type "set", dict:=none,data:=.set #[] 0 (.fresh 0 0 (bi w)) }).IsList l items:=⟨_,hol',rfl,nl,rfl⟩
    unfold Builtin.«set.__init__» noKeywords Builtin.Frozenset.updateFrom
    generalize hPI:pyIter=PI
    wp_walk
    subst hPI;refine wpAny_pyIter_list hl1 ?_
    refine wpAny_bind (wpAny_runValue ?_)
    have hlS:l<s.heap.objs.size:=Heap.lt_size hol
    have hh3:A.in1.in1.in1.handled=none:=by simp[hh]
    have hneI:l≠(s.heap.push { cls:=.type "set", dict:=none,data:=.set #[] 0 (.fresh 0 0 (bi w)) }).objs.size:=by
     rw[Heap.size_push]; exact Nat.ne_of_lt (Nat.lt_succ_of_lt hlS)
    have hSf:s.heap.objs.size∉[(s.heap.push { cls:=.type "set", dict:=none,data:=.set #[] 0 (.fresh 0 0 (bi w)) }).objs.size,l]:=by
     rw[Heap.size_push]; simp only[List.mem_cons,List.mem_singleton,List.not_mem_nil,or_false,not_or]
     exact⟨Nat.ne_of_lt (Nat.lt_succ_self _),Nat.ne_of_gt hlS⟩
    have hval:∀ (i:Nat) (v:Value),items[i]? = some v→∃ t,v = .str ((fun i=>ns.getD i "") i) t:=fun i v hv=>rD hi i v (by rw[Array.getElem?_toList]; exact hv)
    refine yf (L:=bi w) ((Walks.list hh3 _ l hneI items).toS) s.heap.objs.size hSf (fun i=>ns.getD i "") hval hb (items.size - 0) 0 _ (by omega) (Nat.zero_le _) ⟨⟨_,Heap.get?_push_size _ rfl,rfl,rfl⟩,(hl1.push _)⟩ ?hS0 ?hR
    case hS0=>
     refine⟨{ cls:=.type "set", dict:=none,data:=.set #[] 0 (.fresh 0 0 (bi w)) },#[],0,.fresh 0 0 (bi w),Heap.get?_push_of_some _ hS,?_⟩
     exact⟨⟨rfl,rfl,rfl⟩,rfl,fun e he=>by simp at he,fun k=>by simp[oX],by decide,rfl,rfl,⟨rfl,fun a b ha=>absurd ha (Nat.not_lt_zero _)⟩,List.Pairwise.nil⟩
    case hR=>
     intro s' hm hS'
     obtain⟨h',g',d',tk',os'⟩:=s'
     have eg:g'=s.gens:=hm.gens
     have ed:d'=s.drawn:=hm.drawn
     have eo:os'=s.os:=hm.os
     subst eg; subst ed; subst eo
     show wpAny _ _ _ _ _ _
     refine wpAny_pure ?_
     show wpAny _ _ (ret Value.none) _ _ _
     refine wpAny_pure ⟨rfl,h',tk',rfl,hS',fun b o hb e=>?_⟩
     have hb1:b≠s.heap.objs.size:=Nat.ne_of_lt hb
     have hb2:b≠(s.heap.push { cls:=.type "set", dict:=none,data:=.set #[] 0 (.fresh 0 0 (bi w)) }).objs.size:=by
      rw[Heap.size_push]; exact Nat.ne_of_lt (Nat.lt_succ_of_lt hb)
     exact hm.heap b o (by simp only[List.mem_cons,List.mem_singleton,List.not_mem_nil,or_false,not_or]; exact⟨hb1,hb2⟩) (Heap.get?_push_of_some _ (Heap.get?_push_of_some _ e))
   ·cases r₂ with
    | error e=>exact hr₂
    | ok fl₂=>
     cases fl₂ with
     | ret r=>
      obtain⟨rfl,h',tk,rfl,hS',hk'⟩:=hr₂
      repeat (any_goals (first | assumption | wp_step))
      exact h _ _ hS' hk'
     | _=>exact hr₂.elim
  | _=>exact hr.elim
end
def og(SO:Addr→List Str→HO):List V→Hp→VK→Prop:=fun xs H Q=>∃ p,∃ ds:List Str,xs=[.ref p]∧H p=some (SO p ds)∧ds.length≤60∧∀ (l:Addr) (ts:List Str),H l=none→ts.Perm ds→sortedS ts=true→Q (.ref l) (upd H l (.lst (ts.map V.str)))
def jf(e:Int × Value):Str:=match e.2 with
 | .str d _=>d
 | _ => ""
def Gd(w:World)(h:Heap)(a:Addr)(ds:List Str):Prop:=∃ o es ep t,h.get? a=some o∧o.ExactSet∧o.data = .set es ep t∧es.size<scanBound∧t.fits es.size=true∧bn (bi w) t∧(∀ e∈es.toList,∃ tk,e.2 = .str (jf e) tk)∧es.toList.map jf=ds
theorem pq{prog:Program}{w:World}{h:Heap}{a:Addr}{S:Str→Bool}{n:Nat}(x:SetG (strKind prog w) (bn (bi w)) h a S n):∃ ds,Gd w h a ds∧ds.Nodup∧(∀ k,k∈ds ↔ S k=true)∧ds.length=n:=by
 obtain⟨o,es,ep,t,ho,T⟩:=x
 have hk:∀ e∈es.toList,∃ tk,e.2 = .str (jf e) tk:=fun e he=>by
  obtain⟨⟨k,hk,_⟩,_⟩:=T.el e he
  obtain⟨tk,e2⟩:=Value.isStrOf_shape hk
  exact⟨tk,by unfold jf; rw[e2]⟩
 have his:∀ e∈es.toList,∀ k,(strKind prog w).is k e.2=true ↔ k=jf e:=fun e he k=>by
  obtain⟨tk,e2⟩:=hk e he
  constructor
  ·intro z
   obtain⟨tk',e3⟩:=Value.isStrOf_shape z
   rw[e3]at e2
   cases e2; rfl
  ·rintro rfl; rw[e2]; exact mX _ _ _ _
 refine⟨es.toList.map jf,⟨o,es,ep,t,ho,T.ex,T.dat,T.few,T.fit,T.good,hk,rfl⟩,?_,fun k=>?_,by rw[List.length_map,Array.length_toList]; exact T.num⟩
 ·refine List.pairwise_map.mpr (List.Pairwise.imp_of_mem (fun {x y} hx hy hab e=>?_) T.apart)
  have h1:=hab (jf x) ((his x hx _).mpr rfl);rw[(his y hy _).mpr e]at h1; cases h1
 ·rw[T.mem,List.mem_map]
  constructor
  ·rintro⟨e,he,rfl⟩; exact⟨e,he,(his e he _).mpr rfl⟩
  ·rintro⟨e,he,z⟩; exact⟨e,he,((his e he _).mp z).symm⟩
section
variable{X:Cx}
end
def kK(v:Value):Str:=match v with
 | .str d _=>d
 | _ => ""
theorem rY:∀ (l:List Value),(∀ v∈l,∃ tk,v = .str (kK v) tk)→StrsAre l (l.map kK)
 | [],_=>.nil
 | v::l,h=>by
  obtain⟨tk,e⟩:=h v List.mem_cons_self
  have r:=rY l fun u hu=>h u (List.mem_cons_of_mem _ hu)
  rw[List.map_cons];generalize kK v=d at e ⊢;subst e;exact .cons d tk r
section
variable{prog:Program}{w:World}{A:Around}{E:Value→Shared→Prop}{s:Shared}
theorem uq{a:Addr}{o:Obj}{es:Array (Int × Value)}{ep:Nat}{t:SetTable}{Q:Value→Shared→Prop}(hh:A.handled=none)(ho:s.heap.get? a=some o)(hx:o.ExactSet)(hd:o.data = .set es ep t)(hf:t.fits es.size=true)(h64:es.size<64)(hg:bn (bi w) t)
  (hint:∀ e∈es.toList,∃ tk,e.2 = .str (jf e) tk)
  (hQ:∀ h' d' tk q out c ns',(∀ b o,s.heap.get? b=some o→h'.get? b=some o)→s.heap.objs.size≤q→h'.get? q=some (seqObj "list" out c)→StrsAre out.toList ns'→ns'.Perm (es.toList.map jf)→sortedS ns'=true→Q (.ref q) { s with heap:=h',drawn:=d',toks:=tk }) :
  wpAny (model prog w) A (call (.builtin "sorted") [.ref a]) Q E s:=by
 refine Calls.call_function_entry kind_sorted plain_sorted entry_sorted (args_sorted1 _) ?_
 unfold Builtin.«sorted»
 refine wpAny_bind (m:=checkCount "sorted" 1 1 _) (wpAny_pure ?_)
 refine wpAny_bind (ud hh ho hx hd hf (by unfold scanBound; omega) hg fun h' d' tk acc hk hlt hp=>?_)
 have hal:acc.length=es.size:=by rw[hp.length_eq]; simp
 have hI:StrsAre acc (acc.map kK):=rY acc fun v hv=>by
  obtain⟨e,he,rfl⟩:=List.mem_map.mp (hp.mem_iff.mp hv)
  exact hint e he
 have hperm:(acc.map kK).Perm (es.toList.map jf):=by
  have:=hp.map kK
  rw[List.map_map]at this
  exact this
 refine wpAny_bind (wpAny_newList ?_ (by rw[hal,sizeLine_eq]; omega))
 have hoL:(h'.push (seqObj "list" acc.toArray 0)).get? h'.objs.size=some (seqObj "list" acc.toArray 0):=Heap.get?_push_size _ rfl
 show wpAny _ _ _ _ _ { s with heap:=h'.push (seqObj "list" acc.toArray 0),drawn:=d',toks:=tk }
 refine wpAny_bind (wpAny_holding (wpAny_call_entry slot_list_sort ⟨_,hoL,rfl⟩ entry_list_sort (list_sort_treeK strKind_oneLt hoL hI.keysOf (fun v₁ v₂ rest e=>keyKind_strs (by rw[← e]; exact hI)) (by omega) fun st' b1 b2=>⟨_,rfl,?_⟩) (args_list_sort _)))
 obtain⟨ns',a1,a2,a3⟩:=sorted_out_str hI b1 b2
 generalize (arrOf st').map (·.2)=out at a1 ⊢;obtain⟨c,hc⟩:=sortedHeap_at (out:=out) hoL
 refine wpAny_pure ⟨_,rfl,hQ _ d' tk h'.objs.size out c ns' (fun b o e=>?_) (Nat.le_of_lt hlt) hc a1 (a2.trans hperm) a3⟩
 have hb:=Heap.lt_size (hk b o e);rw[sortedHeap_old (Nat.ne_of_lt hb) (by rw[Heap.size_push]; exact Nat.lt_succ_of_lt hb)]
 exact Heap.get?_push_of_some _ (hk b o e)
end
section
variable{X:Cx}
end
section
variable{X:Cx}{c a b:Expr}{tA tB1 tB2:TT}{pos:Pos}
end
end L2
namespace L2
open PySem PySem.Spec PyProof.Rows PySem.SeqAt PySem.Builtin PySem.Builtin.Str PySem.StrLaws
section
variable{X:Cx}
end
end L2
namespace L2
open PySem PySem.Spec PyProof.Rows PySem.SeqAt PySem.Builtin PySem.Builtin.Str PySem.StrLaws
end L2
namespace L2
open PySem PySem.Spec PyProof.Rows
section
variable{X:Cx}
end
end L2
namespace L2
open PySem PySem.Spec PyProof.Rows
abbrev cn:=List (Option Int)
def MO(P:Program)(w:World):HeapKind P w (cn):=y8 (dk P w) (show 0≤7 by decide)
def gY(P:Program)(w:World)(a:Addr)(xs:List (cn × Addr × Value)):HO:=
 .ext fun h=>∃ o es ep,h.get? a=some o∧o.ExactDict∧o.data = .dict es ep∧es.toList=xs.map (entryOfKey (MO P w))∧(xs.map (·.1)).Nodup
def KeyO(H:Hp)(k:cn)(b:Addr):Prop:=H b=some (.tup (k.map cQ))
def ORow(H:Hp)(p:cn × V)(q:cn × Addr × Value):Prop:=q.1=p.1∧KeyO H p.1 q.2.1∧RelV p.2 q.2.2
def DO(P:Program)(w:World)(H:Hp)(a:Addr)(kvs:List (cn × V)):Prop:=
 ∃ xs,H a=some (gY P w a xs)∧(a == sysModules)=false∧xs.length≤sizeLine∧Paired (ORow H) kvs xs
theorem KeyO.mono{H H':Hp}{k:cn}{b:Addr}(h:KeyO H k b)(sm:∀ c xs,H c=some (.tup xs)→H' c=some (.tup xs)):KeyO H' k b:=by
 exact sm _ _ h
theorem DO.mono{P:Program}{w:World}{H H':Hp}{a:Addr}{kvs:List (cn × V)}(h:DO P w H a kvs)(sm:Same H H'):DO P w H' a kvs:=by
 obtain⟨xs,h1,h2,h3,h4⟩:=h
 exact⟨xs,sm _ _ h1,h2,h3,Paired.imp' (fun p q z=>⟨z.1,z.2.1.mono fun c ys e=>sm _ _ e,z.2.2⟩) h4⟩
section
variable{P:Program}{w:World}{H:Hp}
theorem ORow.val:∀ {kvs:List (cn × V)} {xs:List (cn × Addr × Value)} (k:cn),Paired (ORow H) kvs xs→RelO (aH kvs k) ((atKey xs k).map (·.2))
 | _,_,k,.nil=>True.intro
 | _,_,k,@Paired.cons _ _ _ p q kvs xs r t=>by
  have ih:=ORow.val k t;obtain⟨e1,e2,e3⟩:=r
  by_cases h:p.1=k
  ·have h1:aH (p::kvs) k=some p.2:=by simp[aH,h]
   have h2:atKey (q::xs) k=some q.2:=by simp[atKey,e1,h]
   rw[h1,h2]; exact e3
  ·have hn:¬ q.1=k:=fun z=>h (e1.symm.trans z)
   have h1:aH (p::kvs) k=aH kvs k:=by simp[aH,h]
   have h2:atKey (q::xs) k=atKey xs k:=by simp[atKey,hn]
   rw[h1,h2]; exact ih
end
section
variable{X:Cx}{pins:List (Addr × Obj)}{σ : St}{H:Hp}{s:Shared}{a b:Addr}{k:cn}{kvs:List (cn × V)}
theorem Inv.keyO(I:Inv X pins σ H s)(h:KeyO H k b):(MO X.prog X.w).is s.heap k b:=by
 obtain⟨_,its2,r2,o2,e2,c2,n2,d2⟩ : (k.map cQ).length≤sizeLine∧∃ its:List Value,Vals (k.map cQ) its∧IsTup s.heap b its.toArray:=by obtain⟨z,its,r,p⟩:=I.hok b _ h; exact⟨z,its,r,p.tup⟩
 exact⟨b,o2,_,n2,rfl,e2,c2,d2,by simpa using gN r2⟩
theorem Inv.dO(I:Inv X pins σ H s)(h:DO X.prog X.w H a kvs):∃ xs,H a=some (gY X.prog X.w a xs)∧(a == sysModules)=false∧xs.length≤sizeLine∧Paired (ORow H) kvs xs∧s.heap.DictOfH (MO X.prog X.w) a xs:=by
 obtain⟨xs,h1,h2,h3,h4⟩:=h
 obtain⟨⟨o,es,ep,e1,e2,e3,e4,e5⟩,_,_⟩:=I.hok a _ h1
 refine⟨xs,h1,h2,h3,h4,o,es,ep,e1,e2,e3,e4,?_,e5⟩
 have all:∀ {l:List (cn × V)} {m:List (cn × Addr × Value)},Paired (ORow H) l m→∀ x∈m,(MO X.prog X.w).is s.heap x.1 x.2.1:=by
  intro l m r
  induction r with
  | nil=>intro x hx; simp at hx
  | cons r t ih=>
   intro x hx
   rcases List.mem_cons.mp hx with rfl | hx
   ·rw[r.1]; exact I.keyO r.2.1
   ·exact ih x hx
 exact all h4
theorem ll{P:Program}{w:World}{H':Hp}{h':Heap}{xs:List (cn × Addr × Value)}(m:h'.DictOfH (MO P w) a xs):ObjOk P w H' h' a (gY P w a xs):=by
 obtain⟨o,es,ep,e1,e2,e3,e4,_,e5⟩:=m
 exact⟨⟨o,es,ep,e1,e2,e3,e4,e5⟩,⟨o,e1⟩,fun h1 h2 ⟨o,es,ep,q1,q⟩ z=>⟨o,es,ep,z _ q1,q⟩⟩
def sf(P:Program)(w:World):R2:=fun x y H Q=>∃ b a k kvs,x = .ref b∧y = .ref a∧DO P w H a kvs∧KeyO H k b∧Q (.bl (!(aH kvs k).isSome)) H
theorem u5{n:Nat}(hr:Room n X.A):OpR X (compareOp .NotIn) (sf X.prog X.w):=by
 intro pins s σ H x y v u Q I rx ry h
 obtain⟨b,a,k,kvs,rfl,rfl,hd,hk,q⟩:=h
 cases rx
 cases ry;obtain⟨xs,h1,h2,h3,h4,m⟩:=I.dO hd
 refine wpAny_notIn_heap (show (MO X.prog X.w).room X.A.in1 from by show X.A.units+1+1<cLine; have:=hr.un; omega) (I.keyO hk) h2 m ?_
 have e:=(ORow.val k h4).isSome_eq;rw[Option.isSome_map]at e
 rw[← e];exact⟨.bl _,H,I.tok _,rfl,q⟩
def yV(P:Program)(w:World):ka:=fun o i v H Q=>∃ a b k kvs,o = .ref a∧i = .ref b∧DO P w H a kvs∧KeyO H k b∧aH kvs k=none∧kvs.length<sizeLine∧∀ u,DO P w (upd H a u) a (kvs++[(k,v)])→Q (upd H a u)
theorem Cr{n:Nat}(hr:Room n X.A):PSet X (yV X.prog X.w):=by
 intro pins s σ H o i v ov iv u Q I ro ri rv h
 obtain⟨a,b,k,kvs,rfl,rfl,hd,hk,hv,hl,q⟩:=h
 cases ro
 cases ri;obtain⟨xs,h1,h2,h3,h4,m⟩:=I.dO hd
 have hx:atKey xs k=none:=by
  have e:=ORow.val k h4;rw[hv]at e
  cases hq:atKey xs k with
  | none=>rfl
  | some p=>rw[hq]at e; exact e.elim
 refine wpAny_setItem_heap (hsz:=h3) (show (MO X.prog X.w).room X.A.in1 from by show X.A.units+1+1<cLine; have:=hr.un; omega) (I.keyO hk) m fun h' m' hs=>?_
 rw[storedH_new hx]at m'
 have keep:∀ c ys,H c=some (.tup ys)→upd H a (gY X.prog X.w a (xs++[(k,b,u)])) c=some (.tup ys):=fun c ys e=>by
  rw[ai (gS e h1 (fun z=>nomatch z))]; exact e
 refine⟨upd H a (gY X.prog X.w a (xs++[(k,b,u)])),gn I (by rw[h1]; exact True.intro) hs (let ⟨o,_,_,e,_⟩:=m'; ⟨o,e⟩) (ll m'),q _ ⟨_,ae,h2,?_,?_⟩⟩
 ·rw[List.length_append,← Paired.length h4]
  show kvs.length+1≤sizeLine
  omega
 ·exact Paired.snoc ⟨rfl,hk.mono keep,rv⟩ (Paired.imp' (fun p q z=>⟨z.1,z.2.1.mono keep,z.2.2⟩) h4)
def Ac(P:Program)(w:World):R2:=fun x y H Q=>∃ b a k kvs,x = .ref b∧y = .ref a∧DO P w H a kvs∧KeyO H k b∧Q (.bl (aH kvs k).isSome) H
theorem BZ{n:Nat}(hr:Room n X.A):OpR X (compareOp .In) (Ac X.prog X.w):=by
 intro pins s σ H x y v u Q I rx ry h
 obtain⟨b,a,k,kvs,rfl,rfl,hd,hk,q⟩:=h
 cases rx
 cases ry;obtain⟨xs,h1,h2,h3,h4,m⟩:=I.dO hd
 refine wpAny_in_heap (show (MO X.prog X.w).room X.A.in1 from by show X.A.units+1+1<cLine; have:=hr.un; omega) (I.keyO hk) h2 m ?_
 have e:=(ORow.val k h4).isSome_eq;rw[Option.isSome_map]at e
 rw[← e];exact⟨.bl _,H,I.tok _,rfl,q⟩
def mz(P:Program)(w:World)(td ty:TE):TE:=fun σ H Q=>td σ H fun x H1=>∃ a kvs,x = .ref a∧DO P w H1 a kvs∧ty σ H1 fun y H2=>∃ b k kvs',y = .ref b∧DO P w H2 a kvs'∧KeyO H2 k b∧Q ((aH kvs' k).getD .non) H2
theorem zd{n:Nat}(hr:Room n X.A){o e:Expr}{td ty:TE}{apos cpos:Pos}(ho:PE X o td)(he:PE X e ty)(m:M1 X o "get" apos e cpos):PE X (.Call (.Attribute o "get" apos) [e] [] cpos) (mz X.prog X.w td ty):=by
 intro pins s σ H Q I h
 refine wpAny_Call_method m.base m.few m.line PySem.F.plainAttrs_dict PySem.F.slot_dict_get PySem.F.type_dict_get (ba (ho pins s σ H _ I h) fun u s1 ⟨x,H1,I1,rx,a,kvs,ex,d,q1⟩=>?_)
 subst ex;obtain rfl:u=Value.ref a:=rx
 obtain⟨xs,h1,h2,h3,h4,mm⟩:=I1.dO d
 refine⟨mm.typeIs,fun b q=>?_,?_⟩
 ·cases q
  obtain⟨ob,_,_,g1,g2,_⟩:=mm
  exact⟨ob,g1,g2.2.1⟩
 rw[m.trees];refine Calls.callWith_builtin rfl (Calls.evalArgs_plain (Calls.spliced_cons (ba (he pins s1 σ H1 _ I1 q1) fun iv s2 ⟨y,H2,I2,ry,b,k,kvs',ey,d2,kk,q2⟩=>Calls.spliced_nil ?_)))
 subst ey;obtain rfl:iv=Value.ref b:=ry
 obtain⟨xs2,g1,g2,g3,g4,m2⟩:=I2.dO d2
 refine call_meetsIn PySem.F.slot_dict_get m2.typeIs PySem.F.entry_dict_get (PySem.F.args_dict_get_2 _ _) (meetsH_dict_get (MO X.prog X.w) a b g2) ⟨by show X.A.units+1+1<cLine; have:=hr.un; omega,k,xs2,I2.keyO kk,m2,?_⟩
 exact⟨_,H2,I2.tok _,(ORow.val k g4).getD (d:=V.non) (show RelV .non Value.none from rfl),q2⟩
def m_(P:Program)(w:World)(tk tv:TE):TE:=fun σ H Q=>∀ p,H p=none→∀ u,DO P w (upd H p u) p []→tk σ (upd H p u) fun y H1=>tv σ H1 fun z H2=>∃ b k,y = .ref b∧KeyO H2 k b∧DO P w H2 p []∧∀ u',DO P w (upd H2 p u') p [(k,z)]→Q (.ref p) (upd H2 p u')
theorem u3{n:Nat}(hr:Room n X.A){ek ev:Expr}{tk tv:TE}{pos:Pos}(hk:PE X ek tk)(hv:PE X ev tv):PE X (.Dict [some ek] [ev] pos) (m_ X.prog X.w tk tv):=by
 intro pins s σ H Q I q
 have hn:=I.hok.fresh (Nat.le_refl s.heap.objs.size);have hm:(s.heap.push { cls:=.type "dict", data:=.dict #[] }).DictOfH (MO X.prog X.w) s.heap.objs.size []:=⟨_,#[],0,Heap.get?_push_size _ rfl,⟨rfl,rfl,rfl⟩,rfl,rfl,(fun x hx=>by simp at hx),List.nodup_nil⟩
 have I1:=I.laid (a:=s.heap.objs.size) (o:=gY X.prog X.w s.heap.objs.size []) (t':=s.toks) (fun _ _ q=>Heap.get?_push_of_some _ q) (Nat.le_refl _) (ll hm)
 have hD:DO X.prog X.w (upd H s.heap.objs.size (gY X.prog X.w s.heap.objs.size [])) s.heap.objs.size []:=⟨[],ae,beq_eq_false_iff_ne.mpr (Ne.symm (Nat.ne_of_lt I.big)),Nat.zero_le _,.nil⟩
 refine wpAny_Dict_any rfl rfl (by simp) (by simp) (pairTrees_cons_walk (ba (hk pins _ σ _ _ I1 (q _ hn _ hD)) fun u s1 ⟨x,H1,I1',rx,q1⟩=>ba (hv pins s1 σ H1 _ I1' q1) fun w2 s2 ⟨y,H2,I2,ry,b,k,ex,kk,d2,q2⟩=>pairTrees_nil_walk ?_))
 subst ex;obtain rfl:u=Value.ref b:=rx
 obtain⟨xs,h1,h2,h3,h4,m⟩:=I2.dO d2
 cases h4;unfold storeAll;rw[List.forIn_cons];refine wpAny_bind (wpAny_bind (wpAny_dictSet_heap (knd:=MO X.prog X.w) (k:=k) (xs:=[]) (hsz:=Nat.zero_le _) (show (MO X.prog X.w).room X.A from by show X.A.units+1<cLine; have:=hr.un; omega) (I2.keyO kk) m fun h' m' hs=>wpAny_pure ?_))
 dsimp only
 rw[List.forIn_nil];refine wpAny_pure ?_
 have keep:∀ c ys,H2 c=some (.tup ys)→upd H2 s.heap.objs.size (gY X.prog X.w s.heap.objs.size [(k,b,w2)]) c=some (.tup ys):=fun c ys e=>by
  rw[ai (gS e h1 (fun z=>nomatch z))]; exact e
 have m2:h'.DictOfH (MO X.prog X.w) s.heap.objs.size [(k,b,w2)]:=m'
 exact⟨.ref s.heap.objs.size,upd H2 s.heap.objs.size (gY X.prog X.w s.heap.objs.size [(k,b,w2)]),gn I2 (by rw[h1]; exact True.intro) hs (let ⟨o,_,_,e,_⟩:=m2; ⟨o,e⟩) (ll m2),rfl,q2 _ ⟨_,ae,h2,by rw[sizeLine_eq]; simp,.cons ⟨rfl,kk.mono keep,ry⟩ .nil⟩⟩
end
end L2
namespace L2
open PySem PySem.Spec PyProof.Rows
section
variable{X:Cx}{E:XK}{x:Str}{C:Addr}{bmB:List Value}{B newId initId:String}{np cpos pos:Pos}{e:Expr}{es:List Expr}{t:TA}
end
section
variable{P:Program}{w:World}{K:PySem.W.Frag}{mg:Str→Option Value}{base:Heap}
end
section
variable{X:Cx}
end
section
variable{X:Cx}{Ee:XK}
end
section
variable{X:Cx}{pins:List (Addr × Obj)}{σ : St}{H:Hp}{s:Shared}
end
section
variable{X:Cx}{x n:Str}{C:Addr}{bmB:List Value}{B newId initId:String}{np hp pos:Pos}{body suite:List Stmt}{b₀ : Stmt}{tb:XK→TS}{th:TS}{rest:List ExceptHandler}
end
end L2
namespace L2
open PySem PySem.Spec PyProof.Rows
section
variable{prog:Program}{w:World}{A:Around}{E:Value→Shared→Prop}{h:Heap}{g:Array GenState}{d:Drawn}{t:Nat}{os:OsState}{a:Addr}{o:Obj}{K:PySem.W.Frag}
 {x:Str} {C:Addr} {bmB:List Value} {B newId:String} {mg:Str→Option Value}
end
section
variable{X:Cx}
end
end L2
namespace L2
open PySem PySem.Spec PyProof.Rows
section
variable{P:Program}{w:World}{K:PySem.W.Frag}{mg:Str→Option Value}{base:Heap}
end
section
variable{X:Cx}
end
section
variable{X:Cx}{E:XK}{x n:Str}{C:Addr}{np cpos hp pos:Pos}{e:Expr}{es body suite:List Stmt}{b₀ : Stmt}{t:TA}{tb:XK→TS}{th:TS}{rest:List ExceptHandler}
end
section
variable{X:Cx}{x:Str}{C:Addr}{np hp pos:Pos}{body suite:List Stmt}{b₀ : Stmt}{tb:XK→TS}{th:TS}{rest:List ExceptHandler}
end
end L2
namespace L2
open PySem PySem.Spec PyProof PyProof.Rows
section
variable{K:PySem.W.Frag}{a b:Addr}{xs ys:List V}{g:TG}{te:TE}{nT:Nat}{σ : St}{D:Addr}{Q:VK}{H:Hp}
end
section
variable{prog:Program}{w:World}{A:Around}{E:Value→Shared→Prop}{s:Shared}
theorem vY:typeLookup (.type "list_reverseiterator") "__len__" = pure none:=by rw[typeLookup_type,builtinLookup_eq_fast]; kernel_rfl
theorem yk:typeLookup (.type "list_reverseiterator") "__length_hint__" = pure (some (.builtin "list_reverseiterator.__length_hint__")):=by rw[typeLookup_type,builtinLookup_eq_fast]; kernel_rfl
theorem xR{v l:Addr}{i:Int}{Q:Bool→Shared→Prop}(hv:s.heap.IsRevIter v l i)(h:Q false s):wpAny (model prog w) A (Builtin.List.listLengthHint (.ref v)) Q E s:=by
 unfold Builtin.List.listLengthHint;refine wpAny_bind (wpAny_specialOf hv.typeIs vY ?_)
 wp_delta
 refine wpAny_ite_split (fun hab=>absurd hab (by decide +kernel)) (fun _=>?_)
 refine wpAny_ite_split (fun hab=>absurd hab (by decide)) (fun _=>?_)
 refine wpAny_bind (wpAny_specialOf hv.typeIs yk ?_)
 generalize hid:("list_reverseiterator.__length_hint__" : String)=id0
 wp_delta
 rw[show splitId id0=some ("list_reverseiterator", "__length_hint__") from by subst hid; decide +kernel]
 subst hid;refine wpAny_bind (wpAny_isInstance (T := "list_reverseiterator") (b:=true) hv.typeIs (by rw[isSubtype_type]; kernel_rfl) ?_)
 refine wpAny_ite_split (fun hab=>absurd hab (by decide)) (fun _=>?_)
 refine wpAny_ite_split (fun _=>?_) (fun hab=>absurd (by decide +kernel) hab)
 refine wpAny_ite_split (fun hab=>absurd hab (by decide +kernel)) (fun _=>?_)
 exact wpAny_pure h
theorem tX{R:Result→Shared→Prop}{v l:Addr}{items:Array Value}(hh:A.handled=none)(hv:s.heap.IsRevIter v l ((items.size:Int) - 1))(hm:s.heap.IsList l items)(hvl:l≠v)(hlen:items.size≤2 ^ 20)
  (S:Addr) (res:Value) (c₀ : Nat) (hS:s.heap.get? S=some { cls:=.type "list", data:=.seq #[] c₀ }) (hSv:S≠v) (hSl:S≠l)
  (hR:∀ h' tk acc' c',(∀ b o,b≠S→b≠v→s.heap.get? b=some o→h'.get? b=some o)→h'.get? S=some { cls:=.type "list", dict:=none,data:=.seq acc' c',slots:=#[] }→
   ItemsOf (fun i x=>items[items.size - 1 - i]? = some x) acc' items.size→R (.ok (.ret res)) { s with heap:=h',toks:=tk }) :
  wpAny (model prog w) A.in1 (Builtin.List.listExtendWith (.ref S) (.ref v) res)
   (fun fin s'=>match fin with | .done f=>R (.ok f) s' | .again c'=>c'.quiet=true∧codeAny (model prog w) A c' R s') (fun e s'=>R (.error e) s') s:=by
 have hSf:S∉[v,l]:=fun hm=>by
  rcases List.mem_cons.mp hm with e | e
  ·exact hSv e
  ·exact hSl (List.mem_singleton.mp e)
 have W:=(Walks.listRev (prog:=prog) (w:=w) (A:=A.in1) hh v l hvl items).toS;unfold Builtin.List.listExtendWith;refine wpAny_bind (wpAny_typeOf hv.typeIs ?_)
 have h1:Builtin.List.listSameRef (.ref S) (.ref v)=false:=by simp[Builtin.List.listSameRef,hSv]
 have h2:(Value.type "list_reverseiterator" == Value.type "list")=false:=by decide
 have h3:(Value.type "list_reverseiterator" == Value.type "tuple")=false:=by decide
 simp only[h1,h2,h3,Bool.or_false,Bool.false_eq_true,if_false]
 refine wpAny_bind (wpAny_pyIter_revIter hv ?_)
 refine wpAny_bind (wpAny_holding (xR hv ?_))
 have key:∀ (h:Heap) (c₁ tk:Nat),h.IsRevIter v l ((items.size:Int) - 1)→h.IsList l items→(∀ b o,b≠S→s.heap.get? b=some o→h.get? b=some o)→
   h.get? S=some { cls:=.type "list", data:=.seq #[] c₁ }→codeAny (model prog w) A (.builtin "list.extend.loop" ⟨[.ref S,.ref v,res],[]⟩) R { s with heap:=h,toks:=tk }:=by
  intro h c₁ tk hit hm' hk hS₁
  refine codeAny_extend_loopS W (by rw[sizeLine_eq]; omega) S hSf res items.size 0 _ #[] c₁ rfl (Nat.zero_le _) ⟨Nat.zero_le _,by simpa using hit,hm'⟩ hS₁ (ItemsOf.nil _) fun s' acc' c' hmv hS' hacc=>?_
  rw[Moved.eq_with hmv];refine hR s'.heap s'.toks acc' c' (fun b o hb hbv e=>hmv.heap b o (fun hmem=>?_) (hk b o hb e)) hS' hacc
  rcases List.mem_cons.mp hmem with e' | hmem
  ·exact hb e'
  ·exact hbv (List.mem_singleton.mp hmem)
 refine wpAny_ite_split (fun hab=>absurd hab (by decide +kernel)) (fun _=>?_)
 exact wpAny_pure ⟨plainId_quiet F.plain_extend_loop _,key _ _ _ hv hm (fun b o _ e=>e) hS⟩
theorem ou{R:Result→Shared→Prop}{v l:Addr}{items:Array Value}(hh:A.handled=none)(hv:s.heap.IsRevIter v l ((items.size:Int) - 1))(hm:s.heap.IsList l items)(hvl:l≠v)(hlen:items.size≤2 ^ 20)(S:Addr)(hS:s.heap.get? S=some { cls:=.type "list", data:=.seq #[] }) (hSv:S≠v) (hSl:S≠l)
  (hR:∀ h' tk acc' c',(∀ b o,b≠S→b≠v→s.heap.get? b=some o→h'.get? b=some o)→h'.get? S=some { cls:=.type "list", dict:=none,data:=.seq acc' c',slots:=#[] }→
   ItemsOf (fun i x=>items[items.size - 1 - i]? = some x) acc' items.size→R (.ok (.ret .none)) { s with heap:=h',toks:=tk }) :
  wpAny (model prog w) A.in1 (Builtin.«list.__init__» ⟨[.ref S,.ref v],[]⟩)
   (fun fin s'=>match fin with | .done f=>R (.ok f) s' | .again c'=>c'.quiet=true∧codeAny (model prog w) A c' R s') (fun e s'=>R (.error e) s') s:=by
 show wpAny _ _ (do let old ← Builtin.List.listItems (.ref S); Builtin.List.listUpdate (.ref S) (fun _=>#[]); letGo old.toList.reverse; Builtin.List.listExtendWith (.ref S) (.ref v) .none) _ _ s
 refine wpAny_bind ?_
 unfold Builtin.List.listItems;refine wpAny_bind (wpAny_seqItems hS rfl (wpAny_pure ?_))
 show wpAny _ _ (updateSeq S (fun _=>#[]) >>= fun _=>letGo (#[]:Array Value).toList.reverse >>= fun _=>Builtin.List.listExtendWith (.ref S) (.ref v) .none) _ _ s
 refine wpAny_bind (wpAny_updateSeq hS rfl ?_)
 have hS₂:=Heap.get?_update_self (Obj.mapSeq (fun _=>(#[]:Array Value))) hS rfl
 have oth:∀ b o,b≠S→s.heap.get? b=some o→(s.heap.update S (Obj.mapSeq (fun _=>(#[]:Array Value)))).get? b=some o:=
  fun b o hb e=>(Heap.get?_update_other _ _ (Ne.symm hb)).trans e
 refine wpAny_bind (wpAny_letGo ?_)
 refine tX hh (hv.at fun o e=>oth v o (Ne.symm hSv) e) (hm.at fun o e=>oth l o (Ne.symm hSl) e) hvl hlen S .none _ hS₂ hSv hSl fun h' tk acc' c' hk hS' hacc=>?_
 exact hR h' tk acc' c' (fun b o hb hbv e=>hk b o hb hbv (oth b o hb e)) hS' hacc
theorem oD{Q:Value→Shared→Prop}{v l:Addr}{items:Array Value}(hh:A.handled=none)(hv:s.heap.IsRevIter v l ((items.size:Int) - 1))(hm:s.heap.IsList l items)(hvl:l≠v)(hlen:items.size≤2 ^ 20)
  (hQ:∀ h' tk acc' c',(∀ b o,b≠v→s.heap.get? b=some o→h'.get? b=some o)→
   h'.get? s.heap.objs.size=some { cls:=.type "list", dict:=none,data:=.seq acc' c',slots:=#[] }→ItemsOf (fun i x=>items[items.size - 1 - i]? = some x) acc' items.size→Q (.ref s.heap.objs.size) { s with heap:=h',toks:=tk }) :
  wpAny (model prog w) A (call (.type "list") [.ref v]) Q E s:=by
 obtain⟨ov,hov,hcv,hdv⟩:=id hv
 obtain⟨ol,hol,_⟩:=id hm
 refine callType_codes (Q₁:=fun obj s₁=>obj = .ref s.heap.objs.size∧s₁={ s with heap:=s.heap.push { cls:=.type "list", data:=.seq #[] } }) F.called_list (F.typeCall_list_1 _) F.entry_list_init
  (code_list_new _ ⟨rfl,rfl⟩) fun obj s₁ h₁=>?_
 obtain⟨rfl,rfl⟩:=h₁
 have hS:(s.heap.push { cls:=.type "list", data:=.seq #[] }).get? s.heap.objs.size=some { cls:=.type "list", data:=.seq #[] }:=Heap.get?_push_size _ rfl
 refine⟨⟨_,hS,rfl⟩,F.args_list_init_2 _ _,ou (A:=A.in1) hh (hv.at fun o e=>Heap.get?_push_of_some _ e) (hm.at fun o e=>Heap.get?_push_of_some _ e) hvl hlen _ hS (Nat.ne_of_gt (Heap.lt_size hov)) (Nat.ne_of_gt (Heap.lt_size hol)) fun h' tk acc' c' hk hS' hacc=>?_⟩
 exact⟨rfl,hQ h' tk acc' c' (fun b o hbv e=>hk b o (Nat.ne_of_lt (Heap.lt_size e)) hbv (Heap.get?_push_of_some _ e)) hS' hacc⟩
end
def yK(K:PySem.W.Frag)(ta:TA):TE:=fun σ H Q=>ta σ H fun vs H1=>∃ a:Addr,vs=[.ref a]∧∃ xs,SqL K H1 a xs∧xs.length≤60000∧∀ p,H1 p=none→Q (.ref p) (upd H1 p (.lst xs.reverse))
theorem xJ(K:PySem.W.Frag)(ta:TA){σ : St}{H:Hp}{Q:VK}:yK K ta σ H Q=ta σ H fun vs H1=>∃ a:Addr,vs=[.ref a]∧∃ xs,SqL K H1 a xs∧xs.length≤60000∧∀ p,H1 p=none→Q (.ref p) (upd H1 p (.lst xs.reverse)):=rfl
theorem tI(K:PySem.W.Frag){X:Cx}{m:Nat}{a:Expr}{ta:TA}{p p2 pos pos2:Pos}(hr:Room m X.A)(hg:Gl X "list") (hm:X.mg "list" = none) (hg2:Gl X "reversed") (hm2:X.mg "reversed" = none) (ha:PA X [a] ta)
  (hs:starEach [a] X.env=[(false,eval a X.env)]:=by rfl) (hs2:starEach [.Call (.Name "reversed" p2) [a] [] pos2] X.env=[(false,eval (.Call (.Name "reversed" p2) [a] [] pos2) X.env)]:=by rfl) (hK:X.K=K:=by rfl) :
  PE X (.Call (.Name "list" p) [.Call (.Name "reversed" p2) [a] [] pos2] [] pos) (yK K ta):=by
 subst hK;intro pins s σ H Q I h
 refine Call_ (fC I hg hm iN (PyProof.Rows.callWith_type1 ?_ hs2 rfl))
 rw[hs2];show wpAny _ _ (spliced ((false,eval (.Call (.Name "reversed" p2) [a] [] pos2) X.env)::[])) _ _ s
 refine Calls.spliced_cons ?_
 refine Call_ (fC I hg2 hm2 oq (PyProof.Rows.callWith_type1 (ba (ha pos2 pins s σ H _ I h) fun us s1 ⟨vs,H1,I1,r1,q1⟩=>?_) hs rfl))
 obtain⟨l,e,xs,h1,hz,q⟩:=q1
 subst e;obtain⟨u1,rfl,r1'⟩:=df r1
 obtain rfl:u1=Value.ref l:=r1'
 obtain⟨its,rv,pl,hz'⟩:=I1.list h1
 have hlen:its.toArray.size=xs.length:=by rw[List.size_toArray]; exact rv.length.symm
 refine call_reversed_list pl.isList ?_
 refine Calls.spliced_nil ?_
 have hit:(s1.heap.push (revObj l ((its.toArray.size:Int) - 1))).IsRevIter s1.heap.objs.size l ((its.toArray.size:Int) - 1):=⟨_,Heap.get?_push_size _ rfl,rfl,by simp[revObj]⟩
 obtain⟨ol,hol,_⟩:=id pl.isList
 have hl:l<s1.heap.objs.size:=Heap.lt_size hol
 have I2:Inv X pins σ H1 { s1 with heap:=s1.heap.push (revObj l ((its.toArray.size:Int) - 1)) }:=I1.kept (t':=s1.toks) fun b o e=>Heap.get?_push_of_some _ e
 obtain⟨f0,f1,f2,f3,f4,f5⟩:=I1.fpOk (Nat.le_refl _) (I1.hok.fresh (Nat.le_refl _))
 refine oD (s:={ s1 with heap:=s1.heap.push (revObj l ((its.toArray.size:Int) - 1)) }) (v:=s1.heap.objs.size) (l:=l) (items:=its.toArray) hr.hd hit (pl.isList.at fun o e=>Heap.get?_push_of_some _ e) (Nat.ne_of_lt hl) (by rw[hlen]; omega) fun h' tk acc' c' hk hS hacc=>?_
 have hs:sizeLine=16777216:=sizeLine_eq
 refine⟨.ref _,_,I2.turnedLaid (ch:=[s1.heap.objs.size]) (t':=tk) (fun b o hb e=>hk b o (by simpa using hb) e) (fun b hb=>?_) (Nat.le_refl _) (show ObjOk X.prog X.w _ h' _ (.lst xs.reverse) from ⟨by simp; omega,acc'.toList,c',?_,by simpa using hS⟩),rfl,q _ (I2.hok.fresh (Nat.le_refl _))⟩
 ·have e:b=s1.heap.objs.size:=by simpa using hb
  subst e;exact⟨f0,f1,f2,f3,f4,f5⟩
 ·refine m7 _ _ (by simp[hacc.1]; exact hlen.symm) fun j x w' e1 e2=>?_
  have e3:=hacc.2 j w' (by rw[← Array.getElem?_toList]; exact e2)
  have hj:j<xs.length:=by
   refine Classical.byContradiction fun hn=>?_
   rw[List.getElem?_eq_none (by simp; omega)]at e1; cases e1
  rw[List.getElem?_reverse hj]at e1
  rw[hlen]at e3
  exact gQ rv e1 (by simpa using e3)
end L2
namespace L2
open PySem PySem.Spec PyProof PyProof.Rows
section
variable{X:Cx}
end
section
variable{X:Cx}
end
section
variable{d:Addr}{o:Obj}{kvs:List (bp × V)}{g:TG}{σ : St}{H:Hp}
end
end L2
namespace PySem.SeqAt
open AutoSeq1 (wpAny_loadPart')
open MeetsSeq MeetsSeq2 MeetsSeq3
end PySem.SeqAt
namespace L2
open PySem PySem.Spec PyProof PyProof.Rows
section
variable{X:Cx}
end
end L2
namespace L2
open PySem PySem.Spec PyProof PyProof.Rows
section
variable{X:Cx}
end
end L2
namespace L2
open PySem PySem.Spec PyProof.Rows
def wt:Option Int→Value→Bool
 | none,v=>(match v with | .none=>true | _=>false)
 | some i,v=>Value.isInt i v
theorem g_:∀ {k:Option Int} {v:Value},wt k v=true→RelV (cQ k) v
 | none,v,h=>by
  cases v <;> first | rfl | cases h
 | some i,v,h=>Value.isInt_shape (k:=i) (v:=v) h
theorem vT:∀ {k:Option Int} {v:Value},RelV (cQ k) v→wt k v=true
 | none,v,h=>by
  obtain rfl:v=Value.none:=h
  rfl
 | some i,v,h=>by
  obtain⟨t,rfl⟩:=(show ∃ t,v=Value.int i t from h)
  simp[wt,Value.isInt]
def iF(prog:Program)(w:World):PySem.KeyKind prog w (Option Int) where
 is:=wt
 hash:=(dk prog w).hash
 inj:=fun v a b ha hb=>(dk prog w).inj (h:=default) (g_ ha) (g_ hb)
 byValue:=fun k v h=>by
  have r:=g_ h
  cases k with
  | none=>obtain rfl:v=Value.none:=r; rfl
  | some i=>obtain⟨t,rfl⟩:=(show ∃ t,v=Value.int i t from r); rfl
 pyHash:=fun {A E s k v Q} hv h=>by
  have r:=g_ hv
  cases k with
  | none=>
   obtain rfl:v=Value.none:=r
   exact nG h
  | some i=>
   obtain⟨t,rfl⟩:=(show ∃ t,v=Value.int i t from r)
   exact wpAny_pyHash_int h
 eqBool:=fun {A E s a b u v Q} hu hv h=>by
  have q:=js (A:=A) (s:=s) (g_ hu) (g_ hv) (ja a) (ja b);rw[rH]at q
  exact q prog w E Q h
 «strs»:=fun k x t v h=>by
  cases k with
  | none=>cases h
  | some i=>simp[wt,Value.isInt]at h
def i0(P:Program)(w:World)(a:Addr)(kvs:List (Option Int × V)):HO:=
 .ext fun h=>kvs.length≤sizeLine∧(a == sysModules)=false∧∃ vs,KV kvs vs∧h.DictOf (iF P w) a vs
theorem vQ{P:Program}{w:World}{H':Hp}{h':Heap}{a:Addr}{kvs:List (Option Int × V)}{vs:List (Option Int × Value)}(z:kvs.length≤sizeLine)(hd:(a == sysModules)=false)(rel:KV kvs vs)(m:h'.DictOf (iF P w) a vs):ObjOk P w H' h' a (i0 P w a kvs):=by
 obtain⟨o,es,ep,e1,e⟩:=id m
 exact⟨⟨z,hd,vs,rel,m⟩,⟨o,e1⟩,fun h1 h2 ⟨z',hd',vs',rel',o',es',ep',q1,q⟩ y=>⟨z',hd',vs',rel',o',es',ep',y _ q1,q⟩⟩
section
variable{X:Cx}{pins:List (Addr × Obj)}{σ : St}{H:Hp}{s:Shared}{a:Addr}{kvs:List (Option Int × V)}
theorem Inv.op(I:Inv X pins σ H s)(h:H a=some (i0 X.prog X.w a kvs)):kvs.length≤sizeLine∧(a == sysModules)=false∧∃ vs,KV kvs vs∧s.heap.DictOf (iF X.prog X.w) a vs:=(I.hok a _ h).1
def yz(P:Program)(w:World):R2:=fun x y H Q=>∃ a k kvs v,x = .ref a∧y=cQ k∧H a=some (i0 P w a kvs)∧aH kvs k=some v∧Q v H
theorem Cs:IxR X (yz X.prog X.w):=by
 intro value slice pins s σ H x y v u Q I rx ry h hs
 obtain⟨a,k,kvs,z,rfl,rfl,e,l,q⟩:=h
 cases rx;obtain⟨_,hd,vs,rel,dd⟩:=I.op e
 obtain⟨w',hw,rw'⟩:=RelO.some_of (v:=z) (o:=valueAt vs k) (by rw[← l]; exact rel.val k)
 have hl:typeLookup (.type "dict") "__getitem__" = pure (some (.builtin "dict.__getitem__")):=PySem.F.slot_dict_getitem.lookup
 exact subscriptTail_builtinR (x:=w') dd.typeIs hl (wpAny_getItem_of (knd:=iF X.prog X.w) (vT ry) dd.mapOf hw ⟨rfl,z,H,I.tok _,rw',q⟩) hs
def vf(P:Program)(w:World):ka:=fun o i v H Q=>∃ a k kvs,o = .ref a∧i=cQ k∧H a=some (i0 P w a kvs)∧kvs.length<sizeLine∧Q (upd H a (i0 P w a (cL kvs k v)))
theorem Ba:PSet X (vf X.prog X.w):=by
 intro pins s σ H o i v ov iv u Q I ro ri rv h
 obtain⟨a,k,kvs,rfl,rfl,e,hl,q⟩:=h
 cases ro;obtain⟨z,hd,vs,rel,dd⟩:=I.op e
 have hz:vs.length≤sizeLine:=by rw[← rel.length]; exact z
 have hl':(cL kvs k v).length≤sizeLine:=by have:=dD kvs k v; omega
 refine wpAny_setItem_pairs (knd:=iF X.prog X.w) (hsz:=hz) (vT ri) dd fun h' dd' hs=>⟨_,?_,q⟩
 have he:∃ q,h'.get? a=some q:=let ⟨q,_,_,hq,_⟩:=dd'; ⟨q,hq⟩
 exact gn I (by rw[e]; exact True.intro) hs he (vQ hl' hd (rel.put k rv) dd')
def rN(P:Program)(w:World):TE:=fun _ H Q=>∀ p,H p=none→Q (.ref p) (upd H p (i0 P w p []))
theorem vt{pos:Pos}:PE X (.Dict [] [] pos) (rN X.prog X.w):=fun pins s σ H Q I h=>by
 have hb:(s.heap.objs.size == sysModules)=false:=beq_eq_false_iff_ne.mpr (Ne.symm (Nat.ne_of_lt I.big))
 have hm:(s.heap.push { cls:=.type "dict", data:=.dict #[] }).DictOf (iF X.prog X.w) s.heap.objs.size []:=⟨_,#[],0,Heap.get?_push_size _ rfl,⟨rfl,rfl,rfl⟩,rfl,(fun x hx=>by simp at hx),.nil,List.nodup_nil⟩
 exact wpAny_Dict_empty ⟨.ref s.heap.objs.size,_,I.laid (a:=s.heap.objs.size) (o:=i0 X.prog X.w s.heap.objs.size []) (t':=s.toks) (fun _ _ q=>Heap.get?_push_of_some _ q) (Nat.le_refl _) (vQ (Nat.zero_le _) hb .nil hm),rfl,h _ (I.hok.fresh (Nat.le_refl _))⟩
end
section
variable{X:Cx}(P:Program)(w:World)
theorem uU(hP:X.prog=P:=by rfl)(hw:X.w=w:=by rfl):IxR X (yz P w):=by subst hP hw; exact Cs
theorem rJ(hP:X.prog=P:=by rfl)(hw:X.w=w:=by rfl):PSet X (vf P w):=by subst hP hw; exact Ba
theorem tq{pos:Pos}(hP:X.prog=P:=by rfl)(hw:X.w=w:=by rfl):PE X (.Dict [] [] pos) (rN P w):=by subst hP hw; exact vt
end
end L2
namespace L2
open PySem PySem.Spec PyProof PyProof.Rows
section
variable{prog:Program}{w:World}{A:Around}{E:Value→Shared→Prop}{s:Shared}
variable{z TI TO i1 i2 t1 t2:Addr}{xs ys:Array Value}{k1 k2:Nat}{a b:Value}
end
section
variable{K:PySem.W.Frag}{a b:Addr}{xs ys:List V}{g:TG}{te:TE}{nT:Nat}{σ : St}{D:Addr}{Q:VK}{H:Hp}
end
end L2
namespace L2
open PySem PySem.Spec PyProof PyProof.Rows PySem.SeqAt
section
variable{X:Cx}
end
section
variable{X:Cx}
end
section
variable{X:Cx}
def Eh:R2:=fun x y H Q=>∃ a kvs k,y = .ref a∧x=kV k∧H a=some (.dK kvs)∧Q (.bl (aH kvs k).isSome) H
theorem BI{n:Nat}(hr:Room n X.A):OpR X (compareOp .In) Eh:=by
 intro pins s σ H x y v u Q I rx ry h
 obtain⟨a,kvs,k,rfl,rfl,e,q⟩:=h
 cases ry;exact DJ (by have:=hr.un; omega) I (DGet.k e) rx fun s' I'=>⟨.bl _,H,I',rfl,q⟩
end
end L2
namespace L2
open PySem PySem.Spec PyProof PyProof.Rows
section
variable{X:Cx}
end
section
variable{prog:Program}{w:World}{κ : Type}[DecidableEq κ]{knd:HeapKind prog w κ}{A:Around}{E:Value→Shared→Prop}{s:Shared}
end
section
variable{X:Cx}
end
end L2
namespace L2
open PySem PySem.Spec PyProof PyProof.Rows
section
variable{X:Cx}{pins:List (Addr × Obj)}{σ : List (Option V)}{H:Hp}{s:Shared}
end
section
variable{X:Cx}
end
open PySem.SeqAt
section
variable{X:Cx}
end
end L2
namespace PySem.SeqAt
open AutoSeq1 (wpAny_loadPart')
open MeetsSeq MeetsSeq2 MeetsSeq3
open SeqRoads2
section
variable{A:Around}{s:Shared}
end
end PySem.SeqAt
namespace L2
open PySem PySem.Spec PyProof PyProof.Rows PySem.SeqAt
section
variable{X:Cx}{pins:List (Addr × Obj)}{σ : St}{H:Hp}{s:Shared}
end
end L2
namespace PySem
section
variable{M:Program}{w:World}{A:Around}{R:Result→Shared→Prop}{I:Addr}{fp wr:List Addr}{n:Nat}{Pv:Nat→Value→Prop}{St:Nat→Heap→Prop}
end
end PySem
namespace PySem
section
variable{M:Program}{w:World}{A:Around}{E:Value→Shared→Prop}{s:Shared}
end
end PySem
namespace L2
open PySem PySem.Spec PyProof PyProof.Rows PySem.SeqAt
section
variable{X:Cx}
end
end L2
namespace L2
open PySem PySem.Spec PyProof PyProof.Rows
section
variable{X:Cx}
end
end L2
namespace L2
open PySem PySem.Spec PyProof.Rows
abbrev B_:=Str × List (Option Int)
section
variable{P:Program}{w:World}{H:Hp}
end
section
variable{X:Cx}{pins:List (Addr × Obj)}{σ : St}{H:Hp}{s:Shared}{a b:Addr}{k:B_}{kvs:List (B_ × V)}
end
end L2
namespace L2
open PySem PySem.Spec PyProof.Rows
abbrev iS (h:Heap) (z TI TO T:Addr) (f:Bool):Prop:=
 h.get? z=some { cls:=.type "zip", dict:=none,data:=.fields #[rawInt T,.bool f,.bool false,.ref TI,.ref TO],slots:=#[] }
section
variable{prog:Program}{w:World}{A:Around}{E:Value→Shared→Prop}{s:Shared}
theorem kO{a:Addr}{Q:Option Obj→Shared→Prop}(h:Q (s.heap.get? a) s):wpAny (model prog w) A (loadIfAlive a) Q E s:=fun _ _ _=>h
theorem nP{z TI TO T:Addr}{f:Bool}{Q:Bool→Shared→Prop}(hz:iS s.heap z TI TO T f)(hT:∃ o,s.heap.get? T=some o)(hQ:∀ h',iS h' z TI TO T true→Heap.SameBut z s.heap h'→Q false { s with heap:=h' }) :
  wpAny (model prog w) A (Builtin.SmallTypes.ownedTupleIsFree (.ref z)) Q E s:=by
 obtain⟨o,ho⟩:=hT
 unfold Builtin.SmallTypes.ownedTupleIsFree;refine wpAny_bind (wpAny_field hz rfl (x:=rawInt T) rfl ?_)
 show wpAny _ _ (loadIfAlive T >>= _) _ _ _
 refine wpAny_bind (kO ?_)
 rw[ho];show wpAny _ _ (field (.ref z) 1 >>= _) _ _ _
 refine wpAny_bind (wpAny_field hz rfl (x:=.bool f) rfl ?_)
 cases f with
 | false=>
  show wpAny _ _ (setField (.ref z) 1 (.bool true) >>= _) _ _ _
  refine wpAny_bind (wpAny_setField_rec hz (by simp) fun h1 hz1 hs1=>wpAny_pure (hQ h1 hz1 hs1))
 | true=>
  refine wpAny_pure (hQ s.heap hz ⟨rfl,fun _ _=>rfl⟩)
theorem v_{z TI TO T i1 i2 l1 l2:Addr}{f:Bool}{k1 k2:Nat}{xs ys:Array Value}{x y:Value}{Q:Value→Shared→Prop}(D:ZipApart z TI TO i1 i2 l1 l2)
  (hz:iS s.heap z TI TO T f) (hT:∃ o,s.heap.get? T=some o) (hTI:IsPair s.heap TI (.ref i1) (.ref i2))
  (h1:s.heap.IsListIter i1 l1 k1) (h2:s.heap.IsListIter i2 l2 k2) (hl1:s.heap.IsList l1 xs) (hl2:s.heap.IsList l2 ys) (hx:xs[k1]? = some x) (hy:ys[k2]? = some y)
  (hQ:∀ h',iS h' z TI TO T true→h'.IsListIter i1 l1 (k1+1)→h'.IsListIter i2 l2 (k2+1)→IsPair h' s.heap.objs.size x y→h'.objs.size=s.heap.objs.size+1→
   (∀ c o,c≠z→c≠i1→c≠i2→s.heap.get? c=some o→h'.get? c=some o)→Q (.ref s.heap.objs.size) { s with heap:=h' }) :
  wpAny (model prog w) A (Builtin.«zip.__next__» ⟨[.ref z],[]⟩) (fun fin s'=>∃ v,fin = .done (.ret v)∧Q v s') E s:=by
 show wpAny _ _ (field (.ref z) 2 >>= _) _ _ _
 refine wpAny_bind (wpAny_field hz rfl (x:=.bool false) rfl ?_)
 show wpAny _ _ (field (.ref z) 3 >>= _) _ _ _
 refine wpAny_bind (wpAny_field hz rfl (x:=.ref TI) rfl ?_)
 refine wpAny_bind (wpAny_seqItems hTI rfl ?_)
 show wpAny _ _ (Builtin.SmallTypes.ownedTupleIsFree (.ref z) >>= _) _ _ _
 refine wpAny_bind (nP hz hT fun ha hza hsa=>?_)
 simp only[Bool.false_eq_true,if_false]
 refine wpAny_bind ?_
 rw[← Array.forIn_toList];simp only[List.forIn_cons,List.forIn_nil]
 refine wpAny_bind (wpAny_bind (wpAny_holding ?_))
 show wpAny _ _ (Builtin.SmallTypes.nextOf (.ref i1) >>= _) _ _ _
 refine wpAny_bind (wpAny_nextOf_list_item (h1.extBut hsa.extBut D.i1z) (hl1.extBut hsa.extBut D.l1z) hx fun hb h1b hsb=>wpAny_pure ?_)
 refine wpAny_pure ?_
 refine wpAny_bind (wpAny_bind (wpAny_holding ?_))
 show wpAny _ _ (Builtin.SmallTypes.nextOf (.ref i2) >>= _) _ _ _
 refine wpAny_bind (wpAny_nextOf_list_item ((h2.extBut hsa.extBut D.i2z).extBut hsb.extBut D.i12.symm) ((hl2.extBut hsa.extBut D.l2z).extBut hsb.extBut D.l2i1) hy fun hc h2c hsc=>wpAny_pure ?_)
 refine wpAny_pure (wpAny_pure ?_)
 refine wpAny_bind (wpAny_newTuple ?_ (by show 2≤sizeLine; rw[sizeLine_eq]; decide))
 have hsz:hc.objs.size=s.heap.objs.size:=by rw[hsc.1,hsb.1,hsa.1]
 have hzc:iS hc z TI TO T true:=hsc.extBut _ _ D.i2z.symm (hsb.extBut _ _ D.i1z.symm hza)
 have kc:∀ c o,c≠z→c≠i1→c≠i2→s.heap.get? c=some o→hc.get? c=some o:=fun c o c1 c3 c4 e=>hsc.extBut _ _ c4 (hsb.extBut _ _ c3 (hsa.extBut _ _ c1 e))
 have h1c:hc.IsListIter i1 l1 (k1+1):=h1b.extBut hsc.extBut D.i12
 refine wpAny_pure ⟨_,rfl,?_⟩
 show Q (.ref hc.objs.size) _
 rw[hsz];refine hQ (hc.push { cls:=.type "tuple", data:=.seq #[x,y] }) (Heap.get?_push_of_some _ hzc) (h1c.at fun o e=>Heap.get?_push_of_some _ e) (h2c.at fun o e=>Heap.get?_push_of_some _ e) ?_ (by rw[Heap.size_push,hsz]) fun c o c1 c3 c4 e=>Heap.get?_push_of_some _ (kc c o c1 c3 c4 e)
 show (hc.push _).get? s.heap.objs.size=_
 rw[← hsz];exact Heap.get?_push_size _ rfl
theorem xh{z TI TO T i1 i2 l1 l2:Addr}{f:Bool}{k1 k2:Nat}{xs ys:Array Value}{Q:Fin→Shared→Prop}(hh:A.handled=none)(D:ZipApart z TI TO i1 i2 l1 l2)
  (hz:iS s.heap z TI TO T f) (hT:∃ o,s.heap.get? T=some o) (hTI:IsPair s.heap TI (.ref i1) (.ref i2))
  (h1:s.heap.IsListIter i1 l1 k1) (h2:s.heap.IsListIter i2 l2 k2) (hl1:s.heap.IsList l1 xs) (hl2:s.heap.IsList l2 ys) (hend:xs[k1]? = none∨ys[k2]? = none)
  (hE:∀ h' e,(∀ c o,c≠z→c≠i1→c≠i2→s.heap.get? c=some o→h'.get? c=some o)→(∃ o,h'.get? e=some o∧o.cls = .type "StopIteration")→E (.ref e) { s with heap:=h' }) :
  wpAny (model prog w) A (Builtin.«zip.__next__» ⟨[.ref z],[]⟩) Q E s:=by
 show wpAny _ _ (field (.ref z) 2 >>= _) _ _ _
 refine wpAny_bind (wpAny_field hz rfl (x:=.bool false) rfl ?_)
 show wpAny _ _ (field (.ref z) 3 >>= _) _ _ _
 refine wpAny_bind (wpAny_field hz rfl (x:=.ref TI) rfl ?_)
 refine wpAny_bind (wpAny_seqItems hTI rfl ?_)
 show wpAny _ _ (Builtin.SmallTypes.ownedTupleIsFree (.ref z) >>= _) _ _ _
 refine wpAny_bind (nP hz hT fun ha hza hsa=>?_)
 simp only[Bool.false_eq_true,if_false]
 refine wpAny_bind ?_
 rw[← Array.forIn_toList];simp only[List.forIn_cons,List.forIn_nil]
 refine wpAny_bind (wpAny_bind (wpAny_holding ?_))
 show wpAny _ _ (Builtin.SmallTypes.nextOf (.ref i1) >>= _) _ _ _
 cases hx:xs[k1]? with
 | none=>
  refine wpAny_bind (wpAny_nextOf_list_end hh (h1.extBut hsa.extBut D.i1z) (hl1.extBut hsa.extBut D.l1z) hx fun hb e hsb he=>?_)
  exact hE hb e (fun c o c1 c3 _ x=>hsb _ _ c3 (hsa.extBut _ _ c1 x)) he
 | some x=>
  have hy:ys[k2]? = none:=by rcases hend with h | h; rw[hx]at h; cases h; exact h
  refine wpAny_bind (wpAny_nextOf_list_item (h1.extBut hsa.extBut D.i1z) (hl1.extBut hsa.extBut D.l1z) hx fun hb h1b hsb=>wpAny_pure ?_)
  refine wpAny_pure ?_
  refine wpAny_bind (wpAny_bind (wpAny_holding ?_))
  show wpAny _ _ (Builtin.SmallTypes.nextOf (.ref i2) >>= _) _ _ _
  refine wpAny_bind (wpAny_nextOf_list_end hh ((h2.extBut hsa.extBut D.i2z).extBut hsb.extBut D.i12.symm) ((hl2.extBut hsa.extBut D.l2z).extBut hsb.extBut D.l2i1) hy fun hc e hsc he=>?_)
  exact hE hc e (fun c o c1 c3 c4 x=>hsc _ _ c4 (hsb.extBut _ _ c3 (hsa.extBut _ _ c1 x))) he
def ZOs(z TI TO i1 i2 l1 l2:Addr)(xs ys:Array Value)(i:Nat)(h:Heap):Prop:=
 (IsZip h z TI TO .none∨∃ T f,iS h z TI TO T f∧∃ o,h.get? T=some o)∧IsPair h TI (.ref i1) (.ref i2)∧(∃ a b,IsPair h TO a b)∧h.IsListIter i1 l1 i∧h.IsListIter i2 l2 i∧h.IsList l1 xs∧h.IsList l2 ys
theorem wN{z TI TO i1 i2 l1 l2:Addr}{i:Nat}{xs ys:Array Value}{x y:Value}{Q:Option Value→Shared→Prop}(D:ZipApart z TI TO i1 i2 l1 l2)(h:ZOs z TI TO i1 i2 l1 l2 xs ys i s.heap)(hx:xs[i]? = some x)(hy:ys[i]? = some y)
  (hQ:∀ h',ZOs z TI TO i1 i2 l1 l2 xs ys (i+1) h'→IsPair h' s.heap.objs.size x y→h'.objs.size=s.heap.objs.size+1→(∀ c o,c≠z→c≠TO→c≠i1→c≠i2→s.heap.get? c=some o→h'.get? c=some o)→Q (some (.ref s.heap.objs.size)) { s with heap:=h' }) :
  wpAny (model prog w) A (pyNext (.ref z)) Q E s:=by
 obtain⟨hz,hTI,⟨a,b,hTO⟩,h1,h2,hl1,hl2⟩:=h
 rcases hz with hz | ⟨T,f,hz,hT⟩
 ·refine wpAny_pyNext_zip_item D hz hTI hTO h1 h2 hl1 hl2 hx hy fun h' a1 a2 a3 a4 a5 a6 hk=>?_
  exact hQ h' ⟨.inr ⟨s.heap.objs.size,false,a1,_,a5⟩,hk _ _ D.TIz D.TITO D.TIi1 D.TIi2 hTI,⟨_,_,a2⟩,a3,a4,hl1.at fun o e=>hk _ o D.l1z D.l1TO D.l1i1 D.l1i2 e,hl2.at fun o e=>hk _ o D.l2z D.l2TO D.l2i1 D.l2i2 e⟩ a5 a6 hk
 ·have hTy:s.TypeIs (.ref z) "zip" := ⟨_,hz,rfl⟩
  unfold pyNext
  refine wpAny_bind (wpAny_attempt (wpAny_callSpecial?_slot (name:=Str.ofString "__next__") hTy F.slot_zip_next
   (wpAny_call_entry F.slot_zip_next hTy F.entry_zip_next
    (v_ D hz hT hTI h1 h2 hl1 hl2 hx hy fun h' a1 a3 a4 a5 a6 hk=>wpAny_pure (hQ h' ⟨.inr ⟨T,true,a1,?_⟩,hk _ _ D.TIz D.TIi1 D.TIi2 hTI,⟨_,_,hk _ _ D.TOz D.TOi1 D.TOi2 hTO⟩,a3,a4,hl1.at fun o e=>hk _ o D.l1z D.l1i1 D.l1i2 e,hl2.at fun o e=>hk _ o D.l2z D.l2i1 D.l2i2 e⟩ a5 a6 fun c o c1 _ c3 c4 e=>hk c o c1 c3 c4 e)) (F.args_zip_next_1 _))))
  obtain⟨o,ho⟩:=hT
  by_cases c1:T=z
  ·exact⟨_,by rw[c1]; exact a1⟩
  by_cases c2:T=i1
  ·obtain⟨o',e',_⟩:=a3; exact⟨o',by rw[c2]; exact e'⟩
  by_cases c3:T=i2
  ·obtain⟨o',e',_⟩:=a4; exact⟨o',by rw[c3]; exact e'⟩
  exact⟨o,hk _ _ c1 c2 c3 ho⟩
theorem zy{z TI TO i1 i2 l1 l2:Addr}{i:Nat}{xs ys:Array Value}{Q:Option Value→Shared→Prop}(hh:A.handled=none)(D:ZipApart z TI TO i1 i2 l1 l2)(h:ZOs z TI TO i1 i2 l1 l2 xs ys i s.heap)(hend:xs[i]? = none∨ys[i]? = none)
  (hQ:∀ h',(∀ c o,c≠z→c≠TO→c≠i1→c≠i2→s.heap.get? c=some o→h'.get? c=some o)→Q none { s with heap:=h' }):wpAny (model prog w) A (pyNext (.ref z)) Q E s:=by
 obtain⟨hz,hTI,⟨a,b,hTO⟩,h1,h2,hl1,hl2⟩:=h
 rcases hz with hz | ⟨T,f,hz,hT⟩
 ·exact wpAny_pyNext_zip_end hh D hz hTI hTO h1 h2 hl1 hl2 hend hQ
 ·have hTy:s.TypeIs (.ref z) "zip" := ⟨_,hz,rfl⟩
  unfold pyNext
  refine wpAny_bind (wpAny_attempt (wpAny_callSpecial?_slot (name:=Str.ofString "__next__") hTy F.slot_zip_next
   (wpAny_call_entry F.slot_zip_next hTy F.entry_zip_next (xh hh D hz hT hTI h1 h2 hl1 hl2 hend fun h' e hk he=>?_) (F.args_zip_next_1 _))))
  obtain⟨o,ho,hc⟩:=he
  refine wpAny_bind (wpAny_isInstance (T := "StopIteration") (b:=true) ⟨o,ho,hc⟩ isSubtype_stop ?_)
  exact wpAny_pure (hQ _ fun c o c1 _ c3 c4 e=>hk c o c1 c3 c4 e)
theorem ZOs.at{z TI TO i1 i2 l1 l2:Addr}{xs ys:Array Value}{i:Nat}{h h':Heap}(x:ZOs z TI TO i1 i2 l1 l2 xs ys i h)(k:∀ b o,h.get? b=some o→((b=z∨b=TI∨b=TO∨b=i1∨b=i2∨b=l1∨b=l2)→h'.get? b=some o)∧∃ o',h'.get? b=some o'):ZOs z TI TO i1 i2 l1 l2 xs ys i h':=by
 obtain⟨hz,hTI,⟨a,b,hTO⟩,h1,h2,hl1,hl2⟩:=x
 refine⟨?_,(k _ _ hTI).1 (by simp),⟨a,b,(k _ _ hTO).1 (by simp)⟩,h1.at fun o e=>(k _ _ e).1 (by simp),h2.at fun o e=>(k _ _ e).1 (by simp),hl1.at fun o e=>(k _ _ e).1 (by simp),hl2.at fun o e=>(k _ _ e).1 (by simp)⟩
 rcases hz with hz | ⟨T,f,hz,o,hT⟩
 ·exact .inl ((k _ _ hz).1 (by simp))
 ·exact .inr ⟨T,f,(k _ _ hz).1 (by simp),(k _ _ hT).2⟩
def vy(xs ys:Array Value)(B:Nat)(acc:Array Value)(i:Nat)(h:Heap):Prop:=acc.size=i∧∀ j v,acc[j]? = some v→∃ x y,v = .ref (B+j)∧xs[j]? = some x∧ys[j]? = some y∧IsPair h (B+j) x y
theorem sS{R:Result→Shared→Prop}{z TI TO i1 i2 l1 l2:Addr}{xs ys:Array Value}{n:Nat}(hh:A.handled=none)(D:ZipApart z TI TO i1 i2 l1 l2)(hn:n≤1000)(hxy:∀ i,i<n→∃ x y,xs[i]? = some x∧ys[i]? = some y)(hend:xs[n]? = none∨ys[n]? = none)
  (S:Addr) (B:Nat) (hSB:S<B) (hS:∀ b,(b=z∨b=TI∨b=TO∨b=i1∨b=i2∨b=l1∨b=l2)→b<S) (res:Value) :
  ∀ (k i:Nat) (s:Shared) (acc:Array Value) (c:Nat),n - i=k→i≤n→ZOs z TI TO i1 i2 l1 l2 xs ys i s.heap→s.heap.get? S=some { cls:=.type "list", dict:=none,data:=.seq acc c,slots:=#[] }→vy xs ys B acc i s.heap→s.heap.objs.size=B+i→
  (∀ h' acc' c',(∀ b o,b≠S→b≠z→b≠TO→b≠i1→b≠i2→s.heap.get? b=some o→h'.get? b=some o)→h'.get? S=some { cls:=.type "list", dict:=none,data:=.seq acc' c',slots:=#[] }→vy xs ys B acc' n h'→R (.ok (.ret res)) { s with heap:=h' })→
  codeAny (model prog w) A (.builtin "list.extend.loop" ⟨[.ref S,.ref z,res],[]⟩) R s:=by
 have sz:S≠z:=Nat.ne_of_gt (hS z (by simp))
 have sTO:S≠TO:=Nat.ne_of_gt (hS TO (by simp))
 have si1:S≠i1:=Nat.ne_of_gt (hS i1 (by simp))
 have si2:S≠i2:=Nat.ne_of_gt (hS i2 (by simp))
 have bz:∀ j,B+j≠z:=fun j=>Nat.ne_of_gt (Nat.lt_of_lt_of_le (Nat.lt_trans (hS z (by simp)) hSB) (Nat.le_add_right _ _))
 have bTO:∀ j,B+j≠TO:=fun j=>Nat.ne_of_gt (Nat.lt_of_lt_of_le (Nat.lt_trans (hS TO (by simp)) hSB) (Nat.le_add_right _ _))
 have bi1:∀ j,B+j≠i1:=fun j=>Nat.ne_of_gt (Nat.lt_of_lt_of_le (Nat.lt_trans (hS i1 (by simp)) hSB) (Nat.le_add_right _ _))
 have bi2:∀ j,B+j≠i2:=fun j=>Nat.ne_of_gt (Nat.lt_of_lt_of_le (Nat.lt_trans (hS i2 (by simp)) hSB) (Nat.le_add_right _ _))
 have bS:∀ j,B+j≠S:=fun j=>Nat.ne_of_gt (Nat.lt_of_lt_of_le hSB (Nat.le_add_right _ _))
 intro k
 induction k with
 | zero=>
  intro i s acc c hk hi hst hSs hacc hsz hR
  have hin:i=n:=by omega
  subst hin;refine codeAny_builtin F.entry_extend_loop ?_
  rw[Around.under_plainId F.plain_extend_loop _];show wpAny _ A.in1 (pyNext (.ref z) >>= _) _ _ s
  refine wpAny_bind (zy (A:=A.in1) hh D hst hend fun h' hk'=>?_)
  refine wpAny_pure (hR h' acc c (fun b o _ c1 c2 c3 c4 e=>hk' b o c1 c2 c3 c4 e) (hk' _ _ sz sTO si1 si2 hSs) ⟨hacc.1,fun j v e=>?_⟩)
  obtain⟨x,y,e1,e2,e3,e4⟩:=hacc.2 j v e
  exact⟨x,y,e1,e2,e3,hk' _ _ (bz j) (bTO j) (bi1 j) (bi2 j) e4⟩
 | succ k ih=>
  intro i s acc c hk hi hst hSs hacc hsz hR
  have hlt:i<n:=by omega
  obtain⟨x,y,hx,hy⟩:=hxy i hlt
  refine codeAny_builtin F.entry_extend_loop ?_
  rw[Around.under_plainId F.plain_extend_loop _];show wpAny _ A.in1 (pyNext (.ref z) >>= _) _ _ s
  refine wpAny_bind (wN (A:=A.in1) D hst hx hy fun h' hst' hp hsz' hk'=>?_)
  have hS':=hk' _ _ sz sTO si1 si2 hSs;have hs16:sizeLine=16777216:=sizeLine_eq
  show wpAny _ A.in1 (updateSeq S (·.push (.ref s.heap.objs.size)) >>= _) _ _ _
  refine wpAny_bind ?_
  refine wpAny_updateSeq hS' rfl (wpAny_pure ⟨plainId_quiet F.plain_extend_loop _,?_⟩) (by rw[hacc.1]; omega) (by show (acc.push _).size≤sizeLine+1; rw[Array.size_push,hacc.1]; omega)
  have oth:∀ b o,b≠S→h'.get? b=some o→(h'.update S (Obj.mapSeq (·.push (.ref s.heap.objs.size)))).get? b=some o:=fun b o hb e=>(Heap.get?_update_other _ _ (Ne.symm hb)).trans e
  have hself:=Heap.get?_update_self (Obj.mapSeq (·.push (.ref s.heap.objs.size))) hS' rfl;have hszu:(h'.update S (Obj.mapSeq (·.push (.ref s.heap.objs.size)))).objs.size=h'.objs.size:=(Heap.SameBut.update ..).1
  refine ih (i+1) _ (acc.push (.ref s.heap.objs.size)) _ (by omega) hlt (hst'.at fun b o e=>⟨fun hb=>oth b o (Nat.ne_of_lt (hS b hb)) e,?_⟩) hself ⟨by rw[Array.size_push,hacc.1],fun j v e=>?_⟩ ?_ fun h'' acc' c' hk2 hS2 hacc2=>?_
  ·by_cases hb:b=S
   ·subst hb; exact⟨_,hself⟩
   ·exact⟨o,oth b o hb e⟩
  ·rw[Array.getElem?_push]at e
   split at e
   ·rename_i ej
    rw[hacc.1]at ej
    subst ej
    cases e;refine⟨x,y,by rw[hsz],hx,hy,?_⟩
    rw[← hsz];exact oth _ _ (by rw[hsz]; exact bS _) hp
   ·obtain⟨x',y',e1,e2,e3,e4⟩:=hacc.2 j v e
    exact⟨x',y',e1,e2,e3,oth _ _ (bS j) (hk' _ _ (bz j) (bTO j) (bi1 j) (bi2 j) e4)⟩
  ·show (h'.update S _).objs.size=_
   rw[hszu,hsz',hsz]; omega
  ·refine hR h'' acc' c' (fun b o c0 c1 c2 c3 c4 e=>hk2 b o c0 c1 c2 c3 c4 (oth b o c0 (hk' b o c1 c2 c3 c4 e))) hS2 hacc2
theorem sF:typeLookup (.type "zip") "__len__" = pure none:=by rw[typeLookup_type,builtinLookup_eq_fast]; kernel_rfl
theorem rb:typeLookup (.type "zip") "__length_hint__" = pure none:=by rw[typeLookup_type,builtinLookup_eq_fast]; kernel_rfl
theorem ZOs.typ{z TI TO i1 i2 l1 l2:Addr}{xs ys:Array Value}{i:Nat}(h:ZOs z TI TO i1 i2 l1 l2 xs ys i s.heap):s.TypeIs (.ref z) "zip" := by
 rcases h.1 with hz | ⟨T,f,hz,_⟩
 ·exact⟨_,hz,rfl⟩
 ·exact⟨_,hz,rfl⟩
theorem qY{R:Result→Shared→Prop}{z TI TO i1 i2 l1 l2:Addr}{xs ys:Array Value}{n:Nat}(hh:A.handled=none)(D:ZipApart z TI TO i1 i2 l1 l2)(hn:n≤1000)(hxy:∀ i,i<n→∃ x y,xs[i]? = some x∧ys[i]? = some y)(hend:xs[n]? = none∨ys[n]? = none)
  (S:Addr) (hS:∀ b,(b=z∨b=TI∨b=TO∨b=i1∨b=i2∨b=l1∨b=l2)→b<S) (res:Value) (c₀ : Nat) (hz:IsZip s.heap z TI TO .none) (hst:ZOs z TI TO i1 i2 l1 l2 xs ys 0 s.heap) (hSs:s.heap.get? S=some { cls:=.type "list", data:=.seq #[] c₀ }) (hsz:s.heap.objs.size=S+1)
  (hR:∀ h' acc' c',(∀ b o,b≠S→b≠z→b≠TO→b≠i1→b≠i2→s.heap.get? b=some o→h'.get? b=some o)→h'.get? S=some { cls:=.type "list", dict:=none,data:=.seq acc' c',slots:=#[] }→vy xs ys (S+1) acc' n h'→R (.ok (.ret res)) { s with heap:=h' }) :
  wpAny (model prog w) A.in1 (Builtin.List.listExtendWith (.ref S) (.ref z) res)
   (fun fin s'=>match fin with | .done f=>R (.ok f) s' | .again c'=>c'.quiet=true∧codeAny (model prog w) A c' R s') (fun e s'=>R (.error e) s') s:=by
 have sz:S≠z:=Nat.ne_of_gt (hS z (by simp))
 have hty:=hst.typ;unfold Builtin.List.listExtendWith;refine wpAny_bind (wpAny_typeOf hty ?_)
 have h1:Builtin.List.listSameRef (.ref S) (.ref z)=false:=by simp[Builtin.List.listSameRef,sz]
 have h2:(Value.type "zip" == Value.type "list")=false:=by decide
 have h3:(Value.type "zip" == Value.type "tuple")=false:=by decide
 simp only[h1,h2,h3,Bool.or_false,Bool.false_eq_true,if_false]
 refine wpAny_bind (wpAny_pyIter_zip hz ?_)
 refine wpAny_bind (wpAny_holding ?_)
 unfold Builtin.List.listLengthHint;refine wpAny_bind (wpAny_specialOf hty sF ?_)
 show wpAny _ A.in1 (specialOf (Value.ref z) (Str.ofString "__length_hint__") >>= _) _ _ _
 refine wpAny_bind (wpAny_specialOf hty rb ?_)
 refine wpAny_pure ?_
 show wpAny _ A.in1 (rule "list.extend.makes-room" >>= fun _=>Builtin.List.listTouch (.ref S) >>= fun _=>
  again (.builtin "list.extend.loop" ⟨[.ref S,.ref z,res],[]⟩)) _ _ _
 refine wpAny_bind (wpAny_rule ?_)
 refine wpAny_bind ?_
 show wpAny _ A.in1 (updateSeq S (·.push .none) >>= fun _=>updateSeq S (·.pop)) _ _ _
 refine wpAny_bind (wpAny_updateSeq hSs rfl ?_)
 have hS₂:=Heap.get?_update_self (Obj.mapSeq (·.push Value.none)) hSs rfl;refine wpAny_updateSeq hS₂ rfl ?_
 have hS₃:=Heap.get?_update_self (Obj.mapSeq (·.pop)) hS₂ rfl
 have oth:∀ b o,b≠S→s.heap.get? b=some o→((s.heap.update S (Obj.mapSeq (·.push Value.none))).update S (Obj.mapSeq (·.pop))).get? b=some o:=
  fun b o hb e=>(Heap.get?_update_other _ _ (Ne.symm hb)).trans ((Heap.get?_update_other _ _ (Ne.symm hb)).trans e)
 have hz3:((s.heap.update S (Obj.mapSeq (·.push Value.none))).update S (Obj.mapSeq (·.pop))).objs.size=S+1:=by
  rw[(Heap.SameBut.update ..).1,(Heap.SameBut.update ..).1,hsz]
 refine wpAny_pure ⟨plainId_quiet F.plain_extend_loop _,sS (A:=A) hh D hn hxy hend S (S+1) (Nat.lt_succ_self _) hS res n 0 _ _ _ rfl (Nat.zero_le _) (hst.at fun b o e=>⟨fun hb=>oth b o (Nat.ne_of_lt (hS b hb)) e,?_⟩) hS₃ ⟨rfl,fun j v e=>by simp at e⟩ hz3 fun h' acc' c' hk hS' hacc=>?_⟩
 ·by_cases hb:b=S
  ·subst hb; exact⟨_,hS₃⟩
  ·exact⟨o,oth b o hb e⟩
 ·exact hR h' acc' c' (fun b o c0 c1 c2 c3 c4 e=>hk b o c0 c1 c2 c3 c4 (oth b o c0 e)) hS' hacc
theorem ox{Q:Value→Shared→Prop}{z TI TO i1 i2 l1 l2:Addr}{xs ys:Array Value}{n:Nat}(hh:A.handled=none)(D:ZipApart z TI TO i1 i2 l1 l2)(hn:n≤1000)(hxy:∀ i,i<n→∃ x y,xs[i]? = some x∧ys[i]? = some y)(hend:xs[n]? = none∨ys[n]? = none)
  (hz:IsZip s.heap z TI TO .none) (hst:ZOs z TI TO i1 i2 l1 l2 xs ys 0 s.heap)
  (hQ:∀ h' acc' c',(∀ b o,b≠z→b≠TO→b≠i1→b≠i2→s.heap.get? b=some o→h'.get? b=some o)→
   h'.get? s.heap.objs.size=some { cls:=.type "list", dict:=none,data:=.seq acc' c',slots:=#[] }→vy xs ys (s.heap.objs.size+1) acc' n h'→Q (.ref s.heap.objs.size) { s with heap:=h' }) :
  wpAny (model prog w) A (call (.type "list") [.ref z]) Q E s:=by
 have lt:∀ b,(b=z∨b=TI∨b=TO∨b=i1∨b=i2∨b=l1∨b=l2)→b<s.heap.objs.size:=fun b hb=>by
  obtain⟨_,hTI,⟨a',b',hTO⟩,⟨_,h1,_⟩,⟨_,h2,_⟩,⟨_,hl1,_⟩,⟨_,hl2,_⟩⟩:=id hst
  rcases hb with rfl | rfl | rfl | rfl | rfl | rfl | rfl
  ·exact Heap.lt_size hz
  ·exact Heap.lt_size hTI
  ·exact Heap.lt_size hTO
  ·exact Heap.lt_size h1
  ·exact Heap.lt_size h2
  ·exact Heap.lt_size hl1
  ·exact Heap.lt_size hl2
 refine callType_codes (Q₁:=fun obj s₁=>obj = .ref s.heap.objs.size∧s₁={ s with heap:=s.heap.push { cls:=.type "list", data:=.seq #[] } }) F.called_list (F.typeCall_list_1 _) F.entry_list_init
  (code_list_new _ ⟨rfl,rfl⟩) fun obj s₁ h₁=>?_
 obtain⟨rfl,rfl⟩:=h₁
 have hS:(s.heap.push { cls:=.type "list", data:=.seq #[] }).get? s.heap.objs.size=some { cls:=.type "list", data:=.seq #[] }:=Heap.get?_push_size _ rfl
 refine⟨⟨_,hS,rfl⟩,F.args_list_init_2 _ _,?_⟩
 show wpAny _ _ (do let old ← Builtin.List.listItems (.ref s.heap.objs.size); Builtin.List.listUpdate (.ref s.heap.objs.size) (fun _=>#[]); letGo old.toList.reverse; Builtin.List.listExtendWith (.ref s.heap.objs.size) (.ref z) .none) _ _ _
 refine wpAny_bind ?_
 unfold Builtin.List.listItems;refine wpAny_bind (wpAny_seqItems hS rfl (wpAny_pure ?_))
 show wpAny _ _ (updateSeq s.heap.objs.size (fun _=>#[]) >>= fun _=>letGo (#[]:Array Value).toList.reverse >>= fun _=>Builtin.List.listExtendWith (.ref s.heap.objs.size) (.ref z) .none) _ _ _
 refine wpAny_bind (wpAny_updateSeq hS rfl ?_)
 have hS₂:=Heap.get?_update_self (Obj.mapSeq (fun _=>(#[]:Array Value))) hS rfl
 have oth:∀ b o,b≠s.heap.objs.size→s.heap.get? b=some o→((s.heap.push { cls:=.type "list", data:=.seq #[] }).update s.heap.objs.size (Obj.mapSeq (fun _=>(#[]:Array Value)))).get? b=some o:=
  fun b o hb e=>(Heap.get?_update_other _ _ (Ne.symm hb)).trans (Heap.get?_push_of_some _ e)
 refine wpAny_bind (wpAny_letGo ?_)
 have hk0:∀ b o,s.heap.get? b=some o→((s.heap.push { cls:=.type "list", data:=.seq #[] }).update s.heap.objs.size (Obj.mapSeq (fun _=>(#[]:Array Value)))).get? b=some o:=fun b o e=>oth b o (Nat.ne_of_lt (Heap.lt_size e)) e
 refine qY (A:=A.in1) hh D hn hxy hend s.heap.objs.size lt .none _ (hk0 _ _ hz) (hst.at fun b o e=>⟨fun _=>hk0 b o e,o,hk0 b o e⟩) hS₂ (by show (Heap.update _ _ _).objs.size=_; rw[(Heap.SameBut.update ..).1,Heap.size_push]) fun h' acc' c' hk hS' hacc=>?_
 exact⟨rfl,hQ h' acc' c' (fun b o c1 c2 c3 c4 e=>hk b o (Nat.ne_of_lt (Heap.lt_size e)) c1 c2 c3 c4 (hk0 b o e)) hS' hacc⟩
end
section
variable{X:Cx}{pins:List (Addr × Obj)}{σ : St}{H:Hp}{s:Shared}
theorem Inv.trk{a:Addr}{o:HO}(I:Inv X pins σ H s)(hn:H a=none)(h0:∀ b ob,X.s₀.heap.get? b=some ob→b≠a)(hl:X.env.locals≠a)(hc:∀ x c,X.env.cells.lookup x=some c→c≠a)
  (hp:∀ p∈X.pn++pins,p.1≠a) (ok:ObjOk X.prog X.w (upd H a o) s.heap a o):Inv X pins σ (upd H a o) s:=by
 refine⟨I.ok,I.os,I.bare,⟨I.base.keep,I.base.slot,fun b ob q n z=>?_,I.base.there,fun b xs q=>?_,fun b ob xs q=>?_,fun b ps q=>?_⟩,I.loc,I.cell,?_,fun x c q=>?_,fun p hm=>?_,fun b ob q=>?_,I.len⟩
 ·rw[ai (h0 b ob q)]; exact I.base.free b ob q n z
 ·have:=I.base.tups b xs q; rw[ai (aA this hn)]; exact this
 ·have:=I.base.frzs b ob xs q; rw[ai (aA this hn)]; exact this
 ·obtain⟨m,e⟩:=I.base.tbls b ps q; exact⟨m,by rw[ai (aA e hn)]; exact e⟩
 ·rw[ai hl]; exact I.free
 ·rw[ai (hc x c q)]; exact I.freeC x c q
 ·obtain⟨e1,e2,e3⟩:=I.pin p hm
  exact⟨e1,by rw[ai (hp p hm)]; exact e2,e3⟩
 ·by_cases e:b=a
  ·subst e; rw[show upd H b o b=some o from if_pos rfl]at q; cases q; exact ok
  ·rw[ai e]at q
   exact(I.hok b ob q).stay (fun _ _ _ z=>z) (fun c z=>by rw[ai (aA z hn)]; exact z) fun c xs z=>by rw[ai (aA z hn)]; exact z
end
def y0(K:PySem.W.Frag)(ta:TA):TE:=fun σ H Q=>ta σ H fun vs H1=>∃ (a b:Addr) (xs ys:List V),vs=[.ref a,.ref b]∧SqL K H1 a xs∧SqL K H1 b ys∧xs.length=ys.length∧xs.length≤1000∧
 ∀ (p:Addr) (ts:List Addr) (H2:Hp),Same H1 H2→H1 p=none→H2 p=some (.lst (ts.map V.ref))→ts.length=xs.length→(∀ (j:Nat) (t:Addr),ts[j]? = some t→∃ x y,xs[j]? = some x∧ys[j]? = some y∧H2 t=some (.tup [x,y])∧H1 t=none)→Q (.ref p) H2
section
variable{X:Cx}{pins:List (Addr × Obj)}{σ : St}{H H1:Hp}{s s1:Shared}
theorem Inv.trkF{a:Addr}{o:HO}(I:Inv X pins σ H s)(I1:Inv X pins σ H1 s1)(hb:s1.heap.objs.size≤a)(hn:H a=none)(ok:ObjOk X.prog X.w (upd H a o) s.heap a o):Inv X pins σ (upd H a o) s:=by
 obtain⟨_,f1,_,_,f4,f5⟩:=I1.fpOk (H':=H) hb hn
 exact I.trk hn (fun b ob e=>Nat.ne_of_lt (Nat.lt_of_lt_of_le (Heap.lt_size e) (Nat.le_trans I1.sz hb))) (fun z=>f1 z.symm) f4 f5 ok
theorem rK(I1:Inv X pins σ H1 s1)(B:Nat)(hB:s1.heap.objs.size≤B):∀ (L:List (V × V)) (j:Nat) (H:Hp),Inv X pins σ H s→(∀ i,j≤i→H (B+i)=none)→(∀ i p,L[i]? = some p→∃ u v,RelV p.1 u∧RelV p.2 v∧IsPair s.heap (B+(j+i)) u v)→
  ∃ H2,Inv X pins σ H2 s∧Same H H2∧∀ i p,L[i]? = some p→H2 (B+(j+i))=some (.tup [p.1,p.2])
 | [],j,H,I,_,_=>⟨H,I,fun _ _ e=>e,fun i p e=>by simp at e⟩
 | p::L,j,H,I,hn,hp=>by
  obtain⟨u,v,ru,rv,e0⟩:=hp 0 p rfl
  have hs:sizeLine=16777216:=sizeLine_eq
  have hnj:=hn j (Nat.le_refl _);have I2:=I.trkF (a:=B+j) (o:=.tup [p.1,p.2]) I1 (Nat.le_trans hB (Nat.le_add_right _ _)) hnj ⟨by simp[hs],[u,v],.cons ru (.cons rv .nil),_,e0,rfl,rfl,_,rfl⟩
  obtain⟨H2,J,sm,hh⟩:=rK I1 B hB L (j+1) (upd H (B+j) (.tup [p.1,p.2])) I2 (fun i hi=>by
   have ne:B+i≠B+j:=(show (@Ne Nat (B+i) (B+j):Prop) by omega)
   rw[ai ne]; exact hn i (by omega)) (fun i q e=>by
   obtain⟨u',v',r1,r2,r3⟩:=hp (i+1) q (by rw[List.getElem?_cons_succ]; exact e)
   refine⟨u',v',r1,r2,?_⟩
   rw[show B+(j+1+i)=B+(j+(i+1)) by omega]; exact r3)
  refine⟨H2,J,(al hnj _).trans sm,fun i q e=>?_⟩
  cases i with
  | zero=>cases e; exact sm _ _ ae
  | succ i=>
   rw[show B+(j+(i+1))=B+(j+1+i) by omega]
   exact hh i q (by rw[List.getElem?_cons_succ]at e; exact e)
end
theorem EN{n l1 l2:Addr}(h1:l1<n)(h2:l2<n):ZipApart (n+4) (n+2) (n+3) n (n+1) l1 l2:=by
 have a:=CS n;have k1:∀ j,l1≠n+j:=fun j=>Nat.ne_of_lt (Nat.lt_of_lt_of_le h1 (Nat.le_add_right _ _))
 have k2:∀ j,l2≠n+j:=fun j=>Nat.ne_of_lt (Nat.lt_of_lt_of_le h2 (Nat.le_add_right _ _))
 exact⟨a.TIz,a.TOz,a.i1z,a.i2z,a.TITO,a.TIi1,a.TIi2,a.TOi1,a.TOi2,a.i12,k1 4,k1 3,Nat.ne_of_lt h1,k1 1,k2 4,k2 3,Nat.ne_of_lt h2,k2 1⟩
theorem tY(K:PySem.W.Frag){X:Cx}{m:Nat}{a b:Expr}{ta:TA}{p p2 pos pos2:Pos}(hr:Room m X.A)(hg:Gl X "list") (hm:X.mg "list" = none) (hg2:Gl X "zip") (hm2:X.mg "zip" = none) (ha:PA X [a,b] ta)
  (hs:starEach [a,b] X.env=[(false,eval a X.env),(false,eval b X.env)]:=by rfl) (hs1:starEach [b] X.env=[(false,eval b X.env)]:=by rfl) (hs2:starEach [.Call (.Name "zip" p2) [a,b] [] pos2] X.env=[(false,eval (.Call (.Name "zip" p2) [a,b] [] pos2) X.env)]:=by rfl) (hK:X.K=K:=by rfl) :
  PE X (.Call (.Name "list" p) [.Call (.Name "zip" p2) [a,b] [] pos2] [] pos) (y0 K ta):=by
 subst hK;intro pins s σ H Q I h
 refine Call_ (fC I hg hm iN (PyProof.Rows.callWith_type1 ?_ hs2 rfl))
 rw[hs2];show wpAny _ _ (spliced ((false,eval (.Call (.Name "zip" p2) [a,b] [] pos2) X.env)::[])) _ _ s
 refine Calls.spliced_cons ?_
 refine Call_ (fC I hg2 hm2 oV (PyProof.Rows.callWith_type1 (ba (ha pos2 pins s σ H _ I h) fun us s1 ⟨vs,H1,I1,r1,q1⟩=>?_) (by rw[hs,hs1]) (by rw[hs1]; rfl)))
 obtain⟨l1,l2,xs,ys,e,h1,h2,hlen,hle,q⟩:=q1
 subst e;obtain⟨u1,u2,rfl,r1,r2⟩:=oN r1
 cases r1
 cases r2;obtain⟨is1,v1,p1,_⟩:=I1.list h1
 obtain⟨is2,v2,p2,_⟩:=I1.list h2
 have n1:is1.length=xs.length:=v1.length.symm
 have n2:is2.length=xs.length:=by rw[hlen]; exact v2.length.symm
 refine call_zip_2 p1.isList p2.isList fun h' a1 a2 a3 a4 a5 a6 kk=>?_
 refine Calls.spliced_nil ?_
 obtain⟨_,b1,_⟩:=id p1.isList
 obtain⟨_,b2,_⟩:=id p2.isList
 refine ox (s:={ s1 with heap:=h' }) (xs:=is1.toArray) (ys:=is2.toArray) (n:=xs.length) hr.hd (EN (Heap.lt_size b1) (Heap.lt_size b2)) hle (fun i hi=>⟨is1[i]'(by omega),is2[i]'(by omega),by simp[n1,hi],by simp[n2,hi]⟩) (.inl (by simp[n1])) a1 ⟨.inl a1,a2,⟨_,_,a3⟩,a4,a5,p1.isList.at fun o e=>kk _ o e,p2.isList.at fun o e=>kk _ o e⟩ fun h'' acc' c' hk hS hacc=>?_
 have I2:Inv X pins σ H1 { s1 with heap:=h'' }:=I1.kept (t':=s1.toks) fun b o e=>by
  have hb:=Heap.lt_size e;have ne:∀ j,b≠s1.heap.objs.size+j:=fun j=>Nat.ne_of_lt (Nat.lt_of_lt_of_le hb (Nat.le_add_right _ _))
  exact hk b o (ne 4) (ne 3) (Nat.ne_of_lt hb) (ne 1) (kk b o e)
 have hS':h''.get? h'.objs.size=some { cls:=.type "list", dict:=none,data:=.seq acc' c',slots:=#[] }:=hS
 have hacc':vy is1.toArray is2.toArray (h'.objs.size+1) acc' xs.length h'':=hacc
 have hsz:s1.heap.objs.size≤h'.objs.size:=by rw[a6]; exact Nat.le_add_right _ _
 have hsl:sizeLine=16777216:=sizeLine_eq
 have hn0:∀ b,h'.objs.size≤b→H1 b=none:=fun b hb=>I1.hok.fresh (Nat.le_trans hsz hb)
 have hat:∀ j,j<xs.length→acc'[j]? = some (.ref (h'.objs.size+1+j))∧∃ u v,is1[j]? = some u∧is2[j]? = some v∧IsPair h'' (h'.objs.size+1+j) u v:=fun j hj=>by
  have hj':j<acc'.size:=by rw[hacc'.1]; exact hj
  have e:=Array.getElem?_eq_getElem hj';obtain⟨x,y,e1,e2,e3,e4⟩:=hacc'.2 j _ e
  exact⟨by rw[e,e1],x,y,by simpa using e2,by simpa using e3,e4⟩
 have I3:=I2.trkF (a:=h'.objs.size) (o:=.lst (((List.range xs.length).map fun j=>h'.objs.size+1+j).map V.ref)) I1 hsz (hn0 _ (Nat.le_refl _)) ⟨by simp; omega,acc'.toList,c',m7 _ _ (by simp[hacc'.1]) fun j x w' e1 e2=>by
  have hj:j<xs.length:=by
   refine Classical.byContradiction fun hn=>?_
   rw[List.getElem?_eq_none (by simp; omega)]at e1; cases e1
  rw[List.getElem?_map,List.getElem?_map,List.getElem?_range hj]at e1
  cases e1;have e3:=(hat j hj).1;rw[← Array.getElem?_toList,e2]at e3
  cases e3;exact rfl,by simpa using hS'⟩
 obtain⟨H2,I4,sm,ht⟩:=rK I1 (h'.objs.size+1) (Nat.le_trans hsz (Nat.le_succ _)) (xs.zip ys) 0 _ I3 (fun i _=>by
  have ne:h'.objs.size+1+i≠h'.objs.size:=(show (@Ne Nat (h'.objs.size+1+i) (h'.objs.size):Prop) by omega)
  rw[ai ne]
  exact hn0 _ (Nat.le_trans (Nat.le_succ _) (Nat.le_add_right _ _))) (fun i p e=>by
  have hi:i<xs.length:=by have:=(List.getElem?_eq_some_iff.mp e).1; rw[List.length_zip,← hlen,Nat.min_self]at this; exact this
  obtain⟨_,u,v,f1,f2,f3⟩:=hat i hi
  rw[List.getElem?_zip_eq_some]at e
  refine⟨u,v,gQ v1 e.1 f1,gQ v2 e.2 f2,?_⟩
  rw[Nat.zero_add]; exact f3)
 refine⟨.ref h'.objs.size,H2,I4,rfl,q h'.objs.size ((List.range xs.length).map fun j=>h'.objs.size+1+j) H2 ((al (hn0 _ (Nat.le_refl _)) _).trans sm) (hn0 _ (Nat.le_refl _)) (sm _ _ ae) (by simp) (fun j t e=>?_)⟩
 have hj:j<xs.length:=by have:=(List.getElem?_eq_some_iff.mp e).1; simpa using this
 rw[List.getElem?_map,List.getElem?_range hj]at e
 cases e;have hj2:j<ys.length:=by omega
 refine⟨xs[j],ys[j],List.getElem?_eq_getElem hj,List.getElem?_eq_getElem hj2,?_,hn0 _ (Nat.le_trans (Nat.le_succ _) (Nat.le_add_right _ _))⟩
 have:=ht j (xs[j],ys[j]) (by rw[List.getElem?_zip_eq_some]; exact⟨List.getElem?_eq_getElem hj,List.getElem?_eq_getElem hj2⟩)
 rw[Nat.zero_add]at this
 exact this
end L2
namespace L2
open PySem PySem.Spec PyProof.Rows PySem.SeqAt PySem.Builtin PySem.Builtin.Str PySem.StrLaws
end L2
namespace L2
open PySem
def gM(M i:Nat):Nat:=(i * 5+1) % M
def lh(M:Nat):Nat→Nat→Nat
 | 0,i=>i
 | t+1,i=>lh M t (gM M i)
theorem kx(M:Nat):∀ (a b i:Nat),lh M (a+b) i=lh M b (lh M a i)
 | 0,b,i=>by rw[Nat.zero_add]; rfl
 | a+1,b,i=>by rw[show a+1+b=(a+b)+1 by omega]; exact kx M a b (gM M i)
def wZ(M:Nat):Nat→Nat→List Nat
 | 0,_=>[]
 | n+1,i=>i::wZ M n (gM M i)
theorem sw(M:Nat):∀ (n i e:Nat),e∈wZ M n i→∃ t,t<n∧lh M t i=e
 | 0,i,e,h=>by cases h
 | n+1,i,e,h=>by
  rcases List.mem_cons.mp h with rfl | h
  ·exact⟨0,by omega,rfl⟩
  ·obtain⟨t,ht,q⟩:=sw M n (gM M i) e h
   exact⟨t+1,by omega,q⟩
theorem zw{M:Nat}(hM:M∈[8,16,32,64,128,256]){i e:Nat}(hi:i<M)(he:e<M):∃ t,t<M∧lh M t i=e:=by
 have h1:∀ M∈[8,16,32,64,128,256],lh M M 0=0∧(List.range M).all (fun e=>(wZ M M 0).contains e)=true:=by decide +kernel
 obtain⟨h0,hall⟩:=h1 M hM
 rw[List.all_eq_true]at hall
 have meet:∀ e,e<M→∃ t,t<M∧lh M t 0=e:=fun e he=>sw M M 0 e (by have:=hall e (List.mem_range.mpr he); simpa using this)
 obtain⟨a,ha,ea⟩:=meet i hi
 obtain⟨b,hb,eb⟩:=meet e he
 rcases Nat.lt_or_ge b a with z | z
 ·refine⟨b+M - a,by omega,?_⟩
  rw[← ea,← kx,show a+(b+M - a)=M+b by omega,kx,h0,eb]
 ·refine⟨b - a,by omega,?_⟩
  rw[← ea,← kx,show a+(b - a)=b by omega,eb]
def jY(mask:Nat):Nat→Nat→Nat→Nat
 | 0,i,p=>i
 | t+1,i,p=>jY mask t ((i * 5+1+p / 32) % (mask+1)) (p / 32)
theorem qj(mask:Nat):∀ (t i:Nat),jY mask t i 0=lh (mask+1) t i
 | 0,i=>rfl
 | t+1,i=>by
  show jY mask t ((i * 5+1+0 / 32) % (mask+1)) (0 / 32)=lh (mask+1) t (gM (mask+1) i)
  rw[Nat.zero_div,Nat.add_zero];exact qj mask t _
theorem rq(mask:Nat):∀ (a b i p:Nat),jY mask (a+b) i p=jY mask b (jY mask a i p) (p / 32 ^ a)
 | 0,b,i,p=>by rw[Nat.zero_add,Nat.pow_zero,Nat.div_one]; rfl
 | a+1,b,i,p=>by
  rw[show a+1+b=(a+b)+1 by omega]
  show jY mask (a+b) _ (p / 32)=jY mask b (jY mask a _ (p / 32)) _
  rw[rq mask a b,Nat.div_div_eq_div_mul,Nat.pow_succ,Nat.mul_comm (32 ^ a) 32]
theorem u9(mask:Nat):∀ (t i p:Nat),i≤mask→jY mask t i p≤mask
 | 0,i,p,h=>h
 | t+1,i,p,h=>u9 mask t _ _ (by have:=Nat.mod_lt (i * 5+1+p / 32) (show 0<mask+1 by omega); omega)
theorem Ax(mask i:Nat):i≤SetTable.runEnd mask i:=by unfold SetTable.runEnd; split <;> omega
theorem nX{mask:Nat}{owner:Array (Option Nat)}:∀ (f i p:Nat),SetTable.layClean.free mask owner f i p=none→∀ t,t<f→(owner.getD (jY mask t i p) (some 0)).isNone=false
 | 0,i,p,h,t,ht=>by omega
 | f+1,i,p,h,t,ht=>by
  unfold SetTable.layClean.free at h;split at h
  ·cases h
  ·rename_i hf
   rw[List.find?_eq_none]at hf
   cases t with
   | zero=>
    have t:=hf 0 (List.mem_range.mpr (by have:=Ax mask i; omega))
    rw[Nat.add_zero]at t
    exact Bool.eq_false_iff.mpr t
   | succ t=>exact nX f _ _ h t (by omega)
theorem nY{mask:Nat}{owner:Array (Option Nat)}{j:Nat}:∀ (f i p:Nat),SetTable.layClean.free mask owner f i p=some j→(owner.getD j (some 0)).isNone=true
 | 0,i,p,h=>by unfold SetTable.layClean.free at h; cases h
 | f+1,i,p,h=>by
  unfold SetTable.layClean.free at h;split at h
  ·rename_i k hf
   cases h;exact @List.find?_some _ (fun k=>(owner.getD (i+k) (some 0)).isNone) _ _ hf
  ·exact nY f _ _ h
theorem zQ(h:Int):SetTable.bits h<2 ^ 64:=by
 unfold SetTable.bits;omega
theorem zk{mask:Nat}(hM:mask+1∈[8,16,32,64,128,256]){owner:Array (Option Nat)}{e:Nat}(he:e≤mask)(hn:(owner.getD e (some 0)).isNone=true)(h:Int) :
  ∃ j,SetTable.layClean.free mask owner (SetTable.turns mask) (SetTable.bits h % (mask+1)) (SetTable.bits h)=some j∧(owner.getD j (some 0)).isNone=true:=by
 cases q:SetTable.layClean.free mask owner (SetTable.turns mask) (SetTable.bits h % (mask+1)) (SetTable.bits h) with
 | some j=>exact⟨j,rfl,nY _ _ _ q⟩
 | none=>
  exfalso
  have hno:=nX _ _ _ q;have hi:SetTable.bits h % (mask+1)≤mask:=by have:=Nat.mod_lt (SetTable.bits h) (show 0<mask+1 by omega); omega
  obtain⟨t,ht,et⟩:=zw hM (i:=jY mask 13 (SetTable.bits h % (mask+1)) (SetTable.bits h)) (e:=e) (by have:=u9 mask 13 _ (SetTable.bits h) hi; omega) (by omega)
  have z:=hno (13+t) (by unfold SetTable.turns; omega)
  have hz:SetTable.bits h / 32 ^ 13=0:=Nat.div_eq_of_lt (Nat.lt_of_lt_of_le (zQ h) (by decide))
  rw[rq,hz,qj,et,hn]at z
  cases z
theorem uz{α : Type}(f g:Nat→Option α)(j:Nat)(k:α)(hf:f j=none)(hg:g j=some k)(he:∀ i,i≠j→g i=f i):∀ (l:List Nat),l.Nodup→(j∈l→(l.filterMap g).Perm (k::l.filterMap f))∧(j∉l→l.filterMap g=l.filterMap f)
 | [],_=>⟨fun h=>(nomatch h),fun _=>rfl⟩
 | a::l,nd=>by
  rw[List.nodup_cons]at nd
  have ih:=uz f g j k hf hg he l nd.2
  by_cases e:a=j
  ·subst e
   refine⟨fun _=>?_,fun h=>absurd List.mem_cons_self h⟩
   rw[List.filterMap_cons_some hg,List.filterMap_cons_none hf,ih.2 nd.1]
  ·refine⟨fun h=>?_,fun h=>?_⟩
   ·have hl:j∈l:=by
     rcases List.mem_cons.mp h with z | z
     ·exact absurd z.symm e
     ·exact z
    have:=ih.1 hl
    cases q:f a with
    | none=>rw[List.filterMap_cons_none (by rw[he a e]; exact q),List.filterMap_cons_none q]; exact this
    | some x=>
     rw[List.filterMap_cons_some (by rw[he a e]; exact q),List.filterMap_cons_some q]
     exact(this.cons x).trans (List.Perm.swap _ _ _)
   ·have hl:j∉l:=fun z=>h (List.mem_cons_of_mem _ z)
    cases q:f a with
    | none=>rw[List.filterMap_cons_none (by rw[he a e]; exact q),List.filterMap_cons_none q,ih.2 hl]
    | some x=>rw[List.filterMap_cons_some (by rw[he a e]; exact q),List.filterMap_cons_some q,ih.2 hl]
structure rT (mask:Nat) (owner:Array (Option Nat)) (k:Nat):Prop where
 sz:owner.size=mask+1
 pm:((List.range (mask+1)).filterMap (fun j=>owner.getD j none)).Perm (List.range k)
theorem xZ{mask:Nat}{owner:Array (Option Nat)}{k j:Nat}(h:rT mask owner k)(hj:(owner.getD j (some 0)).isNone=true):rT mask (owner.setIfInBounds j (some k)) (k+1):=by
 have hlt:j<owner.size:=by
  rcases Nat.lt_or_ge j owner.size with z | z
  ·exact z
  ·rw[Array.getD_eq_getD_getElem?,Array.getElem?_eq_none z]at hj; cases hj
 have hjn:owner.getD j none=none:=by
  rw[Array.getD_eq_getD_getElem?,Array.getElem?_eq_getElem hlt]at hj ⊢
  simpa using hj
 refine⟨by rw[Array.size_setIfInBounds]; exact h.sz,?_⟩
 have:=(uz (fun i=>owner.getD i none) (fun i=>(owner.setIfInBounds j (some k)).getD i none) j k hjn (by simp[Array.getD_eq_getD_getElem?,Array.getElem?_setIfInBounds,hlt]) (fun i hi=>by simp[Array.getD_eq_getD_getElem?,Array.getElem?_setIfInBounds,Ne.symm hi]) (List.range (mask+1)) List.nodup_range).1 (List.mem_range.mpr (by have:=h.sz; omega))
 refine this.trans ((h.pm.cons k).trans ?_)
 rw[List.range_succ];exact(List.perm_append_comm (l₁:=[k]) (l₂:=List.range k))
theorem yj{mask:Nat}{owner:Array (Option Nat)}{k:Nat}(h:rT mask owner k)(hk:k≤mask):∃ e,e≤mask∧(owner.getD e (some 0)).isNone=true:=by
 refine Classical.byContradiction fun hn=>?_
 have hall:∀ e∈List.range (mask+1),(owner.getD e none).isSome=true:=fun e he=>by
  have he':=List.mem_range.mp he;have hlt:e<owner.size:=by rw[h.sz]; exact he'
  cases q:(owner.getD e (some 0)).isNone with
  | true=>exact absurd ⟨e,by omega,q⟩ hn
  | false=>
   rw[Array.getD_eq_getD_getElem?,Array.getElem?_eq_getElem hlt]at q ⊢
   cases z:owner[e] with
   | none=>rw[z]at q; cases q
   | some x=>simp[z]
 have hl:((List.range (mask+1)).filterMap (fun j=>owner.getD j none)).length=mask+1:=by
  have gen:∀ (l:List Nat),(∀ e∈l,(owner.getD e none).isSome=true)→(l.filterMap (fun j=>owner.getD j none)).length=l.length:=by
   intro l
   induction l with
   | nil=>intro _; rfl
   | cons a l ih=>
    intro ha
    obtain⟨x,hx⟩:=Option.isSome_iff_exists.mp (ha a List.mem_cons_self)
    rw[List.filterMap_cons_some (f:=fun j=>owner.getD j none) hx,List.length_cons,List.length_cons,ih fun e he=>ha e (List.mem_cons_of_mem _ he)]
  rw[gen _ hall,List.length_range]
 have:=h.pm.length_eq
 rw[hl,List.length_range]at this
 omega
theorem pD{mask:Nat}(hM:mask+1∈[8,16,32,64,128,256]):∀ (hs:List Int) (owner:Array (Option Nat)) (k:Nat),rT mask owner k→k+hs.length≤mask+1→
  ∃ owner',hs.foldl (fun (acc:Option (Array (Option Nat) × Nat)) h=>do
   let (owner,k) ← acc
   let j ← SetTable.layClean.free mask owner (SetTable.turns mask) (SetTable.bits h % (mask+1)) (SetTable.bits h)
   pure (owner.setIfInBounds j (some k),k+1)) (some (owner,k))=some (owner',k+hs.length)∧rT mask owner' (k+hs.length)
 | [],owner,k,h,_=>⟨owner,rfl,h⟩
 | x::hs,owner,k,h,hl=>by
  rw[List.length_cons]at hl
  obtain⟨e,he,hn⟩:=yj h (by omega)
  obtain⟨j,ej,hj⟩:=zk hM he hn x
  obtain⟨o',e',h'⟩:=pD hM hs _ (k+1) (xZ h hj) (by omega)
  refine⟨o',?_,by rw[List.length_cons,show k+(hs.length+1)=k+1+hs.length by omega]; exact h'⟩
  rw[List.foldl_cons,List.length_cons,show k+(hs.length+1)=k+1+hs.length by omega,← e']
  congr 1
  show (some (owner,k)).bind _=_
  rw[Option.bind_some];show (SetTable.layClean.free mask owner (SetTable.turns mask) (SetTable.bits x % (mask+1)) (SetTable.bits x)).bind _=_
  rw[ej]; rfl
theorem zj(mask:Nat):rT mask (Array.replicate (mask+1) none) 0:=by
 refine⟨by simp,?_⟩
 have:(List.range (mask+1)).filterMap (fun j=>(Array.replicate (mask+1) (none:Option Nat)).getD j none)=[]:=by
  rw[List.filterMap_eq_nil_iff];intro j _
  rw[Array.getD_eq_getD_getElem?,Array.getElem?_replicate];split <;> rfl
 rw[this];exact List.Perm.refl _
theorem se{mask:Nat}(hM:mask+1∈[8,16,32,64,128,256])(f m:Nat)(led plain:Bool)(hs:Array Int)(hl:hs.size≤mask) :
  ∃ t order,SetTable.laid mask f m led plain hs=some (t,order)∧order.toList.Perm (List.range hs.size)∧t.mask=mask∧t.place.size=hs.size∧t.dummies = #[]∧t.led=led:=by
 obtain⟨owner,e,h⟩:=pD hM hs.toList _ 0 (zj mask) (by simp; omega)
 rw[Nat.zero_add]at e h
 have ec:SetTable.layClean mask hs=some owner:=by
  unfold SetTable.layClean;rw[← Array.foldl_toList];rw[e]; rfl
 unfold SetTable.laid;rw[ec];refine⟨_,_,rfl,?_,rfl,?_,rfl,rfl⟩
 ·show (((List.range (mask+1)).filterMap fun j=>(owner.getD j none).map (j,·)).map (·.2)).toArray.toList.Perm _
  rw[List.map_filterMap]
  have:(fun j=>Option.map (fun x:Nat × Nat=>x.2) ((owner.getD j none).map (j,·)))=fun j=>owner.getD j none:=by
   funext j
   cases owner.getD j none <;> rfl
  rw[this]
  simpa using h.pm
 ·show (((List.range (mask+1)).filterMap fun j=>(owner.getD j none).map (j,·)).map (·.1)).toArray.size=_
  have h2:=h.pm.length_eq
  have h3:((List.range (mask+1)).filterMap fun j=>(owner.getD j none).map (j,·)).length=((List.range (mask+1)).filterMap fun j=>owner.getD j none).length:=by
   have:((List.range (mask+1)).filterMap fun j=>owner.getD j none)=((List.range (mask+1)).filterMap fun j=>(owner.getD j none).map (j,·)).map (·.2):=by
    rw[List.map_filterMap]
    congr 1
    funext j
    cases owner.getD j none <;> rfl
   rw[this,List.length_map]
  simp only[List.size_toArray,List.length_map]
  rw[h3,h2,List.length_range]; simp
theorem xu:∀ n,n≤240→SetTable.sizeAbove n - 1+1∈[8,16,32,64,128,256]∧n≤SetTable.sizeAbove n - 1:=by decide +kernel
end L2
namespace L2
open PySem PySem.Spec PyProof.Rows PySem.SeqAt
section
variable{prog:Program}{w:World}{K:Type}[DecidableEq K]{knd:KeyKind prog w K}{A:Around}{E:Value→Shared→Prop}{s:Shared}{L:Bool}
theorem vC{es:Array (Int × Value)}{order:Array Nat}(hp:order.toList.Perm (List.range es.size)):(order.filterMap (es[·]?)).toList.Perm es.toList:=by
 rw[Array.toList_filterMap];exact(hp.filterMap _).trans (by rw[filterMap_getElem?_range])
theorem mw{mask f m:Nat}{led plain:Bool}{hs:Array Int}{t:SetTable}{order:Array Nat}(e:SetTable.laid mask f m led plain hs=some (t,order)):fw t.place:=by
 unfold SetTable.laid at e
 cases ho:SetTable.layClean mask hs with
 | none=>rw[ho]at e; cases e
 | some owner=>
  rw[ho]at e
  cases e;refine gO ?_
  refine List.pairwise_map.mpr ?_
  refine List.Pairwise.filterMap _ ?_ List.pairwise_lt_range
  intro a b hab x hx y hy
  obtain⟨k,_,rfl⟩:=Option.map_eq_some_iff.mp hx
  obtain⟨k',_,rfl⟩:=Option.map_eq_some_iff.mp hy
  exact hab
def Ag(mask:Nat):Prop:=mask+1∈[8,16,32,64,128,256]
def SetX(knd:KeyKind prog w K)(L:Bool)(h:Heap)(a:Addr)(S:K→Bool)(n m:Nat):Prop:=∃ o es ep t,h.get? a=some o∧j9 knd (bn L) o es ep t S n∧Ag t.mask∧m≤t.mask∧t.dummies = #[]
theorem SetX.g{h:Heap}{a:Addr}{S:K→Bool}{n m:Nat}(x:SetX knd L h a S n m):SetG knd (bn L) h a S n:=let ⟨o,es,ep,t,ho,T,_⟩:=x; ⟨o,es,ep,t,ho,T⟩
theorem ly{o:Obj}{es es':Array (Int × Value)}{ep:Nat}{t t':SetTable}{S:K→Bool}{n:Nat}(T:j9 knd (bn L) o es ep t S n)(hp:es'.toList.Perm es.toList)(hf:t'.fits es'.size=true)(hg:bn L t'):∀ {o':Obj} {ep':Nat},o'.ExactSet→o'.data = .set es' ep' t'→j9 knd (bn L) o' es' ep' t' S n:=fun {o' ep'} ex da=>by
 have hsz:es'.size=es.size:=by rw[← Array.length_toList,hp.length_eq,Array.length_toList]
 exact⟨ex,da,T.el.perm hp,fun k'=>(T.mem k').trans ⟨fun ⟨e,he,q⟩=>⟨e,hp.mem_iff.mpr he,q⟩,fun ⟨e,he,q⟩=>⟨e,hp.mem_iff.mp he,q⟩⟩,by rw[hsz]; exact T.few,hf,by rw[hsz]; exact T.num,hg,T.apart.perm hp⟩
theorem sa{t:SetTable}{n:Nat}(h1:t.place.size=n)(h2:t.dummies = #[])(h3:n≤t.mask):t.fits n=true:=by
 unfold SetTable.fits SetTable.fill;rw[h1,h2];simp
 omega
theorem va{a:Addr}{S:K→Bool}{n wanted:Nat}{Q:Unit→Shared→Prop}(hS:SetG knd (bn L) s.heap a S n)(hw:wanted≤240)(hn:n≤wanted)
  (h:∀ h',Heap.SameBut a s.heap h'→SetX knd L h' a S n wanted→Q () { s with heap:=h' }):wpAny (model prog w) A (setRelay a wanted) Q E s:=by
 obtain⟨o,es,ep,t,ho,T⟩:=hS
 obtain⟨hM,hm⟩:=xu wanted hw
 unfold setRelay;refine wpAny_bind (wpAny_setState_of ho T.dat T.fit ?_)
 dsimp only
 have hsa:¬ SetTable.sizeAbove wanted>sizeLine:=by
  have:SetTable.sizeAbove wanted - 1+1≤256:=by
   simp only[List.mem_cons,List.not_mem_nil,or_false]at hM
   omega
  have hs:sizeLine=16777216:=sizeLine_eq
  omega
 rw[if_neg hsa];obtain⟨t',order,e,hp,hmask,hpl,hdu,hled⟩:=se hM t.finger (t.movedTo (SetTable.sizeAbove wanted - 1)) t.led t.plain (es.map (·.1)) (by rw[Array.size_map,T.num]; omega)
 rw[Array.size_map]at hp hpl
 have hr:t.relaid (es.map (·.1)) wanted=some (t',order):=e
 rw[hr];have hpm:=vC hp;have hsz:(order.filterMap (es[·]?)).size=es.size:=by rw[← Array.length_toList,hpm.length_eq,Array.length_toList]
 refine wpAny_bind ?_
 show wpAny _ _ (if ((order.filterMap (es[·]?)).size != es.size)=true then _ else pure (order.filterMap (es[·]?),t')) _ _ _
 rw[if_neg (by rw[hsz]; simp)]
 refine wpAny_pure ?_
 dsimp only
 have hf':t'.fits (order.filterMap (es[·]?)).size=true:=by rw[hsz]; exact sa hpl hdu (by rw[hmask,T.num]; omega)
 have hg':bn L t':=⟨hled.trans T.good.led,mw e⟩
 obtain⟨o1,ho1,U1⟩:=stored (es':=order.filterMap (es[·]?)) (t':=t') (S':=S) (n':=n) ho T fun o' ex da=>ly T hpm hf' hg' ex da
 refine wpAny_storeSet_of ho T.dat ?_ (fits_of_scanBound U1.few)
 exact h _ (Heap.SameBut.update ..) ⟨o1,_,_,_,ho1,U1,by unfold Ag; rw[hmask]; exact hM,by rw[hmask]; exact hm,hdu⟩
theorem Ct{a:Addr}{S:K→Bool}{more:Nat}{Q:Unit→Shared→Prop}(hS:SetX knd L s.heap a S 0 7)(hm:more≤60)
  (h:∀ h',Heap.SameBut a s.heap h'→SetX knd L h' a S 0 more→Q () { s with heap:=h' }):wpAny (model prog w) A (setRoomFor a more) Q E s:=by
 obtain⟨o,es,ep,t,ho,T,hP,h7,hd⟩:=id hS
 have hpl:t.place.size=0:=by
  have:=T.fit
  unfold SetTable.fits at this;simp only[Bool.and_eq_true,beq_iff_eq]at this
  rw[this.1]; exact T.num
 have hfill:t.fill=0:=by unfold SetTable.fill; rw[hpl,hd]; rfl
 unfold setRoomFor;refine wpAny_bind (wpAny_setState_of ho T.dat T.fit ?_)
 dsimp only
 unfold SetTable.roomFor;rw[hfill,hpl,Nat.zero_add]
 by_cases c:more * 5≥t.mask * 3
 ·rw[if_pos c]
  refine va hS.g (by omega) (by omega) fun h' sb x=>h h' sb ?_
  obtain⟨o1,es1,ep1,t1,z1,z2,z3,z4,z5⟩:=x
  exact⟨o1,es1,ep1,t1,z1,z2,z3,by omega,z5⟩
 ·rw[if_neg c]
  refine wpAny_pure ?_
  have e:s={ s with heap:=s.heap }:=by cases s; rfl
  rw[e];exact h s.heap (Heap.SameBut.refl _ _) ⟨o,es,ep,t,ho,T,hP,by omega,hd⟩
theorem CA{a:Addr}{S:K→Bool}{n more:Nat}{Q:Unit→Shared→Prop}(hS:SetG knd (bn L) s.heap a S n)(hm:n+more≤120)
  (h:∀ h',Heap.SameBut a s.heap h'→SetG knd (bn L) h' a S n→Q () { s with heap:=h' }):wpAny (model prog w) A (setRoomFor a more) Q E s:=by
 obtain⟨o,es,ep,t,ho,T⟩:=id hS
 have hpl:t.place.size=n:=by
  have:=T.fit
  unfold SetTable.fits at this;simp only[Bool.and_eq_true,beq_iff_eq]at this
  rw[this.1]; exact T.num
 unfold setRoomFor;refine wpAny_bind (wpAny_setState_of ho T.dat T.fit ?_)
 dsimp only
 unfold SetTable.roomFor;rw[hpl]
 by_cases c:(t.fill+more) * 5≥t.mask * 3
 ·rw[if_pos c]
  exact va hS (by omega) (by omega) fun h' sb x=>h h' sb x.g
 ·rw[if_neg c]
  refine wpAny_pure ?_
  have e:s={ s with heap:=s.heap }:=by cases s; rfl
  rw[e];exact h s.heap (Heap.SameBut.refl _ _) hS
theorem wo{a b:Addr}{S0 S:K→Bool}{n:Nat}{each:Sem Unit}{Q:Unit→Shared→Prop}(hab:a≠b)(h0:SetX knd L s.heap a S0 0 7)(hS:SetG knd (bn L) s.heap b S n)(hn:n≤60)
  (h:∀ h',Heap.SameBut a s.heap h'→(n=0→h'=s.heap)→SetG knd (bn L) h' a S n→Q () { s with heap:=h' }):wpAny (model prog w) A (setMerge a b each) Q E s:=by
 obtain⟨o,es,ep,t,ho,T⟩:=id hS
 unfold setMerge;rw[if_neg (by simpa using hab)]
 refine wpAny_bind (wpAny_setState_of ho T.dat T.fit ?_)
 dsimp only
 by_cases he:es.isEmpty=true
 ·rw[if_pos he]
  have hn0:n=0:=by rw[← T.num]; simpa using he
  refine wpAny_pure ?_
  have e:s={ s with heap:=s.heap }:=by cases s; rfl
  rw[e];refine h s.heap (Heap.SameBut.refl _ _) (fun _=>rfl) ?_
  obtain⟨o0,es0,ep0,t0,ho0,T0,_⟩:=h0
  have hS0:S0=S:=by
   funext k
   have e1:S0 k=false:=by
    cases q:S0 k with
    | false=>rfl
    | true=>
     obtain⟨x,hx,_⟩:=(T0.mem k).mp q; have:es0 = #[]:=by simpa using T0.num
     rw[this]at hx; cases hx
   have e2:S k=false:=by
    cases q:S k with
    | false=>rfl
    | true=>
     obtain⟨x,hx,_⟩:=(T.mem k).mp q; have:es = #[]:=by simpa using he
     rw[this]at hx; cases hx
   rw[e1,e2]
  subst hS0; subst hn0
  exact⟨o0,es0,ep0,t0,ho0,T0⟩
 ·rw[if_neg he]
  refine wpAny_bind (Ct h0 (by rw[T.num]; exact hn) fun h1 sb1 x1=>?_)
  rw[T.num]at x1
  obtain⟨o1,es1,ep1,t1,ho1,T1,hP1,hm1,hd1⟩:=x1
  refine wpAny_bind (wpAny_setState_of ho1 T1.dat T1.fit ?_)
  dsimp only
  have hpl1:t1.place.size=0:=by
   have:=T1.fit
   unfold SetTable.fits at this;simp only[Bool.and_eq_true,beq_iff_eq]at this
   rw[this.1]; exact T1.num
  have hroad:t1.road t=if (t1.mask == t.mask&&t.dummies.isEmpty)=true then .slotForSlot else .clean:=by
   unfold SetTable.road SetTable.fill;rw[hpl1,hd1]; rfl
  have fin:∀ (es':Array (Int × Value)) (t':SetTable),es'.toList.Perm es.toList→t'.fits es'.size=true→bn L t'→wpAny (model prog w) A (storeSet a es' t') Q E { s with heap:=h1 }:=fun es' t' hp hf hg=>by
   have hp1:=putSet_of es' t' T1.dat;have hget:=Heap.get?_update_self (Obj.putSet es' t') ho1 (by rw[hp1]; rfl)
   rw[hp1]at hget
   have U:=ly T hp hf hg (o':={ o1 with data:=.set es' (ep1+1) t' }) (ep':=ep1+1) T1.ex rfl;refine wpAny_storeSet_of ho1 T1.dat ?_ (fits_of_scanBound U.few)
   exact h _ (sb1.trans (Heap.SameBut.update ..)) (fun z=>absurd (by simpa using T.num.trans z) (by simpa using he)) ⟨_,_,_,_,hget,U⟩
  rw[hroad]
  by_cases c:(t1.mask == t.mask&&t.dummies.isEmpty)=true
  ·rw[if_pos c]
   refine fin es _ (List.Perm.refl _) ?_ ?_
   ·have:=T.fit
    exact this
   ·exact⟨by show (t1.led&&t.led)=L; rw[T1.good.led,T.good.led,Bool.and_self],T.good.rise⟩
  ·rw[if_neg c]
   obtain⟨t',order,e,hp,hmask,hpl,hdu,hled⟩:=se hP1 t1.finger t1.moves (t1.led&&t.led) (t1.plain&&t.plain) (es.map (·.1)) (by rw[Array.size_map,T.num]; omega)
   rw[Array.size_map]at hp hpl
   dsimp only
   rw[e];have hpm:=vC hp;have hsz:(order.filterMap (es[·]?)).size=es.size:=by rw[← Array.length_toList,hpm.length_eq,Array.length_toList]
   refine wpAny_bind ?_
   show wpAny _ _ (if ((order.filterMap (es[·]?)).size != es.size)=true then _ else pure (order.filterMap (es[·]?),t')) _ _ _
   rw[if_neg (by rw[hsz]; simp)]
   refine wpAny_pure ?_
   dsimp only
   exact fin _ _ hpm (by rw[hsz]; exact sa hpl hdu (by rw[hmask,T.num]; exact hm1)) ⟨by rw[hled,T1.good.led,T.good.led,Bool.and_self],mw e⟩
theorem CB{a:Addr}{o:Obj}{es:Array (Int × Value)}{ep:Nat}{t:SetTable}{Q:Array (Int × Value)→Shared→Prop}(ho:s.heap.get? a=some o)(hd:o.data = .set es ep t)(hf:t.fits es.size=true)(hg:bn (bi w) t)(hp:w.params.followText "set-order" = true∨t.plain=true∨es.size≤1)
  (h:∀ arr,arr.toList.Perm es.toList→Q arr s):wpAny (model prog w) A (setWalk a) Q E s:=by
 unfold setWalk;refine wpAny_bind (wpAny_setState_of ho hd hf ?_)
 dsimp only
 refine wpAny_bind ?_
 unfold setsByText;refine wpAny_bind (wpAny_askSetting (wpAny_pure ?_))
 show wpAny _ _ (if w.params.followText "set-order" = true then _ else _) _ _ _
 cases hb:w.params.followText "set-order" with
 | true=>
  simp only[if_true]
  refine wpAny_bind (wpAny_askSetting (wpAny_pure ?_))
  exact h _ (nA _ _)
 | false=>
  simp only[Bool.false_eq_true,if_false]
  have hnd:¬ ((!t.plain&&decide (es.size>1))=true):=by
   rw[hb]at hp
   rcases hp with z | z | z
   ·cases z
   ·rw[z]; simp
   ·simp; omega
  show wpAny _ _ (if (!t.plain&&decide (es.size>1))=true then _ else _) _ _ _
  rw[if_neg hnd];have hled:t.led=true:=by rw[hg.led]; unfold bi; rw[hb]; rfl
  refine wpAny_bind ?_
  show wpAny _ _ (if (!t.led&&decide (es.size>1))=true then _ else _) _ _ _
  rw[hled];refine wpAny_pure (wpAny_pure ?_)
  exact h es (List.Perm.refl _)
theorem A8{Q:Bool→Shared→Prop}:∀ (sets:List Addr),(∀ a∈sets,∃ o es ep t,s.heap.get? a=some o∧o.data = .set es ep t∧t.fits es.size=true∧∀ e∈es.toList,e.2.scannable=true)→Q true s→wpAny (model prog w) A (setsQuiet sets) Q E s:=by
 intro sets hs h
 unfold setsQuiet;refine wpAny_bind (wpAny_forIn_list _ (fun rest b s'=>b.1=none∧s'=s∧∀ a∈rest,a∈sets) _ ?_ ?_ _ _ ⟨rfl,rfl,fun _ z=>z⟩)
 ·rintro a rest b s' ⟨hb,rfl,hm⟩
  obtain⟨o,es,ep,t,ho,hd,hf,hsc⟩:=hs a (hm a List.mem_cons_self)
  refine wpAny_bind (wpAny_setEntries_of ho hd hf ?_)
  refine wpAny_bind (MeetsSeq2.wpAny_forIn_array _ (fun rest' b' s2=>b'.1=none∧s2=s'∧∀ e∈rest',e∈es.toList) _ ?_ ?_ _ _ ⟨rfl,rfl,fun _ z=>z⟩)
  ·rintro⟨hh,x⟩ rest' b' s2 ⟨hb',rfl,hm'⟩
   have hx:=hsc _ (hm' _ List.mem_cons_self)
   dsimp only at hx ⊢
   cases x with
   | ref c=>cases hx
   | _=>exact wpAny_pure ⟨rfl,rfl,fun e he=>hm' e (List.mem_cons_of_mem _ he)⟩
  ·rintro b' s2 ⟨hb',rfl,_⟩
   obtain⟨b1,b2⟩:=b'
   cases hb';exact wpAny_pure ⟨rfl,rfl,fun a' ha'=>hm a' (List.mem_cons_of_mem _ ha')⟩
 ·rintro b s' ⟨hb,rfl,_⟩
  obtain⟨b1,b2⟩:=b
  cases hb;exact wpAny_pure h
theorem z6{a f:Addr}{S1 S2:K→Bool}{n1 n2:Nat}{Q:Array (Int × Value)→Shared→Prop}(haf:a≠f)(hA:SetG knd (bn (bi w)) s.heap a S2 n2)(hF:SetG knd (bn (bi w)) s.heap f S1 n1)
  (h:∀ arr h' es,(∃ o ep t,s.heap.get? a=some o∧j9 knd (bn (bi w)) o es ep t S2 n2)→arr.toList.Perm es.toList→Heap.SameBut f s.heap h'→SetG knd (bn (bi w)) h' f S1 n1→Q arr { s with heap:=h' }):wpAny (model prog w) A (setWalkUnseen a [f] (some f)) Q E s:=by
 obtain⟨o,es,ep,t,ho,T⟩:=id hA
 obtain⟨of,esf,epf,tf,hof,Tf⟩:=id hF
 have es0:s={ s with heap:=s.heap }:=by cases s; rfl
 have keep:∀ arr:Array (Int × Value),arr.toList.Perm es.toList→Q arr s:=fun arr hp=>by
  rw[es0]; exact h arr s.heap es ⟨o,ep,t,ho,T⟩ hp (Heap.SameBut.refl _ _) hF
 unfold setWalkUnseen;refine wpAny_bind (wpAny_setState_of ho T.dat T.fit ?_)
 dsimp only
 refine wpAny_bind ?_
 unfold setsByText;refine wpAny_bind (wpAny_askSetting (wpAny_pure ?_))
 show wpAny _ _ (if (w.params.followText "set-order" || t.led&&t.plain||decide (es.size≤1))=true then _ else _) _ _ _
 by_cases c:(w.params.followText "set-order" || t.led&&t.plain||decide (es.size≤1))=true
 ·rw[if_pos c]
  refine CB ho T.dat T.fit T.good ?_ keep
  simp only[Bool.or_eq_true,Bool.and_eq_true,decide_eq_true_eq]at c
  rcases c with (z | z) | z
  ·exact .inl z
  ·exact .inr (.inl z.2)
  ·exact .inr (.inr z)
 ·rw[if_neg c]
  refine wpAny_bind (A8 [a,f] (fun b hb=>?_) ?_)
  ·simp only[List.mem_cons,List.not_mem_nil,or_false]at hb
   rcases hb with rfl | rfl
   ·exact⟨o,es,ep,t,ho,T.dat,T.fit,fun e he=>(T.el e he).2⟩
   ·exact⟨of,esf,epf,tf,hof,Tf.dat,Tf.fit,fun e he=>(Tf.el e he).2⟩
  ·simp only[Bool.not_true,Bool.false_eq_true,if_false]
   refine wpAny_bind (wpAny_rule ?_)
   refine wpAny_bind (wpAny_setState_of hof Tf.dat Tf.fit ?_)
   dsimp only
   by_cases c2:(tf.led && !t.led||tf.plain && !t.plain)=true
   ·rw[if_pos c2]
    obtain⟨o1,ho1,U1⟩:=stored (es':=esf) (t':={ tf with led:=tf.led&&t.led,plain:=tf.plain&&t.plain }) (S':=S1) (n':=n1) hof Tf fun o' ex da=>ly (t':={ tf with led:=tf.led&&t.led,plain:=tf.plain&&t.plain }) Tf (List.Perm.refl _) Tf.fit ⟨by show (tf.led&&t.led)=_; rw[Tf.good.led,T.good.led,Bool.and_self],Tf.good.rise⟩ ex da
    refine wpAny_bind (wpAny_storeSet_of hof Tf.dat ?_ (fits_of_scanBound U1.few))
    exact wpAny_pure (h es _ es ⟨o,ep,t,ho,T⟩ (List.Perm.refl _) (Heap.SameBut.update ..) ⟨_,_,_,_,ho1,U1⟩)
   ·rw[if_neg c2]
    exact wpAny_pure (keep es (List.Perm.refl _))
theorem Au{a b:Addr}{S1 S2:K→Bool}{n1 n2:Nat}{each:Sem Unit}{Q:Unit→Shared→Prop}(hab:a≠b)(h1:SetG knd (bn (bi w)) s.heap a S1 n1)(h2:SetG knd (bn (bi w)) s.heap b S2 n2)(hn1:1≤n1)(hn:n1+n2≤60)
  (heach:∀ (s':Shared) (R:Unit→Shared→Prop),(∀ o,s.heap.get? b=some o→s'.heap.get? b=some o)→R () s'→wpAny (model prog w) A each R E s')
  (h:∀ h' m,Heap.SameBut a s.heap h'→m≤n1+n2→SetG knd (bn (bi w)) h' a (fun k=>S1 k||S2 k) m→Q () { s with heap:=h' }):wpAny (model prog w) A (setMerge a b each) Q E s:=by
 obtain⟨o,es,ep,t,ho,T⟩:=id h2
 unfold setMerge;rw[if_neg (by simpa using hab)]
 refine wpAny_bind (wpAny_setState_of ho T.dat T.fit ?_)
 dsimp only
 by_cases he:es.isEmpty=true
 ·rw[if_pos he]
  have hn0:n2=0:=by rw[← T.num]; simpa using he
  refine wpAny_pure ?_
  have e:s={ s with heap:=s.heap }:=by cases s; rfl
  rw[e];refine h s.heap n1 (Heap.SameBut.refl _ _) (by omega) (h1.at' (fun _ z=>z) (fun k=>?_) rfl)
  have e2:S2 k=false:=by
   cases q:S2 k with
   | false=>rfl
   | true=>
    obtain⟨x,hx,_⟩:=(T.mem k).mp q; have:es = #[]:=by simpa using he
    rw[this]at hx; cases hx
  rw[e2,Bool.or_false]
 ·rw[if_neg he]
  refine wpAny_bind (CA h1 (by rw[T.num]; omega) fun g1 sb1 x1=>?_)
  have hb1:g1.get? b=some o:=by rw[sb1.2 b (Ne.symm hab)]; exact ho
  obtain⟨o1,es1,ep1,t1,ho1,T1⟩:=id x1
  refine wpAny_bind (wpAny_setState_of ho1 T1.dat T1.fit ?_)
  dsimp only
  have hroad:t1.road t = .oneByOne:=by
   have hpl1:t1.place.size=n1:=by
    have:=T1.fit
    unfold SetTable.fits at this;simp only[Bool.and_eq_true,beq_iff_eq]at this
    rw[this.1]; exact T1.num
   unfold SetTable.road SetTable.fill;rw[if_pos (by rw[hpl1]; simp; omega)]
  rw[hroad]
  dsimp only
  refine wpAny_bind (z6 (s:={ s with heap:=g1 }) (Ne.symm hab) ⟨o,es,ep,t,hb1,T⟩ x1 fun arr g2 es' hes hp sb2 x2=>?_)
  obtain⟨o',ep',t',ho',T'⟩:=hes
  have eo:o'=o:=by
   have:g1.get? b=some o':=ho'
   rw[hb1]at this; cases this; rfl
  subst eo
  have ees:es'=es:=by
   have q1:=T'.dat;rw[T.dat]at q1
   cases q1; rfl
  subst ees;have sb12:Heap.SameBut a s.heap g2:=sb1.trans sb2
  have fin:∀ (done:List (Int × Value)),done.Perm es'.toList→∀ k,(S1 k||done.any fun e=>knd.is k e.2)=(S1 k||S2 k):=fun done hd k=>by
   congr 1
   rw[Bool.eq_iff_iff,T.mem k,List.any_eq_true];exact⟨fun ⟨e,z,q⟩=>⟨e,hd.mem_iff.mp z,q⟩,fun ⟨e,z,q⟩=>⟨e,hd.mem_iff.mpr z,q⟩⟩
  refine wpAny_bind (MeetsSeq2.wpAny_forIn_array _ (fun rest _ s'=>∃ h' m done,s'={ s with heap:=h' }∧Heap.SameBut a s.heap h'∧(done++rest).Perm es'.toList∧m+rest.length≤n1+n2∧SetG knd (bn (bi w)) h' a (fun k=>S1 k||done.any fun e=>knd.is k e.2) m) _ ?_ ?_ _ _
   ⟨g2,n1,[],rfl,sb12,hp,by rw[hp.length_eq,Array.length_toList,T.num]; exact Nat.le_refl _,x2.at' (fun _ z=>z) (fun k=>by simp) rfl⟩)
  ·rintro⟨hh,v⟩ rest u s' ⟨h',m,done,rfl,sb,hpm,hm,hS⟩
   obtain⟨⟨k,hk,ehh⟩,hsc⟩:=T.el (hh,v) (hpm.mem_iff.mp (by simp))
   dsimp only at hk ehh hsc ⊢
   subst ehh;rw[List.length_cons]at hm
   refine wpAny_bind (wpAny_holding (BJ (G:=bn (bi w)) (knd:=knd) (s:={ s with heap:=h' }) (fun t es h x g=>la g es h x) (fun t es m g=>mD g es m) (fun t g=>mv g) hk hsc hS (by unfold scanBound; omega) fun h2 sb2' hS2=>?_))
   have sb':Heap.SameBut a s.heap h2:=sb.trans sb2'
   have hb2:h2.get? b=some o':=by rw[sb'.2 b (Ne.symm hab)]; exact ho
   refine wpAny_bind (heach _ _ (fun o z=>by rw[ho]at z; cases z; exact hb2) ?_)
   refine wpAny_bind (wpAny_setState_of hb2 T.dat T.fit ?_)
   rw[if_neg (by simp)]
   refine wpAny_pure ⟨h2,_,done++[(knd.hash k,v)],rfl,sb',by rw[List.append_assoc]; exact hpm,?_,hS2.at' (fun _ z=>z) (fun k'=>?_) rfl⟩
   ·split <;> omega
   ·rw[List.any_append,Bool.or_assoc]
    congr 2
    rw[List.any_cons,List.any_nil,Bool.or_false,KeyKind.is_eq_decide hk k']
  ·rintro u s' ⟨h',m,done,rfl,sb,hpm,hm,hS⟩
   rw[List.append_nil]at hpm
   exact wpAny_pure (h h' m sb (by simpa using hm) (hS.at' (fun _ z=>z) (fin done hpm) rfl))
end
end L2
namespace L2
open PySem PySem.Spec PyProof.Rows PySem.SeqAt
theorem pV:entryFor table "set.__or__" = some Builtin.«frozenset.__or__»:=entryFor_alias (id' := "frozenset.__or__") (by kernel_rfl) rfl (by decide +kernel) (by kernel_rfl)
section
variable{prog:Program}{w:World}{K:Type}[DecidableEq K]{knd:KeyKind prog w K}{A:Around}{E:Value→Shared→Prop}{s:Shared}
theorem SetG.ty{G:SetTable→Prop}{h:Heap}{a:Addr}{S:K→Bool}{n:Nat}(x:SetG knd G h a S n)(s:Shared)(e:s.heap=h):s.TypeIs (.ref a) "set" := by
 obtain⟨o,es,ep,t,ho,T⟩:=x
 subst e;exact⟨o,ho,T.ex.1⟩
theorem B4{a b:Addr}{S1 S2:K→Bool}{n1 n2:Nat}{Q:Value→Shared→Prop}(hab:a≠b)(ha:SetG knd (bn (bi w)) s.heap a S1 n1)(hb:SetG knd (bn (bi w)) s.heap b S2 n2)(hn:n1+n2≤60)
  (h:∀ h' m tk,(∀ c o,s.heap.get? c=some o→h'.get? c=some o)→m≤n1+n2→SetG knd (bn (bi w)) h' s.heap.objs.size (fun k=>S1 k||S2 k) m→Q (.ref s.heap.objs.size) { s with heap:=h',toks:=tk }) :
  wpAny (model prog w) A (binaryOp .BitOr (.ref a) (.ref b)) Q E s:=by
 have ta:s.TypeIs (.ref a) "set" := ha.ty s rfl
 have tb:s.TypeIs (.ref b) "set" := hb.ty s rfl
 refine wpAny_binaryOp_same (T := "set") ta tb F.fills_set_or F.slot_set_or (wpAny_call_entry F.slot_set_or ta pV ?_ (F.args_set_or_2 _ _))
 unfold Builtin.«frozenset.__or__»
 show wpAny _ _ (Builtin.Frozenset.slot1 "__or__" ⟨[.ref a,.ref b],[]⟩ >>= _) _ _ _
 refine wpAny_bind (m:=Builtin.Frozenset.slot1 "__or__" ⟨[.ref a,.ref b],[]⟩) (wpAny_pure (a:=(Value.ref a,Value.ref b)) ?_)
 dsimp only
 simp only[Bool.false_eq_true,if_false]
 have isA:∀ (c:Addr) (s':Shared) (R:Bool→Shared→Prop),s'.TypeIs (.ref c) "set" → R true s'→wpAny (model prog w) A.in1 (Builtin.Frozenset.isAnySet (.ref c)) R E s':=fun c s' R ht hR=>by
  unfold Builtin.Frozenset.isAnySet;show wpAny _ _ (isInstance (Value.ref c) (Value.type "set") >>= _) _ _ _
  refine wpAny_bind (wpAny_isInstance ht sub_set_self ?_)
  exact wpAny_pure hR
 have es0:s={ s with heap:=s.heap }:=by cases s; rfl
 refine wpAny_bind ?_
 show wpAny _ _ (Builtin.Frozenset.isAnySet (Value.ref a) >>= _) _ _ _
 refine wpAny_bind (isA a s _ ta ?_)
 refine isA b s _ tb ?_
 simp only[Bool.not_true,Bool.false_eq_true,if_false]
 refine wpAny_bind (wpAny_pure ?_)
 refine wpAny_bind ?_
 show wpAny _ _ (Builtin.Frozenset.copyOf a >>= _) _ _ _
 unfold Builtin.Frozenset.copyOf Builtin.Frozenset.baseOf;refine wpAny_bind ?_
 refine wpAny_bind ?_
 refine wpAny_bind (wpAny_isInstance ta sub_set_self ?_)
 refine wpAny_pure ?_
 simp only[if_true]
 unfold newSet setsByText;refine wpAny_bind ?_
 refine wpAny_bind (wpAny_bind (wpAny_askSetting (wpAny_pure ?_)))
 dsimp only
 simp only[newObj]
 refine wpAny_bind (wpAny_alloc (wpAny_pure ?_))
 generalize hh0:s.heap.push _=g0
 have k0:∀ c o,s.heap.get? c=some o→g0.get? c=some o:=fun c o e=>by rw[← hh0]; exact Heap.get?_push_of_some _ e
 have n0:g0.get? s.heap.objs.size=some { cls:=.type "set", dict:=none,data:=.set #[] 0 (.fresh 0 0 (bi w)) }:=by rw[← hh0]; exact Heap.get?_push_size _ rfl
 have x0:SetX knd (bi w) g0 s.heap.objs.size (fun _=>false) 0 7:=⟨_,#[],0,_,n0,⟨⟨rfl,rfl,rfl⟩,rfl,fun e he=>by simp at he,fun k=>by simp,by decide,rfl,rfl,⟨rfl,fun a b ha=>absurd ha (Nat.not_lt_zero _)⟩,List.Pairwise.nil⟩,by show (7:Nat)+1∈[8,16,32,64,128,256]; decide,Nat.le_refl _,rfl⟩
 have na:s.heap.objs.size≠a:=by
  obtain⟨o,_,_,_,ho,_⟩:=ha
  exact Ne.symm (Nat.ne_of_lt (Heap.lt_size ho))
 have nb:s.heap.objs.size≠b:=by
  obtain⟨o,_,_,_,ho,_⟩:=hb
  exact Ne.symm (Nat.ne_of_lt (Heap.lt_size ho))
 refine wpAny_bind (wpAny_pure ?_)
 refine wpAny_bind (wo (s:={ s with heap:=g0 }) na x0 (ha.at' (fun o e=>k0 a o e) (fun _=>rfl) rfl) (by omega) fun g1 sb1 hz1 x1=>?_)
 refine wpAny_pure ?_
 rw[if_pos (by simpa using Ne.symm hab)]
 refine wpAny_bind (wpAny_pure ?_)
 have k1:∀ c o,s.heap.get? c=some o→g1.get? c=some o:=fun c o e=>by
  have hc:c≠s.heap.objs.size:=Nat.ne_of_lt (Heap.lt_size e)
  rw[sb1.2 c hc]; exact k0 c o e
 have hb1:=hb.at' (h':=g1) (fun o e=>k1 b o e) (fun _=>rfl) rfl
 refine wpAny_bind (wpAny_holding ?_)
 unfold Builtin.Frozenset.updateFrom;refine wpAny_bind (isA b _ _ (hb1.ty _ rfl) ?_)
 simp only[if_true]
 refine wpAny_bind (wpAny_pure ?_)
 unfold Builtin.Frozenset.merge;obtain⟨ob,eb,pb,tb',hob,Tb⟩:=id hb1
 have epo:∀ (s':Shared) (R:Nat→Shared→Prop),s'.heap.get? b=some ob→R pb s'→wpAny (model prog w) A.in1 (setEpoch b) R E s':=fun s' R hg hR=>by
  unfold setEpoch;exact wpAny_bind (wpAny_setState_of hg Tb.dat Tb.fit (wpAny_pure hR))
 refine wpAny_bind (epo _ _ hob ?_)
 have fin:∀ h' m,Heap.SameBut s.heap.objs.size g1 h'→m≤n1+n2→SetG knd (bn (bi w)) h' s.heap.objs.size (fun k=>S1 k||S2 k) m→wpAny (model prog w) A.in1 (pure (Value.ref s.heap.objs.size)) (fun a s'=>wpAny (model prog w) A.in1 (ret a) (fun fin s'=>∃ v,fin=Fin.done (Flow.ret v)∧v≠Value.notImplemented∧Q v s') E s') E { s with heap:=h' }:=fun h' m sb hm x=>by
  refine wpAny_pure (wpAny_pure ⟨_,rfl,fun z=>(nomatch z),h h' m s.toks (fun c o e=>?_) hm x⟩)
  have hc:c≠s.heap.objs.size:=Nat.ne_of_lt (Heap.lt_size e)
  rw[sb.2 c hc]; exact k1 c o e
 by_cases hn0:n1=0
 ·have eg:=hz1 hn0
  have eg':g1=g0:=eg
  subst eg'
  have hS1:∀ k,S1 k=false:=fun k=>by
   obtain⟨o,es,ep,t,ho,T⟩:=x1
   cases q:S1 k with
   | false=>rfl
   | true=>
    obtain⟨x,hx,_⟩:=(T.mem k).mp q
    have:es = #[]:=by have:=T.num; rw[hn0]at this; simpa using this
    rw[this]at hx; cases hx
  refine wo (s:={ s with heap:=g1 }) nb x0 hb1 (by omega) fun h' sb _ x=>fin h' n2 sb (by omega) (x.at' (fun _ z=>z) (fun k=>by rw[hS1 k]; rfl) rfl)
 ·refine Au (s:={ s with heap:=g1 }) nb x1 hb1 (by omega) hn (fun s' R hg hR=>?_) fun h' m sb hm x=>fin h' m sb hm x
  unfold Builtin.Frozenset.unchanged;refine wpAny_bind (epo s' _ (hg ob hob) ?_)
  rw[if_neg (by simp)]
  exact wpAny_pure hR
end
def cj(P:Program)(w:World)(a:Addr)(ds:List Str):HO:=.ext fun h=>∃ S n,SetG (strKind P w) (bn (bi w)) h a S n∧(∀ k,S k=true ↔ k∈ds)∧ds.Nodup∧ds.length=n
def yN(K:PySem.W.Frag)(SO:Addr→List Str→HO):List V→Hp→VK→Prop:=fun xs H Q=>∃ p,∃ ns:List Str,xs=[.ref p]∧SqL K H p (ns.map V.str)∧ns.length≤60∧∀ (l:Addr) (ds:List Str),H l=none→ds.Nodup→(∀ x,x∈ds ↔ x∈ns)→ds.length≤ns.length→Q (.ref l) (upd H l (SO l ds))
def AW(SO:Addr→List Str→HO):R2:=fun x y H Q=>∃ a b ds es,x = .ref a∧y = .ref b∧a≠b∧H a=some (SO a ds)∧H b=some (SO b es)∧ds.length+es.length≤60∧∀ (l:Addr) (us:List Str),H l=none→us.Nodup→(∀ x,x∈us ↔ x∈ds∨x∈es)→us.length≤ds.length+es.length→Q (.ref l) (upd H l (SO l us))
section
variable{X:Cx}
theorem rS{P:Program}{w:World}{H:Hp}{h:Heap}{a:Addr}{ds:List Str}{S:Str→Bool}{n:Nat}(x:SetG (strKind P w) (bn (bi w)) h a S n)(hm:∀ k,S k=true ↔ k∈ds)(nd:ds.Nodup)(hl:ds.length=n):ObjOk P w H h a (cj P w a ds):=by
 obtain⟨o,es,ep,t,ho,T⟩:=id x
 exact⟨⟨S,n,x,hm,nd,hl⟩,⟨o,ho⟩,fun h1 h2 ⟨S,n,g,r⟩ k=>⟨S,n,g.at' (fun o e=>k o e) (fun _=>rfl) rfl,r⟩⟩
theorem vI{m:Nat}(hr:Room m X.A){K:PySem.W.Frag}(hK:X.K=K):CallR X (.type "set") (yN K (cj X.prog X.w)):=by
 subst hK;intro pins s σ H xs us Q I r h
 obtain⟨p,ns,rfl,hq,h60,q⟩:=h
 obtain⟨u,rfl,ru⟩:=df r
 cases ru;obtain⟨its,rv,pl,hz⟩:=I.list hq
 have hlen:its.length=ns.length:=by rw[← rv.length,List.length_map]
 refine uX (ns:=ns) hr.hd pl.isList (by simpa using kn rv) (by simp only[List.size_toArray]; unfold scanBound; omega) fun h' tk hS hk=>?_
 obtain⟨ds,hg,hnd,hmem,hdl⟩:=pq hS
 refine⟨.ref s.heap.objs.size,_,I.laid (fun b o e=>hk b o (Heap.lt_size e) e) (Nat.le_refl _) (show ObjOk X.prog X.w _ h' _ (cj X.prog X.w s.heap.objs.size ds) from rS hS (fun k=>(hmem k).symm) hnd hdl),rfl,q _ ds (I.hok.fresh (Nat.le_refl _)) hnd (fun x=>?_) ?_⟩
 ·rw[hmem,rL]
  simp only[List.size_toArray,List.any_map,List.any_eq_true,List.mem_range]
  constructor
  ·rintro⟨i,hi,e⟩
   have e':ns.getD i "" = x:=by simpa using e
   rw[← e',List.getD_eq_getElem?_getD,List.getElem?_eq_getElem (by omega)]
   exact List.getElem_mem _
  ·intro hx
   obtain⟨i,hi,e⟩:=List.mem_iff_getElem.mp hx
   exact⟨i,by omega,by simp[List.getD_eq_getElem?_getD,List.getElem?_eq_getElem hi,e]⟩
 ·rw[hdl]
  have:=mW (fun i=>ns.getD i "") its.toArray.size
  simp only[List.size_toArray]at this ⊢
  omega
theorem AU:OpR X (binaryOp .BitOr) (AW (cj X.prog X.w)):=by
 intro pins s σ H x y v u Q I rx ry h
 obtain⟨a,b,ds,es,rfl,rfl,hab,ha,hb,hn,q⟩:=h
 cases rx
 cases ry;obtain⟨S1,n1,g1,m1,d1,l1⟩:=(show ObjOk X.prog X.w H s.heap a (cj X.prog X.w a ds) from I.hok a _ ha).1
 obtain⟨S2,n2,g2,m2,d2,l2⟩:=(show ObjOk X.prog X.w H s.heap b (cj X.prog X.w b es) from I.hok b _ hb).1
 refine B4 hab g1 g2 (by omega) fun h' m tk hk hm hS=>?_
 obtain⟨us,hg,hnd,hmem,hul⟩:=pq hS
 refine⟨.ref s.heap.objs.size,_,I.laid (t':=tk) hk (Nat.le_refl _) (show ObjOk X.prog X.w _ h' _ (cj X.prog X.w s.heap.objs.size us) from rS hS (fun k=>(hmem k).symm) hnd hul),rfl,q _ us (I.hok.fresh (Nat.le_refl _)) hnd (fun x=>?_) (by omega)⟩
 rw[hmem,Bool.or_eq_true,m1,m2]
theorem ub{m:Nat}(hr:Room m X.A):CallR X (.builtin "sorted") (og (cj X.prog X.w)):=by
 intro pins s σ H xs us Q I r h
 obtain⟨p,ds,rfl,e,h60,q⟩:=h
 obtain⟨u,rfl,ru⟩:=df r
 cases ru;obtain⟨S,n,g,hm,nd,hl⟩:=(show ObjOk X.prog X.w H s.heap p (cj X.prog X.w p ds) from I.hok p _ e).1
 obtain⟨es',hg,hnd,hmem,hul⟩:=pq g
 obtain⟨o,es,ep,t,ho,hx,hd,hfew,hf,hgd,hint,hds⟩:=hg
 have hpm:es'.Perm ds:=(List.perm_ext_iff_of_nodup hnd nd).mpr fun k=>by rw[hmem,hm]
 have hz:es.size≤60:=by
  have:=hpm.length_eq
  rw[← hds,List.length_map,Array.length_toList]at this
  omega
 have hs:sizeLine=16777216:=sizeLine_eq
 refine uq hr.hd ho hx hd hf (by omega) hgd hint fun h' d' tk qa out c ns' hk hq hc a1 a2 a3=>?_
 have hl:ns'.length≤60:=by rw[a2.length_eq,List.length_map,Array.length_toList]; exact hz
 have I2:=I.laid (t':=tk) (a:=qa) (o:=.lst (ns'.map V.str)) hk hq (show ObjOk X.prog X.w _ h' _ (.lst (ns'.map V.str)) from ⟨by rw[List.length_map]; omega,out.toList,c,kr a1,by simpa using hc⟩)
 refine⟨.ref qa,_,?_,rfl,q _ ns' (I.hok.fresh hq) ((by rw[← hds]at hpm; exact a2.trans hpm)) a3⟩
 exact⟨I2.ok,I2.os,I2.bare,I2.base,I2.loc,I2.cell,I2.free,I2.freeC,I2.pin,I2.hok,I2.len⟩
theorem lV{m:Nat}(K:PySem.W.Frag)(P:Program)(w:World)(hr:Room m X.A)(hK:X.K=K:=by rfl)(hw:X.w=w:=by rfl)(hP:X.prog=P:=by rfl):CallR X (.type "set") (yN K (cj P w)):=hP ▸ hw ▸ vI hr hK
theorem qJ{m:Nat}(P:Program)(w:World)(hr:Room m X.A)(hw:X.w=w:=by rfl)(hP:X.prog=P:=by rfl):CallR X (.builtin "sorted") (og (cj P w)):=hP ▸ hw ▸ ub hr
theorem zo(P:Program)(w:World)(hw:X.w=w:=by rfl)(hP:X.prog=P:=by rfl):OpR X (binaryOp .BitOr) (AW (cj P w)):=hP ▸ hw ▸ AU
end
end L2
namespace L2
open PySem PySem.Spec PyProof.Rows PySem.SeqAt PySem.Builtin PySem.Builtin.Str PySem.StrLaws
end L2
namespace L2
open PySem PySem.Spec PyProof.Rows PySem.SeqAt
section
variable{X:Cx}{x n:Str}{C:Addr}{bmB:List Value}{B newId initId:String}{np hp pos:Pos}{body suite orelse:List Stmt}{b₀ : Stmt}{tb:XK→TS}{th te:TS}{rest:List ExceptHandler}
end
end L2
namespace L2
open PySem PySem.Spec PyProof.Rows
section
variable{M:Model}{A:Around}{E:Value→Shared→Prop}{s:Shared}
end
section
variable{X:Cx}{N0 T:List Str}{scope:Scope}{tg elt iter:Expr}{ifs:List Expr}{pos:Pos}{wi:TI}{g:TG}{tc:TT}{te:TE}
end
section
variable{X:Cx}{N0 T:List Str}{scope:Scope}{C:Addr}{fp:List Addr}{s:Shared}{H:Hp}{E1:XK}{x:Str}
end
end L2
namespace L2
open PySem PySem.Spec PyProof.Rows PySem.SeqAt
def gW(xs:List V)(lo hi st:Option Int):List V:=(sliceRange (sliceBounds lo hi st xs.length).1 (sliceBounds lo hi st xs.length).2.1 (sliceBounds lo hi st xs.length).2.2).filterMap fun i=>xs[i]?
theorem j7{xs:List V}{us:List Value}(r:Vals xs us):∀ is:List Nat,Vals (is.filterMap fun i=>xs[i]?) (is.filterMap fun i=>us.toArray[i]?)
 | []=>.nil
 | i::is=>by
  cases e:xs[i]? with
  | none=>
   have e':us.toArray[i]? = none:=by simpa using r.none_of e
   rw[List.filterMap_cons_none e,List.filterMap_cons_none e'];exact j7 r is
  | some x=>
   obtain⟨u,hu,ru⟩:=r.get e
   have e':us.toArray[i]? = some u:=by simpa using hu
   rw[List.filterMap_cons_some e,List.filterMap_cons_some e'];exact .cons ru (j7 r is)
theorem xS{xs:List V}{lo hi st:Option Int}{v:V}(h:v∈gW xs lo hi st):v∈xs:=by
 obtain⟨i,_,e⟩:=List.mem_filterMap.mp h
 exact List.mem_of_getElem? e
def Du(K:PySem.W.Frag):V→Option Int→Option Int→Option Int→Hp→VK→Prop:=fun x lo hi st H Q=>∃ a xs,x = .ref a∧SqL K H a xs∧st≠some 0∧(gW xs lo hi st).length≤sizeLine∧∀ p,H p=none→Q (.ref p) (upd H p (.lst (gW xs lo hi st)))
def Bg(r:V→Option Int→Option Int→Option Int→Hp→VK→Prop)(te:TE)(tl th ts:TO):TE:=fun σ H Q=>te σ H fun x H1=>tl σ H1 fun l H2=>th σ H2 fun u H3=>ts σ H3 fun k H4=>r x l u k H4 Q
theorem zK{r:V→Option Int→Option Int→Option Int→Hp→VK→Prop}{te:TE}{tl th ts:TO}{σ : St}{H:Hp}{Q:VK}:Bg r te tl th ts σ H Q=te σ H fun x H1=>tl σ H1 fun l H2=>th σ H2 fun u H3=>ts σ H3 fun k H4=>r x l u k H4 Q:=rfl
section
variable{X:Cx}{e:Expr}{te:TE}{lo hi:Option Expr}{st:Expr}{tl th ts:TO}{pos p2:Pos}
theorem vp(K:PySem.W.Frag)(he:PE X e te)(hl:PO X lo tl)(hu:PO X hi th)(hst:PO X (some st) ts)(hK:X.K=K:=by rfl):PE X (.Subscript e (.Slice lo hi (some st) p2) pos) (Bg (Du K) te tl th ts):=by
 subst hK;intro pins s σ H Q I h
 refine Subscript_ (ba (he pins s σ H _ I h) fun v s1 ⟨x,H1,I1,r1,q1⟩=>?_)
 refine wpAny_Slice (ba (hl pins s1 σ H1 _ I1 q1) fun vl s2 ⟨l,H2,I2,pl,q2⟩=>ba (hu pins s2 σ H2 _ I2 q2) fun vu s3 ⟨u,H3,I3,pu,q3⟩=>ba (hst pins s3 σ H3 _ I3 q3) fun vs s4 ⟨k,H4,I4,ps,q4⟩=>?_)
 obtain⟨a,xs,rfl,hx,h0,hlen,q⟩:=q4
 cases r1;have I5:Inv X pins σ H4 { s4 with heap:=s4.heap.push { cls:=.type "slice", data:=.fields #[vl,vu,vs] } }:=I4.kept (t':=s4.toks) fun b ob q=>Heap.get?_push_of_some _ q
 obtain⟨its,r,ht,hz⟩:=I5.list hx
 have hln:=r.length;refine tail_any (ops:=[.ref a,.ref s4.heap.objs.size]) ht.isList.typeIs slot_list_getitem.lookup ?_ (by with_unfolding_all rfl)
 refine wpAny_getItem_list_slice ht.isList (Heap.IsSliceOf.new ..) pl pu ps h0 ?_ (by rw[List.size_toArray] <;> omega)
 have ev:Vals (gW xs l u k) ((sliceRange (sliceBounds l u k xs.length).1 (sliceBounds l u k xs.length).2.1 (sliceBounds l u k xs.length).2.2).filterMap fun i=>its.toArray[i]?):=j7 r _
 have es:slicePick its.toArray l u k=((sliceRange (sliceBounds l u k xs.length).1 (sliceBounds l u k xs.length).2.1 (sliceBounds l u k xs.length).2.2).filterMap fun i=>its.toArray[i]?).toArray:=by
  unfold slicePick;rw[List.size_toArray,← hln]
 rw[es];exact⟨.ref _,_,I5.laid (t':=s4.toks) (o:=.lst (gW xs l u k)) (fun b ob q=>Heap.get?_push_of_some _ q) (Nat.le_refl _) ⟨hlen,_,0,ev,Heap.get?_push_size _ rfl⟩,rfl,q _ (I5.hok.fresh (Nat.le_refl _))⟩
end
section
variable{X:Cx}
end
end L2
namespace L2
open PySem PySem.Spec PyProof.Rows
section
variable{X:Cx}{n:Nat}(P:Program)(w:World)(hr:Room n X.A)
include hr
theorem zF(hP:X.prog=P:=by rfl)(hw:X.w=w:=by rfl):OpR X (compareOp .In) (Ac P w):=by subst hP hw; exact BZ hr
theorem tz(hP:X.prog=P:=by rfl)(hw:X.w=w:=by rfl):OpR X (compareOp .NotIn) (sf P w):=by subst hP hw; exact u5 hr
theorem uG(hP:X.prog=P:=by rfl)(hw:X.w=w:=by rfl):PSet X (yV P w):=by subst hP hw; exact Cr hr
theorem lX{ek ev:Expr}{tk tv:TE}{pos:Pos}(hk:PE X ek tk)(hv:PE X ev tv)(hP:X.prog=P:=by rfl)(hw:X.w=w:=by rfl):PE X (.Dict [some ek] [ev] pos) (m_ P w tk tv):=by subst hP hw; exact u3 hr hk hv
end
end L2
namespace L2
open PySem PySem.Spec PyProof.Rows
theorem nj:∀ (names:List (Str × NameKind)) (n:Nat) (acc:List (Str × Addr)) {x:Str} {c:Addr},(cellsFrom n names acc).lookup x=some c→acc.lookup x=some c∨(n≤c∧(x,NameKind.cell)∈names)
 | [],n,acc,x,c,h=>.inl h
 | (nm,k)::r,n,acc,x,c,h=>by
  unfold cellsFrom at h;split at h
  ·rename_i hk
   have hk':k = .cell:=by simpa using hk
   rcases nj r (n+1) _ h with z | ⟨z1,z2⟩
   ·rw[List.lookup_cons]at z
    cases hx:(x == nm) with
    | true=>
     rw[hx]at z
     have e1:x=nm:=by simpa using hx
     have e2:n=c:=Option.some.inj z
     rw[e1,hk']; exact .inr ⟨Nat.le_of_eq e2,List.mem_cons_self⟩
    | false=>rw[hx]at z; exact .inl z
   ·exact .inr ⟨by omega,List.mem_cons_of_mem _ z2⟩
  ·rcases nj r n _ h with z | ⟨z1,z2⟩
   ·exact .inl z
   ·exact .inr ⟨z1,List.mem_cons_of_mem _ z2⟩
theorem qF:∀ (names:List (Str × NameKind)) (n:Nat) (acc:List (Str × Addr)),(∀ (x:Str) (c:Nat),acc.lookup x=some c→c<n)→(∀ x y c,acc.lookup x=some c→acc.lookup y=some c→x=y)→
  ∀ x y c,(cellsFrom n names acc).lookup x=some c→(cellsFrom n names acc).lookup y=some c→x=y
 | [],n,acc,hb,hi=>hi
 | (nm,k)::r,n,acc,hb,hi=>by
  unfold cellsFrom;split
  ·refine qF r (n+1) _ (fun x c h=>?_) fun x y c h1 h2=>?_
   ·rw[List.lookup_cons]at h
    cases hx:(x == nm) with
    | true=>rw[hx]at h; have q:(n:Nat)=c:=Option.some.inj h; omega
    | false=>rw[hx]at h; have:=hb x c h; omega
   ·rw[List.lookup_cons]at h1 h2
    cases hx:(x == nm) with
    | true=>
     rw[hx]at h1
     have e:(n:Nat)=c:=Option.some.inj h1
     have ex:x=nm:=by simpa using hx
     cases hy:(y == nm) with
     | true=>
      have ey:y=nm:=by simpa using hy
      rw[ex,ey]
     | false=>rw[hy]at h2; have:=hb y c h2; omega
    | false=>
     rw[hx]at h1
     cases hy:(y == nm) with
     | true=>rw[hy]at h2; have e:(n:Nat)=c:=Option.some.inj h2; have:=hb x c h1; omega
     | false=>rw[hy]at h2; exact hi x y c h1 h2
  ·exact qF r n acc hb hi
theorem nq:∀ (names:List (Str × NameKind)) (h:Heap) (acc:List (Str × Addr)),(∀ x c,acc.lookup x=some c→∃ v,h.IsCell c v)→∀ x c,(cellsFrom h.objs.size names acc).lookup x=some c→∃ v,(pushCells h names).IsCell c v
 | [],h,acc,ha=>ha
 | (nm,k)::r,h,acc,ha=>by
  unfold cellsFrom pushCells;split
  ·have:=nq r (h.push { cls:=.type "cell", data:=.cell none }) ((nm,h.objs.size)::acc) fun x c e=>by
    rw[List.lookup_cons]at e
    cases hx:(x == nm) with
    | true=>rw[hx]at e; have e':h.objs.size=c:=Option.some.inj e; subst e'; exact⟨none,_,Heap.get?_push_size _ rfl,rfl⟩
    | false=>rw[hx]at e; obtain⟨v,z⟩:=ha x c e; exact⟨v,z.keeps fun b o q=>Heap.get?_push_of_some _ q⟩
   rwa [Heap.size_push]at this
  ·exact nq r h acc ha
theorem md:∀ (names:List (Str × NameKind)) (n:Nat) (acc:List (Str × Addr)) {x:Str},(∃ c,acc.lookup x=some c)→∃ c,(cellsFrom n names acc).lookup x=some c
 | [],n,acc,x,h=>h
 | (nm,k)::r,n,acc,x,h=>by
  unfold cellsFrom;split
  ·refine md r (n+1) _ ?_
   rw[List.lookup_cons]
   cases hx:(x == nm) with
   | true=>exact⟨_,rfl⟩
   | false=>exact h
  ·exact md r n acc h
theorem pI:∀ (names:List (Str × NameKind)) (n:Nat) (acc:List (Str × Addr)) {x:Str},(x,NameKind.cell)∈names→∃ c,(cellsFrom n names acc).lookup x=some c
 | (nm,k)::r,n,acc,x,h=>by
  unfold cellsFrom;rcases List.mem_cons.mp h with e | h
  ·have e1:x=nm:=congrArg (·.1) e
   have e2:NameKind.cell=k:=congrArg (·.2) e
   subst e1 e2;rw[if_pos (by rfl)]
   refine md r (n+1) _ ⟨n,?_⟩
   rw[List.lookup_cons,beq_self_eq_true]
  ·split
   ·exact pI r _ _ h
   ·exact pI r _ _ h
theorem m9:∀ (names:List (Str × NameKind)) (n:Nat) (acc:List (Str × Addr)) {x:Str},(x,NameKind.cell)∉names→(cellsFrom n names acc).lookup x=acc.lookup x
 | [],n,acc,x,h=>rfl
 | (nm,k)::r,n,acc,x,h=>by
  unfold cellsFrom;split
  ·rename_i hk
   have hk':k = .cell:=by simpa using hk
   rw[m9 r (n+1) _ fun z=>h (List.mem_cons_of_mem _ z),List.lookup_cons]
   cases hx:(x == nm) with
   | true=>exact absurd (by rw[show x=nm by simpa using hx,hk']; exact List.mem_cons_self) h
   | false=>rfl
  ·exact m9 r n acc fun z=>h (List.mem_cons_of_mem _ z)
theorem sU:∀ (names:List (Str × NameKind)) (n n0:Nat) (acc:List (Str × Addr)) {x:Str},n0≤n→(∀ c:Nat,acc.lookup x=some c→n0≤c)→∀ c:Nat,(cellsFrom n names acc).lookup x=some c→n0≤c
 | [],n,n0,acc,x,hn,h=>h
 | (nm,k)::r,n,n0,acc,x,hn,h=>by
  unfold cellsFrom;split
  ·refine sU r (n+1) n0 _ (by omega) fun c e=>?_
   rw[List.lookup_cons]at e
   cases hx:(x == nm) with
   | true=>rw[hx]at e; have q:(n:Nat)=c:=Option.some.inj e; omega
   | false=>rw[hx]at e; exact h c e
  ·exact sU r n n0 acc hn h
theorem qD:∀ (names:List (Str × NameKind)) (n:Nat) (acc:List (Str × Addr)) {x:Str},(x,NameKind.cell)∈names→∀ c:Nat,(cellsFrom n names acc).lookup x=some c→n≤c
 | (nm,k)::r,n,acc,x,h,c,e=>by
  unfold cellsFrom at e;rcases List.mem_cons.mp h with z | h
  ·have e1:x=nm:=congrArg (·.1) z
   have e2:NameKind.cell=k:=congrArg (·.2) z
   subst e1 e2;rw[if_pos (by rfl)]at e
   refine sU r (n+1) n _ (by omega) (fun c q=>?_) c e
   rw[List.lookup_cons,beq_self_eq_true]at q
   have q:(n:Nat)=c:=Option.some.inj q; omega
  ·split at e
   ·have:=qD r _ _ h c e; omega
   ·exact qD r _ _ h c e
theorem eE{env:Env}{x:Str}{k:NameKind}:∀ {names:List (Str × NameKind)},
  (names.map fun (n,k)=>if (k == NameKind.free&&env.scope.kind == .function&&env.kindOf n == some .cell) then (n,NameKind.cell) else (n,k)).lookup x=some k→(k = .cell∨k = .free)→(x,NameKind.free)∈names∨(x,NameKind.cell)∈names
 | [],h,_=>by simp at h
 | (n,k0)::r,h,hk=>by
  have ih:=@eE env x k r;rw[List.map_cons]at h
  by_cases hf:(k0 == NameKind.free&&env.scope.kind == .function&&env.kindOf n == some .cell)=true
  ·have hk0:k0 = .free:=by
    have:(k0 == NameKind.free)=true:=by
     rw[Bool.and_eq_true,Bool.and_eq_true]at hf; exact hf.1.1
    simpa using this
   dsimp only at h
   rw[if_pos hf,List.lookup_cons]at h
   cases hx:(x == n) with
   | true=>
    have:x=n:=by simpa using hx
    rw[this,hk0]; exact .inl List.mem_cons_self
   | false=>
    rw[hx]at h
    rcases ih h hk with z | z
    ·exact .inl (List.mem_cons_of_mem _ z)
    ·exact .inr (List.mem_cons_of_mem _ z)
  ·dsimp only at h
   rw[if_neg hf,List.lookup_cons]at h
   cases hx:(x == n) with
   | true=>
    rw[hx]at h
    have e:k0=k:=Option.some.inj h
    have:x=n:=by simpa using hx
    rcases hk with z | z
    ·rw[this,e,z]; exact .inr List.mem_cons_self
    ·rw[this,e,z]; exact .inl List.mem_cons_self
   | false=>
    rw[hx]at h
    rcases ih h hk with z | z
    ·exact .inl (List.mem_cons_of_mem _ z)
    ·exact .inr (List.mem_cons_of_mem _ z)
theorem rh{env:Env}{x:Str}:∀ {names:List (Str × NameKind)},(names.map fun (n,k)=>if (k == NameKind.free&&env.scope.kind == .function&&env.kindOf n == some .cell) then (n,NameKind.cell) else (n,k)).lookup x=some .local→(x,NameKind.local)∈names:=by
 intro names
 induction names with
 | nil=>intro z; simp at z
 | cons y r ih=>
  obtain⟨n,k⟩:=y
  intro z
  rw[List.map_cons]at z
  dsimp only at z
  by_cases hfk:(k == NameKind.free&&env.scope.kind == .function&&env.kindOf n == some .cell)=true
  ·rw[if_pos hfk,List.lookup_cons]at z
   cases hx:(x == n) with
   | true=>rw[hx]at z; cases z
   | false=>rw[hx]at z; exact List.mem_cons_of_mem _ (ih z)
  ·rw[if_neg hfk,List.lookup_cons]at z
   cases hx:(x == n) with
   | true=>
    rw[hx]at z
    have ek:k = .local:=Option.some.inj z
    have en:x=n:=by simpa using hx
    rw[ek,en]; exact List.mem_cons_self
   | false=>rw[hx]at z; exact List.mem_cons_of_mem _ (ih z)
theorem zu{M:Model}{A:Around}{E:Value→Shared→Prop}{s:Shared}{scope:Scope}{globals:Addr}{closure:List (Str × Addr)}{qual:Str}{func:Option Addr}{code:Value}{env:Env}{builtins:Addr}{Q:Env→Shared→Prop}
  (hQ:Q (newEnv scope s.heap.objs.size globals (cellsFrom (s.heap.objs.size+1) scope.names closure) qual func code (some env) builtins) { s with heap:=pushCells (s.heap.push { cls:=.type "dict", data:=.dict #[] }) scope.names }) :
  wpAny M A (newFunctionEnv scope globals closure [] qual func code (some env) builtins) Q E s:=by
 simp only[newFunctionEnv,Option.isSome_some,if_true]
 refine wpAny_bind (wpAny_alloc ?_)
 refine wpAny_bind (wpAny_layCells _ (fun name kind cells=>by cases hkc:kind == NameKind.cell <;> simp[hkc]) _ _ _ _ ?_)
 rw[show ({ s with heap:=s.heap.push { cls:=.type "dict", data:=.dict #[] } }:Shared).heap.objs.size=s.heap.objs.size+1 from Heap.size_push ..];refine wpAny_bind ?_
 rw[List.forIn_nil];exact wpAny_pure (wpAny_pure hQ)
def w9(scope:Scope)(x:Str):Bool:=scope.names.any fun y=>y.1 == x&&y.2 == .cell
def bF(X:Cx)(N0 T:List Str)(scope:Scope)(C:Addr)(fp:List Addr)(s:Shared)(H:Hp):Cx:=
 { X with N:=N0++T,s₀:=s,H₀:=H,env:=compEnvC scope (cellsFrom (C+1) scope.names (cv X.env.cells scope.names [])) C X.env,outer:=X.stack,stack:=X.stack,ex:=fp,fn:=w9 scope,pn:=[],xe:=fun _ _=>False }
structure jH (X:Cx) (N0 T:List Str) (scope:Scope):Prop where
 kind:scope.kind = .function
 names:∀ y∈scope.names,y.2 = .local→scope.names.lookup y.1=some .local
 free:∀ y∈scope.names,y.2 = .free→X.env.kindOf y.1=some .cell∨X.env.kindOf y.1=some .free
 apart:∀ y∈scope.names,y.2 = .local∨y.2 = .cell→y.1∉N0
 len0:N0.length=X.N.length
 same:∀ (i:Nat) (x:Str) (k:NameKind),N0[i]? = some x→(x,k)∈scope.names→X.N[i]? = some x
section
variable{X:Cx}{N0 T:List Str}{scope:Scope}{tg elt iter:Expr}{ifs:List Expr}{pos:Pos}{wi:TI}{g:TG}{tc:TT}{te:TE}
theorem sR{pins:List (Addr × Obj)}{σ : St}{H:Hp}{s:Shared}{E:Value→Shared→Prop}{it:Addr}{fp:List Addr}{tn:Nat→Heap→Prop}{J:It}{Q:VK}{RR:Value→Addr→Result→Shared→Prop}
  (S:jH X N0 T scope) (hc:X.calm=true)
  (hg:∀ C fp s H,PG (bF X N0 T scope C fp s H) tg g) (hfr:n_ g X.N.length) (hi:∀ C fp s H,PIfs (bF X N0 T scope C fp s H) ifs tc) (he:∀ C fp s H,PE (bF X N0 T scope C fp s H) elt te)
  (I:Inv X pins σ H s) (Tn:lH X.prog X.w X.K tg J fp it tn) (st:tn 0 s.heap) (hf:∀ b∈fp,gK X pins H b)
  (h:∀ D,H D=none→fB J g tc te T.length σ D Q (upd H D (.lst [])))
  (hRR:∀ D C s' H' m,s'.heap.Ns C m→H' C=none→C≠X.env.locals→(∀ x c,X.env.cells.lookup x=some c→c≠C)→(∀ p∈X.pn++pins,p.1≠C)→X.s₀.heap.objs.size≤C→Inv X pins σ H' s'→
   (∀ h',Heap.SameBut C s'.heap h'→Inv X pins σ H' { s' with heap:=h' })→Q (.ref D) H'→RR (.ref D) C (.ok .next) s') :
  wpAny (model X.prog X.w) X.A (newList []) (fun acc s₃=>wpAny (model X.prog X.w) X.A (newFunctionEnv scope X.env.globals (cv X.env.cells scope.names []) [] X.env.qual none .none (some X.env)) (fun cenv s₄=>
   codeAny (model X.prog X.w) X.A (.compStart (.ListComp elt [⟨tg,iter,ifs,0⟩] scope pos) 0 (.ref it) acc { cenv with scope:=relabel scope X.env }) (RR acc cenv.locals) s₄) E s₃) E s:=by
 refine wpAny_newObj_type (zu ?_)
 dsimp only
 generalize hH2:s.heap.push { cls:=.type "list", dict:=none,data:=.seq ([]:List Value).toArray }=P2 at ⊢;have hC:P2.objs.size=s.heap.objs.size+1:=by rw[← hH2,Heap.size_push]
 -- the new list D, the block's names C
 obtain⟨D,hD⟩ : ∃ D:Nat,D=s.heap.objs.size:=⟨_,rfl⟩
 obtain⟨C,hCC⟩ : ∃ C:Nat,C=P2.objs.size:=⟨_,rfl⟩
 obtain⟨h₁,hh1⟩ : ∃ h₁:Heap,h₁=pushCells (P2.push { cls:=.type "dict", data:=.dict #[] }) scope.names:=⟨_,rfl⟩
 have kp1:∀ b o,P2.get? b=some o→h₁.get? b=some o:=fun b o e=>hh1 ▸ pushCells_keeps _ _ b o (Heap.get?_push_of_some _ e)
 have hns₁:h₁.Ns C (fun _=>none):=by rw[hh1,hCC]; exact(Heap.Ns.new P2 (.type "dict")).keeps (pushCells_keeps _ _)
 have hsz1:(P2.push { cls:=.type "dict", data:=.dict #[] }).objs.size=C+1:=by rw[Heap.size_push,hCC]
 rw[← hh1,← hCC];rw[← hD]at hC ⊢
 rw[← hCC]at hC
 have hDC:D≠C:=by omega
 have hDlt:D<C:=by omega
 have neD:∀ b o,s.heap.get? b=some o→b≠D:=fun b o e=>hD ▸ Nat.ne_of_lt (Heap.lt_size e)
 have neC:∀ b o,s.heap.get? b=some o→b≠C:=fun b o e=>Nat.ne_of_lt (Nat.lt_trans (hD ▸ Heap.lt_size e) hDlt)
 have old:∀ b o,s.heap.get? b=some o→h₁.get? b=some o:=fun b o e=>kp1 b o (hH2 ▸ Heap.get?_push_of_some _ e)
 have hHD:H D=none:=I.hok.fresh (by omega)
 have hHC:H C=none:=I.hok.fresh (by omega)
 have dat:h₁.get? D=some { cls:=.type "list", data:=.seq ([]:List Value).toArray 0 }:=by
  refine kp1 _ _ ?_
  rw[← hH2,hD];exact Heap.get?_push_size _ rfl
 -- the block's context stands
 have hcl:∀ x c,(cv X.env.cells scope.names []).lookup x=some c→X.env.cells.lookup x=some c:=fun x c e=>
  jj (fun y hy hk=>I.ok.has y.1 (S.free y hy hk)) (fun y c z=>by simp at z) e
 have hlt:∀ (x:Str) (c:Nat),X.env.cells.lookup x=some c→c<D:=fun x c e=>by obtain⟨v,z⟩:=I.cell x c e; rw[hD]; exact z.lt
 have hcf:∀ (x:Str) (c:Nat),(cellsFrom (C+1) scope.names (cv X.env.cells scope.names [])).lookup x=some c→X.env.cells.lookup x=some c∨C<c:=fun x c e=>by
  rcases nj _ _ _ e with z | ⟨z,_⟩
  ·exact .inl (hcl x c z)
  ·exact .inr z
 have okC:(bF X N0 T scope C fp s H).Ok:=by
  refine⟨I.ok.mod,?_,I.ok.glob,I.ok.blt,?_,qF _ _ _ (fun x c e=>?_) (fun x y c e1 e2=>I.ok.inj x y c (hcl x c e1) (hcl y c e2)),fun x hx=>?_,fun x c z e=>?_,I.ok.hd,I.ok.frames,.inl rfl,fun b hb=>⟨?_,fun x c e=>?_⟩,
   I.bs,?_,fun b o e hb=>?_,fun b hb z=>?_,I.stack,I.stkFree⟩
  ·show (relabel scope X.env).kind = .function
   exact S.kind
  ·show s.heap.objs.size≤C
   omega
  ·have:=hlt x c (hcl x c e); omega
  ·have hx':(relabel scope X.env).names.lookup x=some .cell∨(relabel scope X.env).names.lookup x=some .free:=hx
   have m:(x,NameKind.free)∈scope.names∨(x,NameKind.cell)∈scope.names:=by
    rcases hx' with z | z
    ·exact eE z (.inl rfl)
    ·exact eE z (.inr rfl)
   rcases m with m | m
   ·exact md _ _ _ (fu m)
   ·exact pI _ _ _ m
  ·have m:(x,NameKind.cell)∈scope.names:=by
    obtain⟨y,hy,q⟩:=List.any_eq_true.mp (show w9 scope x=true from z)
    rw[Bool.and_eq_true]at q
    have q1:y.1=x:=by simpa using q.1
    have q2:y.2 = .cell:=by simpa using q.2
    rw[← q1,← q2]; exact hy
   have:=qD _ _ _ m c e
   show s.heap.objs.size≤c
   omega
  ·show b≠C
   obtain⟨o,e,_⟩:=Tn.obj 0 _ st b hb
   exact neC b o e
  ·rcases hcf x c e with z | z
   ·exact(hf b hb).2.2.2.2.1 x c z
   ·obtain⟨o,e,_⟩:=Tn.obj 0 _ st b hb
    have q:@LT.lt Nat _ b s.heap.objs.size:=Heap.lt_size e
    intro ecb
    have ecb':@Eq Nat c b:=ecb
    have zz:C<c:=z
    omega
  ·exact Nat.le_trans I.ok.bsz I.sz
  ·obtain⟨_,_,_,z,_⟩:=hf b hb
   rcases z with z | z
   ·exact I.ok.noex b o e z
   ·exact absurd (Nat.lt_of_lt_of_le (Nat.lt_of_lt_of_le (Heap.lt_size e) I.ok.bsz) z) (Nat.lt_irrefl _)
  ·obtain⟨_,z1,z2,_⟩:=hf b hb
   rcases List.mem_cons.mp (I.stkSub b z) with q | q
   ·exact z1 q
   ·exact z2 q
 have I1:Inv (bF X N0 T scope C fp s H) [] (σ++List.replicate T.length none) (upd H D (.lst [])) { s with heap:=h₁ }:=by
  refine⟨okC,rfl,I.bare,Un.laid (h:=s.heap) old (by omega) hHD,⟨_,hns₁,fun i x v e1 e2 e3=>?_⟩,fun x c e=>?_,?_,fun x c e=>?_,fun p hp=>(by simp[bF]at hp),I.hok.laid old (by omega) ?_,?_⟩
  ·have e1':(N0++T)[i]? = some x:=e1
   have hl:=I.len;have hl0:=S.len0
   have hi:i<σ.length:=by
    rcases Nat.lt_or_ge i σ.length with z | z
    ·exact z
    ·rw[List.getElem?_append_right z]at e2
     rw[List.getElem?_replicate]at e2
     split at e2 <;> cases e2
   rw[List.getElem?_append_left hi]at e2
   rw[List.getElem?_append_left (by omega)]at e1'
   have hxN:x∈N0:=List.mem_of_getElem? e1'
   have e3':(relabel scope X.env).names.lookup x=some .local∨(relabel scope X.env).names.lookup x=some .cell∨(relabel scope X.env).names.lookup x=some .free:=e3
   have hnc:(x,NameKind.cell)∉scope.names:=fun m=>S.apart _ m (.inr rfl) hxN
   have fr:(relabel scope X.env).names.lookup x=some .cell∨(relabel scope X.env).names.lookup x=some .free:=by
    rcases e3' with z | z | z
    ·exact absurd hxN (S.apart (x,.local) (rh z) (.inl rfl))
    ·exact .inl z
    ·exact .inr z
   have m:(x,NameKind.free)∈scope.names:=by
    rcases fr with z | z
    ·exact(eE z (.inl rfl)).resolve_right hnc
    ·exact(eE z (.inr rfl)).resolve_right hnc
   have kX:=S.free _ m rfl;obtain⟨mm,hn,hl'⟩:=I.loc
   obtain⟨u,r,lk⟩:=hl' i x v (S.same i x _ e1' m) e2 (.inr kX)
   refine⟨u,r,.inr ⟨fr,?_⟩⟩
   rcases lk with ⟨z,_⟩ | ⟨_,c,ec,cc⟩
   ·rcases kX with q | q
    ·rw[q]at z; cases z
    ·rw[q]at z; cases z
   ·obtain⟨c',ec'⟩:=fu (cells:=X.env.cells) (acc:=[]) m
    have:=hcl x c' ec'
    rw[ec]at this; cases this
    exact⟨c,(m9 _ _ _ hnc).trans ec',cc.keeps old⟩
  ·have q:=nq scope.names (P2.push { cls:=.type "dict", data:=.dict #[] }) (cv X.env.cells scope.names []) (fun x c e=>by
    obtain⟨v,z⟩:=I.cell x c (hcl x c e)
    exact⟨v,z.keeps fun b o q=>Heap.get?_push_of_some _ (hH2 ▸ Heap.get?_push_of_some _ q)⟩) x c
   rw[hsz1,← hh1]at q
   exact q e
  ·show upd H D (.lst []) C=none
   rw[ai (Ne.symm hDC)]; exact hHC
  ·rcases hcf x c e with e | e
   ·have q:=I.freeC x c e
    obtain⟨v,o,z,_⟩:=I.cell x c e
    rw[ai (neD c o z)]; exact q
   ·have e':C<c:=e
    have q1:c≠D:=fun q=>by have q':@Eq Nat c D:=q; omega
    rw[ai q1]; exact I.hok.fresh (by omega)
  ·exact⟨Nat.zero_le _,[],0,.nil,dat⟩
  ·show (σ++List.replicate T.length none).length=(N0++T).length
   rw[List.length_append,List.length_append,List.length_replicate,I.len,S.len0]
 have st1:tn 0 h₁:=Tn.keep _ _ _ st fun b _ o e=>old b o e
 have fp1:∀ {H':Hp},(∀ b∈fp,H' b=none)→∀ b∈fp,gK (bF X N0 T scope C fp s H) [] H' b:=fun hn b hb=>
  ⟨hn b hb,(okC.exf b hb).1,okC.exfs b hb,.inl hb,(okC.exf b hb).2,fun p hp=>(by simp[bF]at hp)⟩
 have fp0:∀ b∈fp,upd H D (.lst []) b=none:=fun b hb=>by
  obtain⟨o,e,_⟩:=Tn.obj 0 _ st b hb
  rw[ai (neD b o e)]; exact(hf b hb).1
 obtain⟨W,⟨m0,w0⟩,turn⟩:=h D hHD
 have loop:∀ s₃ : Shared,s₃={ s with heap:=h₁ }→
   codeAny (model X.prog X.w) X.A (.compLoop (.ListComp elt [⟨tg,iter,ifs,0⟩] scope pos) 0 (.ref it) (.ref D) (compEnvC scope (cellsFrom (C+1) scope.names (cv X.env.cells scope.names [])) C X.env)) (RR (.ref D) C) s₃:=by
  rintro s₃ rfl
  refine fI (fun n s'=>∃ i H' ys,Inv (bF X N0 T scope C fp s H) [] (σ++List.replicate T.length none) H' s'∧tn i s'.heap∧(∀ b∈fp,H' b=none)∧W i n ys H') ?_ m0 ⟨0,_,[],I1,st1,fp0,w0⟩
  rintro n s3 ⟨i,H3,ys,I3,st3,fr3,w3⟩
  rcases turn i n ys H3 w3 with ⟨stop,qn⟩ | ⟨go,step⟩
  ·refine ba (Tn.done (bF X N0 T scope C fp s H) rfl rfl rfl hc i [] s3 _ H3 (fun _ _=>False) I3 (fp1 fr3) st3 stop) fun r s4 ⟨hr,I4⟩=>?_
   subst hr;obtain⟨m,hm,_⟩:=I4.loc
   have hch:∀ b∈fp,(b∈X.ex∨X.s₀.heap.objs.size≤b)∧b≠X.env.locals∧(∀ x c,X.env.cells.lookup x=some c→c≠b)∧∀ p∈X.pn++pins,p.1≠b:=fun b hb=>
    ⟨(hf b hb).2.2.2.1,(hf b hb).2.1,(hf b hb).2.2.2.2.1,(hf b hb).2.2.2.2.2⟩
   have u4:Un (jq X.stack) fp H H3 s.heap s4.heap:=I4.base
   refine hRR D C s4 H3 m hm I4.free (Ne.symm (Nat.ne_of_lt (Nat.lt_trans (hD ▸ I.lt) hDlt))) (fun x c e=>?_) (fun p hp=>?_) (Nat.le_trans (hD ▸ I.sz) (Nat.le_of_lt hDlt)) (I.call' (ch:=fp) I4.os u4 I4.hok I4.bare hch) (fun h' hs'=>?_) qn
   ·obtain⟨v,o,q,_⟩:=I.cell x c e
    exact neC c o q
   ·exact neC _ _ (I.pin p hp).1
   ·refine I.call' (ch:=fp) (s':={ s4 with heap:=h' }) I4.os ⟨fun b o q n' hb hx=>(hs'.2 b (neC b o q)).trans (u4.keep b o q n' hb hx),fun b o q n' hb hx=>?_,u4.free,fun b o q hx=>?_,u4.tups,u4.frzs,u4.tbls⟩ (I4.hok.sameBut hs' I4.free) I4.bare hch
    ·obtain⟨sl,e⟩:=u4.slot b o q n' hb hx
     exact⟨sl,(hs'.2 b (neC b o q)).trans e⟩
    ·obtain⟨o',e⟩:=u4.there b o q hx
     exact⟨o',(hs'.2 b (neC b o q)).trans e⟩
  ·refine ba (Tn.item (bF X N0 T scope C fp s H) rfl rfl rfl hc i [] s3 _ H3 (fun _ _=>False) I3 (fp1 fr3) st3 go) fun r s4 ⟨u,hr,h4⟩=>?_
   subst hr;refine ba h4 fun _ s5 ⟨x,H5,I5,r5,y5,st5,fr5⟩=>?_
   have I5':=I5.pinned (fp1 fr5) (Tn.obj _ _ st5);refine ba (hg C fp s H _ s5 _ H5 x u _ I5' r5 (hfr _ _ _ _ (step x H5 y5))) fun _ s6 ⟨σ6,H6,I6,q6,l6,k6⟩=>?_
   have back:∀ {H7:Hp} {s7:Shared},Inv (bF X N0 T scope C fp s H) ([]++jy fp s5.heap) σ6 H7 s7→(∀ {m':Nat} {zs:List V},m'<n→W (i+1) m' zs H7→∃ m,m<n∧∃ i H' ys,Inv (bF X N0 T scope C fp s H) [] (σ++List.replicate T.length none) H' s7∧tn i s7.heap∧(∀ b∈fp,H' b=none)∧W i m ys H'):=fun {H7 s7} I7 {m' zs} hm w7=>by
    refine⟨m',hm,i+1,H7,zs,I7.unpinned.weak (by rw[l6]) (fun j v e=>?_),Tn.keep _ _ _ st5 fun b hb o e=>(I7.pin (b,o) (List.mem_append_right _ (List.mem_append_right _ (d0 hb e)))).1,fun b hb=>?_,w7⟩
    ·have hj:j<σ.length:=by
      rcases Nat.lt_or_ge j σ.length with z | z
      ·exact z
      ·rw[List.getElem?_append_right z,List.getElem?_replicate]at e
       split at e <;> cases e
     rw[k6 j (by rw[← I.len]; exact hj)]
     exact e
    ·obtain⟨o,e,d⟩:=Tn.obj _ _ st5 b hb
     exact(I7.pin (b,o) (List.mem_append_right _ (List.mem_append_right _ (d0 hb e)))).2.1
   refine ba (hi C fp s H _ s6 σ6 H6 _ I6 q6) fun b s7 ⟨H7,I7,q7⟩=>?_
   cases b with
   | false=>
    obtain⟨m',hm,w7⟩:=(show ∃ m',m'<n∧W (i+1) m' ys H7 from by simpa using q7)
    exact back I7 hm w7
   | true=>
    rw[if_pos rfl]at q7
    refine ba (he C fp s H _ s7 σ6 H7 _ I7 q7) fun v s8 ⟨y,H8,I8,r8,hD8,hz,m',hm,w8⟩=>?_
    refine ba (kf (X:=bF X N0 T scope C fp s H) _ s8 σ6 H8 (.ref D) [y] (.ref D) [v] (fun _ H9=>H9=upd H8 D (.lst (ys++[y]))) I8 rfl (.cons r8 .nil) ⟨D,ys,y,rfl,rfl,hD8,hz,rfl⟩) fun v9 s9 ⟨y9,H9,I9,_,e9⟩=>?_
    subst e9;exact back I9 hm w8
 exact codeAny_compStart_list (loop _ rfl) (Tn.self X.A 0 _ _ _ st1 (loop _ rfl))
theorem xG(S:jH X N0 T scope)(hc:X.calm=true)(hI:PI X tg iter wi)
  (hg:∀ C fp s H,PG (bF X N0 T scope C fp s H) tg g) (hfr:n_ g X.N.length) (hi:∀ C fp s H,PIfs (bF X N0 T scope C fp s H) ifs tc) (he:∀ C fp s H,PE (bF X N0 T scope C fp s H) elt te)
  (hs:∀ x,foldedSetIterable iter X.env x=pure x:=by intro _; rfl):PE X (.ListComp elt [⟨tg,iter,ifs,0⟩] scope pos) (oQ wi g tc te T.length):=by
 intro pins s σ H Q I h
 rw[eval_ListComp];refine wpAny_comprehension_free (use:=none) rfl hs (gL fun x hx hk=>I.ok.has x.1 (S.free x hx hk)) S.kind S.names (ba (hI pins s σ H _ I h) fun v s1 h1=>ba h1 fun itv s2 h2=>?_)
 obtain⟨it,fp,tn,J,H2,e,I2,Tn,st2,f2,q2⟩:=h2
 subst e;refine sR (RR:=fun acc C=>compPost (model X.prog X.w) X.A X.xe none (EP X pins σ Q) acc C) S hc hg hfr hi he I2 Tn st2 f2 q2 ?_
 intro D C s' H' m hn hC hL hcells hpins hfresh I' hI' q
 exact⟨m,hn,fun h' hs'=>⟨.ref D,H',hI' h' hs',rfl,q⟩⟩
end
structure CompScO (fsc:Scope) (N N0 T:List Str) (scope:Scope):Prop where
 kind:scope.kind = .function
 names:∀ y∈scope.names,y.2 = .local→scope.names.lookup y.1=some .local
 free:∀ y∈scope.names,y.2 = .free→fsc.names.lookup y.1=some .cell∨fsc.names.lookup y.1=some .free
 apart:∀ y∈scope.names,y.2 = .local∨y.2 = .cell→y.1∉N0
 len0:N0.length=N.length
 same:((N0.zip N).all fun p=>p.1 == p.2 || !(scope.names.any fun y=>y.1 == p.1))=true
theorem CompScO.to{X:Cx}{fsc:Scope}{N N0 T:List Str}{scope:Scope}(S:CompScO fsc N N0 T scope)(h1:X.env.scope=fsc)(h2:X.N=N):jH X N0 T scope:=by
 subst h1 h2;refine⟨S.kind,S.names,S.free,S.apart,S.len0,fun i x k e m=>?_⟩
 have hl:=S.len0;have hi:i<N0.length:=(List.getElem?_eq_some_iff.mp e).1
 have hN:X.N[i]? = some X.N[i]:=List.getElem?_eq_getElem (by omega)
 have hz:(x,X.N[i])∈N0.zip X.N:=List.mem_of_getElem? (i:=i) (by rw[List.getElem?_zip_eq_some]; exact⟨e,hN⟩)
 have q:=List.all_eq_true.mp S.same _ hz;simp only[Bool.or_eq_true,beq_iff_eq,Bool.not_eq_true']at q
 rcases q with q | q
 ·rw[hN,← q]
 ·have:(scope.names.any fun y=>y.1 == x)=true:=List.any_eq_true.mpr ⟨_,m,by simp⟩
  rw[this]at q; cases q
section
variable{X:Cx}{N0 T:List Str}{scope:Scope}{C:Addr}{fp:List Addr}{s:Shared}{H:Hp}{x:Str}
theorem Ew(fsc:Scope)(h:(bg scope fsc).names.lookup x=some .globalImplicit)(e:X.env.scope=fsc:=by rfl):Gl (bF X N0 T scope C fp s H) x:=by subst e; exact h
theorem Cb(fsc:Scope)(h:((bg scope fsc).names.lookup x=some .local||(bg scope fsc).names.lookup x=some .cell||(bg scope fsc).names.lookup x=some .free)=true)(e:X.env.scope=fsc:=by rfl):ap (bF X N0 T scope C fp s H).env.scope x:=by
 subst e;simp only[Bool.or_eq_true,decide_eq_true_eq]at h
 rcases h with (h | h) | h
 ·exact .inl h
 ·exact .inr (.inl h)
 ·exact .inr (.inr h)
theorem CH(fsc:Scope)(h:((bg scope fsc).names.lookup x=some .local||(bg scope fsc).names.lookup x=some .cell)=true)(e:X.env.scope=fsc:=by rfl):aS (bF X N0 T scope C fp s H).env.scope x:=by
 subst e;simp only[Bool.or_eq_true,decide_eq_true_eq]at h
 rcases h with h | h
 ·exact .inl h
 ·exact .inr h
theorem DU(fsc:Scope)(h:(w9 scope x||(bg scope fsc).names.lookup x=some .local)=true)(e:X.env.scope=fsc:=by rfl):(bF X N0 T scope C fp s H).fn x=true∨(bF X N0 T scope C fp s H).env.scope.names.lookup x=some .local:=by
 subst e;simp only[Bool.or_eq_true,decide_eq_true_eq]at h
 rcases h with h | h
 ·exact .inl h
 ·exact .inr h
end
theorem yt{X:Cx}{n:Nat}(P:Program)(w:World)(hr:Room n X.A){o e:Expr}{td ty:TE}{apos cpos:Pos}(ho:PE X o td)(he:PE X e ty)(m:M1 X o "get" apos e cpos) (hP:X.prog=P:=by rfl) (hw:X.w=w:=by rfl):PE X (.Call (.Attribute o "get" apos) [e] [] cpos) (mz P w td ty):=by subst hP hw; exact zd hr ho he m
theorem wg(P:Program)(w:World)(td ty:TE){σ : St}{H:Hp}{Q:VK}:mz P w td ty σ H Q=td σ H fun x H1=>∃ a kvs,x = .ref a∧DO P w H1 a kvs∧ty σ H1 fun y H2=>∃ b k kvs',y = .ref b∧DO P w H2 a kvs'∧KeyO H2 k b∧Q ((aH kvs' k).getD .non) H2:=rfl
theorem tD(P:Program)(w:World)(tk tv:TE){σ : St}{H:Hp}{Q:VK}:m_ P w tk tv σ H Q=∀ p,H p=none→∀ u,DO P w (upd H p u) p []→tk σ (upd H p u) fun y H1=>tv σ H1 fun z H2=>∃ b k,y = .ref b∧KeyO H2 k b∧DO P w H2 p []∧∀ u',DO P w (upd H2 p u') p [(k,z)]→Q (.ref p) (upd H2 p u'):=rfl
end L2
namespace L2
open PySem PySem.Spec PyProof.Rows
structure sI (P:Program) (w:World) (K:PySem.W.Frag) (mg:Str→Option Value) (base:Heap) (k:Nat) (f:Addr) (ps:List Str) (sp:Sp):Prop where
 ex:∃ fd,iV P w K mg base kY k f fd ps sp∧Binds K fd ps []∧PySem.W.keepIn K (.ref f)=true
theorem Cal.f{P:Program}{w:World}{K:PySem.W.Frag}{mg:Str→Option Value}{base:Heap}{k:Nat}{x:Str}{ps:List Str}{sp:Sp}(c:Cal P w K mg base k x ps sp):∃ f,mg x=some (.ref f)∧sI P w K mg base k f ps sp:=by
 obtain⟨f,fd,F,b,kp,m⟩:=c.ex
 exact⟨f,m,fd,F,b,kp⟩
def A0(i:Nat)(f:Addr)(sp:Sp)(t:TA):TE:=fun σ H Q=>σ[i]? = some (some (.ref f))∧oK sp [] E0 t σ H Q
section
variable{X:Cx}
theorem zZ{i j k:Nat}{f:Addr}{x:Str}{ps:List Str}{sp:Sp}{p pos:Pos}{e:Expr}{es:List Expr}{t:TA}(c:sI X.prog X.w X.K X.mg X.base j f ps sp)(hr:Room k X.A)(ha:PA X (e::es) t)(hle:j≤k:=by decide)(hN:X.N[i]? = some x:=by rfl)(hv:ap X.env.scope x:=by first | exact vSs (by decide +kernel) | exact Or.inl rfl)
  (hd:(x == ("__debug__" : Str))=false:=by decide) (hcd:(x == ("__classdict__" : Str))=false:=by decide) (he:starEach (e::es) X.env=(false,eval e X.env)::starEach es X.env:=by rfl) (hpl:(backTo pos (starEach es X.env)).any (·.1)=false:=by rfl) :
  PE X (.Call (.Name x p) (e::es) [] pos) (A0 i f sp t):=by
 intro pins s σ H Q I h
 obtain⟨hσ,h⟩:=h
 obtain⟨fd,F,hb,kp⟩:=c.ex
 refine wpAny_Call_Name_kw (ba (vd (pos:=p) hN hv hd hcd pins s σ H (fun v H'=>v = .ref f∧H'=H) I ⟨_,hσ,rfl,rfl⟩) fun u s0 ⟨v,H0,I0,r0,hv0,hH0⟩=>?_)
 subst hv0 hH0;obtain rfl:u=Value.ref f:=r0
 refine PySem.W.callWith_K (h₀:=X.base) I0.ok.mod.kin kp (ba (ha pos pins s0 σ H0 _ I0 h) fun us s1 ⟨vs,H1,I1,r,q⟩=>⟨I1.kIn,?_⟩) he hpl
 exact uS F (hr.mono hle) hb .nil yP I1 r q
theorem ux{x:Str}{f:Addr}{pos:Pos}(hm:X.mg x=some (.ref f))(hg:Gl X x:=by first | exact vGg (by decide +kernel) | rfl)(hd:(x == ("__debug__" : Str))=false:=by decide):PE X (.Name x pos) (tC (.ref f)):=rj hg hm rfl hd
end
end L2
namespace L2
open PySem PySem.Spec PyProof PyProof.Rows
section
variable{prog:Program}{w:World}{A:Around}{E:Value→Shared→Prop}{s:Shared}{d:Addr}{es:Array DictEntry}{ep:Nat}
end
section
variable{X:Cx}
end
end L2
namespace L2
open PySem PySem.Spec PyProof PyProof.Rows
section
variable{X:Cx}
def BF(K:PySem.W.Frag)(n:Nat)(t:fH):TG:=fun v σ H Q=>∃ a xs,v = .ref a∧SqL K H a xs∧xs.length=n∧t xs σ H Q
theorem zb{σ : St}{H:Hp}{G:St→Hp→Prop}(K:PySem.W.Frag)(n:Nat)(t:fH)(v:V):BF K n t v σ H G=∃ a xs,v = .ref a∧SqL K H a xs∧xs.length=n∧t xs σ H G:=rfl
theorem zR(K:PySem.W.Frag){es:List Expr}{k n:Nat}{t:fH}{pos:Pos}(h:PGs X es t)(hn:(assignEach es X.env).length=n:=by rfl)(hst:(assignEach es X.env).findIdx? (·.1)=none:=by rfl)(hK:X.K=K:=by rfl)(hc:X.calm=true:=by rfl):PG X (.Tuple es k pos) (BF K n t):=by
 subst hK;intro pins s σ H v u Q I r hw
 obtain⟨a,xs,e1,hq,hl,hw⟩:=hw
 subst e1
 cases r;obtain⟨its,rv,ht,hz⟩:=I.list hq
 rw[assign_Tuple];refine wpAny_bind (wpAny_standAt ?_)
 unfold unpack;rw[hst,hn,show n=its.toArray.size by rw[← hl]; simp[rv.length]]
 refine wpAny_bind (wpAny_holding (PySem.W.kun_itemsOf (I.ok.hd hc) ht.isList fun h' hx=>?_))
 have I1:Inv X pins σ H { s with heap:=h' }:=I.kept (t':=s.toks) fun b o e=>hx b o (Nat.ne_of_lt (Heap.lt_size e)) e
 exact h pins _ σ H xs _ Q I1 (by simpa using rv) hw
end
end L2
section
open PySem PySem.Spec PyProof.Rows L2
seal L2.PE L2.PT L2.PW L2.PA L2.PS L2.PSs L2.PG L2.PGs L2.PSet L2.PI L2.PIfs L2.OpR L2.UnR L2.CallR L2.IxR L2.MtR L2.SlR L2.PO L2.PPs
local macro_rules | `(tactic| walk_at "rd1")=>`(tactic| try simp only [iy,gw,dZ,dz,fW,gD,gZ,hJ,fV,hG,fZ,iD,gh,ix,ii,iK,kI,jp,gj,kD,iH,jr,ij,fX,iq,jx,jl,fU,ie,ik,iM,fY,jn,jt,gi,d9,fO,im,iG,gq,fT,hU,gm,f_,gz,iL,eP,jv,kz,fc,eW,e_,eT,eV,il,gC,gA,gx,ee,eR,gB,hV,iw,ig,fe,dY,gb,fM,dB,dA,fj,fg,fQ,fP,fN,dU,ir,gy,ga,eL,iI,ic,iz,L2.start,List.map_cons,List.map_nil,List.length_cons,List.length_nil,List.replicate,List.cons_append,List.nil_append,List.append_nil,List.getElem?_cons_zero,List.getElem?_cons_succ,List.set_cons_zero,List.set_cons_succ,Nat.reduceAdd,Nat.reduceSub,Option.some.injEq,exists_eq_left',exists_eq_left,V.int.injEq,V.ref.injEq,V.str.injEq,V.bl.injEq,jk,ip,and_true,true_and,decide_eq_true_eq,Bool.not_true,Bool.not_false,if_true,Bool.false_eq_true,if_false,ite_true,ite_false])
local macro_rules | `(tactic| walk_at "nx")=>`(tactic| ((first | rw [gf] | (dsimp only; rw [gf])); walk_at "rd1"))
local macro_rules | `(tactic| walk_at "lk")=>`(tactic| repeat (first | exact lk_hit | exact BH | rw [lk_miss (by decide +kernel)]))
local macro_rules | `(tactic| walk_at "pf")=>`(tactic| repeat (first | rw [putF_hit] | rw [x5] | rw [putF_miss (by decide +kernel)]))
namespace K16
open PySem L2
abbrev bY:Stmt:=top 5
theorem ul:aU ["numbers", "ways"] ["numbers", "ways"] (defScope bY):=mKk
abbrev gLk (s : Stmt) (n : Str) : Prop:=(defScope s).names.lookup n=some .globalImplicit
theorem oIn {a b : Prop} (h : a) : a ∨ b:=.inl h
abbrev aO:Stmt:=top 6
theorem sc_finer_kinds:aU ["rooms", "kinds", "seen", "finer", "at", "room", "mark"] ["rooms", "kinds"] (defScope aO):=mKk
theorem Gu:gLk aO "enumerate":=by decide +kernel
abbrev bf:Stmt:=top 7
theorem sc_kinds_upto:aU ["rooms", "most", "kinds", "finer"] ["rooms", "most"] (defScope bf):=mKk
theorem Gg:(defScope bf).names.lookup ("kinds" : Str)=some .local:=by decide +kernel
abbrev a_:Stmt:=top 8
theorem sc_merged_rooms:aU ["rooms", "kinds", "merged", "at", "room"] ["rooms", "kinds"] (defScope a_):=mKk
theorem Gq:gLk a_ "enumerate":=by decide +kernel
abbrev aW:Stmt:=top 9
theorem sc_rooms_led_to:aU ["rooms", "order", "met", "at", "room", "way"] ["rooms"] (defScope aW):=mKk
abbrev ay:Stmt:=top 10
theorem sc_numbered_rooms:aU ["rooms", "order", "numbers", "number", "room"] ["rooms"] (defScope ay):=mKk
theorem F1:ap (defScope ay) "rooms" := Or.inr (Or.inl (by decide +kernel))
theorem F2:ap (defScope ay) "numbers" := Or.inr (Or.inl (by decide +kernel))
theorem FB:aS (defScope ay) "numbers" := Or.inr (by decide +kernel)
theorem FQ:gLk ay "enumerate":=by decide +kernel
abbrev aR:Stmt:=top 11
theorem kP:aU ["rooms", "place"] ["rooms", "place"] (defScope aR):=mKk
theorem FL:gLk aR "enumerate":=by decide +kernel
abbrev cy:Stmt:=top 12
theorem wm:aU ["things", "places"] ["things", "places"] (defScope cy):=mKk
abbrev av:Stmt:=top 13
theorem sc_least_upto:aU ["rule", "most", "kinds", "words", "rooms", "places"] ["rule", "most"] (defScope av):=mKk
theorem Gj:ap (defScope av) "rooms" := Or.inr (Or.inl (by decide +kernel))
theorem G5:aS (defScope av) "rooms" := Or.inr (by decide +kernel)
theorem F7:ap (defScope av) "places" := Or.inr (Or.inl (by decide +kernel))
theorem GN:aS (defScope av) "places" := Or.inr (by decide +kernel)
theorem Gb:gLk av "range":=by decide +kernel
abbrev b5:Stmt:=top 14
theorem oF:aU ["rule"] ["rule"] (defScope b5):=mKk
abbrev bM:Stmt:=top 16
theorem lR:aU ["one", "other"] ["one", "other"] (defScope bM):=mKk
abbrev bA:Stmt:=top 17
theorem lG:aU ["one", "other"] ["one", "other"] (defScope bA):=mKk
abbrev bx:Stmt:=top 18
theorem qL:aU ["words", "places", "number", "room"] ["words", "places", "number", "room"] (defScope bx):=mKk
abbrev aD:Stmt:=top 19
theorem sc_ways_by_room:aU ["rule", "words", "places", "place", "word", "ways", "number", "room"] ["rule", "words"] (defScope aD):=mKk
theorem C5:gLk aD "enumerate":=by decide +kernel
abbrev bw:Stmt:=top 20
theorem me:aU ["ones", "others", "pair"] ["ones", "others", "pair"] (defScope bw):=mKk
theorem F8:gLk bw "list":=by decide +kernel
theorem FI:gLk bw "zip":=by decide +kernel
abbrev bR:Stmt:=top 24
theorem sc_next_room:aU ["rule", "room", "text", "words"] ["rule", "room", "text"] (defScope bR):=mKk
abbrev bE:Stmt:=top 25
theorem sc_room_from:aU ["rule", "room", "row", "text"] ["rule", "room", "row"] (defScope bE):=mKk
abbrev b4:Stmt:=top 26
theorem oA:aU ["rule", "row"] ["rule", "row"] (defScope b4):=mKk
abbrev cM:Stmt:=top 28
theorem oE:aU ["pair"] ["pair"] (defScope cM):=mKk
abbrev cu:Stmt:=top 29
theorem m8:aU ["pair"] ["pair"] (defScope cu):=mKk
abbrev ao:Stmt:=top 30
theorem sc_rule_of_pairs:aU ["one", "other", "breaks", "words", "ones", "others", "order", "numbers", "rooms", "here", "room", "pair"] ["one", "other", "breaks"] (defScope ao):=mKk
abbrev aQ:Stmt:=top 31
theorem sc_least_of_pairs:aU ["one", "other", "breaks", "least"] ["one", "other", "breaks"] (defScope aQ):=mKk
abbrev bJ:Stmt:=top 32
theorem ng:aU ["one", "other"] ["one", "other"] (defScope bJ):=mKk
abbrev bH:Stmt:=top 33
theorem m4:aU ["one", "other"] ["one", "other"] (defScope bH):=mKk
abbrev b_:Stmt:=top 35
theorem sc_row_to:aU ["came", "at", "row", "place"] ["came", "at"] (defScope b_):=mKk
theorem Em:gLk b_ "list":=by decide +kernel
theorem Df:gLk b_ "reversed":=by decide +kernel
abbrev az:Stmt:=top 36
theorem sc_row_apart:aU ["other", "one", "words", "others", "ones", "order", "came", "met", "at", "here", "word", "pair"] ["other", "one"] (defScope az):=mKk
theorem DH:gLk az "zip":=by decide +kernel
abbrev bQ:Stmt:=top 38
theorem nn:aU ["_law_script", "_law_k"] ["_law_script", "_law_k"] (defScope bQ):=mKk
abbrev bB:Stmt:=top 39
theorem sc_law_mixed:aU ["_law_cell", "_law_many", "_law_number", "_law_found", "_law_k"] ["_law_cell", "_law_many"] (defScope bB):=mKk
theorem Fs:gLk bB "range":=by decide +kernel
abbrev aF:Stmt:=top 40
theorem sc_law_words:aU ["_law_cell", "_law_many", "_law_sides", "_law_letters", "_law_xs", "_law_size", "_law_at", "_law_words_here", "_law_k", "_law_word", "_law_j"] ["_law_cell", "_law_many", "_law_sides"] (defScope aF):=mKk
theorem BQ:gLk aF "range":=by decide +kernel
abbrev cV:Stmt:=top 41
theorem tR:aU ["_law_number", "_law_share", "_law_many"] ["_law_number", "_law_share", "_law_many"] (defScope cV):=mKk
abbrev aC:Stmt:=top 42
theorem sc_law_rooms:aU ["_law_cells", "_law_size", "_law_many", "_law_cell", "_law_share", "_law_xs", "_law_k"] ["_law_cells", "_law_size", "_law_many", "_law_cell"] (defScope aC):=mKk
theorem xj:ap (defScope aC) "_law_size" := Or.inr (Or.inl (by decide +kernel))
theorem AN:ap (defScope aC) "_law_many" := Or.inr (Or.inl (by decide +kernel))
theorem EX:aS (defScope aC) "_law_share" := Or.inr (by decide +kernel)
theorem DC:ap (defScope aC) "_law_xs" := Or.inr (Or.inl (by decide +kernel))
theorem Dq:aS (defScope aC) "_law_xs" := Or.inr (by decide +kernel)
theorem Aw:gLk aC "range":=by decide +kernel
abbrev au:Stmt:=top 43
theorem sc_law_three:aU ["_law_script", "_law_first", "_law_sides", "_law_words_here", "_law_rules", "_law_k", "_law_head", "_law_some", "_law_size", "_law_rooms_here", "_law_r", "_law_j"] ["_law_script"] (defScope au):=mKk
theorem GE:(defScope au).names.lookup ("_law_rooms_here" : Str)=some .local:=by decide +kernel
theorem wY:gLk au "range":=by decide +kernel
abbrev aM:Stmt:=top 44
theorem sc_law_one_of_two:aU ["_law_one", "_law_other", "_law_both", "_law_some", "_law_least"] ["_law_one", "_law_other"] (defScope aM):=mKk
abbrev bu:Stmt:=top 45
theorem sc_law_grouped:aU ["_law_one", "_law_other", "_law_third", "_law_left"] ["_law_one", "_law_other", "_law_third"] (defScope bu):=mKk
abbrev aN:Stmt:=top 46
theorem sc_law_following:aU ["_law_one", "_law_other", "_law_row", "_law_both", "_law_some"] ["_law_one", "_law_other"] (defScope aN):=mKk
abbrev bC:Stmt:=top 47
theorem sc_law:aU ["_law_script", "_law_one", "_law_other", "_law_third", "_law_kept"] ["_law_script"] (defScope bC):=mKk
theorem Gs:(defScope bC).names.lookup ("_law_kept" : Str)=some .local:=by decide +kernel
abbrev letters:Str := "abcdefghijklmnopqrstuvwxyz"
def oJ(K:PySem.W.Frag):Sp:=fun vs H Q _=>∃ (a:Addr) (ns:List Int),vs=[.ref a]∧SqL K H a (ns.map V.int)∧ns.length≤63∧∀ H',Q (.bl true) H'
def uK(K:PySem.W.Frag):Sp:=fun vs H Q _=>∃ (a:Addr) (ns:List Int) (k:Int),vs=[.ref a,.int k]∧SqL K H a (ns.map V.int)∧0≤k∧Q (.int (ns.getD k.toNat 0)) H
def nr:Sp:=fun vs H Q _=>∃ (c n:Int),vs=[.int c,.int n]∧0≤n∧n≤100000∧∀ (p:Addr) (H':Hp) (ms:List Int),Same H H'→H p=none→H' p=some (.lst (ms.map V.int))→(ms.length:Int)=n→(∀ m∈ms,0≤m∧m<2147483647)→Q (.ref p) H'
def ar:Option Nat→V
 | none=>.non
 | some n=>.int n
def y4:Sp:=fun vs H Q _=>∃ (m s n:Int),vs=[.int m,.int s,.int n]∧0<s∧s<1073741824∧0<n∧n<1073741824∧∀ o:Option Nat,(∀ k,o=some k→(k:Int)<n)→Q (ar o) H
theorem xr(x:Str)(c:Nat):(x++(⟨#[c]⟩ : Str)).length=x.length+1:=by rw[Str.length_append]; rfl
section
variable{P:Program}{w:World}{K:PySem.W.Frag}{mg:Str→Option Value}{base:Heap}
theorem zU(D:DefAt K mg "_law_cell_at" bQ) (z_len:mg "len" = none):Cal P w K mg base 1 "_law_cell_at" ["_law_script", "_law_k"] (uK K):=by
 refine D.cal nn (fun _ _ _ _ _ _ us hl=>match us,hl with | [_,_],_=>rfl) (fun vs H Q E h=>by obtain⟨a,ns,k,rfl,_⟩:=h; rfl) (fun f cdv A outer s H vs Q E hr h=>?_)
 obtain⟨a,ns,k,rfl,hS,h0,q⟩:=h
 refine⟨_,(ac (bN (aT mN (pv 1) (bZ (bO K) z_len cR (aa (pv 0) ab)) (aP _)) (ak (aL (aK (bd K) (pv 0) (pv 1) (fun _ _=>rfl)))) bt)
   (ak (aL aj))),?_⟩
 try simp only[gf,iy,gw,dZ,dz,fW,gD,gZ,hJ,fV,hG,fZ,iD,gh,ix,ii,iK,kI,jp,gj,kD,iH,jr,ij,fX,iq,jx,jl,fU,ie,ik,iM,fY,jn,jt,gi,d9,fO,im,iG,gq,fT,hU,gm,f_,gz,iL,eP,jv,kz,fc,eW,e_,eT,eV,il,gC,gA,gx,ee,eR,gB,hV,iw,ig,fe,dY,gb,fM,dB,dA,fj,fg,fQ,fP,fN,dU,ir,gy,ga,eL,iI,ic,iz,L2.start,List.map_cons,List.map_nil,List.length_cons,List.length_nil,List.replicate,List.cons_append,List.nil_append,List.append_nil,List.getElem?_cons_zero,List.getElem?_cons_succ,List.set_cons_zero,List.set_cons_succ,Nat.reduceAdd,Nat.reduceSub,Option.some.injEq,exists_eq_left',exists_eq_left,V.int.injEq,V.ref.injEq,V.str.injEq,V.bl.injEq,jk,ip,and_true,true_and,decide_eq_true_eq,Bool.not_true,Bool.not_false,if_true,Bool.false_eq_true,if_false,ite_true,ite_false]
 refine⟨_,.inl hS,bh (fun c=>?_) (fun c=>?_)⟩
 ·rw[List.length_map]at c
  refine⟨_,.int (ns.getD k.toNat 0),.inl hS,p9 h0 ?_,q⟩
  rw[List.getD_eq_getElem?_getD,List.getElem?_eq_getElem (by omega)]; rfl
 ·rw[List.length_map]at c
  have e:ns.getD k.toNat 0=0:=by
   rw[List.getD_eq_getElem?_getD,List.getElem?_eq_none (by omega)]; rfl
  rw[e]at q; exact q
theorem x6(D:DefAt K mg "_law_mixed" bB) (z_range:mg "range" = none):Cal P w K mg base 1 "_law_mixed" ["_law_cell", "_law_many"] nr:=by
 refine D.cal sc_law_mixed (fun _ _ _ _ _ _ us hl=>match us,hl with | [_,_],_=>rfl) (fun vs H Q E h=>by obtain⟨c,n,rfl,_⟩:=h; rfl) (fun f cdv A outer s H vs Q E hr h=>?_)
 obtain⟨c,n,rfl,h0,h1,q⟩:=h
 refine⟨_,(ac (ax 2 sc_law_mixed.nd (bb bK aj (bb cK (pv 0) aj)))
   (ac (ax 3 sc_law_mixed.nd (cJ ab))
   (ac (cS PassesOwn.never rfl (cU Fs z_range (aa (pv 1) ab)) (bc 4 sc_law_mixed.nd) (ac (ax 2 sc_law_mixed.nd (bb cK (bb iu (pv 2) aj) aj))
   (ak (cN (dh K PySem.F.plainAttrs_list PySem.F.slot_list_append PySem.F.type_list_append b6 (pv 3) (aa (pv 2) ab))))))
   (ak (aL (pv 3)))))),?_⟩
 try simp only[gf,iy,gw,dZ,dz,fW,gD,gZ,hJ,fV,hG,fZ,iD,gh,ix,ii,iK,kI,jp,gj,kD,iH,jr,ij,fX,iq,jx,jl,fU,ie,ik,iM,fY,jn,jt,gi,d9,fO,im,iG,gq,fT,hU,gm,f_,gz,iL,eP,jv,kz,fc,eW,e_,eT,eV,il,gC,gA,gx,ee,eR,gB,hV,iw,ig,fe,dY,gb,fM,dB,dA,fj,fg,fQ,fP,fN,dU,ir,gy,ga,eL,iI,ic,iz,L2.start,List.map_cons,List.map_nil,List.length_cons,List.length_nil,List.replicate,List.cons_append,List.nil_append,List.append_nil,List.getElem?_cons_zero,List.getElem?_cons_succ,List.set_cons_zero,List.set_cons_succ,Nat.reduceAdd,Nat.reduceSub,Option.some.injEq,exists_eq_left',exists_eq_left,V.int.injEq,V.ref.injEq,V.str.injEq,V.bl.injEq,jk,ip,and_true,true_and,decide_eq_true_eq,Bool.not_true,Bool.not_false,if_true,Bool.false_eq_true,if_false,ite_true,ite_false]
 refine⟨by decide,by decide,fun p hp=>⟨by omega,by omega,?_⟩⟩
 refine dv (fun i σ H'=>∃ (m:Int) (ms:List Int) (o:Option V),σ=[some (.int c),some (.int n),some (.int m),some (.ref p),o]∧Same H H'∧H' p=some (.lst (ms.map V.int))∧ms.length=i∧(∀ x∈ms,0≤x∧x<2147483647)∧0≤m∧m<2147483648)
  ⟨_,[],none,rfl,al hp _,ae,rfl,(by simp),by omega,by omega⟩ ?_ ?_
 ·rintro i σ H' hi ⟨m,ms,o,rfl,sm,hl,hn,hb,m0,m1⟩
  try simp only[gf,iy,gw,dZ,dz,fW,gD,gZ,hJ,fV,hG,fZ,iD,gh,ix,ii,iK,kI,jp,gj,kD,iH,jr,ij,fX,iq,jx,jl,fU,ie,ik,iM,fY,jn,jt,gi,d9,fO,im,iG,gq,fT,hU,gm,f_,gz,iL,eP,jv,kz,fc,eW,e_,eT,eV,il,gC,gA,gx,ee,eR,gB,hV,iw,ig,fe,dY,gb,fM,dB,dA,fj,fg,fQ,fP,fN,dU,ir,gy,ga,eL,iI,ic,iz,L2.start,List.map_cons,List.map_nil,List.length_cons,List.length_nil,List.replicate,List.cons_append,List.nil_append,List.append_nil,List.getElem?_cons_zero,List.getElem?_cons_succ,List.set_cons_zero,List.set_cons_succ,Nat.reduceAdd,Nat.reduceSub,Option.some.injEq,exists_eq_left',exists_eq_left,V.int.injEq,V.ref.injEq,V.str.injEq,V.bl.injEq,jk,ip,and_true,true_and,decide_eq_true_eq,Bool.not_true,Bool.not_false,if_true,Bool.false_eq_true,if_false,ite_true,ite_false]
  refine⟨.inl ⟨by omega,by omega⟩,by decide,⟨_,SqL.of hl⟩,_,hl,by rw[List.length_map]; exact ce (by omega),?_⟩
  refine⟨_,ms++[m * 16807 % 2147483647],_,rfl,fun b o' e=>?_,?_,by simp[hn],fun x hx=>?_,by omega,by omega⟩
  ·rw[ai (aA e hp)]; exact sm b o' e
  ·rw[ae,List.map_append]; rfl
  ·rcases List.mem_append.mp hx with z | z
   ·exact hb x z
   ·rw[List.mem_singleton.mp z]; omega
 ·rintro σ H' ⟨m,ms,o,rfl,sm,hl,hn,hb,m0,m1⟩
  try simp only[gf,iy,gw,dZ,dz,fW,gD,gZ,hJ,fV,hG,fZ,iD,gh,ix,ii,iK,kI,jp,gj,kD,iH,jr,ij,fX,iq,jx,jl,fU,ie,ik,iM,fY,jn,jt,gi,d9,fO,im,iG,gq,fT,hU,gm,f_,gz,iL,eP,jv,kz,fc,eW,e_,eT,eV,il,gC,gA,gx,ee,eR,gB,hV,iw,ig,fe,dY,gb,fM,dB,dA,fj,fg,fQ,fP,fN,dU,ir,gy,ga,eL,iI,ic,iz,L2.start,List.map_cons,List.map_nil,List.length_cons,List.length_nil,List.replicate,List.cons_append,List.nil_append,List.append_nil,List.getElem?_cons_zero,List.getElem?_cons_succ,List.set_cons_zero,List.set_cons_succ,Nat.reduceAdd,Nat.reduceSub,Option.some.injEq,exists_eq_left',exists_eq_left,V.int.injEq,V.ref.injEq,V.str.injEq,V.bl.injEq,jk,ip,and_true,true_and,decide_eq_true_eq,Bool.not_true,Bool.not_false,if_true,Bool.false_eq_true,if_false,ite_true,ite_false]
  exact q p H' ms sm hp hl (by omega) hb
theorem z9(D:DefAt K mg "_law_way" cV):Cal P w K mg base 1 "_law_way" ["_law_number", "_law_share", "_law_many"] y4:=by
 refine D.cal tR (fun _ _ _ _ _ _ us hl=>match us,hl with | [_,_,_],_=>rfl) (fun vs H Q E h=>by obtain⟨m,s,n,rfl,_⟩:=h; rfl) (fun f cdv A outer s H vs Q E hr h=>?_)
 obtain⟨m,s,n,rfl,s0,s1,n0,n1,q⟩:=h
 refine⟨_,(ac (bN (aT jw (bb cK (pv 0) (pv 1)) aj (aP _)) (ak (aL bv)) bt)
   (ak (aL (bb cK (bb h_ (pv 0) (pv 1)) (pv 2))))),?_⟩
 try simp only[gf,iy,gw,dZ,dz,fW,gD,gZ,hJ,fV,hG,fZ,iD,gh,ix,ii,iK,kI,jp,gj,kD,iH,jr,ij,fX,iq,jx,jl,fU,ie,ik,iM,fY,jn,jt,gi,d9,fO,im,iG,gq,fT,hU,gm,f_,gz,iL,eP,jv,kz,fc,eW,e_,eT,eV,il,gC,gA,gx,ee,eR,gB,hV,iw,ig,fe,dY,gb,fM,dB,dA,fj,fg,fQ,fP,fN,dU,ir,gy,ga,eL,iI,ic,iz,L2.start,List.map_cons,List.map_nil,List.length_cons,List.length_nil,List.replicate,List.cons_append,List.nil_append,List.append_nil,List.getElem?_cons_zero,List.getElem?_cons_succ,List.set_cons_zero,List.set_cons_succ,Nat.reduceAdd,Nat.reduceSub,Option.some.injEq,exists_eq_left',exists_eq_left,V.int.injEq,V.ref.injEq,V.str.injEq,V.bl.injEq,jk,ip,and_true,true_and,decide_eq_true_eq,Bool.not_true,Bool.not_false,if_true,Bool.false_eq_true,if_false,ite_true,ite_false]
 refine⟨s0,bh (fun c=>?_) (fun c=>?_)⟩
 ·exact q none (fun k e=>by cases e)
 ·refine⟨⟨s0,s1⟩,n0,?_⟩
  have a1:=Int.emod_nonneg (m / s) (show n≠0 by omega)
  have a2:=Int.emod_lt_of_pos (m / s) n0;have q':=q (some (m / s % n).toNat) (fun k e=>by cases e; omega)
  have e:V.int (m / s % n)=ar (some (m / s % n).toNat):=by
   show _=V.int (((m / s % n).toNat:Nat):Int)
   rw[show (((m / s % n).toNat:Nat):Int)=m / s % n by omega]
  rw[e]; exact q'
end
set_option genInjectivity false in
set_option genSizeOf false in
structure Rl where
 s:Int
 ws:List Str
 rs:List (List (Option Nat))
structure bm (r:Rl):Prop where
 s:r.s=1∨r.s=2
 nw:r.ws.length≤16
 n0:1≤r.rs.length
 n1:r.rs.length≤60
 row:∀ x∈r.rs,x.length=r.ws.length∧∀ k,some k∈x→k<r.rs.length
 lw:∀ w∈r.ws,w.length≤10
def RoomsAs(H:Hp)(p:Addr)(rs:List (List (Option Nat)))(as:List Addr):Prop:=
 H p=some (.lst (as.map V.ref))∧as.length=rs.length∧∀ (i:Nat) a x,as[i]? = some a→rs[i]? = some x→H a=some (.lst (x.map ar))
def RuleAt(H:Hp)(p:Addr)(r:Rl):Prop:=∃ pw pr as,H p=some (.tup [.int r.s,.ref pw,.ref pr])∧H pw=some (.lst (r.ws.map V.str))∧RoomsAs H pr r.rs as
theorem RoomsAs.mono{H H':Hp}{p:Addr}{rs:List (List (Option Nat))}{as:List Addr}(sm:Same H H')(h:RoomsAs H p rs as):RoomsAs H' p rs as:=by
 obtain⟨h1,h2,h3⟩:=h
 exact⟨sm _ _ h1,h2,fun i a x e1 e2=>sm _ _ (h3 i a x e1 e2)⟩
theorem RuleAt.mono{H H':Hp}{p:Addr}{r:Rl}(sm:Same H H')(h:RuleAt H p r):RuleAt H' p r:=by
 obtain⟨pw,pr,as,h1,h2,h3⟩:=h
 exact⟨pw,pr,as,sm _ _ h1,sm _ _ h2,h3.mono sm⟩
theorem u7(ss:List Str):(ss.map V.str).all bT=true:=by
 rw[List.all_eq_true]; intro x hx; obtain⟨s,_,rfl⟩:=List.mem_map.mp hx; rfl
theorem zq(y:Str)(ss:List Str):oR (.str y) (ss.map V.str)=decide (y∈ss):=by
 rw[Bool.eq_iff_iff];unfold oR;rw[List.any_eq_true,decide_eq_true_eq]
 constructor
 ·rintro⟨x,hx,e⟩
  obtain⟨s,hs,rfl⟩:=List.mem_map.mp hx
  have e':(s == y)=true:=e
  rw[← eq_of_beq e']; exact hs
 ·intro h
  exact⟨.str y,List.mem_map.mpr ⟨y,h,rfl⟩,by show (y == y)=true; simp⟩
theorem vO(x:List (Option Nat)):∀ v∈x.map ar,bT v=true:=by
 intro v hv
 obtain⟨o,_,rfl⟩:=List.mem_map.mp hv
 cases o <;> rfl
theorem uM(x:List Str):∀ v∈x.map V.str,bT v=true:=by
 intro v hv
 obtain⟨o,_,rfl⟩:=List.mem_map.mp hv
 rfl
theorem yo{K:PySem.W.Frag}{H:Hp}{p q:Addr}{rs:List (List (Option Nat))}{as bs:List Addr}(h1:RoomsAs H p rs as)(h2:RoomsAs H q rs bs):EqN K H 2 (.ref p) (.ref q) true:=by
 obtain⟨a1,a2,a3⟩:=h1
 obtain⟨b1,b2,b3⟩:=h2
 refine EqN.seq (.inl ⟨SqL.of a1,SqL.of b1⟩) (by simp; omega) fun i x y e1 e2=>?_
 rw[List.getElem?_map]at e1 e2
 cases qa:as[i]? with
 | none=>rw[qa]at e1; cases e1
 | some a=>
  cases qb:bs[i]? with
  | none=>rw[qb]at e2; cases e2
  | some b=>
   rw[qa]at e1; rw[qb]at e2
   cases e1; cases e2
   have hi:i<rs.length:=by have:=(List.getElem?_eq_some_iff.mp qa).1; omega
   exact EqN.seqFlat (.inl ⟨SqL.of (a3 i a _ qa (List.getElem?_eq_getElem hi)),SqL.of (b3 i b _ qb (List.getElem?_eq_getElem hi))⟩) (vO _)
theorem mO{K:PySem.W.Frag}{H:Hp}{p q:Addr}{r:Rl}(h1:RuleAt H p r)(h2:RuleAt H q r):EqN K H 3 (.ref p) (.ref q) true:=by
 obtain⟨pw,pr,as,a1,a2,a3⟩:=h1
 obtain⟨qw,qr,bs,b1,b2,b3⟩:=h2
 refine EqN.seq (.inr ⟨SqT.of a1,SqT.of b1⟩) rfl fun i x y e1 e2=>?_
 match i,e1,e2 with
 | 0,e1,e2=>cases e1; cases e2; exact EqN.refl rfl
 | 1,e1,e2=>cases e1; cases e2; exact EqN.seqFlat (.inl ⟨SqL.of a2,SqL.of b2⟩) (uM _)
 | 2,e1,e2=>cases e1; cases e2; exact yo a3 b3
 | i+3,e1,e2=>simp at e1
theorem mL{K:PySem.W.Frag}{pr L:Addr}{g:TG}{te:TE}{nT:Nat}{σ : L2.St}{Q:VK}{H:Hp}{rs:List (List (Option Nat))}{as:List Addr}(hR:RoomsAs H pr rs as)(hn:rs.length≤60)(hL:H L=none)
  (hs:∀ (a:Addr) (xs:List V) (H':Hp) (C:VK),H' a=some (.lst xs)→(∀ l,H' l=none→C (.ref l) (upd H' l (.lst xs)))→g (.ref a) (σ++List.replicate nT none) H' fun σ2 H2=>te σ2 H2 C)
  (q:∀ H' bs,Same H H'→RoomsAs H' L rs bs→(∀ b∈bs,H b=none∧b≠L)→bs.Nodup→Q (.ref L) H'):fB (ma K pr) g lm te nT σ L Q (upd H L (.lst [])):=by
 obtain⟨h1,h2,h3⟩:=hR
 refine cT (xs:=as.map V.ref) (fun i ys H'=>∃ bs:List Addr,Same H H'∧H' L=some (.lst ys)∧ys=bs.map V.ref∧bs.length=i∧(∀ b∈bs,H b=none∧b≠L∧∃ o,H' b=some o)∧bs.Nodup∧∀ (j:Nat) b x,bs[j]? = some b→rs[j]? = some x→H' b=some (.lst (x.map ar)))
  ⟨[],al hL _,ae,rfl,rfl,by simp,List.nodup_nil,by simp⟩ (fun i ys H' _ h=>by obtain⟨_,sm,_⟩:=h; exact SqL.of (sm _ _ h1)) ?_ ?_
 ·rintro i ys H' x hx hi ⟨bs,sm,hl,rfl,hb,hbn,hnd,hbx⟩
  rw[List.getElem?_map]at hx
  cases qa:as[i]? with
  | none=>rw[qa]at hx; cases hx
  | some a=>
   rw[qa]at hx; cases hx
   have hi':i<rs.length:=by have:=(List.getElem?_eq_some_iff.mp qa).1; omega
   have ha:=h3 i a _ qa (List.getElem?_eq_getElem hi');have e:=hs a _ H' (gF (as.map V.ref).length i (fun i ys H'=>∃ bs:List Addr,Same H H'∧H' L=some (.lst ys)∧ys=bs.map V.ref∧bs.length=i∧(∀ b∈bs,H b=none∧b≠L∧∃ o,H' b=some o)∧bs.Nodup∧∀ (j:Nat) b x,bs[j]? = some b→rs[j]? = some x→H' b=some (.lst (x.map ar))) L (bs.map V.ref)) (sm _ _ ha) ?_
   ·have e2:(jD (as.map V.ref).length i (fun i ys H'=>∃ bs:List Addr,Same H H'∧H' L=some (.lst ys)∧ys=bs.map V.ref∧bs.length=i∧(∀ b∈bs,H b=none∧b≠L∧∃ o,H' b=some o)∧bs.Nodup∧∀ (j:Nat) b x,bs[j]? = some b→rs[j]? = some x→H' b=some (.lst (x.map ar))) L (bs.map V.ref) te)=fun σ2 H2=>te σ2 H2 (gF (as.map V.ref).length i (fun i ys H'=>∃ bs:List Addr,Same H H'∧H' L=some (.lst ys)∧ys=bs.map V.ref∧bs.length=i∧(∀ b∈bs,H b=none∧b≠L∧∃ o,H' b=some o)∧bs.Nodup∧∀ (j:Nat) b x,bs[j]? = some b→rs[j]? = some x→H' b=some (.lst (x.map ar))) L (bs.map V.ref)):=by
     funext σ2 H2; exact eP
    rw[e2]; exact e
   ·intro l hl0
    have nl:l≠L:=by
     rintro rfl
     rw[hl]at hl0; cases hl0
    have hl':upd H' l (.lst ((rs[i]).map ar)) L=some (.lst (bs.map V.ref)):=by rw[ai (Ne.symm nl)]; exact hl
    refine eJ hi (by rw[List.length_map]; exact hb) (by rw[List.length_map,h2]; exact cg (by omega)) hl' ⟨bs++[l],(sm.trans (al hl0 _)).upd hL _,ae,by rw[List.map_append]; rfl,by simp[hb],?_,?_,?_⟩
    ·intro b hb'
     rcases List.mem_append.mp hb' with z | z
     ·obtain⟨z1,z2,o,z3⟩:=hbn b z
      exact⟨z1,z2,o,by rw[ai z2]; exact(al hl0 _) _ _ z3⟩
     ·rw[List.mem_singleton.mp z]
      exact⟨sm.free hl0,nl,_,by rw[ai nl]; exact ae⟩
    ·rw[List.nodup_append]
     refine⟨hnd,by simp,fun b hb' c hc=>?_⟩
     rw[List.mem_singleton.mp hc];rintro rfl
     obtain⟨_,_,o,z⟩:=hbn b hb'
     rw[hl0]at z; cases z
    ·intro j b x e1 e2
     rcases Nat.lt_or_ge j bs.length with z | z
     ·rw[List.getElem?_append_left z]at e1
      have q1:=hbx j b x e1 e2;have q2:=(hbn b (List.mem_of_getElem? e1)).2.1;rw[ai q2]; exact(al hl0 _) _ _ q1
     ·rw[List.getElem?_append_right z]at e1
      have hj:j - bs.length=0:=by
       have:=(List.getElem?_eq_some_iff.mp e1).1
       simp at this; omega
      rw[hj]at e1
      have e1':l=b:=by simpa using e1
      subst e1';have hji:j=i:=by omega
      subst hji;rw[List.getElem?_eq_getElem hi']at e2
      cases e2;rw[ai nl]; exact ae
 ·rintro ys H' ⟨bs,sm,hl,rfl,hb,hbn,hnd,hbx⟩
  exact q H' bs sm ⟨hl,by rw[hb,List.length_map,h2],hbx⟩ (fun b z=>⟨(hbn b z).1,(hbn b z).2.1⟩) hnd
abbrev aV:=List (List (Option Nat))
def am{α : Type}[DecidableEq α]:List α→List α→List α
 | acc,[]=>acc
 | acc,m::ms=>am (if m∈acc then acc else acc++[m]) ms
section
variable{α : Type}[DecidableEq α]
theorem cZ:∀ (ms acc:List α) (m:α),am acc (ms++[m])=if m∈am acc ms then am acc ms else am acc ms++[m]
 | [],acc,m=>rfl
 | x::ms,acc,m=>by
  show am _ (ms++[m])=_
  rw[cZ ms]; rfl
theorem jE:∀ (ms acc:List α),∃ t,am acc ms=acc++t
 | [],acc=>⟨[],by simp[am]⟩
 | m::ms,acc=>by
  obtain⟨t,e⟩:=jE ms (if m∈acc then acc else acc++[m])
  show ∃ t,am (if m∈acc then acc else acc++[m]) ms=acc++t
  by_cases h:m∈acc
  ·rw[if_pos h]at e ⊢; exact⟨t,e⟩
  ·rw[if_neg h]at e ⊢; exact⟨[m]++t,by rw[e,List.append_assoc]⟩
theorem bG:∀ (ms acc:List α) (x:α),x∈am acc ms ↔ x∈acc∨x∈ms
 | [],acc,x=>by simp[am]
 | m::ms,acc,x=>by
  show x∈am (if m∈acc then acc else acc++[m]) ms ↔ _
  rw[bG ms]
  by_cases h:m∈acc
  ·rw[if_pos h]
   constructor
   ·rintro(z | z)
    ·exact .inl z
    ·exact .inr (List.mem_cons_of_mem _ z)
   ·rintro(z | z)
    ·exact .inl z
    ·rcases List.mem_cons.mp z with rfl | z
     ·exact .inl h
     ·exact .inr z
  ·rw[if_neg h,List.mem_append,List.mem_singleton,List.mem_cons,or_assoc]
theorem j2:∀ (ms acc:List α),acc.Nodup→(am acc ms).Nodup
 | [],acc,h=>h
 | m::ms,acc,h=>by
  show (am (if m∈acc then acc else acc++[m]) ms).Nodup
  refine j2 ms _ ?_
  by_cases hm:m∈acc
  ·rw[if_pos hm]; exact h
  ·rw[if_neg hm,List.nodup_append]
   exact⟨h,by simp,fun x hx y hy e=>by rw[List.mem_singleton.mp hy]at e; exact hm (e ▸ hx)⟩
theorem vz{l t:List α}{x:α}(h:x∈l):(l++t).idxOf x=l.idxOf x:=by
 rw[List.idxOf_append,if_pos h]
def cO(ms:List α):List Nat:=ms.map fun m=>(am [] ms).idxOf m
theorem qX{ms:List α}{i:Nat}{m:α}(h:ms[i]? = some m):(am [] (ms.take (i+1))).idxOf m=(am [] ms).idxOf m:=by
 have e:ms=ms.take (i+1)++ms.drop (i+1):=(List.take_append_drop _ _).symm
 have hm:m∈ms.take (i+1):=by
  rw[List.take_add_one,h]; simp
 have step:∀ (a b acc:List α),am acc (a++b)=am (am acc a) b:=by
  intro a
  induction a with
  | nil=>intro b acc; rfl
  | cons x a ih=>intro b acc; exact ih b _
 have q:am [] ms=am (am [] (ms.take (i+1))) (ms.drop (i+1)):=by
  rw[← step,← e]
 obtain⟨t,ht⟩:=jE (ms.drop (i+1)) (am [] (ms.take (i+1)))
 rw[q,ht,vz ((bG _ _ _).mpr (.inr hm))]
def i_(x:α)(l:List α):Nat:=l.idxOf x
theorem Bf{x:α}{l:List α}(h:x∈l):i_ x l<l.length:=List.idxOf_lt_length_iff.mpr h
theorem lg{ms:List α}{i:Nat}{m:α}(h:ms[i]? = some m):(cO ms)[i]? = some (i_ m (am [] (ms.take (i+1)))):=by
 unfold i_;rw[qX h];unfold cO;rw[List.getElem?_map,h]; rfl
theorem xE(x:α)(l:List α):i_ x (x::l)=0:=by unfold i_; simp
theorem vK{x y:α}(h:y≠x)(l:List α):i_ x (y::l)=i_ x l+1:=by
 unfold i_;rw[List.idxOf_cons];have hb:(y == x)=false:=beq_eq_false_iff_ne.mpr h
 rw[hb]; rfl
theorem q_{ms:List α}{i j:Nat}{m m':α}(h:ms[i]? = some m)(h':ms[j]? = some m'):(cO ms)[i]? = (cO ms)[j]? ↔ m=m':=by
 unfold cO;rw[List.getElem?_map,List.getElem?_map,h,h'];show some _=some _ ↔ _
 have hm:m∈am [] ms:=(bG _ _ _).mpr (.inr (List.mem_of_getElem? h))
 have hm':m'∈am [] ms:=(bG _ _ _).mpr (.inr (List.mem_of_getElem? h'))
 constructor
 ·intro e
  have e':(am [] ms).idxOf m=(am [] ms).idxOf m':=Option.some.inj e
  have h1:=List.getElem_idxOf (List.idxOf_lt_length_iff.mpr hm);have h2:=List.getElem_idxOf (List.idxOf_lt_length_iff.mpr hm');rw[← h1,← h2]
  congr 1
 ·rintro rfl; rfl
def du(l:List Nat):Prop:=∀ i,am [] (l.take i)=List.range (am [] (l.take i)).length
theorem dy:∀ (ms acc:List α),(am acc ms).length≤acc.length+ms.length
 | [],acc=>by simp[am]
 | m::ms,acc=>by
  have h:=dy ms (if m∈acc then acc else acc++[m])
  show (am (if m∈acc then acc else acc++[m]) ms).length≤_
  by_cases hm:m∈acc
  ·rw[if_pos hm]at h ⊢; rw[List.length_cons]; omega
  ·rw[if_neg hm]at h ⊢; rw[List.length_append]at h; rw[List.length_cons]; simp at h; omega
end
section
variable{α β : Type}[DecidableEq α][DecidableEq β]
theorem jV(f:α→β):∀ (ms acc:List α),(∀ x∈acc++ms,∀ y∈acc++ms,f x=f y→x=y)→am (acc.map f) (ms.map f)=(am acc ms).map f
 | [],acc,_=>rfl
 | m::ms,acc,h=>by
  show am (if f m∈acc.map f then acc.map f else acc.map f++[f m]) (ms.map f)=(am (if m∈acc then acc else acc++[m]) ms).map f
  by_cases hm:m∈acc
  ·rw[if_pos hm,if_pos (List.mem_map.mpr ⟨m,hm,rfl⟩)]
   exact jV f ms acc fun x hx y hy=>h x (by simp at hx ⊢; rcases hx with z | z <;> simp[z]) y (by simp at hy ⊢; rcases hy with z | z <;> simp[z])
  ·have hn:f m∉acc.map f:=fun z=>by
    obtain⟨x,hx,e⟩:=List.mem_map.mp z
    have:=h x (by simp[hx]) m (by simp) e
    exact hm (this ▸ hx)
   rw[if_neg hm,if_neg hn];have ih:=jV f ms (acc++[m]) fun x hx y hy=>h x (by simp at hx ⊢; rcases hx with z | z | z <;> simp[z]) y (by simp at hy ⊢; rcases hy with z | z | z <;> simp[z])
   rw[List.map_append]at ih
   exact ih
end
theorem mB{α : Type}[DecidableEq α]{l:List α}(nd:l.Nodup)(c:Nat)(hc:c≤l.length):(l.take c).map (fun x=>l.idxOf x)=List.range c:=by
 refine List.ext_getElem (by simp; omega) fun i h1 h2=>?_
 have hi:i<l.length:=by simp at h1; omega
 rw[List.getElem_map,List.getElem_take,List.getElem_range];exact nd.idxOf_getElem _ hi
theorem fS{α : Type}[DecidableEq α](ms:List α):du (cO ms):=by
 intro i
 have hnd:=j2 ms [] List.nodup_nil;have e1:(cO ms).take i=(ms.take i).map fun m=>(am [] ms).idxOf m:=by unfold cO; rw[List.map_take]
 have inj:∀ x∈[]++ms.take i,∀ y∈[]++ms.take i,(am [] ms).idxOf x=(am [] ms).idxOf y→x=y:=fun x hx y hy e=>by
  have hx':x∈am [] ms:=(bG _ _ _).mpr (.inr (List.mem_of_mem_take (by simpa using hx)))
  have hy':y∈am [] ms:=(bG _ _ _).mpr (.inr (List.mem_of_mem_take (by simpa using hy)))
  have h1:=List.getElem_idxOf (List.idxOf_lt_length_iff.mpr hx');have h2:=List.getElem_idxOf (List.idxOf_lt_length_iff.mpr hy');rw[← h1,← h2]; congr 1
 have e2:=jV (fun m=>(am [] ms).idxOf m) (ms.take i) [] inj
 rw[List.map_nil]at e2
 have step:∀ (a b acc:List α),am acc (a++b)=am (am acc a) b:=by
  intro a
  induction a with
  | nil=>intro b acc; rfl
  | cons x a ih=>intro b acc; exact ih b _
 have q:am [] ms=am (am [] (ms.take i)) (ms.drop i):=by rw[← step,List.take_append_drop]
 obtain⟨t,ht⟩:=jE (ms.drop i) (am [] (ms.take i))
 have e3:am [] (ms.take i)=(am [] ms).take (am [] (ms.take i)).length:=by rw[q,ht,List.take_left]
 have hlen:(am [] (ms.take i)).length≤(am [] ms).length:=by rw[q,ht,List.length_append]; omega
 rw[e1,e2,List.length_map]
 conv=>lhs; rw[e3]
 exact mB hnd _ hlen
theorem kq{l:List Nat}{i:Nat}{x:Nat}(h:du l)(hx:l[i]? = some x)(hn:x∉l.take i):x=(am [] (l.take i)).length:=by
 have h1:=h i;have h2:=h (i+1);rw[List.take_add_one,hx]at h2
 show _=_
 have hn':x∉am [] (l.take i):=fun z=>by
  rcases(bG _ _ _).mp z with z | z
  ·cases z
  ·exact hn z
 have e:am [] (l.take i++(some x).toList)=am [] (l.take i)++[x]:=by
  show am [] (l.take i++[x])=_
  rw[cZ,if_neg hn']
 rw[e,List.length_append,List.length_singleton,List.range_succ,← h1]at h2
 have:=List.append_cancel_left h2
 simpa using this
theorem nH{a b:List Nat}(ha:du a)(hb:du b)(hl:a.length=b.length)(h:∀ i j:Nat,i<a.length→j<a.length→(a[i]? = a[j]? ↔ b[i]? = b[j]?)):a=b:=by
 have key:∀ i,i≤a.length→a.take i=b.take i:=by
  intro i
  induction i with
  | zero=>intro _; simp
  | succ i ih=>
   intro hi
   have ih':=ih (by omega)
   have hai:i<a.length:=by omega
   have hbi:i<b.length:=by omega
   rw[List.take_add_one,List.take_add_one,ih',List.getElem?_eq_getElem hai,List.getElem?_eq_getElem hbi]
   congr 2
   by_cases hm:a[i]∈a.take i
   ·obtain⟨j,hj,e⟩:=List.mem_iff_getElem.mp hm
    have hj':j<i:=by simp at hj; omega
    rw[List.getElem_take]at e
    have q:=(h j i (by omega) hai).mp (by rw[List.getElem?_eq_getElem (by omega),List.getElem?_eq_getElem hai,e])
    rw[List.getElem?_eq_getElem (by omega),List.getElem?_eq_getElem hbi]at q
    have q':b[j]=b[i]:=Option.some.inj q
    rw[← q',← e];have e1:(a.take i)[j]? = (b.take i)[j]?:=by rw[ih']
    rw[List.getElem?_take_of_lt hj',List.getElem?_take_of_lt hj',List.getElem?_eq_getElem (by omega),List.getElem?_eq_getElem (by omega)]at e1
    exact e1
   ·have hn:b[i]∉b.take i:=fun z=>by
     obtain⟨j,hj,e⟩:=List.mem_iff_getElem.mp z
     have hj':j<i:=by simp at hj; omega
     rw[List.getElem_take]at e
     have q:=(h j i (by omega) hai).mpr (by rw[List.getElem?_eq_getElem (by omega),List.getElem?_eq_getElem hbi,e])
     rw[List.getElem?_eq_getElem (by omega),List.getElem?_eq_getElem hai]at q
     have q':a[j]=a[i]:=Option.some.inj q
     exact hm (q' ▸ List.mem_iff_getElem.mpr ⟨j,by simp; omega,by rw[List.getElem_take]⟩)
    rw[kq ha (List.getElem?_eq_getElem hai) hm,kq hb (List.getElem?_eq_getElem hbi) hn,ih']
 have:=key a.length (Nat.le_refl _)
 rw[List.take_length]at this
 rw[this,hl,List.take_length]
def mark(R:aV)(ks:List Nat)(i:Nat):Nat × List (Option Nat):=(ks.getD i 0,(R.getD i []).map (Option.map fun k=>ks.getD k 0))
def cI(R:aV)(ks:List Nat):List (Nat × List (Option Nat)):=(List.range R.length).map (mark R ks)
def finer(R:aV)(ks:List Nat):List Nat:=cO (cI R ks)
def iter(R:aV):Nat→List Nat
 | 0=>R.map fun _=>0
 | t+1=>finer R (iter R t)
def ah(R:aV):List Nat:=iter R (R.length * R.length)
theorem ny(R:aV)(ks:List Nat):(cI R ks).length=R.length:=by simp[cI]
theorem eQ(R:aV)(ks:List Nat):(finer R ks).length=R.length:=by simp[finer,cO,cI]
theorem bW(R:aV):∀ t,(iter R t).length=R.length
 | 0=>by simp[iter]
 | t+1=>eQ R _
theorem iX{R:aV}{ks:List Nat}{i:Nat}(h:i<R.length):(cI R ks)[i]? = some (mark R ks i):=by
 unfold cI; rw[List.getElem?_map,List.getElem?_range h]; rfl
theorem jS{R:aV}{ks:List Nat}{i j:Nat}(hi:i<R.length)(hj:j<R.length):(finer R ks)[i]? = (finer R ks)[j]? ↔ mark R ks i=mark R ks j:=q_ (iX hi) (iX hj)
theorem qM(n:Nat):du (List.replicate n 0):=by
 intro i
 rw[List.take_replicate]
 have:∀ k,am ([0]:List Nat) (List.replicate k 0)=[0]:=by
  intro k
  induction k with
  | zero=>rfl
  | succ k ih=>rw[List.replicate_succ]; show am (if 0∈[0] then [0] else [0]++[0]) _=_; rw[if_pos (by simp)]; exact ih
 cases h:min i n with
 | zero=>rfl
 | succ k=>
  rw[List.replicate_succ];show am (if (0:Nat)∈[] then [] else []++[0]) (List.replicate k 0)=List.range (am (if (0:Nat)∈[] then [] else []++[0]) (List.replicate k 0)).length
  rw[if_neg (by simp),List.nil_append,this]; rfl
theorem cH(R:aV):∀ t,du (iter R t)
 | 0=>by
  show du (R.map fun _=>0)
  rw[List.map_const'];exact qM _
 | t+1=>fS _
def dg(n:Nat)(ks:List Nat):Nat:=((List.range n).flatMap fun i=>(List.range n).map fun j=>(i,j)).countP fun p=>decide (ks[p.1]? = ks[p.2]?)
theorem oe{α : Type}{p q:α→Bool}:∀ {l:List α},(∀ x∈l,p x=true→q x=true)→(∃ x∈l,q x=true∧p x=false)→l.countP p<l.countP q
 | [],_,⟨x,hx,_⟩=>by simp at hx
 | y::l,h,⟨x,hx,h1,h2⟩=>by
  have mono:∀ {l:List α},(∀ x∈l,p x=true→q x=true)→l.countP p≤l.countP q:=by
   intro l hl
   exact List.countP_mono_left hl
  rw[List.countP_cons,List.countP_cons];rcases List.mem_cons.mp hx with rfl | hx
  ·have:=mono (l:=l) fun z hz=>h z (List.mem_cons_of_mem _ hz)
   rw[h1,h2]; simp; omega
  ·have:=oe (fun z hz=>h z (List.mem_cons_of_mem _ hz)) ⟨x,hx,h1,h2⟩
   have hy:=h y List.mem_cons_self
   cases hp:p y with
   | true=>rw[hy hp]; simp; omega
   | false=>cases q y <;> simp <;> omega
theorem lF{R:aV}{ks:List Nat}(hl:ks.length=R.length)(hc:du ks)(hne:finer R ks≠ks):dg R.length (finer R ks)<dg R.length ks:=by
 have sub:∀ i j,i<R.length→j<R.length→(finer R ks)[i]? = (finer R ks)[j]?→ks[i]? = ks[j]?:=fun i j hi hj e=>by
  have m:=(jS hi hj).mp e;have m1:ks.getD i 0=ks.getD j 0:=congrArg (·.1) m
  rw[List.getD_eq_getElem?_getD,List.getD_eq_getElem?_getD,List.getElem?_eq_getElem (by omega),List.getElem?_eq_getElem (by omega)]at m1
  rw[List.getElem?_eq_getElem (by omega),List.getElem?_eq_getElem (by omega)]
  exact congrArg some m1
 refine oe (fun x hx e=>?_) ?_
 ·obtain⟨i,hi,hx⟩:=List.mem_flatMap.mp hx
  obtain⟨j,hj,rfl⟩:=List.mem_map.mp hx
  exact decide_eq_true (sub i j (List.mem_range.mp hi) (List.mem_range.mp hj) (of_decide_eq_true e))
 ·refine Classical.byContradiction fun hno=>hne ?_
  refine nH (fS _) hc (by rw[eQ,hl]) fun i j hi hj=>?_
  rw[eQ]at hi hj
  refine⟨sub i j hi hj,fun e=>Classical.byContradiction fun e2=>hno ⟨(i,j),?_,decide_eq_true e,decide_eq_false e2⟩⟩
  exact List.mem_flatMap.mpr ⟨i,List.mem_range.mpr hi,List.mem_map.mpr ⟨j,List.mem_range.mpr hj,rfl⟩⟩
theorem pH(n:Nat)(ks:List Nat):dg n ks≤n * n:=by
 unfold dg;refine Nat.le_trans List.countP_le_length ?_
 have:∀ (l:List Nat),(l.flatMap fun i=>(List.range n).map fun j=>(i,j)).length=l.length * n:=by
  intro l
  induction l with
  | nil=>simp
  | cons x l ih=>rw[List.flatMap_cons,List.length_append,ih,List.length_map,List.length_range,List.length_cons,Nat.succ_mul]; omega
 rw[this,List.length_range]; exact Nat.le_refl _
theorem qf{R:aV}{t:Nat}(h:iter R (t+1)=iter R t):∀ s,iter R (t+s)=iter R t
 | 0=>rfl
 | s+1=>by
  show finer R (iter R (t+s))=_
  rw[qf h s]; exact h
theorem j8{R:aV}{t:Nat}(h:iter R (t+1)=iter R t)(ht:t≤R.length * R.length):iter R t=ah R:=by
 unfold ah;have:=qf h (R.length * R.length - t)
 rw[show t+(R.length * R.length - t)=R.length * R.length by omega]at this
 exact this.symm
def cX(ks:List Nat)(x:List (Option Nat)):List (Option Nat):=x.map (Option.map fun k=>ks.getD k 0)
def bL(R:aV)(ks:List Nat)(i:Nat):aV:=(List.range (am [] (ks.take i)).length).map fun k=>cX ks (R.getD (ks.idxOf k) [])
def merged(R:aV):aV:=bL R (ah R) R.length
theorem qH{l:List Nat}{i x:Nat}(hx:l[i]? = some x)(hn:x∉l.take i):l.idxOf x=i:=by
 obtain⟨hi,e⟩:=List.getElem?_eq_some_iff.mp hx
 have h0:l=l.take i++l.drop i:=(List.take_append_drop _ _).symm
 have h1:l.drop i=x::l.drop (i+1):=by rw[List.drop_eq_getElem_cons hi,e]
 rw[h0,List.idxOf_append,if_neg hn,h1,List.idxOf_cons_self,List.length_take];omega
theorem qO{R:aV}{ks:List Nat}(hc:du ks)(hl:ks.length=R.length){i:Nat}(hi:i<R.length) :
  bL R ks (i+1)=if ks.getD i 0=(bL R ks i).length then bL R ks i++[cX ks (R.getD i [])] else bL R ks i:=by
 have hik:i<ks.length:=by omega
 have hk:ks[i]? = some ks[i]:=List.getElem?_eq_getElem hik
 have hg:ks.getD i 0=ks[i]:=by rw[List.getD_eq_getElem?_getD,hk]; rfl
 have hml:(bL R ks i).length=(am [] (ks.take i)).length:=by simp[bL]
 rw[hg,hml];have ht:ks.take (i+1)=ks.take i++[ks[i]]:=by rw[List.take_add_one,hk]; rfl
 by_cases hm:ks[i]∈ks.take i
 ·have hf:ks[i]∈am [] (ks.take i):=(bG _ _ _).mpr (.inr hm)
  have hlt:ks[i]<(am [] (ks.take i)).length:=by
   have:=hc i
   rw[this]at hf
   exact List.mem_range.mp hf
  rw[if_neg (by omega)]
  unfold bL;rw[ht,cZ,if_pos hf]
 ·have hn:ks[i]∉am [] (ks.take i):=fun z=>by
   rcases(bG _ _ _).mp z with z | z
   ·cases z
   ·exact hm z
  have e:=kq hc hk hm;rw[if_pos e];unfold bL;rw[ht,cZ,if_neg hn,List.length_append,List.length_singleton,List.range_succ,List.map_append]
  congr 1
  rw[← e];show [cX ks (R.getD (ks.idxOf ks[i]) [])]=_
  rw[qH hk hm]
def aJ:List Nat→List (Option Nat)→List Nat
 | o,[]=>o
 | o,none::x=>aJ o x
 | o,some k::x=>aJ (if k∈o then o else o++[k]) x
theorem jg:∀ (x:List (Option Nat)) (o:List Nat) (w:Option Nat),aJ o (x++[w])=match w with
  | none=>aJ o x
  | some k=>if k∈aJ o x then aJ o x else aJ o x++[k]
 | [],o,none=>rfl
 | [],o,some k=>rfl
 | none::x,o,w=>jg x o w
 | some k::x,o,w=>jg x _ w
theorem jI:∀ (x:List (Option Nat)) (o:List Nat),∃ t,aJ o x=o++t
 | [],o=>⟨[],by simp[aJ]⟩
 | none::x,o=>jI x o
 | some k::x,o=>by
  obtain⟨t,e⟩:=jI x (if k∈o then o else o++[k])
  show ∃ t,aJ (if k∈o then o else o++[k]) x=o++t
  by_cases h:k∈o
  ·rw[if_pos h]at e ⊢; exact⟨t,e⟩
  ·rw[if_neg h]at e ⊢; exact⟨[k]++t,by rw[e,List.append_assoc]⟩
theorem eh:∀ (x:List (Option Nat)) (o:List Nat) (k:Nat),k∈aJ o x ↔ k∈o∨some k∈x
 | [],o,k=>by simp[aJ]
 | none::x,o,k=>by rw[show aJ o (none::x)=aJ o x from rfl,eh x]; simp
 | some j::x,o,k=>by
  rw[show aJ o (some j::x)=aJ (if j∈o then o else o++[j]) x from rfl,eh x]
  by_cases h:j∈o
  ·rw[if_pos h]
   constructor
   ·rintro(z | z)
    ·exact .inl z
    ·exact .inr (List.mem_cons_of_mem _ z)
   ·rintro(z | z)
    ·exact .inl z
    ·rcases List.mem_cons.mp z with e | z
     ·cases e; exact .inl h
     ·exact .inr z
  ·rw[if_neg h]; simp[or_assoc]
theorem fz:∀ (x:List (Option Nat)) (o:List Nat),o.Nodup→(aJ o x).Nodup
 | [],o,h=>h
 | none::x,o,h=>fz x o h
 | some k::x,o,h=>by
  refine fz x _ ?_
  by_cases hm:k∈o
  ·rw[if_pos hm]; exact h
  ·rw[if_neg hm,List.nodup_append]
   exact⟨h,by simp,fun a ha b hb e=>by rw[List.mem_singleton.mp hb]at e; exact hm (e ▸ ha)⟩
def aE(M:aV):Nat→List Nat
 | 0=>[0]
 | t+1=>match (aE M t)[t]? with
  | some r=>aJ (aE M t) (M.getD r [])
  | none=>aE M t
def aB(M:aV):List Nat:=aE M M.length
def dJ(M:aV):Prop:=∀ x∈M,∀ k,some k∈x→k<M.length
theorem fJ:∀ (m:Nat) (l:List Nat),l.Nodup→(∀ x∈l,x<m)→l.length≤m
 | 0,l,_,h=>by
  cases l with
  | nil=>exact Nat.le_refl _
  | cons x l=>exact absurd (h x List.mem_cons_self) (Nat.not_lt_zero _)
 | m+1,l,nd,h=>by
  have h1:=fJ m (l.filter (fun x=>decide (x≠m))) (nd.filter _) fun x hx=>by
   obtain⟨hx,hd⟩:=List.mem_filter.mp hx
   have:=h x hx
   have:=of_decide_eq_true hd
   omega
  have h2:l.length≤(l.filter (fun x=>decide (x≠m))).length+1:=by
   have:∀ (l:List Nat),l.Nodup→l.length≤(l.filter (fun x=>decide (x≠m))).length+1:=by
    intro l
    induction l with
    | nil=>intro _; simp
    | cons y l ih=>
     intro nd
     by_cases e:y=m
     ·subst e
      have hy:y∉l:=(List.nodup_cons.mp nd).1
      have e2:l.filter (fun x=>decide (x≠y))=l:=List.filter_eq_self.mpr fun x hx=>decide_eq_true (fun z=>hy (z ▸ hx))
      rw[List.filter_cons_of_neg (by simp),e2,List.length_cons]; exact Nat.le_refl _
     ·rw[List.filter_cons_of_pos (by simpa using e),List.length_cons,List.length_cons]
      have:=ih (List.nodup_cons.mp nd).2
      omega
   exact this l nd
  omega
theorem dq{M:aV}(hi:dJ M)(h0:1≤M.length):∀ t,(aE M t).Nodup∧∀ x∈aE M t,x<M.length
 | 0=>⟨by simp[aE],fun x hx=>by simp[aE]at hx; omega⟩
 | t+1=>by
  obtain⟨nd,lt⟩:=dq hi h0 t
  show (match (aE M t)[t]? with | some r=>aJ (aE M t) (M.getD r []) | none=>aE M t).Nodup∧∀ x∈(match (aE M t)[t]? with | some r=>aJ (aE M t) (M.getD r []) | none=>aE M t),x<M.length
  cases e:(aE M t)[t]? with
  | none=>exact⟨nd,lt⟩
  | some r=>
   refine⟨fz _ _ nd,fun x hx=>?_⟩
   rcases(eh _ _ _).mp hx with z | z
   ·exact lt x z
   ·have hr:r<M.length:=lt r (List.mem_of_getElem? e)
    rw[List.getD_eq_getElem?_getD,List.getElem?_eq_getElem hr]at z
    exact hi _ (List.getElem_mem hr) x z
theorem kG{M:aV}(hi:dJ M)(h0:1≤M.length)(t:Nat):(aE M t).length≤M.length:=fJ _ _ (dq hi h0 t).1 (dq hi h0 t).2
theorem m3{M:aV}{t:Nat}(h:(aE M t).length≤t):∀ s,aE M (t+s)=aE M t
 | 0=>rfl
 | s+1=>by
  have ih:=m3 h s;show (match (aE M (t+s))[t+s]? with | some r=>aJ (aE M (t+s)) (M.getD r []) | none=>aE M (t+s))=_
  rw[ih,List.getElem?_eq_none (by omega)]
theorem kd{M:aV}{t:Nat}(h:(aE M t).length≤t)(ht:t≤M.length):aE M t=aB M:=by
 unfold aB;have:=m3 h (M.length - t)
 rw[show t+(M.length - t)=M.length by omega]at this
 exact this.symm
def fm(o:List Nat)(x:List (Option Nat)):List (Option Nat):=x.map (Option.map fun k=>o.idxOf k)
def aY(M:aV):aV:=(aB M).map fun r=>fm (aB M) (M.getD r [])
def dR(N:aV)(p:Nat):Bool:=(List.range N.length).any fun i=>decide ((N.getD i []).getD p none≠some i)
def places(N:aV)(w:Nat):List Nat:=(List.range w).filter (dR N)
def af(R:aV):aV:=aY (merged R)
theorem kM{M:aV}(t:Nat):∃ u,aE M (t+1)=aE M t++u:=by
 show ∃ u,(match (aE M t)[t]? with | some r=>aJ (aE M t) (M.getD r []) | none=>aE M t)=aE M t++u
 cases e:(aE M t)[t]? with
 | none=>exact⟨[],by simp⟩
 | some r=>exact jI _ _
theorem mj{M:aV}:∀ (t j r:Nat),j<t→(aE M t)[j]? = some r→∀ k,some k∈M.getD r []→k∈aE M t
 | 0,j,r,h,_,_,_=>absurd h (Nat.not_lt_zero _)
 | t+1,j,r,h,hr,k,hk=>by
  obtain⟨u,hu⟩:=kM (M:=M) t
  rcases Nat.lt_or_ge j (aE M t).length with hj | hj
  ·have hr':(aE M t)[j]? = some r:=by rw[hu,List.getElem?_append_left hj]at hr; exact hr
   rcases Nat.lt_or_ge j t with hjt | hjt
   ·rw[hu]; exact List.mem_append_left _ (mj t j r hjt hr' k hk)
   ·have e:j=t:=by omega
    subst e;show k∈(match (aE M j)[j]? with | some r=>aJ (aE M j) (M.getD r []) | none=>aE M j)
    rw[hr'];exact(eh _ _ _).mpr (.inr hk)
  ·have hn:(aE M t)[t]? = none:=List.getElem?_eq_none (by omega)
   have e:aE M (t+1)=aE M t:=by
    show (match (aE M t)[t]? with | some r=>aJ (aE M t) (M.getD r []) | none=>aE M t)=_
    rw[hn]
   rw[e,List.getElem?_eq_none hj]at hr
   cases hr
theorem dS{M:aV}(hi:dJ M)(h0:1≤M.length){r k:Nat}(hr:r∈aB M)(hk:some k∈M.getD r []):k∈aB M:=by
 obtain⟨j,hj,e⟩:=List.mem_iff_getElem.mp hr
 have hl:=kG hi h0 M.length;exact mj M.length j r (Nat.lt_of_lt_of_le hj hl) (by rw[← e]; exact List.getElem?_eq_getElem hj) k hk
theorem dE{M:aV}(hi:dJ M)(h0:1≤M.length):(aB M).Nodup∧(∀ x∈aB M,x<M.length)∧(aB M).length≤M.length:=⟨(dq hi h0 _).1,(dq hi h0 _).2,kG hi h0 _⟩
theorem jM(M:aV):∀ t,(aE M t)[0]? = some 0
 | 0=>rfl
 | t+1=>by
  obtain⟨u,hu⟩:=kM (M:=M) t
  have h:=jM M t;have hl:0<(aE M t).length:=(List.getElem?_eq_some_iff.mp h).1
  rw[hu,List.getElem?_append_left hl]; exact h
theorem eG{R:aV}(hc:1≤R.length)(hi:dJ R):dJ (merged R)∧1≤(merged R).length∧(merged R).length≤R.length:=by
 have hl:(ah R).length=R.length:=bW R _
 have hcn:du (ah R):=cH R _
 have hall:=hcn R.length;rw[← hl,List.take_length]at hall
 have hml:(merged R).length=(am [] (ah R)).length:=by
  unfold merged bL;rw[List.length_map,List.length_range,← hl,List.take_length]
 have hle:(merged R).length≤R.length:=by
  have:=dy (ah R) []
  rw[hml]; simp at this; omega
 have mem:∀ k∈ah R,k<(merged R).length:=fun k hk=>by
  have:k∈am [] (ah R):=(bG _ _ _).mpr (.inr hk)
  rw[hall]at this
  rw[hml]; exact List.mem_range.mp this
 refine⟨fun x hx k hk=>?_,?_,hle⟩
 ·unfold merged bL at hx
  obtain⟨j,hj,rfl⟩:=List.mem_map.mp hx
  unfold cX at hk;obtain⟨o,ho,e⟩:=List.mem_map.mp hk
  cases o with
  | none=>cases e
  | some k'=>
   have e':(ah R).getD k' 0=k:=Option.some.inj e
   refine mem k ?_
   have hk':k'<R.length:=by
    by_cases hjj:(ah R).idxOf j<R.length
    ·rw[List.getD_eq_getElem?_getD,List.getElem?_eq_getElem hjj]at ho
     exact hi _ (List.getElem_mem hjj) k' ho
    ·rw[List.getD_eq_getElem?_getD,List.getElem?_eq_none (by omega)]at ho
     cases ho
   rw[← e',List.getD_eq_getElem?_getD,List.getElem?_eq_getElem (by omega)]
   exact List.getElem_mem _
 ·have h0:(ah R)[0]∈ah R:=List.getElem_mem (by omega)
  have:=mem _ h0
  omega
theorem ml{R:aV}{m:Nat}(hr:∀ x∈R,x.length=m):∀ x∈merged R,x.length=m:=by
 have hl:(ah R).length=R.length:=bW R _
 have hcn:du (ah R):=cH R _
 intro x hx
 unfold merged bL at hx;obtain⟨j,hj,rfl⟩:=List.mem_map.mp hx
 have hj':j∈am [] ((ah R).take R.length):=by
  have:=hcn R.length
  rw[this]; exact hj
 have hjk:j∈ah R:=by
  rcases(bG _ _ _).mp hj' with z | z
  ·cases z
  ·exact List.mem_of_mem_take z
 have hlt:(ah R).idxOf j<R.length:=by rw[← hl]; exact List.idxOf_lt_length_iff.mpr hjk
 unfold cX;rw[List.length_map,List.getD_eq_getElem?_getD,List.getElem?_eq_getElem hlt];exact hr _ (List.getElem_mem hlt)
theorem eI{M:aV}{m:Nat}(hi:dJ M)(h0:1≤M.length)(hr:∀ x∈M,x.length=m):dJ (aY M)∧1≤(aY M).length∧(aY M).length≤M.length∧∀ x∈aY M,x.length=m:=by
 obtain⟨nd,lt,le⟩:=dE hi h0
 have hol:(aY M).length=(aB M).length:=by simp[aY]
 have h1:0<(aB M).length:=(List.getElem?_eq_some_iff.mp (jM M M.length)).1
 have row:∀ r∈aB M,∃ x,M.getD r []=x∧x∈M:=fun r hr'=>by
  have:=lt r hr'
  exact⟨_,rfl,by rw[List.getD_eq_getElem?_getD,List.getElem?_eq_getElem this]; exact List.getElem_mem _⟩
 refine⟨fun x hx k hk=>?_,by omega,by omega,fun x hx=>?_⟩
 ·unfold aY at hx
  obtain⟨r,hr',rfl⟩:=List.mem_map.mp hx
  unfold fm at hk;obtain⟨o,ho,e⟩:=List.mem_map.mp hk
  cases o with
  | none=>cases e
  | some k'=>
   have e':(aB M).idxOf k'=k:=Option.some.inj e
   rw[← e',hol];exact List.idxOf_lt_length_iff.mpr (dS hi h0 hr' ho)
 ·unfold aY at hx
  obtain⟨r,hr',rfl⟩:=List.mem_map.mp hx
  obtain⟨y,e,hy⟩:=row r hr'
  unfold fm;rw[List.length_map,e]; exact hr y hy
theorem jX{R:aV}(E:Nat→Nat→Prop)(hE:∀ u v,E u v→u<R.length→v<R.length→∀ p:Nat,((R.getD u [])[p]? = none∧(R.getD v [])[p]? = none)∨((R.getD u [])[p]? = some none∧(R.getD v [])[p]? = some none)∨
   ∃ x y,(R.getD u [])[p]? = some (some x)∧(R.getD v [])[p]? = some (some y)∧E x y∧x<R.length∧y<R.length) :
  ∀ (t u v:Nat),E u v→u<R.length→v<R.length→(iter R t)[u]? = (iter R t)[v]?
 | 0,u,v,_,hu,hv=>by
  show (R.map fun _=>0)[u]? = (R.map fun _=>0)[v]?
  rw[List.getElem?_map,List.getElem?_map,List.getElem?_eq_getElem hu,List.getElem?_eq_getElem hv]; rfl
 | t+1,u,v,h,hu,hv=>by
  have ih:=jX E hE t;refine(jS hu hv).mpr ?_
  have gd:∀ x y,E x y→x<R.length→y<R.length→(iter R t).getD x 0=(iter R t).getD y 0:=fun x y e hx hy=>by
   rw[List.getD_eq_getElem?_getD,List.getD_eq_getElem?_getD,ih x y e hx hy]
  refine Prod.ext (gd u v h hu hv) ?_
  show (R.getD u []).map _=(R.getD v []).map _
  refine List.ext_getElem? fun p=>?_
  rw[List.getElem?_map,List.getElem?_map];rcases hE u v h hu hv p with ⟨h1,h2⟩ | ⟨h1,h2⟩ | ⟨x,y,h1,h2,hxy,hx,hy⟩
  ·rw[h1,h2]
  ·rw[h1,h2]
  ·rw[h1,h2]
   exact congrArg (fun z=>some (some z)) (gd x y hxy hx hy)
theorem lf(R:aV):finer R (ah R)=ah R:=by
 -- the pairs can't get fewer for ever
 have key:∀ t,(∃ s,s≤t∧iter R (s+1)=iter R s)∨dg R.length (iter R (t+1))+(t+1)≤R.length * R.length:=by
  intro t
  induction t with
  | zero=>
   by_cases h:iter R 1=iter R 0
   ·exact .inl ⟨0,Nat.le_refl _,h⟩
   ·have:=lF (R:=R) (bW R 0) (cH R 0) h
    have:=pH R.length (iter R 0)
    refine .inr ?_
    show dg R.length (finer R (iter R 0))+1≤_
    omega
  | succ t ih=>
   rcases ih with ⟨s,hs,e⟩ | ih
   ·exact .inl ⟨s,by omega,e⟩
   ·by_cases h:iter R (t+1+1)=iter R (t+1)
    ·exact .inl ⟨t+1,Nat.le_refl _,h⟩
    ·have:=lF (R:=R) (bW R (t+1)) (cH R (t+1)) h
     refine .inr ?_
     show dg R.length (finer R (iter R (t+1)))+(t+1+1)≤_
     omega
 rcases key (R.length * R.length) with ⟨s,hs,e⟩ | h
 ·have e1:=j8 e hs
  rw[← e1]; exact e
 ·omega
theorem vL{l:List Nat}(hc:du l)(hi:∀ i j,i<l.length→j<l.length→l[i]? = l[j]?→i=j):l=List.range l.length:=by
 refine nH hc ?_ (by simp) fun i j h1 h2=>?_
 ·have:List.range l.length=cO (List.range l.length):=by
   have hf:∀ (n:Nat),am [] (List.range n)=List.range n:=by
    intro n
    induction n with
    | zero=>rfl
    | succ n ih=>
     rw[List.range_succ,cZ,ih,if_neg (by simp)]
   unfold cO;rw[hf];refine List.ext_getElem (by simp) fun i h1 h2=>?_
   rw[List.getElem_map];have:=(List.nodup_range (n:=l.length)).idxOf_getElem i (by simpa using h1)
   rw[this,List.getElem_range]
  rw[this]; exact fS _
 ·rw[List.getElem?_range h1,List.getElem?_range h2]
  constructor
  ·intro e; rw[hi i j h1 h2 e]
  ·intro e
   have:i=j:=Option.some.inj e
   rw[this]
def db(N:aV)(ps:List Nat):aV:=N.map fun y=>ps.map fun x=>y.getD x none
theorem aI{α : Type}{l:List α}{i:Nat}{d:α}(h:i<l.length):l.getD i d=l[i]:=by rw[List.getD_eq_getElem?_getD,List.getElem?_eq_getElem h]; rfl
theorem eU{R:aV}{u:Nat}(hu:u<R.length):(ah R).getD u 0<(merged R).length∧cX (ah R) (R.getD u [])=(merged R).getD ((ah R).getD u 0) []:=by
 have hl:(ah R).length=R.length:=bW R _
 have hcn:du (ah R):=cH R _
 have hk:(ah R).getD u 0=(ah R)[u]'(by omega):=aI (by omega)
 have hmem:(ah R).getD u 0∈ah R:=by rw[hk]; exact List.getElem_mem _
 generalize (ah R).getD u 0=k at hk hmem;have hall:=hcn R.length;rw[← hl,List.take_length]at hall
 have hml:(merged R).length=(am [] (ah R)).length:=by
  unfold merged bL;rw[List.length_map,List.length_range,← hl,List.take_length]
 have hlt:k<(merged R).length:=by
  have:k∈am [] (ah R):=(bG _ _ _).mpr (.inr hmem)
  rw[hall]at this
  rw[hml]; exact List.mem_range.mp this
 refine⟨hlt,?_⟩
 have hix:(ah R).idxOf k<R.length:=by rw[← hl]; exact List.idxOf_lt_length_iff.mpr hmem
 have hki:(ah R)[(ah R).idxOf k]'(by omega)=k:=List.getElem_idxOf (List.idxOf_lt_length_iff.mpr hmem)
 have e:(merged R).getD k []=cX (ah R) (R.getD ((ah R).idxOf k) []):=by
  rw[List.getD_eq_getElem?_getD];unfold merged bL;rw[List.getElem?_map,List.getElem?_range (by rw[← hl,List.take_length,← hml]; exact hlt)]; rfl
 rw[e]
 have q:(finer R (ah R))[u]? = (finer R (ah R))[(ah R).idxOf k]?:=by
  rw[lf,List.getElem?_eq_getElem (by omega),List.getElem?_eq_getElem (by omega),hki]
  exact congrArg some hk.symm
 exact congrArg (·.2) ((jS hu hix).mp q)
theorem nv{R:aV}{k:Nat}(h:k<(merged R).length):∃ u,u<R.length∧(ah R).getD u 0=k:=by
 have hl:(ah R).length=R.length:=bW R _
 have hcn:du (ah R):=cH R _
 have hall:=hcn R.length;rw[← hl,List.take_length]at hall
 have hml:(merged R).length=(am [] (ah R)).length:=by
  unfold merged bL;rw[List.length_map,List.length_range,← hl,List.take_length]
 have hm:k∈am [] (ah R):=by rw[hall]; exact List.mem_range.mpr (by omega)
 have hk:k∈ah R:=by
  rcases(bG _ _ _).mp hm with z | z
  ·cases z
  ·exact z
 obtain⟨u,hu,e⟩:=List.mem_iff_getElem.mp hk
 exact⟨u,by omega,by rw[aI hu]; exact e⟩
structure Rm (R:aV) (m:Nat):Prop where
 n0:1≤R.length
 row:∀ x∈R,x.length=m
 ins:dJ R
theorem Rm.merged{R:aV}{m:Nat}(h:Rm R m):Rm (merged R) m:=⟨(eG h.n0 h.ins).2.1,ml h.row,(eG h.n0 h.ins).1⟩
theorem Rm.ordered{R:aV}{m:Nat}(h:Rm R m):Rm (aY R) m:=⟨(eI h.ins h.n0 h.row).2.1,(eI h.ins h.n0 h.row).2.2.2,(eI h.ins h.n0 h.row).1⟩
theorem Rm.least{R:aV}{m:Nat}(h:Rm R m):Rm (af R) m:=h.merged.ordered
theorem jJ{N:aV}{ps:List Nat}{i:Nat}(h:i<N.length):(db N ps).getD i []=ps.map fun x=>(N.getD i []).getD x none:=by
 unfold db;rw[aI (by simpa using h),List.getElem_map,aI h]
theorem dH(N:aV)(ps:List Nat):(db N ps).length=N.length:=by simp[db]
theorem zL{N:aV}{m:Nat}(h:Rm N m)(ps:List Nat)(hp:∀ x∈ps,x<m):Rm (db N ps) ps.length:=by
 refine⟨by rw[dH]; exact h.n0,fun x hx=>?_,fun x hx k hk=>?_⟩
 ·obtain⟨y,hy,rfl⟩:=List.mem_map.mp hx
  simp
 ·obtain⟨y,hy,rfl⟩:=List.mem_map.mp hx
  obtain⟨p,hpm,e⟩:=List.mem_map.mp hk
  have hlt:p<y.length:=by rw[h.row y hy]; exact hp p hpm
  rw[aI hlt]at e
  rw[dH];exact h.ins y hy k (e ▸ List.getElem_mem hlt)
theorem jT{N:aV}{p i:Nat}(h:dR N p=false)(hi:i<N.length):(N.getD i []).getD p none=some i:=by
 unfold dR at h;rw[List.any_eq_false]at h
 have:=h i (List.mem_range.mpr hi)
 simpa using this
theorem leastN_len{R:aV}:(af R).length=(aB (merged R)).length:=by unfold af aY; rw[List.length_map]
theorem mi{R:aV}{i:Nat}(h:i<(af R).length):(af R).getD i []=fm (aB (merged R)) ((merged R).getD ((aB (merged R))[i]'(by rw[← leastN_len]; exact h)) []):=by
 rw[List.getD_eq_getElem?_getD];show (((aB (merged R)).map fun r=>fm (aB (merged R)) ((merged R).getD r []))[i]?).getD []=_
 rw[List.getElem?_map,List.getElem?_eq_getElem (by rw[← leastN_len]; exact h)]; rfl
theorem uR{R:aV}{m:Nat}(h:Rm R m):∀ i j,i<(af R).length→j<(af R).length→(ah (db (af R) (places (af R) m)))[i]? = (ah (db (af R) (places (af R) m)))[j]?→i=j:=by
 have hM:=h.merged;have hN:=h.least;obtain⟨ond,olt,ole⟩:=dE hM.ins hM.n0
 have hplt:∀ x∈places (af R) m,x<m:=fun x hx=>List.mem_range.mp (List.mem_filter.mp hx).1
 have hF:=zL hN (places (af R) m) hplt;generalize hFd:db (af R) (places (af R) m)=F at hF ⊢;have hFl:F.length=(af R).length:=by rw[← hFd,dH]
 have hkl:(ah F).length=F.length:=bW F _
 let o:=aB (merged R)
 let K:=ah R
 have hol:o.length=(af R).length:=leastN_len.symm
 -- a word's way from two least rooms of one kind
 have way:∀ i j,i<(af R).length→j<(af R).length→(ah F)[i]? = (ah F)[j]?→∀ p,p<m→
   (((af R).getD i []).getD p none=none∧((af R).getD j []).getD p none=none)∨∃ x y,((af R).getD i []).getD p none=some x∧((af R).getD j []).getD p none=some y∧x<(af R).length∧y<(af R).length∧(ah F)[x]? = (ah F)[y]?:=by
  intro i j hi hj e p hp
  by_cases hd:dR (af R) p=true
  ·have hpm:p∈places (af R) m:=List.mem_filter.mpr ⟨List.mem_range.mpr hp,hd⟩
   obtain⟨q,hq,eq⟩:=List.mem_iff_getElem.mp hpm
   have mk:mark F (ah F) i=mark F (ah F) j:=(jS (by omega) (by omega)).mp (by rw[lf]; exact e)
   have rows:(F.getD i []).map (Option.map fun k=>(ah F).getD k 0)=(F.getD j []).map (Option.map fun k=>(ah F).getD k 0):=congrArg (·.2) mk
   have at':∀ i,i<(af R).length→((F.getD i []).map (Option.map fun k=>(ah F).getD k 0))[q]? = some ((((af R).getD i []).getD p none).map fun k=>(ah F).getD k 0):=fun i hi=>by
    rw[← hFd,jJ hi,List.getElem?_map,List.getElem?_map,List.getElem?_eq_getElem hq,eq]; rfl
   have r1:=at' i hi;have r2:=at' j hj;rw[rows,r2]at r1
   have r3:=Option.some.inj r1
   have mem:∀ i,i<(af R).length→∀ x,((af R).getD i []).getD p none=some x→x<(af R).length:=fun i hi x hx=>by
    rw[aI hi]at hx
    have hlt:p<((af R)[i]).length:=by rw[hN.row _ (List.getElem_mem hi)]; exact hp
    rw[aI hlt]at hx
    exact hN.ins _ (List.getElem_mem hi) x (hx ▸ List.getElem_mem hlt)
   cases e1:((af R).getD i []).getD p none with
   | none=>
    cases e2:((af R).getD j []).getD p none with
    | none=>exact .inl ⟨rfl,rfl⟩
    | some y=>rw[e1,e2]at r3; cases r3
   | some x=>
    cases e2:((af R).getD j []).getD p none with
    | none=>rw[e1,e2]at r3; cases r3
    | some y=>
     rw[e1,e2]at r3
     have hx:=mem i hi x e1;have hy:=mem j hj y e2;have r4:(ah F).getD y 0=(ah F).getD x 0:=Option.some.inj r3
     refine .inr ⟨x,y,rfl,rfl,hx,hy,?_⟩
     rw[aI (by omega),aI (by omega)]at r4
     rw[List.getElem?_eq_getElem (by omega),List.getElem?_eq_getElem (by omega),r4]
  ·have hd':dR (af R) p=false:=by simpa using hd
   exact .inr ⟨i,j,jT hd' hi,jT hd' hj,hi,hj,e⟩
 let E:Nat→Nat→Prop:=fun u v=>K.getD u 0=K.getD v 0∨∃ i j,i<(af R).length∧j<(af R).length∧o[i]? = some (K.getD u 0)∧o[j]? = some (K.getD v 0)∧(ah F)[i]? = (ah F)[j]?
 have bis:∀ u v,E u v→u<R.length→v<R.length→∀ p:Nat,((R.getD u [])[p]? = none∧(R.getD v [])[p]? = none)∨((R.getD u [])[p]? = some none∧(R.getD v [])[p]? = some none)∨
   ∃ x y,(R.getD u [])[p]? = some (some x)∧(R.getD v [])[p]? = some (some y)∧E x y∧x<R.length∧y<R.length:=by
  intro u v he hu hv p
  have ru:=h.row _ (List.getElem_mem hu);have rv:=h.row _ (List.getElem_mem hv);have gu:R.getD u []=R[u]:=aI hu
  have gv:R.getD v []=R[v]:=aI hv
  rcases Nat.lt_or_ge p m with hp | hp
  ·have ins:∀ u (hu:u<R.length) x,(R[u])[p]? = some (some x)→x<R.length:=fun u hu x hx=>h.ins _ (List.getElem_mem hu) x (List.mem_of_getElem? hx)
   obtain⟨_,wu⟩:=eU hu
   obtain⟨_,wv⟩:=eU hv
   rw[gu]at wu ⊢
   rw[gv]at wv ⊢
   obtain⟨a,ha⟩ : ∃ a,(R[u])[p]? = some a:=⟨(R[u])[p]'(by omega),List.getElem?_eq_getElem (by omega)⟩
   obtain⟨b,hb⟩ : ∃ b,(R[v])[p]? = some b:=⟨(R[v])[p]'(by omega),List.getElem?_eq_getElem (by omega)⟩
   have wua:(cX K R[u])[p]? = some (a.map fun k=>K.getD k 0):=by unfold cX; rw[List.getElem?_map,ha]; rfl
   have wvb:(cX K R[v])[p]? = some (b.map fun k=>K.getD k 0):=by unfold cX; rw[List.getElem?_map,hb]; rfl
   rw[ha,hb];rcases he with he | ⟨i,j,hi,hj,oi,oj,eij⟩
   ·have q:(cX K R[u])[p]? = (cX K R[v])[p]?:=by
     show (cX (ah R) R[u])[p]? = (cX (ah R) R[v])[p]?
     rw[wu,wv];have he':(ah R).getD u 0=(ah R).getD v 0:=he
     rw[he']
    rw[wua,wvb]at q
    have q':=Option.some.inj q
    cases a with
    | none=>cases b with
     | none=>exact .inr (.inl ⟨rfl,rfl⟩)
     | some y=>cases q'
    | some x=>cases b with
     | none=>cases q'
     | some y=>exact .inr (.inr ⟨x,y,rfl,rfl,.inl (Option.some.inj q'),ins u hu x ha,ins v hv y hb⟩)
   ·have row:∀ i (hi:i<(af R).length) u (hu:u<R.length),o[i]? = some (K.getD u 0)→∀ a:Option Nat,(cX K R[u])[p]? = some (a.map fun k=>K.getD k 0)→((af R).getD i []).getD p none=(a.map fun k=>K.getD k 0).map (fun k=>o.idxOf k):=fun i hi u hu oi a wa=>by
     have hio:i<o.length:=by omega
     rw[mi hi]
     have e1:(aB (merged R))[i]'hio=K.getD u 0:=by
      have:=oi
      rw[List.getElem?_eq_getElem hio]at this
      exact Option.some.inj this
     rw[e1];obtain⟨_,wu⟩:=eU hu
     rw[aI hu]at wu
     rw[← wu];unfold fm;rw[List.getD_eq_getElem?_getD,List.getElem?_map];have wa':(cX (ah R) R[u])[p]? = some (a.map fun k=>K.getD k 0):=wa
     rw[wa']; rfl
    have na:=row i hi u hu oi a wua;have nb:=row j hj v hv oj b wvb
    have inO:∀ i (hi:i<(af R).length) u (hu:u<R.length),o[i]? = some (K.getD u 0)→∀ x,(R[u])[p]? = some (some x)→K.getD x 0∈o:=fun i hi u hu oi x hx=>by
     refine dS hM.ins hM.n0 (List.mem_of_getElem? oi) ?_
     obtain⟨_,wu⟩:=eU hu
     rw[aI hu]at wu
     show some (K.getD x 0)∈(merged R).getD ((ah R).getD u 0) []
     rw[← wu];refine List.mem_map.mpr ⟨some x,List.mem_of_getElem? hx,rfl⟩
    rcases way i j hi hj eij p hp with ⟨w1,w2⟩ | ⟨x',y',w1,w2,hx',hy',exy⟩
    ·cases a with
     | none=>cases b with
      | none=>exact .inr (.inl ⟨rfl,rfl⟩)
      | some y=>rw[w2]at nb; cases nb
     | some x=>rw[w1]at na; cases na
    ·cases a with
     | none=>rw[w1]at na; cases na
     | some x=>cases b with
      | none=>rw[w2]at nb; cases nb
      | some y=>
       rw[w1]at na
       rw[w2]at nb
       have na':x'=o.idxOf (K.getD x 0):=Option.some.inj na
       have nb':y'=o.idxOf (K.getD y 0):=Option.some.inj nb
       have mx:=inO i hi u hu oi x ha;have my:=inO j hj v hv oj y hb;refine .inr (.inr ⟨x,y,rfl,rfl,.inr ⟨x',y',hx',hy',?_,?_,exy⟩,ins u hu x ha,ins v hv y hb⟩)
       ·rw[na',List.getElem?_eq_getElem (List.idxOf_lt_length_iff.mpr mx),List.getElem_idxOf]
       ·rw[nb',List.getElem?_eq_getElem (List.idxOf_lt_length_iff.mpr my),List.getElem_idxOf]
  ·exact .inl ⟨by rw[gu]; exact List.getElem?_eq_none (by omega),by rw[gv]; exact List.getElem?_eq_none (by omega)⟩
 intro i j hi hj e
 have hio:i<o.length:=by omega
 have hjo:j<o.length:=by omega
 obtain⟨u,hu,eu⟩:=nv (olt _ (List.getElem_mem hio))
 obtain⟨v,hv,ev⟩:=nv (olt _ (List.getElem_mem hjo))
 have q:=jX E bis (R.length * R.length) u v (.inr ⟨i,j,hi,hj,by rw[List.getElem?_eq_getElem hio]; exact congrArg some eu.symm,by rw[List.getElem?_eq_getElem hjo]; exact congrArg some ev.symm,e⟩) hu hv
 have hkR:(ah R).length=R.length:=bW R _
 have q':(ah R)[u]? = (ah R)[v]?:=q
 have q2:(ah R).getD u 0=(ah R).getD v 0:=by rw[List.getD_eq_getElem?_getD,List.getD_eq_getElem?_getD,q']
 rw[eu,ev]at q2
 exact(List.getElem_inj ond).mp q2
theorem gU(f:Nat→Nat):∀ (x:List (Option Nat)) (o:List Nat),(∀ a,(a∈o∨some a∈x)→∀ b,(b∈o∨some b∈x)→f a=f b→a=b)→aJ (o.map f) (x.map (Option.map f))=(aJ o x).map f
 | [],o,_=>rfl
 | none::x,o,h=>gU f x o fun a ha b hb=>h a (by rcases ha with z | z <;> simp[z]) b (by rcases hb with z | z <;> simp[z])
 | some k::x,o,h=>by
  show aJ (if f k∈o.map f then o.map f else o.map f++[f k]) (x.map (Option.map f))=(aJ (if k∈o then o else o++[k]) x).map f
  by_cases hm:k∈o
  ·rw[if_pos hm,if_pos (List.mem_map.mpr ⟨k,hm,rfl⟩)]
   exact gU f x o fun a ha b hb=>h a (by rcases ha with z | z <;> simp[z]) b (by rcases hb with z | z <;> simp[z])
  ·have hn:f k∉o.map f:=fun z=>by
    obtain⟨a,ha,e⟩:=List.mem_map.mp z
    have:=h a (.inl ha) k (.inr (by simp)) e
    exact hm (this ▸ ha)
   rw[if_neg hm,if_neg hn]
   have conv:∀ a,(a∈o++[k]∨some a∈x)→(a∈o∨some a∈some k::x):=fun a ha=>by
    rcases ha with z | z
    ·rcases List.mem_append.mp z with z | z
     ·exact .inl z
     ·rw[List.mem_singleton.mp z]; exact .inr List.mem_cons_self
    ·exact .inr (List.mem_cons_of_mem _ z)
   have ih:=gU f x (o++[k]) fun a ha b hb=>h a (conv a ha) b (conv b hb)
   rw[List.map_append]at ih
   exact ih
theorem kS(P:Nat→Bool)(f:Nat→Option Nat)(t:Nat):∀ (l o:List Nat),t∈o→(∀ p∈l,P p=false→f p=some t)→aJ o ((l.filter P).map f)=aJ o (l.map f)
 | [],_,_,_=>rfl
 | p::l,o,ht,h=>by
  have ih:=fun o ht=>kS P f t l o ht fun q hq=>h q (List.mem_cons_of_mem _ hq)
  cases hp:P p with
  | true=>
   rw[List.filter_cons_of_pos hp,List.map_cons,List.map_cons]
   cases hf:f p with
   | none=>exact ih o ht
   | some k=>
    show aJ (if k∈o then o else o++[k]) _=aJ (if k∈o then o else o++[k]) _
    by_cases hk:k∈o
    ·rw[if_pos hk]; exact ih o ht
    ·rw[if_neg hk]; exact ih _ (List.mem_append_left _ ht)
  | false=>
   rw[List.filter_cons_of_neg (by simp[hp]),List.map_cons,h p List.mem_cons_self hp]
   show _=aJ (if t∈o then o else o++[t]) _
   rw[if_pos ht]; exact ih o ht
theorem mf{M:aV}(t:Nat):∀ s,∃ u,aE M (t+s)=aE M t++u
 | 0=>⟨[],by simp⟩
 | s+1=>by
  obtain⟨u,hu⟩:=mf t s
  obtain⟨v,hv⟩:=kM (M:=M) (t+s)
  exact⟨u++v,by rw[show t+(s+1)=t+s+1 by omega,hv,hu,List.append_assoc]⟩
theorem nE{M:aV}(hi:dJ M)(h0:1≤M.length)(t:Nat):∃ u,aB M=aE M t++u:=by
 rcases Nat.lt_or_ge t M.length with h | h
 ·obtain⟨u,hu⟩:=mf (M:=M) t (M.length - t)
  rw[show t+(M.length - t)=M.length by omega]at hu
  exact⟨u,hu⟩
 ·have hl:=kG hi h0 M.length
  have:=m3 (M:=M) (t:=M.length) hl (t - M.length)
  rw[show M.length+(t - M.length)=t by omega]at this
  exact⟨[],by rw[this]; unfold aB; simp⟩
theorem qN{l a b:List Nat}(nd:l.Nodup)(h:l=a++b):a.map (fun x=>l.idxOf x)=List.range a.length:=by
 have:=mB nd a.length (by rw[h,List.length_append]; omega)
 have e:l.take a.length=a:=by rw[h,List.take_left]
 rwa [e]at this
theorem q0{M:aV}{m:Nat}(h:Rm M m):∀ t,aE (aY M) t=List.range (aE M t).length:=by
 obtain⟨ond,olt,ole⟩:=dE h.ins h.n0
 have main:∀ t,aE (aY M) t=(aE M t).map fun x=>(aB M).idxOf x:=by
  intro t
  induction t with
  | zero=>
   show [0]=[(aB M).idxOf 0]
   have h0:=jM M M.length;obtain⟨hl,e⟩:=List.getElem?_eq_some_iff.mp h0
   have:=ond.idxOf_getElem 0 hl
   have e':(aB M)[0]'hl=0:=e
   rw[e']at this
   rw[this]
  | succ t ih=>
   obtain⟨u,hu⟩:=nE h.ins h.n0 t
   show (match (aE (aY M) t)[t]? with | some r=>aJ (aE (aY M) t) ((aY M).getD r []) | none=>aE (aY M) t)=List.map _ (match (aE M t)[t]? with | some r=>aJ (aE M t) (M.getD r []) | none=>aE M t)
   rw[ih,List.getElem?_map]
   cases e:(aE M t)[t]? with
   | none=>rfl
   | some r=>
    show aJ _ ((aY M).getD ((aB M).idxOf r) [])=_
    have hro:r∈aB M:=by rw[hu]; exact List.mem_append_left _ (List.mem_of_getElem? e)
    have hlt:=List.idxOf_lt_length_iff.mpr hro
    have hrow:(aY M).getD ((aB M).idxOf r) []=fm (aB M) (M.getD r []):=by
     unfold aY;rw[List.getD_eq_getElem?_getD,List.getElem?_map,List.getElem?_eq_getElem hlt,List.getElem_idxOf]; rfl
    rw[hrow];unfold fm;refine gU _ _ _ fun a ha b hb e2=>?_
    have mem:∀ a,(a∈aE M t∨some a∈M.getD r [])→a∈aB M:=fun a ha=>by
     rcases ha with z | z
     ·rw[hu]; exact List.mem_append_left _ z
     ·exact dS h.ins h.n0 hro z
    have h1:=List.getElem_idxOf (List.idxOf_lt_length_iff.mpr (mem a ha));have h2:=List.getElem_idxOf (List.idxOf_lt_length_iff.mpr (mem b hb));rw[← h1,← h2]; congr 1
 intro t
 obtain⟨u,hu⟩:=nE h.ins h.n0 t
 rw[main,qN ond hu]
theorem vg{x:List (Option Nat)}{m:Nat}(h:x.length=m):(List.range m).map (fun p=>x.getD p none)=x:=by
 refine List.ext_getElem (by simp[h]) fun i h1 h2=>?_
 rw[List.getElem_map,List.getElem_range,aI h2]
theorem nK{R:aV}{m:Nat}(h:Rm R m):∀ t,aE (db (af R) (places (af R) m)) t=List.range (aE (merged R) t).length:=by
 have hN:=h.least;have hb:=q0 h.merged;intro t
 have:aE (db (af R) (places (af R) m)) t=aE (af R) t:=by
  induction t with
  | zero=>rfl
  | succ t ih=>
   show (match (aE (db (af R) (places (af R) m)) t)[t]? with | some r=>aJ (aE (db (af R) (places (af R) m)) t) ((db (af R) (places (af R) m)).getD r []) | none=>aE (db (af R) (places (af R) m)) t)=(match (aE (af R) t)[t]? with | some r=>aJ (aE (af R) t) ((af R).getD r []) | none=>aE (af R) t)
   rw[ih]
   cases e:(aE (af R) t)[t]? with
   | none=>rfl
   | some r=>
    have hr:r<(af R).length:=(dq hN.ins hN.n0 t).2 r (List.mem_of_getElem? e)
    show aJ _ ((db (af R) (places (af R) m)).getD r [])=aJ _ ((af R).getD r [])
    rw[jJ hr];have e2:=kS (dR (af R)) (fun p=>((af R).getD r []).getD p none) r (List.range m) (aE (af R) t) (List.mem_of_getElem? e) fun p _ hp=>jT hp hr
    have e3:(List.range m).map (fun p=>((af R).getD r []).getD p none)=(af R).getD r []:=vg (by rw[aI hr]; exact hN.row _ (List.getElem_mem hr))
    rw[e3]at e2
    exact e2
 rw[this];exact hb t
theorem oC{R:aV}{m:Nat}(h:Rm R m){t:Nat}(ht:t<(af R).length):t<(aE (merged R) t).length:=by
 have hM:=h.merged;refine Classical.byContradiction fun hn=>?_
 have hl:(af R).length=(aB (merged R)).length:=leastN_len
 obtain⟨ond,olt,ole⟩:=dE hM.ins hM.n0
 have:=kd (M:=merged R) (t:=t) (by omega) (by omega)
 rw[this]at hn
 omega
theorem qW{R:aV}{m:Nat}(h:Rm R m):ah (db (af R) (places (af R) m))=List.range (af R).length:=by
 have hkl:(ah (db (af R) (places (af R) m))).length=(af R).length:=by
  rw[show ah (db (af R) (places (af R) m))=iter _ _ from rfl,bW,dH]
 have:=vL (l:=ah (db (af R) (places (af R) m))) (cH _ _) fun i j hi hj e=>uR h i j (by omega) (by omega) e
 rw[hkl]at this
 exact this
abbrev nV (k:Nat):V:=.int (k:Int)
structure eK (R:aV) (m:Nat):Prop where
 n0:1≤R.length
 n1:R.length≤60
 m1:m≤16
 row:∀ x∈R,x.length=m
 ins:dJ R
def NumAt(H:Hp)(p:Addr)(k v:Nat):Prop:=(∃ ks:List Nat,H p=some (.lst (ks.map nV))∧ks[k]? = some v)∨∃ kvs,H p=some (.dK kvs)∧aH kvs (.inl (k:Int))=some (nV v)
theorem NumAt.mono{H H':Hp}{p:Addr}{k v:Nat}(h:NumAt H p k v)(sm:Same H H'):NumAt H' p k v:=by
 rcases h with ⟨ks,h1,h2⟩ | ⟨kvs,h1,h2⟩
 ·exact .inl ⟨ks,sm _ _ h1,h2⟩
 ·exact .inr ⟨kvs,sm _ _ h1,h2⟩
def oH:Sp:=fun vs H Q _=>∃ (p b:Addr) (x:List (Option Nat)) (f:Nat→Nat),vs=[.ref p,.ref b]∧H b=some (.lst (x.map ar))∧x.length≤1000∧(∀ k,some k∈x→NumAt H p k (f k))∧
 ∀ (L:Addr) (H':Hp),Same H H'→H L=none→H' L=some (.lst ((x.map (Option.map f)).map ar))→Q (.ref L) H'
def rG:Sp:=fun vs H Q _=>∃ (p q:Addr) (R:aV) (m:Nat) (as:List Addr) (ks:List Nat),vs=[.ref p,.ref q]∧RoomsAs H p R as∧eK R m∧H q=some (.lst (ks.map nV))∧ks.length=R.length∧
 ∀ (L:Addr) (H':Hp),Same H H'→H L=none→H' L=some (.lst ((finer R ks).map nV))→Q (.ref L) H'
def rP:Sp:=fun vs H Q _=>∃ (p:Addr) (R:aV) (m:Nat) (as:List Addr) (mo:Nat),vs=[.ref p,nV mo]∧R.length≤mo∧RoomsAs H p R as∧eK R m∧
 ∀ (L:Addr) (H':Hp),Same H H'→H L=none→H' L=some (.lst ((ah R).map nV))→Q (.ref L) H'
section
variable{P:Program}{w:World}{K:PySem.W.Frag}{mg:Str→Option Value}{base:Heap}
theorem tF(D:DefAt K mg "ways_by" bY):Cal P w K mg base 1 "ways_by" ["numbers", "ways"] oH:=by
 refine D.cal ul (fun _ _ _ _ _ _ us hl=>match us,hl with | [_,_],_=>rfl) (fun vs H Q E h=>by obtain⟨p,b,x,f,rfl,_⟩:=h; rfl) (fun f cdv A outer s H vs Q E hr h=>?_)
 obtain⟨p,b,x,f,rfl,hb,hx,hn,q⟩:=h
 refine⟨_,(ak (aL (dC (CompSc.to (fsc:=(defScope bY)) (N:=["numbers", "ways"]) (N0:=["numbers", "ways"]) (T:=["way"]) ⟨by decide +kernel,by decide +kernel,by decide +kernel,by decide +kernel,by decide +kernel,by decide +kernel,by decide +kernel⟩ rfl rfl) rfl (cx K (pv 1)) (fun _ _ _ _=>(bc 2 (show (["numbers", "ways", "way"]:List Str).Nodup from by decide +kernel) (hx:=(fo (defScope bY) (by decide +kernel))) (hf:=iZ (defScope bY) (by decide +kernel)))) (b9 (show (["numbers", "ways"]:List Str).length≤2 from by decide)) (fun _ _ _ _=>cD) (fun _ _ _ _=>(oW (aT bU (pv 2 (hv:=(bV (defScope bY) (by decide +kernel)))) bv (aP _)) bv (aK (B3 K) (pv 0 (hv:=(bV (defScope bY) (by decide +kernel)))) (pv 2 (hv:=(bV (defScope bY) (by decide +kernel)))) (fun _ _=>rfl))))))),?_⟩
 walk_at "rd1";refine⟨⟨_,SqL.of hb⟩,fun L hL=>?_⟩
 refine cT (xs:=x.map ar) (fun i ys H'=>Same H H'∧H' L=some (.lst ys)∧ys=((x.take i).map (Option.map f)).map ar) ⟨al hL _,ae,rfl⟩ (fun i ys H' _ h=>SqL.of (h.1 _ _ hb)) ?_ ?_
 ·rintro i ys H' v hv hi ⟨sm,hl,rfl⟩
  rw[List.length_map]at hi
  rw[List.getElem?_map,List.getElem?_eq_getElem hi]at hv
  cases hv;have hz:(((x.take i).map (Option.map f)).map ar).length=i:=by simp; omega
  have fin:∀ z,z=ar ((x[i]).map f)→gF (x.map ar).length i (fun i ys H'=>Same H H'∧H' L=some (.lst ys)∧ys=((x.take i).map (Option.map f)).map ar) L (((x.take i).map (Option.map f)).map ar) z H':=fun z e=>by
   subst e;refine eJ (by rw[List.length_map]; exact hi) hz (by rw[List.length_map]; exact cg (by omega)) hl ⟨sm.upd hL _,ae,?_⟩
   rw[List.take_add_one,List.getElem?_eq_getElem hi,List.map_append,List.map_append]; rfl
  have hm:=List.getElem_mem hi
  cases hxi:x[i] with
  | none=>
   rw[hxi]at fin
   walk_at "rd1";refine bh (fun c=>?_) (fun c=>?_)
   ·exact fin _ rfl
   ·exact absurd rfl c
  | some k=>
   rw[hxi]at fin hm
   walk_at "rd1";refine bh (fun c=>?_) (fun c=>?_)
   ·cases c
   ·rcases(hn k hm).mono sm with ⟨ks,h1,h2⟩ | ⟨kvs,h1,h2⟩
    ·exact .inl ⟨_,_,.inl (SqL.of h1),aZ (by rw[List.getElem?_map,h2]; rfl),fin _ rfl⟩
    ·exact .inr ⟨p,kvs,.inl (k:Int),_,rfl,rfl,h1,h2,fin _ rfl⟩
 ·rintro ys H' ⟨sm,hl,rfl⟩
  rw[List.length_map,List.take_length]at hl
  exact q L H' sm hL hl
def dP(m:Nat × List (Option Nat)):dL:=((m.1:Int),m.2.map (Option.map fun n:Nat=>(n:Int)))
theorem ya{m m':Nat × List (Option Nat)}(h:dP m=dP m'):m=m':=by
 obtain⟨a,b⟩:=m
 obtain⟨c,d⟩:=m'
 unfold dP at h;have h1:(a:Int)=(c:Int):=congrArg (·.1) h
 have h2:b.map (Option.map fun n:Nat=>(n:Int))=d.map (Option.map fun n:Nat=>(n:Int)):=congrArg (·.2) h
 have h3:b=d:=by
  refine List.map_inj_right (f:=Option.map fun n:Nat=>(n:Int)) (fun x y e=>?_) |>.mp h2
  cases x <;> cases y <;> simp_all
  omega
 rw[h3,show a=c by omega]
def dj(k:Nat):List (Nat × List (Option Nat))→List (dL × V)
 | []=>[]
 | m::ms=>(dP m,nV k)::dj (k+1) ms
theorem jG:∀ (F:List (Nat × List (Option Nat))) (k:Nat),(dj k F).length=F.length
 | [],k=>rfl
 | m::F,k=>by show (dj (k+1) F).length+1=_; rw[jG F]; rfl
theorem kQ:∀ (F:List (Nat × List (Option Nat))) (k:Nat) (m:Nat × List (Option Nat)),dj k (F++[m])=dj k F++[(dP m,nV (k+F.length))]
 | [],k,m=>rfl
 | x::F,k,m=>by
  show (dP x,nV k)::dj (k+1) (F++[m])=_
  rw[kQ F,List.length_cons,show k+1+F.length=k+(F.length+1) by omega]; rfl
theorem gT:∀ (F:List (Nat × List (Option Nat))) (k:Nat) (m:Nat × List (Option Nat)),aH (dj k F) (dP m)=if m∈F then some (nV (k+i_ m F)) else none
 | [],k,m=>rfl
 | x::F,k,m=>by
  by_cases h:x=m
  ·subst h
   rw[if_pos List.mem_cons_self,xE];show aH ((dP x,nV k)::dj (k+1) F) (dP x)=_
   simp[aH]
  ·have hn:¬ dP x=dP m:=fun z=>h (ya z)
   have e:aH (dj k (x::F)) (dP m)=aH (dj (k+1) F) (dP m):=by
    show aH ((dP x,nV k)::dj (k+1) F) (dP m)=_
    simp[aH,hn]
   rw[e,gT F]
   by_cases hm:m∈F
   ·rw[if_pos hm,if_pos (List.mem_cons_of_mem _ hm),vK h,show k+1+i_ m F=k+(i_ m F+1) by omega]
   ·rw[if_neg hm,if_neg (by simp[Ne.symm h,hm])]
theorem zv(x:List (Option Nat)):x.map ar=(x.map (Option.map fun n:Nat=>(n:Int))).map cQ:=by
 rw[List.map_map];refine List.map_congr_left fun o _=>?_
 cases o <;> rfl
theorem DN.updL{H:Hp}{a fp:Addr}{kvs:List (dL × V)}{xs:List V}{o:HO}(h:DN P w H a kvs)(hf:H fp=some (.lst xs)):DN P w (upd H fp o) a kvs:=by
 obtain⟨ys,h1,h2,h3,h4⟩:=h
 have ht:∀ c zs,H c=some (.tup zs)→upd H fp o c=some (.tup zs):=fun c zs e=>by rw[ai (gS e hf (fun z=>nomatch z))]; exact e
 exact⟨ys,by rw[ai (gS h1 hf (fun z=>nomatch z))]; exact h1,h2,h3,Paired.imp' (fun p q z=>⟨z.1,z.2.1.mono ht,z.2.2⟩) h4⟩
theorem DN.keyUpd{H:Hp}{a b:Addr}{k:dL}{kvs:List (dL × V)}{u:HO}(h:DN P w H a kvs)(hk:KeyAt H k b):KeyAt (upd H a u) k b:=by
 obtain⟨ys,h1,_⟩:=h
 exact hk.mono fun c zs e=>by rw[ai (gS e h1 (fun z=>nomatch z))]; exact e
theorem xa(D:DefAt K mg "finer_kinds" aO) (z_enumerate:mg "enumerate" = none) (z_tuple:mg "tuple" = none) (z_len:mg "len" = none) (c_ways_by:Cal P w K mg base 1 "ways_by" ["numbers", "ways"] oH) :
  Cal P w K mg base 2 "finer_kinds" ["rooms", "kinds"] rG:=by
 refine D.cal sc_finer_kinds (fun _ _ _ _ _ _ us hl=>match us,hl with | [_,_],_=>rfl) (fun vs H Q E h=>by obtain⟨p,q,R,m,as,ks,rfl,_⟩:=h; rfl) (fun f cdv A outer s H vs Q E hr h=>?_)
 obtain⟨p,q,R,m,as,ks,rfl,hR,ok,hq,hlk,qq⟩:=h
 obtain⟨h1,h2,h3⟩:=hR
 have n1:=ok.n1
 refine⟨_,(ac (ax 2 sc_finer_kinds.nd wC)
   (ac (ax 3 sc_finer_kinds.nd (cJ ab))
   (ac (cS PassesOwn.never rfl (gk K Gu z_enumerate (aa (pv 0) ab)) (gs K (n:=2) (bP (bc 4 sc_finer_kinds.nd) (bP (bc 5 sc_finer_kinds.nd) fk))) (ac (ax 6 sc_finer_kinds.nd (dG (aa (aK (bd K) (pv 1) (pv 4) (fun _ _=>rfl)) (aa (fA (vG K) z_tuple wQ (aa (aq c_ways_by hr (aa (pv 1) (aa (pv 5) ab))) ab)) ab))))
   (ac (bN (aT (we hr) (pv 6) (pv 2) (by with_unfolding_all rfl)) (ak (dw (bZ uQ z_len cR (aa (pv 2) ab)) (dQ (pv 2) (pv 6) (Cv hr)))) bt)
   (ak (cN (dh K PySem.F.plainAttrs_list PySem.F.slot_list_append PySem.F.type_list_append b6 (pv 3) (aa (aK (EG hr) (pv 2) (pv 6) (fun _ _=>rfl)) ab)))))))
   (ak (aL (pv 3)))))),?_⟩
 walk_at "rd1";refine fun sp hsp u hdn=>?_
 generalize hH1:upd H sp u=H1 at hdn ⊢;have sm1:=ef hH1 hsp;walk_at "nx";refine⟨by decide,fun fp hfp=>?_⟩
 have hdn2:=hdn.mono (al hfp (.lst []));generalize hH2:upd H1 fp _=H2 at hdn2 ⊢;have sm2:=ef hH2 hfp;have e2:=jb hH2;have hsp2:∃ o,H2 sp=some o:=by obtain⟨ys,z,_⟩:=hdn2; exact⟨_,z⟩
 walk_at "nx";refine⟨⟨_,(sm1.trans sm2) _ _ h1⟩,?_⟩
 refine gJ (xs:=as.map V.ref) (fun i σ H'=>∃ o4 o5 o6:Option V,σ=[some (.ref p),some (.ref q),some (.ref sp),some (.ref fp),o4,o5,o6]∧Same H H'∧DN P w H' sp (dj 0 (am [] ((cI R ks).take i)))∧H' fp=some (.lst (((finer R ks).take i).map nV)))
  ⟨none,none,none,rfl,sm1.trans sm2,hdn2,e2⟩ (fun i σ H' _ h=>by obtain⟨_,_,_,_,sm,_⟩:=h; exact SqL.of (sm _ _ h1)) ?_ ?_
 ·rintro i v t σ H' hv ⟨o4,o5,o6,rfl,sm,hdn,hf⟩ ht
  have hia:i<as.length:=by have:=(List.getElem?_eq_some_iff.mp hv).1; simpa using this
  have hi:i<R.length:=by omega
  rw[List.getElem?_map,List.getElem?_eq_getElem hia]at hv
  cases hv;have hrow:=h3 i _ _ (List.getElem?_eq_getElem hia) (List.getElem?_eq_getElem hi);have hkd:ks[i]? = some (ks.getD i 0):=by rw[List.getD_eq_getElem?_getD,List.getElem?_eq_getElem (by omega)]; rfl
  have hms:(cI R ks)[i]? = some (mark R ks i):=iX hi
  have hdt:=hdn.mono (al ht (.tup [nV i,.ref as[i]]));have ett:upd H' t (.tup [nV i,.ref as[i]]) t=some (.tup [nV i,.ref as[i]]):=ae
  have smt:=sm.trans (al ht (.tup [nV i,.ref as[i]]));have hft:=(al ht (.tup [nV i,.ref as[i]])) _ _ hf;generalize upd H' t (.tup [nV i,.ref as[i]])=Ht at hdt ett smt hft ⊢;walk_at "rd1";refine⟨t,_,rfl,SqT.of ett,rfl,?_⟩
  walk_at "rd1";refine⟨_,_,.inl (SqL.of (smt _ _ hq)),aZ (by rw[List.getElem?_map,hkd]; rfl),?_⟩
  refine⟨q,as[i],R[i],fun k=>ks.getD k 0,rfl,smt _ _ hrow,by rw[ok.row _ (List.getElem_mem hi)]; have:=ok.m1; omega,fun k hk=>.inl ⟨ks,smt _ _ hq,?_⟩,fun L H3 sm3 hL hl3=>?_⟩
  ·have:=ok.ins _ (List.getElem_mem hi) k hk
   show ks[k]? = some (ks.getD k 0)
   rw[List.getD_eq_getElem?_getD,List.getElem?_eq_getElem (by omega)]; rfl
  walk_at "rd1";refine⟨_,.inl ⟨SqL.of hl3,fun tp htp=>?_⟩⟩
  generalize hH4:upd H3 tp _=H4
  have sm4:=ef hH4 htp;have e4:=jb hH4;refine⟨by decide,fun mp hmp=>?_⟩
  generalize hH5:upd H4 mp _=H5
  have sm5:=ef hH5 hmp;have e5:=jb hH5;have smx:Same Ht H5:=(sm3.trans sm4).trans sm5
  have hke:KeyAt H5 (dP (mark R ks i)) mp:=by
   refine⟨tp,e5,?_⟩
   have e6:=sm5 _ _ e4;rw[e6,zv];show some (HO.tup _)=some (HO.tup (((R.getD i []).map (Option.map fun k=>ks.getD k 0)).map (Option.map fun n:Nat=>(n:Int)) |>.map cQ))
   rw[List.getD_eq_getElem?_getD,List.getElem?_eq_getElem hi]; rfl
  have hd5:=hdt.mono smx;have hf5:=smx _ _ hft;have sm05:=smt.trans smx;have hspn:H fp=none:=sm1.free hfp
  have htk:(cI R ks).take (i+1)=(cI R ks).take i++[mark R ks i]:=by rw[List.take_add_one,hms]; rfl
  have hFl:(am [] ((cI R ks).take i)).length≤60:=by
   have:=dy ((cI R ks).take i) []
   rw[List.length_take,ny]at this
   simp at this; omega
  refine ww (fun σ' H'=>∃ (b:V),σ'=[some (.ref p),some (.ref q),some (.ref sp),some (.ref fp),some (nV i),some (.ref as[i]),some (.ref mp)]∧Same H H'∧KeyAt H' (dP (mark R ks i)) mp∧DN P w H' sp (dj 0 (am [] ((cI R ks).take (i+1))))∧H' fp=some (.lst (((finer R ks).take i).map nV))) (fun kk hkk=>?_) ?_
  ·walk_at "rd1"
   refine⟨mp,sp,_,_,rfl,rfl,hd5,hke,?_⟩
   rw[gT]
   by_cases hm:mark R ks i∈am [] ((cI R ks).take i)
   ·rw[if_pos hm]
    walk_at "rd1";refine hkk _ _ ⟨.non,rfl,sm05,hke,?_,hf5⟩
    rw[htk,cZ,if_pos hm]; exact hd5
   ·rw[if_neg hm]
    walk_at "rd1";refine⟨sp,_,rfl,hd5,sp,mp,_,_,rfl,rfl,hd5,hke,by rw[gT,if_neg hm],by rw[jG]; exact ce (by omega),fun u' hdu=>?_⟩
    refine hkk _ _ ⟨.non,rfl,sm05.upd hsp _,DN.keyUpd hd5 hke,?_,?_⟩
    ·rw[htk,cZ,if_neg hm,kQ,Nat.zero_add]
     rw[jG]at hdu
     exact hdu
    ·obtain⟨ys,z,_⟩:=hd5
     rw[ai (gS hf5 z (fun z=>nomatch z))]; exact hf5
  rintro σ' H6 ⟨_,rfl,sm6,hk6,hd6,hf6⟩
  walk_at "nx";have hm6:mark R ks i∈am [] ((cI R ks).take (i+1)):=(bG _ _ _).mpr (.inr (by rw[htk]; simp))
  refine⟨⟨_,SqL.of hf6⟩,sp,mp,_,_,_,rfl,rfl,hd6,hk6,by rw[gT,if_pos hm6],?_⟩
  walk_at "rd1";refine⟨_,hf6,by rw[List.length_map,List.length_take,eQ]; exact ce (by omega),_,_,_,rfl,sm6.upd hspn _,DN.updL hd6 hf6,?_⟩
  rw[ae,List.take_add_one (l:=finer R ks)];have e:(finer R ks)[i]? = some (i_ (mark R ks i) (am [] ((cI R ks).take (i+1)))):=lg hms
  rw[e,Nat.zero_add,List.map_append]; rfl
 ·rintro σ H' ⟨o4,o5,o6,rfl,sm,hdn,hf⟩
  walk_at "nx";rw[List.length_map,List.take_of_length_le (by rw[eQ]; omega)]at hf
  exact qq fp H' sm (sm1.free hfp) hf
theorem mQ(ks:List Nat):ks.map nV=(ks.map fun k:Nat=>(k:Int)).map V.int:=by rw[List.map_map]; rfl
theorem ints_inj{a b:List Nat}:(a.map fun k:Nat=>(k:Int))=(b.map fun k:Nat=>(k:Int)) ↔ a=b:=by
 refine List.map_inj_right (fun x y e=>?_)
 omega
theorem xm{R:aV}{ks:List Nat}(h:ks.length=R.length){y:Nat}(hy:y∈finer R ks):y<R.length:=by
 obtain⟨i,hi,e⟩:=List.mem_iff_getElem.mp hy
 have hiR:i<R.length:=by rw[eQ]at hi; exact hi
 have e2:(finer R ks)[i]? = some (i_ (mark R ks i) (am [] ((cI R ks).take (i+1)))):=lg (iX hiR)
 rw[List.getElem?_eq_getElem hi,e]at e2
 have e3:=Option.some.inj e2;have hm:mark R ks i∈am [] ((cI R ks).take (i+1)):=(bG _ _ _).mpr (.inr (by rw[List.take_add_one,iX hiR]; simp))
 have h1:i_ (mark R ks i) (am [] ((cI R ks).take (i+1)))<(am [] ((cI R ks).take (i+1))).length:=Bf hm
 have h2:=dy ((cI R ks).take (i+1)) [];rw[List.length_take,ny]at h2
 simp at h2
 omega
theorem xF(D:DefAt K mg "kinds_upto" bf) (z_max:mg "max" = none) (c_finer_kinds:Cal P w K mg base 2 "finer_kinds" ["rooms", "kinds"] rG):Cal P w K mg base 3 "kinds_upto" ["rooms", "most"] rP:=by
 refine D.cal sc_kinds_upto (fun _ _ _ _ _ _ us hl=>match us,hl with | [_,_],_=>rfl) (fun vs H Q E h=>by obtain⟨p,R,m,as,mo,rfl,_⟩:=h; rfl) (fun f cdv A outer s H vs Q E hr h=>?_)
 obtain⟨p,R,m,as,mo,rfl,hmo,hR,ok,q⟩:=h
 have n1:=ok.n1;have h2:=hR.2.1
 refine⟨_,(ac (jC (CompSc.to (fsc:=(defScope bf)) (N:=["rooms", "most", "kinds", "finer"]) (N0:=["rooms", "most", "kinds", "finer"]) (T:=["room"]) ⟨by decide +kernel,by decide +kernel,by decide +kernel,by decide +kernel,by decide +kernel,by decide +kernel,by decide +kernel⟩ rfl rfl) rfl sc_kinds_upto.nd (i:=2) rfl Gg (cx K (pv 0)) (fun _ _ _ _=>(bc 4 (show (["rooms", "most", "kinds", "finer", "room"]:List Str).Nodup from by decide +kernel) (hx:=(fo (defScope bf) (by decide +kernel))) (hf:=iZ (defScope bf) (by decide +kernel)))) (b9 (show (["rooms", "most", "kinds", "finer"]:List Str).length≤4 from by decide)) (fun _ _ _ _=>cD) (fun _ _ _ _=>aj))
   (ac (ax 3 sc_kinds_upto.nd (aq c_finer_kinds hr (aa (pv 0) (aa (pv 2) ab))))
   (ac (iU PassesOwn.never (aT (dW K hr) (pv 3) (pv 2) (aP _)) (ac (bN (aT Cf (bZ (wq K) z_max Ao (aa (pv 3) ab)) (pv 1) (aP _)) (ak (aL bv)) bt)
   (ac (ax 2 sc_kinds_upto.nd (pv 3))
   (ak (ax 3 sc_kinds_upto.nd (aq c_finer_kinds hr (aa (pv 0) (aa (pv 2) ab))))))))
   (ak (aL (pv 2)))))),?_⟩
 walk_at "rd1";refine⟨⟨_,SqL.of hR.1⟩,fun L hL=>?_⟩
 refine cT (xs:=as.map V.ref) (fun i ys H'=>Same H H'∧H' L=some (.lst ys)∧ys=(List.replicate i 0).map nV) ⟨al hL _,ae,rfl⟩ (fun i ys H' _ h=>SqL.of (h.1 _ _ hR.1)) ?_ ?_
 ·rintro i ys H' v hv hi ⟨sm,hl,rfl⟩
  rw[List.length_map]at hi
  walk_at "rd1";refine eJ (by rw[List.length_map]; exact hi) (by simp) (by rw[List.length_map]; exact cg (by omega)) hl ⟨sm.upd hL _,ae,?_⟩
  rw[List.replicate_succ',List.map_append]; rfl
 rintro ys H1 ⟨sm1,hl1,rfl⟩
 rw[List.length_map,h2]at hl1
 have hl1':H1 L=some (.lst ((iter R 0).map nV)):=by
  show _=some (HO.lst ((R.map fun _=>0).map nV))
  rw[List.map_const']; exact hl1
 walk_at "nx";refine⟨p,L,R,m,as,iter R 0,rfl,hR.mono sm1,ok,hl1',bW R 0,fun L2 H2 sm2 hL2 hl2=>?_⟩
 walk_at "nx"
 refine⟨fun mm σ H'=>∃ (t:Nat) (a b:Addr),mm=dg R.length (iter R t)∧mm+t≤R.length * R.length∧σ=[some (.ref p),some (nV mo),some (.ref a),some (.ref b)]∧Same H H'∧H a=none∧H' a=some (.lst ((iter R t).map nV))∧H' b=some (.lst ((iter R (t+1)).map nV))∧H b=none,
  ⟨_,0,L,L2,rfl,by have:=pH R.length (iter R 0); omega,rfl,sm1.trans sm2,hL,sm2 _ _ hl1',hl2,sm1.free hL2⟩,?_⟩
 rintro mm σ H' ⟨t,a,b,rfl,hmm,rfl,sm,ha,hla,hlb,hb⟩
 walk_at "rd1";rw[mQ]at hla hlb
 refine⟨0,_,by decide,EqN.ints (SqL.of hlb) (SqL.of hla),?_⟩
 walk_at "rd1"
 by_cases he:iter R (t+1)=iter R t
 ·rw[decide_eq_true (ints_inj.mpr he)]
  walk_at "rd1";walk_at "nx";rw[← mQ,j8 he (by omega)]at hla
  exact q a H' sm ha hla
 ·rw[decide_eq_false (fun z=>he (ints_inj.mp z))]
  walk_at "rd1";refine⟨fun σ' H'=>∃ mm,mm<dg R.length (iter R t)∧∃ (t':Nat) (a b:Addr),mm=dg R.length (iter R t')∧mm+t'≤R.length * R.length∧σ'=[some (.ref p),some (nV mo),some (.ref a),some (.ref b)]∧Same H H'∧H a=none∧H' a=some (.lst ((iter R t').map nV))∧H' b=some (.lst ((iter R (t'+1)).map nV))∧H b=none,fun _ _ h=>h,?_⟩
  have hne:(iter R (t+1)).map (fun k:Nat=>(k:Int))≠[]:=by
   have h0:=bW R (t+1);have h1:=ok.n0;intro z
   have:=congrArg List.length z
   rw[List.length_map,List.length_nil]at this
   omega
  refine⟨_,SqL.of hlb,hne,fun M hM _=>?_⟩
  have hMlt:M<(R.length:Int):=by
   obtain⟨y,hy,rfl⟩:=List.mem_map.mp hM
   have:=xm (R:=R) (ks:=iter R t) (bW R t) hy
   omega
  walk_at "rd1";refine bh (fun c=>?_) (fun c=>?_)
  ·exfalso; have c':M≥(mo:Int):=by simpa using c
   omega
  walk_at "nx";walk_at "nx";rw[← mQ]at hla hlb
  refine⟨p,b,R,m,as,iter R (t+1),rfl,hR.mono sm,ok,hlb,bW R _,fun L3 H3 sm3 hL3 hl3=>?_⟩
  have hlt:=lF (R:=R) (bW R t) (cH R t) he;exact⟨_,hlt,t+1,b,L3,rfl,(by show dg R.length (finer R (iter R t))+(t+1)≤_; omega),rfl,sm.trans sm3,hb,sm3 _ _ hlb,hl3,sm.free hL3⟩
structure NR (H H':Hp) (mp:Addr) (rs:aV) (as:List Addr):Prop where
 at':RoomsAs H' mp rs as
 new:∀ a∈as,H a=none∧a≠mp
 nd:as.Nodup
theorem NR.held{H H':Hp}{mp:Addr}{rs:aV}{as:List Addr}(h:NR H H' mp rs as){a:Addr}(ha:a∈as):∃ o,H' a=some o:=by
 obtain⟨i,hi,e⟩:=List.mem_iff_getElem.mp ha
 have hl:=h.at'.2.1;exact⟨_,h.at'.2.2 i a _ (by rw[← e]; exact List.getElem?_eq_getElem hi) (List.getElem?_eq_getElem (by omega))⟩
theorem NR.mono{H H' H2:Hp}{mp:Addr}{rs:aV}{as:List Addr}(h:NR H H' mp rs as)(sm:Same H' H2):NR H H2 mp rs as:=⟨h.at'.mono sm,h.new,h.nd⟩
theorem NR.push{H H':Hp}{mp L:Addr}{rs:aV}{as:List Addr}{x:List (Option Nat)}{H0:Hp}(h:NR H H0 mp rs as)(sm:Same H0 H')(smH:Same H H0)(hL0:H0 L=none)(hL:H' L=some (.lst (x.map ar))) :
  NR H (upd H' mp (.lst (as.map V.ref++[.ref L]))) mp (rs++[x]) (as++[L]):=by
 obtain⟨h1,h2,h3⟩:=h.at'
 have nL:L≠mp:=Ne.symm (aA h1 hL0)
 refine⟨⟨by rw[ae,List.map_append]; rfl,by simp[h2],fun i a y e1 e2=>?_⟩,fun a ha=>?_,?_⟩
 ·rcases Nat.lt_or_ge i as.length with z | z
  ·rw[List.getElem?_append_left z]at e1
   rw[List.getElem?_append_left (by omega)]at e2
   have hn:=(h.new a (List.mem_of_getElem? e1)).2;rw[ai hn]; exact sm _ _ (h3 i a y e1 e2)
  ·rw[List.getElem?_append_right z]at e1
   rw[List.getElem?_append_right (by omega)]at e2
   have hj0:i - as.length=0:=by
    have:=(List.getElem?_eq_some_iff.mp e1).1
    simp at this; omega
   rw[hj0]at e1
   rw[show i - rs.length=0 by omega]at e2
   have e1':L=a:=by simpa using e1
   have e2':x=y:=by simpa using e2
   subst e1' e2';rw[ai nL]; exact hL
 ·rcases List.mem_append.mp ha with z | z
  ·exact h.new a z
  ·rw[List.mem_singleton.mp z]; exact⟨smH.free hL0,nL⟩
 ·rw[List.nodup_append]
  refine⟨h.nd,by simp,fun a ha b hb e=>?_⟩
  rw[List.mem_singleton.mp hb]at e
  subst e;obtain⟨o,z⟩:=h.held ha
  rw[hL0]at z; cases z
def yF(g:aV→aV):Sp:=fun vs H Q _=>∃ (p:Addr) (R:aV) (m:Nat) (as:List Addr),vs=[.ref p]∧RoomsAs H p R as∧eK R m∧∀ (L:Addr) (H':Hp) (bs:List Addr),Same H H'→H L=none→NR H H' L (g R) bs→Q (.ref L) H'
def pC:Sp:=fun vs H Q _=>∃ (p kp:Addr) (R:aV) (m:Nat) (as:List Addr),vs=[.ref p,.ref kp]∧RoomsAs H p R as∧eK R m∧H kp=some (.lst ((ah R).map nV))∧∀ (L:Addr) (H':Hp) (bs:List Addr),Same H H'→H L=none→NR H H' L (merged R) bs→Q (.ref L) H'
theorem uD(D:DefAt K mg "merged_rooms" a_) (z_enumerate:mg "enumerate" = none) (z_len:mg "len" = none) (c_ways_by:Cal P w K mg base 1 "ways_by" ["numbers", "ways"] oH) :
  Cal P w K mg base 4 "merged_rooms" ["rooms", "kinds"] pC:=by
 refine D.cal sc_merged_rooms (fun _ _ _ _ _ _ us hl=>match us,hl with | [_,_],_=>rfl) (fun vs H Q E h=>by obtain⟨p,kp,R,m,as,rfl,_⟩:=h; rfl) (fun f cdv A outer s H vs Q E hr h=>?_)
 obtain⟨p,kp,R,m,as,rfl,hR,ok,hk1,q⟩:=h
 obtain⟨h1,h2,h3⟩:=hR
 have n1:=ok.n1;have hlk:(ah R).length=R.length:=bW R _
 have hcn:du (ah R):=cH R _
 refine⟨_,(ac (ax 2 sc_merged_rooms.nd (cJ ab))
   (ac (cS PassesOwn.never rfl (gk K Gq z_enumerate (aa (pv 0) ab)) (gs K (n:=2) (bP (bc 3 sc_merged_rooms.nd) (bP (bc 4 sc_merged_rooms.nd) fk))) (ak (bN (aT jw (aK (bd K) (pv 1) (pv 3) (fun _ _=>rfl)) (bZ (bO K) z_len cR (aa (pv 2) ab)) (aP _)) (ak (cN (dh K PySem.F.plainAttrs_list PySem.F.slot_list_append PySem.F.type_list_append b6 (pv 2) (aa (aq c_ways_by hr (aa (pv 1) (aa (pv 4) ab))) ab)))) bt)))
   (ak (aL (pv 2))))),?_⟩
 walk_at "rd1";refine⟨by decide,fun mp hmp=>?_⟩
 generalize hH2:upd H mp _=H2
 have sm2:=ef hH2 hmp;have e2:=jb hH2;have hmpH:H mp=none:=hmp
 walk_at "nx";refine⟨⟨_,sm2 _ _ h1⟩,?_⟩
 refine gJ (xs:=as.map V.ref) (fun i σ H'=>∃ (o3 o4:Option V) (bs:List Addr),σ=[some (.ref p),some (.ref kp),some (.ref mp),o3,o4]∧Same H H'∧H' kp=some (.lst ((ah R).map nV))∧NR H H' mp (bL R (ah R) i) bs)
  ⟨none,none,[],rfl,sm2,sm2 _ _ hk1,⟨e2,rfl,by simp⟩,by simp,List.nodup_nil⟩ (fun i σ H' _ h=>by obtain⟨_,_,_,_,sm,_⟩:=h; exact SqL.of (sm _ _ h1)) ?_ ?_
 ·rintro i v t σ H' hv ⟨o3,o4,bs,rfl,sm,hk,hN⟩ ht
  have hia:i<as.length:=by have:=(List.getElem?_eq_some_iff.mp hv).1; simpa using this
  have hi:i<R.length:=by omega
  rw[List.getElem?_map,List.getElem?_eq_getElem hia]at hv
  cases hv;have hrow:=h3 i _ _ (List.getElem?_eq_getElem hia) (List.getElem?_eq_getElem hi);have hkd:(ah R)[i]? = some ((ah R).getD i 0):=by rw[List.getD_eq_getElem?_getD,List.getElem?_eq_getElem (by omega)]; rfl
  have st:=al ht (.tup [nV i,.ref as[i]]);have ett:upd H' t (.tup [nV i,.ref as[i]]) t=some (.tup [nV i,.ref as[i]]):=ae
  have smt:=sm.trans st;have hkt:=st _ _ hk;have hNt:=hN.mono st;generalize upd H' t (.tup [nV i,.ref as[i]])=Ht at st ett smt hkt hNt ⊢;have hml:bs.length=(bL R (ah R) i).length:=hNt.at'.2.1
  have hms:=qO hcn hlk hi
  have hbl:(bL R (ah R) i).length≤60:=by
   show ((List.range _).map _).length≤60
   rw[List.length_map,List.length_range];have:=dy ((ah R).take i) []
   rw[List.length_take]at this
   simp at this; omega
  walk_at "rd1";refine⟨t,_,rfl,SqT.of ett,rfl,?_⟩
  walk_at "rd1";refine⟨_,_,.inl (SqL.of hkt),aZ (by rw[List.getElem?_map,hkd]; rfl),⟨_,.inl (SqL.of hNt.at'.1),?_⟩⟩
  rw[List.length_map,hml];walk_at "rd1";refine bh (fun c=>?_) (fun c=>?_)
  ·rw[if_pos (by omega)]at hms
   refine⟨⟨_,SqL.of hNt.at'.1⟩,kp,as[i],R[i],fun k=>(ah R).getD k 0,rfl,smt _ _ hrow,by rw[ok.row _ (List.getElem_mem hi)]; have:=ok.m1; omega,fun k hk'=>.inl ⟨_,hkt,?_⟩,fun L H3 sm3 hL hl3=>?_⟩
   ·have:=ok.ins _ (List.getElem_mem hi) k hk'
    show (ah R)[k]? = some ((ah R).getD k 0)
    rw[List.getD_eq_getElem?_getD,List.getElem?_eq_getElem (by omega)]; rfl
   walk_at "rd1";refine⟨_,sm3 _ _ hNt.at'.1,by rw[List.length_map]; exact ce (by omega),_,_,bs++[L],rfl,(smt.trans sm3).upd hmpH _,?_,?_⟩
   ·rw[ai (fun z=>?_)]
    ·exact sm3 _ _ hkt
    ·subst z
     rw[hk1]at hmp; cases hmp
   ·rw[hms]
    have e:R.getD i []=R[i]:=by rw[List.getD_eq_getElem?_getD,List.getElem?_eq_getElem hi]; rfl
    rw[e];exact hNt.push sm3 smt hL hl3
  ·rw[if_neg (by omega)]at hms
   exact⟨_,_,bs,rfl,smt,hkt,by rw[hms]; exact hNt⟩
 ·rintro σ H' ⟨o3,o4,bs,rfl,sm,hk,hN⟩
  walk_at "nx";rw[List.length_map,h2]at hN
  exact q mp H' bs sm hmpH hN
def dX(o:List Nat):List (bp × V):=o.map fun k:Nat=>(Sum.inl (k:Int),V.bl true)
theorem nC(k:Nat):∀ (o:List Nat),(aH (dX o) (.inl (k:Int))).isSome=decide (k∈o)
 | []=>rfl
 | x::o=>by
  have ih:=nC k o;show (aH ((Sum.inl (x:Int),V.bl true)::dX o) (.inl (k:Int))).isSome=_
  by_cases h:x=k
  ·subst h; simp[aH]
  ·have hn:¬ ((Sum.inl (x:Int):bp)=Sum.inl (k:Int)):=fun z=>h (by have:=Sum.inl.inj z; omega)
   have e:aH ((Sum.inl (x:Int),V.bl true)::dX o) (.inl (k:Int))=aH (dX o) (.inl (k:Int)):=by simp[aH,hn]
   rw[e,ih];simp[Ne.symm h]
theorem vv{k:Nat}{o:List Nat}(h:k∉o):cL (dX o) (.inl (k:Int)) (.bl true)=dX (o++[k]):=by
 unfold cL
 have hn:((dX o).any fun kv=>decide (kv.1=(Sum.inl (k:Int):bp)))=false:=by
  rw[List.any_eq_false];intro x hx
  obtain⟨y,hy,rfl⟩:=List.mem_map.mp hx
  have:y≠k:=fun e=>h (e ▸ hy)
  simp; omega
 rw[if_neg (by rw[hn]; exact Bool.false_ne_true)]
 unfold dX;rw[List.map_append]; rfl
def rQ:Sp:=fun vs H Q _=>∃ (p:Addr) (R:aV) (m:Nat) (as:List Addr),vs=[.ref p]∧RoomsAs H p R as∧eK R m∧∀ (L:Addr) (H':Hp),Same H H'→H L=none→H' L=some (.lst ((aB R).map nV))→Q (.ref L) H'
theorem A5(D:DefAt K mg "rooms_led_to" aW) (z_len:mg "len" = none):Cal P w K mg base 1 "rooms_led_to" ["rooms"] rQ:=by
 refine D.cal sc_rooms_led_to (fun _ _ _ _ _ _ us hl=>match us,hl with | [_],_=>rfl) (fun vs H Q E h=>by obtain⟨p,R,m,as,rfl,_⟩:=h; rfl) (fun f cdv A outer s H vs Q E hr h=>?_)
 obtain⟨p,R,m,as,rfl,hR,ok,q⟩:=h
 obtain⟨h1,h2,h3⟩:=hR
 have n1:=ok.n1
 refine⟨_,(ac (ax 1 sc_rooms_led_to.nd (cJ (aa aj ab)))
   (ac (ax 2 sc_rooms_led_to.nd (ze (xN aj dr zf) rfl rfl (by decide) (by decide)))
   (ac (ax 3 sc_rooms_led_to.nd aj)
   (ac (iU PassesOwn.never (aT mN (pv 3) (bZ (bO K) z_len cR (aa (pv 1) ab)) (aP _)) (ac (ax 4 sc_rooms_led_to.nd (aK (bd K) (pv 1) (pv 3) (fun _ _=>rfl)))
   (ac (cS PassesOwn.never rfl (cx K (aK (bd K) (pv 0) (pv 4) (fun _ _=>rfl))) (bc 5 sc_rooms_led_to.nd) (ak (bN (PW.pt' (uB (aT qm (pv 5) bv (aP _)) (rW (aT (vn hr) (pv 5) (pv 2) (by with_unfolding_all rfl))))) (ac (dw dr (dQ (pv 2) (pv 5) (sX hr)))
   (ak (cN (dh K PySem.F.plainAttrs_list PySem.F.slot_list_append PySem.F.type_list_append b6 (pv 1) (aa (pv 5) ab))))) bt)))
   (ak (ax 3 sc_rooms_led_to.nd (bb bK (pv 3) aj))))))
   (ak (aL (pv 1))))))),?_⟩
 walk_at "rd1";refine⟨by decide,fun op hop=>?_⟩
 generalize hH1:upd H op _=H1
 have sm1:=ef hH1 hop;have e1:=jb hH1;walk_at "nx";refine fun dp hdp=>⟨ae,[(.inl 0,.bl true)],rfl,by decide,?_⟩
 rw[zS];generalize hH2:upd H1 dp _=H2
 have sm2:=ef hH2 hdp;have e2:H2 dp=some (.dK (dX [0])):=jb hH2
 have hdpH:H dp=none:=sm1.free hdp
 walk_at "nx";walk_at "nx"
 refine⟨fun mm σ H'=>∃ (t:Nat) (o4 o5:Option V),mm=R.length - t∧t≤(aE R t).length∧σ=[some (.ref p),some (.ref op),some (.ref dp),some (.int (t:Int)),o4,o5]∧Same H H'∧H' op=some (.lst ((aE R t).map nV))∧H' dp=some (.dK (dX (aE R t))),
  ⟨_,0,none,none,rfl,Nat.zero_le _,rfl,sm1.trans sm2,sm2 _ _ e1,e2⟩,?_⟩
 rintro mm σ H' ⟨t,o4,o5,rfl,htl,rfl,sm,ho,hd⟩
 have hbl:=kG ok.ins ok.n0 t;have hbf:=(dq ok.ins ok.n0 t).2;walk_at "rd1";refine⟨_,.inl (SqL.of ho),?_⟩
 rw[List.length_map];refine bh (fun c=>?_) (fun c=>?_)
 ·have ht:t<(aE R t).length:=by simpa using c
  refine⟨fun σ' H'=>∃ mm,mm<R.length - t∧∃ (t':Nat) (o4 o5:Option V),mm=R.length - t'∧t'≤(aE R t').length∧σ'=[some (.ref p),some (.ref op),some (.ref dp),some (.int (t':Int)),o4,o5]∧Same H H'∧H' op=some (.lst ((aE R t').map nV))∧H' dp=some (.dK (dX (aE R t'))),fun _ _ h=>h,?_⟩
  walk_at "rd1";refine⟨_,_,.inl (SqL.of ho),aZ (by rw[List.getElem?_map,List.getElem?_eq_getElem ht]; rfl),?_⟩
  have hr':(aE R t)[t]<R.length:=hbf _ (List.getElem_mem ht)
  have hbt:(aE R t)[t]? = some (aE R t)[t]:=List.getElem?_eq_getElem ht
  have hb1:aE R (t+1)=aJ (aE R t) (R.getD (aE R t)[t] []):=by
   show (match (aE R t)[t]? with | some r=>aJ (aE R t) (R.getD r []) | none=>aE R t)=_
   rw[hbt]
  generalize (aE R t)[t]=r at hr' hbt hb1 ⊢;have hra:r<as.length:=by omega
  have hrow:=h3 r _ _ (List.getElem?_eq_getElem hra) (List.getElem?_eq_getElem hr');have hgd:R.getD r []=R[r]:=by rw[List.getD_eq_getElem?_getD,List.getElem?_eq_getElem hr']; rfl
  rw[hgd]at hb1
  have hrm:=ok.row _ (List.getElem_mem hr');have hm1:=ok.m1;walk_at "nx";refine⟨_,_,.inl (SqL.of (sm _ _ h1)),aZ (by rw[List.getElem?_map,List.getElem?_eq_getElem hra]; rfl),?_⟩
  walk_at "rd1";refine⟨⟨_,SqL.of (sm _ _ hrow)⟩,?_⟩
  refine ke (xs:=(R[r]).map ar) (fun j σ H'=>∃ o5,σ=[some (.ref p),some (.ref op),some (.ref dp),some (.int (t:Int)),some (nV r),o5]∧Same H H'∧H' op=some (.lst ((aJ (aE R t) ((R[r]).take j)).map nV))∧H' dp=some (.dK (dX (aJ (aE R t) ((R[r]).take j)))))
   ⟨o5,rfl,sm,ho,hd⟩ (fun j σ H' _ h=>by obtain⟨_,_,sm,_⟩:=h; exact SqL.of (sm _ _ hrow)) ?_ ?_
  ·rintro j v σ H' hv ⟨o5,rfl,sm,ho,hd⟩
   have hj:j<(R[r]).length:=by have:=(List.getElem?_eq_some_iff.mp hv).1; simpa using this
   rw[List.getElem?_map,List.getElem?_eq_getElem hj]at hv
   cases hv;have htk:(R[r]).take (j+1)=(R[r]).take j++[(R[r])[j]]:=by rw[List.take_add_one,List.getElem?_eq_getElem hj]; rfl
   have hes:=jg ((R[r]).take j) (aE R t) (R[r])[j];rw[← htk]at hes
   have hxm:=List.getElem_mem hj;generalize (R[r])[j]=xo at hes hxm ⊢
   have hel:(aJ (aE R t) ((R[r]).take j)).length≤R.length:=by
    refine fJ _ _ (fz _ _ (dq ok.ins ok.n0 t).1) fun y hy=>?_
    rcases(eh _ _ _).mp hy with z | z
    ·exact hbf y z
    ·exact ok.ins _ (List.getElem_mem hr') y (List.mem_of_mem_take z)
   have hop':op≠dp:=by
    rintro rfl
    rw[e1]at hdp; cases hdp
   cases xo with
   | none=>
    walk_at "rd1";refine bh (fun c=>?_) (fun c=>?_)
    ·exact absurd c (by decide)
    ·exact⟨_,rfl,sm,by rw[hes]; exact ho,by rw[hes]; exact hd⟩
   | some k=>
    rw[show ar (some k)=V.int (k:Int) from rfl];walk_at "rd1";refine bh (fun c=>?_) (fun c=>?_)
    ·refine⟨dp,_,.inl (k:Int),rfl,rfl,hd,?_⟩
     rw[nC]
     by_cases hm:k∈aJ (aE R t) ((R[r]).take j)
     ·rw[decide_eq_true hm]
      walk_at "rd1";simp only[if_pos hm]at hes
      exact⟨_,rfl,sm,by rw[hes]; exact ho,by rw[hes]; exact hd⟩
     ·rw[decide_eq_false hm]
      simp only[if_neg hm]at hes
      walk_at "rd1";refine⟨dp,_,.inl (k:Int),rfl,rfl,hd,by show (List.map _ _).length<_; rw[List.length_map]; exact ce (by omega),?_⟩
      rw[vv hm];walk_at "nx";have ho':upd H' dp (.dK (dX (aJ (aE R t) ((R[r]).take j)++[k]))) op=some (.lst ((aJ (aE R t) ((R[r]).take j)).map nV)):=by rw[ai hop']; exact ho
      refine⟨⟨_,SqL.of ho'⟩,_,ho',by rw[List.length_map]; exact ce (by omega),_,rfl,(sm.upd hdpH _).upd hop _,?_,?_⟩
      ·rw[ae,hes,List.map_append]; rfl
      ·rw[ai (Ne.symm hop'),ae,hes]
    ·exact absurd (by simp) c
  ·rintro σ H' ⟨o5,rfl,sm,ho,hd⟩
   rw[List.length_map,List.take_length,← hb1]at ho hd
   walk_at "nx";refine⟨_,(by omega:R.length - (t+1)<R.length - t),t+1,some (nV r),o5,rfl,?_,?_,sm,ho,hd⟩
   ·obtain⟨u,hu⟩:=kM (M:=R) t
    rw[hu,List.length_append]; omega
   ·rw[show ((t+1:Nat):Int)=(t:Int)+1 by omega]
 ·have ht:(aE R t).length≤t:=by
   have:¬ ((t:Int)<((aE R t).length:Int)):=by simpa using c
   omega
  walk_at "nx";rw[kd ht (by omega)]at ho
  exact q op H' sm hop ho
def ci(k:Nat):List Nat→List (bp × V)
 | []=>[]
 | r::o=>(Sum.inl (r:Int),nV k)::ci (k+1) o
theorem kW:∀ (o:List Nat) (k:Nat),(ci k o).length=o.length
 | [],_=>rfl
 | r::o,k=>by show (ci (k+1) o).length+1=_; rw[kW o]; rfl
theorem kT:∀ (o:List Nat) (k:Nat),∀ kv∈ci k o,∃ r∈o,kv.1=Sum.inl (r:Int)
 | [],_,kv,h=>by simp[ci]at h
 | r::o,k,kv,h=>by
  rcases List.mem_cons.mp h with rfl | h
  ·exact⟨r,List.mem_cons_self,rfl⟩
  ·obtain⟨x,hx,e⟩:=kT o (k+1) kv h
   exact⟨x,List.mem_cons_of_mem _ hx,e⟩
theorem kh:∀ (o:List Nat) (k r:Nat),ci k (o++[r])=ci k o++[(Sum.inl (r:Int),nV (k+o.length))]
 | [],k,r=>rfl
 | x::o,k,r=>by
  show (Sum.inl (x:Int),nV k)::ci (k+1) (o++[r])=_
  rw[kh o,List.length_cons,show k+1+o.length=k+(o.length+1) by omega]; rfl
theorem qP{o:List Nat}{r:Nat}(h:r∉o):cL (ci 0 o) (.inl (r:Int)) (nV o.length)=ci 0 (o++[r]):=by
 unfold cL
 have hn:((ci 0 o).any fun kv=>decide (kv.1=(Sum.inl (r:Int):bp)))=false:=by
  rw[List.any_eq_false];intro x hx
  obtain⟨y,hy,e⟩:=kT o 0 x hx
  have:y≠r:=fun e=>h (e ▸ hy)
  rw[e]; simp; omega
 rw[if_neg (by rw[hn]; exact Bool.false_ne_true),kh,Nat.zero_add]
theorem lb:∀ (o:List Nat) (k r:Nat),r∈o→aH (ci k o) (.inl (r:Int))=some (nV (k+o.idxOf r))
 | [],_,_,h=>by cases h
 | x::o,k,r,h=>by
  by_cases e:x=r
  ·subst e
   rw[List.idxOf_cons_self];show aH ((Sum.inl (x:Int),nV k)::ci (k+1) o) (.inl (x:Int))=_
   simp[aH]
  ·have hr:r∈o:=(List.mem_cons.mp h).resolve_left (fun z=>e z.symm)
   have hn:¬ ((Sum.inl (x:Int):bp)=Sum.inl (r:Int)):=fun z=>e (by have:=Sum.inl.inj z; omega)
   have e1:aH (ci k (x::o)) (.inl (r:Int))=aH (ci (k+1) o) (.inl (r:Int)):=by
    show aH ((Sum.inl (x:Int),nV k)::ci (k+1) o) (.inl (r:Int))=_
    simp[aH,hn]
   rw[e1,lb o (k+1) r hr,List.idxOf_cons];have hb:(x == r)=false:=beq_eq_false_iff_ne.mpr e
   rw[hb];show some (nV (k+1+o.idxOf r))=some (nV (k+(o.idxOf r+1)))
   rw[show k+1+o.idxOf r=k+(o.idxOf r+1) by omega]
theorem q9(D:DefAt K mg "numbered_rooms" ay) (z_enumerate:mg "enumerate" = none) (c_rooms_led_to:Cal P w K mg base 1 "rooms_led_to" ["rooms"] rQ) (c_ways_by:Cal P w K mg base 1 "ways_by" ["numbers", "ways"] oH) :
  Cal P w K mg base 2 "numbered_rooms" ["rooms"] (yF aY):=by
 refine D.cal sc_numbered_rooms (fun _ _ _ _ _ _ us hl=>match us,hl with | [_],_=>rfl) (fun vs H Q E h=>by obtain⟨p,R,m,as,rfl,_⟩:=h; rfl) (fun f cdv A outer s H vs Q E hr h=>?_)
 obtain⟨p,R,m,as,rfl,hR,ok,q⟩:=h
 obtain⟨h1,h2,h3⟩:=hR
 have n1:=ok.n1;have hm1:=ok.m1;obtain⟨ond,olt,ole⟩:=dE ok.ins ok.n0
 refine⟨_,(ac (ax 1 sc_numbered_rooms.nd (aq c_rooms_led_to hr (aa (pv 0 (hv:=F1)) ab)))
   (ac (ax 2 sc_numbered_rooms.nd qE (hx:=FB))
   (ac (cS PassesOwn.never rfl (gk K FQ z_enumerate (aa (pv 1) ab)) (gs K (n:=2) (bP (bc 3 sc_numbered_rooms.nd) (bP (bc 4 sc_numbered_rooms.nd) fk))) (ak (dw (pv 3) (dQ (pv 2 (hv:=F2)) (pv 4) (sX hr)))))
   (ak (aL (dC (CompSc.to (fsc:=(defScope ay)) (N:=["rooms", "order", "numbers", "number", "room"]) (N0:=["rooms", "order", "numbers", "number", "room'"]) (T:=["room"]) ⟨by decide +kernel,by decide +kernel,by decide +kernel,by decide +kernel,by decide +kernel,by decide +kernel,by decide +kernel⟩ rfl rfl) rfl (cx K (pv 1)) (fun _ _ _ _=>(bc 5 (show (["rooms", "order", "numbers", "number", "room'", "room"]:List Str).Nodup from by decide +kernel) (hx:=(fo (defScope ay) (by decide +kernel))) (hf:=iZ (defScope ay) (by decide +kernel)))) (b9 (show (["rooms", "order", "numbers", "number", "room"]:List Str).length≤5 from by decide)) (fun _ _ _ _=>cD) (fun _ _ _ _=>(aq c_ways_by hr (aa (pv 2 (hv:=(bV (defScope ay) (by decide +kernel)))) (aa (aK (bd K) (pv 0 (hv:=(bV (defScope ay) (by decide +kernel)))) (pv 5 (hv:=(bV (defScope ay) (by decide +kernel)))) (fun _ _=>rfl)) ab)) (hg:=(pX (defScope ay) (by decide +kernel))))))))))),?_⟩
 walk_at "rd1";refine⟨p,R,m,as,rfl,⟨h1,h2,h3⟩,ok,fun op H1 sm1 hop ho=>?_⟩
 walk_at "nx";refine fun np hnp=>?_
 generalize hH2:upd H1 np _=H2
 have sm2:=ef hH2 hnp;have e2:=jb hH2;have hnpH:H np=none:=sm1.free hnp
 walk_at "nx";refine⟨⟨_,sm2 _ _ ho⟩,?_⟩
 refine gJ (xs:=(aB R).map nV) (fun i σ H'=>∃ (o3 o4:Option V),σ=[some (.ref p),some (.ref op),some (.ref np),o3,o4]∧Same H H'∧H' op=some (.lst ((aB R).map nV))∧H' np=some (.dK (ci 0 ((aB R).take i))))
  ⟨none,none,rfl,sm1.trans sm2,sm2 _ _ ho,e2⟩ (fun i σ H' _ h=>by obtain⟨_,_,_,_,z,_⟩:=h; exact SqL.of z) ?_ ?_
 ·rintro i v t σ H' hv ⟨o3,o4,rfl,sm,ho',hn⟩ ht
  have hi:i<(aB R).length:=by have:=(List.getElem?_eq_some_iff.mp hv).1; simpa using this
  rw[List.getElem?_map,List.getElem?_eq_getElem hi]at hv
  cases hv
  have hnot:(aB R)[i]∉(aB R).take i:=fun z=>by
   obtain⟨j,hj,e⟩:=List.mem_iff_getElem.mp z
   rw[List.getElem_take]at e
   have:=(List.getElem_inj ond).mp e
   simp at hj; omega
  have htk:(aB R).take (i+1)=(aB R).take i++[(aB R)[i]]:=by rw[List.take_add_one,List.getElem?_eq_getElem hi]; rfl
  have hlt:((aB R).take i).length=i:=by rw[List.length_take]; omega
  generalize (aB R)[i]=r at hnot htk ⊢;have st:=al ht (.tup [nV i,nV r]);have ett:upd H' t (.tup [nV i,nV r]) t=some (.tup [nV i,nV r]):=ae
  have smt:=sm.trans st;have hot:=st _ _ ho';have hnt:=st _ _ hn;generalize upd H' t (.tup [nV i,nV r])=Ht at st ett smt hot hnt ⊢;walk_at "rd1";refine⟨t,_,rfl,SqT.of ett,rfl,?_⟩
  walk_at "rd1";refine⟨np,_,.inl (r:Int),rfl,rfl,hnt,by rw[kW]; exact ce (by omega),?_⟩
  refine⟨_,_,rfl,smt.upd hnpH _,?_,?_⟩
  ·rw[ai (gS hot hnt (fun z=>nomatch z))]; exact hot
  ·have e:=qP hnot
   rw[hlt]at e
   rw[ae,htk,← e]
 ·rintro σ H3 ⟨o3,o4,rfl,sm3,ho3,hn3⟩
  rw[List.length_map,List.take_length]at hn3
  walk_at "nx";refine⟨⟨_,SqL.of ho3⟩,fun L hL=>?_⟩
  refine cT (xs:=(aB R).map nV) (fun i ys H'=>∃ bs:List Addr,Same H3 H'∧ys=bs.map V.ref∧bs.length=i∧NR H H' L ((aY R).take i) bs) ⟨[],al hL _,rfl,rfl,⟨⟨ae,rfl,by simp⟩,by simp,List.nodup_nil⟩⟩ (fun i ys H' _ h=>by obtain⟨_,sm,_⟩:=h; exact SqL.of (sm _ _ ho3)) ?_ ?_
  ·rintro i ys H' v hv hi ⟨bs,sm,rfl,hb,hN⟩
   rw[List.length_map]at hi
   rw[List.getElem?_map,List.getElem?_eq_getElem hi]at hv
   cases hv;have hrm:=List.getElem_mem hi;have hod:(aY R)[i]? = some (fm (aB R) (R.getD (aB R)[i] [])):=by unfold aY; rw[List.getElem?_map,List.getElem?_eq_getElem hi]; rfl
   generalize (aB R)[i]=r at hrm hod ⊢;have hr':=olt r hrm;have hra:r<as.length:=by omega
   have hrow:=h3 r _ _ (List.getElem?_eq_getElem hra) (List.getElem?_eq_getElem hr');have hgd:R.getD r []=R[r]:=by rw[List.getD_eq_getElem?_getD,List.getElem?_eq_getElem hr']; rfl
   walk_at "rd1";refine⟨_,_,.inl (SqL.of ((sm3.trans sm) _ _ h1)),aZ (by rw[List.getElem?_map,List.getElem?_eq_getElem hra]; rfl),?_⟩
   refine⟨np,as[r],R[r],fun k=>(aB R).idxOf k,rfl,(sm3.trans sm) _ _ hrow,by rw[ok.row _ (List.getElem_mem hr')]; omega,fun k hk=>.inr ⟨_,sm _ _ hn3,?_⟩,fun L' H4 sm4 hL' hl4=>?_⟩
   ·rw[lb _ _ _ (dS ok.ins ok.n0 hrm (by rw[hgd]; exact hk)),Nat.zero_add]
   ·have hps:=hN.push sm4 (sm3.trans sm) hL' hl4
    refine eJ (by rw[List.length_map]; exact hi) (by rw[List.length_map]; exact hb) (by rw[List.length_map]; exact cg (by omega)) (sm4 _ _ hN.at'.1) ⟨bs++[L'],?_,by rw[List.map_append]; rfl,by simp[hb],?_⟩
    ·intro b o e
     have hbL:b≠L:=aA e hL
     rw[ai hbL]; exact sm4 _ _ (sm _ _ e)
    ·rw[List.take_add_one,hod]
     have e:fm (aB R) (R.getD r [])=(R[r]).map (Option.map fun k=>(aB R).idxOf k):=by rw[hgd]; rfl
     rw[e]; exact hps
  ·rintro ys H' ⟨bs,sm,rfl,hb,hN⟩
   have hol:(aY R).length=(aB R).length:=by simp[aY]
   rw[List.length_map,List.take_of_length_le (by omega)]at hN
   exact q L H' bs (sm3.trans sm) (sm3.free hL) hN
def uJ:Sp:=fun vs H Q _=>∃ (p:Addr) (N:aV) (m:Nat) (as:List Addr) (pl:Nat),vs=[.ref p,nV pl]∧RoomsAs H p N as∧eK N m∧pl<m∧∀ H',Same H H'→Q (.bl (dR N pl)) H'
theorem zY(D:DefAt K mg "does_something" aR) (z_enumerate:mg "enumerate" = none) (z_any:mg "any" = none):Cal P w K mg base 1 "does_something" ["rooms", "place"] uJ:=by
 refine D.cal kP (fun _ _ _ _ _ _ us hl=>match us,hl with | [_,_],_=>rfl) (fun vs H Q E h=>by obtain⟨p,N,m,as,pl,rfl,_⟩:=h; rfl) (fun f cdv A outer s H vs Q E hr h=>?_)
 obtain⟨p,N,m,as,pl,rfl,hR,ok,hpl,q⟩:=h
 obtain⟨h1,h2,h3⟩:=hR
 have n1:=ok.n1;refine⟨_,(ak (aL (bZ (uZ K) z_any Ca (aa (dC (CompSc.to (fsc:=(defScope aR)) (N:=["rooms", "place"]) (N0:=["rooms", "place"]) (T:=["number", "room"]) ⟨by decide +kernel,by decide +kernel,by decide +kernel,by decide +kernel,by decide +kernel,by decide +kernel,by decide +kernel⟩ rfl rfl) rfl (gk K FL z_enumerate (aa (pv 0) ab)) (fun _ _ _ _=>(gs K (n:=2) (bP (bc 2 (show (["rooms", "place", "number", "room"]:List Str).Nodup from by decide +kernel) (hx:=(fo (defScope aR) (by decide +kernel))) (hf:=iZ (defScope aR) (by decide +kernel))) (bP (bc 3 (show (["rooms", "place", "number", "room"]:List Str).Nodup from by decide +kernel) (hx:=(fo (defScope aR) (by decide +kernel))) (hf:=iZ (defScope aR) (by decide +kernel))) fk)))) (zT (nJ (b9 (show (["rooms", "place"]:List Str).length≤2 from by decide)) ni (nJ (b9 (show (["rooms", "place"]:List Str).length≤3 from by decide)) ni wG rA) (wF ni rA))) (fun _ _ _ _=>cD) (fun _ _ _ _=>(cr AT (aK (bd K) (pv 3 (hv:=(bV (defScope aR) (by decide +kernel)))) (pv 1 (hv:=(bV (defScope aR) (by decide +kernel)))) (fun _ _=>rfl)) (pv 2 (hv:=(bV (defScope aR) (by decide +kernel)))) (aP _)))) ab)))),?_⟩
 walk_at "rd1";refine⟨⟨_,h1⟩,fun L hL=>?_⟩
 refine tU (xs:=as.map V.ref) (fun i ys H'=>Same H H'∧H' L=some (.lst ys)∧ys=((List.range i).map fun i=>decide ((N.getD i []).getD pl none≠some i)).map V.bl) ⟨al hL _,ae,rfl⟩ (fun i ys H' _ h=>SqL.of (h.1 _ _ h1)) ?_ ?_
 ·rintro i ys H' v t hv hi ⟨sm,hl,rfl⟩ ht
  rw[List.length_map]at hi
  rw[List.getElem?_map,List.getElem?_eq_getElem hi]at hv
  cases hv;have hi':i<N.length:=by omega
  have hrow:=h3 i _ _ (List.getElem?_eq_getElem hi) (List.getElem?_eq_getElem hi');have hgd:N.getD i []=N[i]:=by rw[List.getD_eq_getElem?_getD,List.getElem?_eq_getElem hi']; rfl
  have hrl:=ok.row _ (List.getElem_mem hi');have st:=al ht (.tup [nV i,.ref as[i]]);have nt:L≠t:=aA hl ht
  walk_at "rd1";refine⟨t,_,rfl,SqT.of ae,rfl,?_⟩
  walk_at "rd1";refine⟨_,_,.inl (SqL.of (st _ _ (sm _ _ hrow))),aZ (by rw[List.getElem?_map,List.getElem?_eq_getElem (by omega)]; rfl),?_⟩
  refine⟨((N[i])[pl]'(by omega)).map (fun n:Nat=>(n:Int)),(i:Int),?_,rfl,?_⟩
  ·cases (N[i])[pl]'(by omega) <;> rfl
  ·refine eJ (by rw[List.length_map]; exact hi) (by simp) (by rw[List.length_map]; exact cg (by omega)) (by rw[ai nt]; exact hl) ⟨(sm.trans st).upd hL _,ae,?_⟩
   rw[List.range_succ,List.map_append,List.map_append]
   congr 1
   show [V.bl _]=[V.bl _]
   congr 2
   show decide (_≠_)=decide ((N.getD i []).getD pl none≠some i)
   rw[hgd,List.getD_eq_getElem?_getD,List.getElem?_eq_getElem (by omega)]
   show decide (_≠_)=decide ((N[i])[pl]'(by omega)≠some i)
   cases (N[i])[pl]'(by omega) with
   | none=>simp
   | some k=>simp; omega
 ·rintro ys H' ⟨sm,hl,rfl⟩
  walk_at "rd1";rw[List.length_map,h2]at hl
  refine⟨_,SqL.of hl,?_⟩
  have e:((List.range N.length).map fun i=>decide ((N.getD i []).getD pl none≠some i)).any id=dR N pl:=by
   unfold dR; rw[List.any_map]; rfl
  rw[e]; exact q H' sm
def pP:Sp:=fun vs H Q _=>∃ (p b:Addr) (ts:List V) (ps:List Nat),vs=[.ref p,.ref b]∧H p=some (.lst ts)∧H b=some (.lst (ps.map nV))∧ps.length≤1000∧(∀ x∈ps,x<ts.length)∧
 ∀ (L:Addr) (H':Hp),Same H H'→H L=none→H' L=some (.lst (ps.map fun x=>ts.getD x .non))→Q (.ref L) H'
theorem uL(D:DefAt K mg "picked" cy):Cal P w K mg base 1 "picked" ["things", "places"] pP:=by
 refine D.cal wm (fun _ _ _ _ _ _ us hl=>match us,hl with | [_,_],_=>rfl) (fun vs H Q E h=>by obtain⟨p,b,ts,ps,rfl,_⟩:=h; rfl) (fun f cdv A outer s H vs Q E hr h=>?_)
 obtain⟨p,b,ts,ps,rfl,hp,hb,hl,hx,q⟩:=h
 refine⟨_,(ak (aL (dC (CompSc.to (fsc:=(defScope cy)) (N:=["things", "places"]) (N0:=["things", "places"]) (T:=["place"]) ⟨by decide +kernel,by decide +kernel,by decide +kernel,by decide +kernel,by decide +kernel,by decide +kernel,by decide +kernel⟩ rfl rfl) rfl (cx K (pv 1)) (fun _ _ _ _=>(bc 2 (show (["things", "places", "place"]:List Str).Nodup from by decide +kernel) (hx:=(fo (defScope cy) (by decide +kernel))) (hf:=iZ (defScope cy) (by decide +kernel)))) (b9 (show (["things", "places"]:List Str).length≤2 from by decide)) (fun _ _ _ _=>cD) (fun _ _ _ _=>(aK (bd K) (pv 0 (hv:=(bV (defScope cy) (by decide +kernel)))) (pv 2 (hv:=(bV (defScope cy) (by decide +kernel)))) (fun _ _=>rfl)))))),?_⟩
 walk_at "rd1";refine⟨⟨_,SqL.of hb⟩,fun L hL=>?_⟩
 refine cT (xs:=ps.map nV) (fun i ys H'=>Same H H'∧H' L=some (.lst ys)∧ys=(ps.take i).map fun x=>ts.getD x .non) ⟨al hL _,ae,rfl⟩ (fun i ys H' _ h=>SqL.of (h.1 _ _ hb)) ?_ ?_
 ·rintro i ys H' v hv hi ⟨sm,hl',rfl⟩
  rw[List.length_map]at hi
  rw[List.getElem?_map,List.getElem?_eq_getElem hi]at hv
  cases hv;have hxi:=hx _ (List.getElem_mem hi);walk_at "rd1";refine⟨_,ts.getD ps[i] .non,.inl (SqL.of (sm _ _ hp)),aZ (by rw[List.getD_eq_getElem?_getD,List.getElem?_eq_getElem hxi]; rfl),?_⟩
  refine eJ (by rw[List.length_map]; exact hi) (by simp; omega) (by rw[List.length_map]; exact cg (by omega)) hl' ⟨sm.upd hL _,ae,?_⟩
  rw[List.take_add_one,List.getElem?_eq_getElem hi,List.map_append]; rfl
 ·rintro ys H' ⟨sm,hl',rfl⟩
  rw[List.length_map,List.take_length]at hl'
  exact q L H' sm hL hl'
def aX(r:Rl):Rl:=⟨r.s,(places (af r.rs) r.ws.length).map (fun x=>r.ws.getD x default),(af r.rs).map fun y=>(places (af r.rs) r.ws.length).map fun x=>y.getD x none⟩
theorem kg{r:Rl}(ok:bm r):eK r.rs r.ws.length:=⟨ok.n0,ok.n1,ok.nw,fun x hx=>(ok.row x hx).1,fun x hx k hk=>(ok.row x hx).2 k hk⟩
theorem mK{R:aV}{m:Nat}(ok:eK R m):eK (merged R) m:=by
 obtain⟨a,b,c⟩:=eG ok.n0 ok.ins
 have:=ok.n1
 exact⟨b,by omega,ok.m1,ml ok.row,a⟩
theorem kU{R:aV}{m:Nat}(ok:eK R m):eK (aY R) m:=by
 obtain⟨a,b,c,d⟩:=eI ok.ins ok.n0 ok.row
 have:=ok.n1
 exact⟨b,by omega,ok.m1,d,a⟩
theorem bX{N:aV}{n x:Nat}(h:x∈places N n):x<n:=List.mem_range.mp (List.mem_filter.mp h).1
theorem mq(N:aV)(n:Nat):(places N n).length≤n:=by
 have:=List.length_filter_le (dR N) (List.range n)
 rw[List.length_range]at this
 exact this
theorem jQ{r:Rl}(ok:bm r):bm (aX r):=by
 have o2:=kU (mK (kg ok));have hp:=mq (af r.rs) r.ws.length;have:=ok.nw
 refine⟨ok.s,?_,?_,?_,fun x hx=>?_,fun x hx=>?_⟩
 ·show (List.map _ _).length≤16
  rw[List.length_map]; omega
 ·show 1≤(List.map _ _).length
  rw[List.length_map]; exact o2.n0
 ·show (List.map _ _).length≤60
  rw[List.length_map]; exact o2.n1
 ·obtain⟨y,hy,rfl⟩:=List.mem_map.mp hx
  refine⟨by show (List.map _ _).length=(List.map _ _).length; rw[List.length_map,List.length_map],fun k hk=>?_⟩
  obtain⟨x,hx',e⟩:=List.mem_map.mp hk
  show k<(List.map _ _).length
  rw[List.length_map];refine o2.ins y hy k ?_
  have hlt:x<y.length:=by rw[o2.row y hy]; exact bX hx'
  rw[List.getD_eq_getElem?_getD,List.getElem?_eq_getElem hlt]at e
  exact e ▸ List.getElem_mem hlt
 ·obtain⟨y,hy,rfl⟩:=List.mem_map.mp hx
  have hlt:=bX hy;rw[List.getD_eq_getElem?_getD,List.getElem?_eq_getElem hlt];exact ok.lw _ (List.getElem_mem hlt)
def kB:Sp:=fun vs H Q _=>∃ (p:Addr) (r:Rl),vs=[.ref p]∧RuleAt H p r∧bm r∧∀ (q pw pr:Addr) (H':Hp) (as:List Addr),Same H H'→H' q=some (.tup [.int r.s,.ref pw,.ref pr])→H' pw=some (.lst ((aX r).ws.map V.str))→
 NR H H' pr (aX r).rs as→H q=none→H pw=none→H pr=none→pw≠pr→pw∉as→Q (.ref q) H'
def pE:Sp:=fun vs H Q _=>∃ (p:Addr) (r:Rl) (mo:Nat),vs=[.ref p,nV mo]∧r.rs.length≤mo∧RuleAt H p r∧bm r∧∀ (q pw pr:Addr) (H':Hp) (as:List Addr),Same H H'→H' q=some (.tup [.int r.s,.ref pw,.ref pr])→H' pw=some (.lst ((aX r).ws.map V.str))→
 NR H H' pr (aX r).rs as→H q=none→H pw=none→H pr=none→pw≠pr→pw∉as→Q (.ref q) H'
theorem zc(D:DefAt K mg "least_upto" av) (z_range:mg "range" = none) (z_len:mg "len" = none) (c_kinds_upto:Cal P w K mg base 3 "kinds_upto" ["rooms", "most"] rP) (c_merged_rooms:Cal P w K mg base 4 "merged_rooms" ["rooms", "kinds"] pC) (c_numbered_rooms:Cal P w K mg base 2 "numbered_rooms" ["rooms"] (yF aY))
  (c_does_something:Cal P w K mg base 1 "does_something" ["rooms", "place"] uJ) (c_picked:Cal P w K mg base 1 "picked" ["things", "places"] pP):Cal P w K mg base 5 "least_upto" ["rule", "most"] pE:=by
 refine D.cal sc_least_upto (fun _ _ _ _ _ _ us hl=>match us,hl with | [_,_],_=>rfl) (fun vs H Q E h=>by obtain⟨p,r,mo,rfl,_⟩:=h; rfl) (fun f cdv A outer s H vs Q E hr h=>?_)
 obtain⟨p,r,mo,rfl,hmo,hR,ok,q⟩:=h
 obtain⟨pw0,pr0,as0,g1,g2,g3⟩:=hR
 have o0:=kg ok;have o1:=mK o0;have o2:=kU o1;have nw:=ok.nw;have hpl:=mq (af r.rs) r.ws.length
 refine⟨_,(ac (ax 2 sc_least_upto.nd (aq c_kinds_upto hr (aa (aK (bd K) (pv 0) aj (fun _ _=>rfl)) (aa (pv 1) ab))))
   (ac (bN (aT bU (pv 2) bv (aP _)) (ak (aL bv)) bt)
   (ac (ax 3 sc_least_upto.nd (aK (bd K) (pv 0) aj (fun _ _=>rfl)))
   (ac (ax 4 sc_least_upto.nd (aq c_numbered_rooms hr (aa (aq c_merged_rooms hr (aa (aK (bd K) (pv 0) aj (fun _ _=>rfl)) (aa (pv 2) ab))) ab)) (hx:=G5))
   (ac (ax 5 sc_least_upto.nd (dC (CompSc.to (fsc:=(defScope av)) (N:=["rule", "most", "kinds", "words", "rooms", "places"]) (N0:=["rule", "most", "kinds", "words", "rooms", "places"]) (T:=["place"]) ⟨by decide +kernel,by decide +kernel,by decide +kernel,by decide +kernel,by decide +kernel,by decide +kernel,by decide +kernel⟩ rfl rfl) rfl (cU Gb z_range (aa (bZ (bO K) z_len cR (aa (pv 3) ab)) ab)) (fun _ _ _ _=>(bc 6 (show (["rule", "most", "kinds", "words", "rooms", "places", "place"]:List Str).Nodup from by decide +kernel) (hx:=(fo (defScope av) (by decide +kernel))) (hf:=iZ (defScope av) (by decide +kernel)))) (b9 (show (["rule", "most", "kinds", "words", "rooms", "places"]:List Str).length≤6 from by decide)) (fun _ _ _ _=>(wB (gI (aq c_does_something hr (aa (pv 4 (hv:=(bV (defScope av) (by decide +kernel)))) (aa (pv 6 (hv:=(bV (defScope av) (by decide +kernel)))) ab)) (hg:=(pX (defScope av) (by decide +kernel))))))) (fun _ _ _ _=>(pv 6 (hv:=(bV (defScope av) (by decide +kernel)))))) (hx:=GN))
   (ak (aL (dG (aa (aK (bd K) (pv 0) aj (fun _ _=>rfl)) (aa (aq c_picked hr (aa (pv 3) (aa (pv 5 (hv:=F7)) ab))) (aa (dC (CompSc.to (fsc:=(defScope av)) (N:=["rule", "most", "kinds", "words", "rooms", "places"]) (N0:=["rule", "most", "kinds", "words", "rooms", "places"]) (T:=["room"]) ⟨by decide +kernel,by decide +kernel,by decide +kernel,by decide +kernel,by decide +kernel,by decide +kernel,by decide +kernel⟩ rfl rfl) rfl (cx K (pv 4 (hv:=Gj))) (fun _ _ _ _=>(bc 6 (show (["rule", "most", "kinds", "words", "rooms", "places", "room"]:List Str).Nodup from by decide +kernel) (hx:=(fo (defScope av) (by decide +kernel))) (hf:=iZ (defScope av) (by decide +kernel)))) (b9 (show (["rule", "most", "kinds", "words", "rooms", "places"]:List Str).length≤6 from by decide)) (fun _ _ _ _=>cD) (fun _ _ _ _=>(aq c_picked hr (aa (pv 6 (hv:=(bV (defScope av) (by decide +kernel)))) (aa (pv 5 (hv:=(bV (defScope av) (by decide +kernel)))) ab)) (hg:=(pX (defScope av) (by decide +kernel)))))) ab))))))))))),?_⟩
 walk_at "rd1";refine⟨_,_,.inr (SqT.of g1),rfl,?_⟩
 refine⟨pr0,r.rs,r.ws.length,as0,mo,rfl,hmo,g3,o0,fun KP H0 sm0 hKP hl0=>?_⟩
 walk_at "nx";walk_at "nx";refine⟨_,_,.inr (SqT.of (sm0 _ _ g1)),rfl,?_⟩
 walk_at "nx";refine⟨_,_,.inr (SqT.of (sm0 _ _ g1)),rfl,?_⟩
 refine⟨pr0,KP,r.rs,r.ws.length,as0,rfl,g3.mono sm0,o0,hl0,fun M1 H1 bs1 sm1' hM1 hN1=>?_⟩
 have sm1:=sm0.trans sm1';refine⟨M1,merged r.rs,r.ws.length,bs1,rfl,hN1.at',o1,fun M2 H2 bs2 sm2 hM2 hN2=>?_⟩
 have sm12:=sm1.trans sm2;have hN2':=hN2.at';walk_at "nx";refine⟨_,.inl (SqL.of (sm12 _ _ g2)),?_⟩
 rw[List.length_map];walk_at "rd1";refine⟨by omega,by omega,fun L hL=>?_⟩
 refine qI (fun i ys H'=>Same H2 H'∧H' L=some (.lst ys)∧ys=((List.range i).filter (dR (af r.rs))).map nV) ⟨al hL _,ae,rfl⟩ ?_ ?_
 ·rintro i ys H' hi ⟨sm,hl,rfl⟩
  have hi':i<r.ws.length:=by omega
  have hlen:(((List.range i).filter (dR (af r.rs))).map nV).length≤i:=by
   rw[List.length_map];have:=List.length_filter_le (dR (af r.rs)) (List.range i)
   rw[List.length_range]at this; exact this
  walk_at "rd1";refine⟨M2,af r.rs,r.ws.length,bs2,i,by rw[Int.zero_add],hN2'.mono sm,o2,hi',fun H5 sm5=>?_⟩
  cases hdo:dR (af r.rs) i with
  | false=>
   walk_at "rd1";refine CC hi ⟨sm.trans sm5,sm5 _ _ hl,?_⟩
   rw[List.range_succ,List.filter_append]; simp[hdo]
  | true=>
   walk_at "rd1";refine Az hi hlen (cg (by omega)) (sm5 _ _ hl) ⟨(sm.trans sm5).upd hL _,ae,?_⟩
   rw[List.range_succ,List.filter_append,List.map_append]; simp[hdo]
 rintro ys H3 ⟨sm3,hl3,rfl⟩
 have hl3':H3 L=some (.lst ((places (af r.rs) r.ws.length).map nV)):=by
  unfold places; rw[hl3]; simp
 have sm13:=sm12.trans sm3;walk_at "nx";refine⟨_,_,.inr (SqT.of (sm13 _ _ g1)),rfl,?_⟩
 refine⟨pw0,L,r.ws.map V.str,places (af r.rs) r.ws.length,rfl,sm13 _ _ g2,hl3',by omega,fun x hx=>by rw[List.length_map]; exact bX hx,fun W H4 sm4 hW hl4=>?_⟩
 have hws:((places (af r.rs) r.ws.length).map fun x=>(r.ws.map V.str).getD x .non)=(aX r).ws.map V.str:=by
  show _=List.map V.str (List.map _ _)
  rw[List.map_map];refine List.map_congr_left fun x hx=>?_
  have hlt:=bX hx;show _=V.str (r.ws.getD x default)
  rw[List.getD_eq_getElem?_getD,List.getElem?_map,List.getD_eq_getElem?_getD,List.getElem?_eq_getElem hlt]; rfl
 rw[hws]at hl4
 walk_at "rd1";refine⟨⟨_,SqL.of (sm4 _ _ (sm3 _ _ hN2'.1))⟩,fun Z hZ=>?_⟩
 have hN4:=(hN2'.mono sm3).mono sm4;obtain⟨k1,k2,k3⟩:=hN4
 refine cT (xs:=bs2.map V.ref) (fun i ys H'=>∃ cs:List Addr,Same H4 H'∧ys=cs.map V.ref∧cs.length=i∧NR H H' Z ((aX r).rs.take i) cs∧W∉cs) ⟨[],al hZ _,rfl,rfl,⟨⟨ae,rfl,by simp⟩,by simp,List.nodup_nil⟩,by simp⟩ (fun i ys H' _ h=>by obtain⟨_,sm,_⟩:=h; exact SqL.of (sm _ _ k1)) ?_ ?_
 ·rintro i ys H' v hv hi ⟨cs,sm,rfl,hc,hN,hWc⟩
  rw[List.length_map]at hi
  rw[List.getElem?_map,List.getElem?_eq_getElem hi]at hv
  cases hv
  have hi':i<(af r.rs).length:=by
   have:bs2.length=(aY (merged r.rs)).length:=k2
   show i<(aY (merged r.rs)).length
   omega
  have hrow:=k3 i _ _ (List.getElem?_eq_getElem hi) (List.getElem?_eq_getElem hi');have hrl:((af r.rs)[i]).length=r.ws.length:=o2.row _ (List.getElem_mem hi')
  walk_at "rd1";refine⟨bs2[i],L,((af r.rs)[i]).map ar,places (af r.rs) r.ws.length,rfl,sm _ _ hrow,sm _ _ (sm4 _ _ hl3'),by omega,fun x hx=>by rw[List.length_map]; have:=bX hx; omega,fun L' H5 sm5 hL' hl5=>?_⟩
  have hxs:((places (af r.rs) r.ws.length).map fun x=>(((af r.rs)[i]).map ar).getD x .non)=((places (af r.rs) r.ws.length).map fun x=>((af r.rs)[i]).getD x none).map ar:=by
   rw[List.map_map];refine List.map_congr_left fun x hx=>?_
   have hlt:x<((af r.rs)[i]).length:=by have:=bX hx; omega
   show _=ar (((af r.rs)[i]).getD x none)
   rw[List.getD_eq_getElem?_getD,List.getElem?_map,List.getD_eq_getElem?_getD,List.getElem?_eq_getElem hlt]; rfl
  rw[hxs]at hl5
  have smH:Same H H':=(sm13.trans sm4).trans sm
  have hps:=hN.push sm5 smH hL' hl5;refine eJ (by rw[List.length_map]; exact hi) (by rw[List.length_map]; exact hc) (by rw[List.length_map]; have:=o2.n1; exact cg (by have:bs2.length=(aY (merged r.rs)).length:=k2; omega)) (sm5 _ _ hN.at'.1) ⟨cs++[L'],?_,by rw[List.map_append]; rfl,by simp[hc],?_,?_⟩
  ·intro b o e
   rw[ai (aA e hZ)]; exact sm5 _ _ (sm _ _ e)
  ·have e:(aX r).rs.take (i+1)=(aX r).rs.take i++[(places (af r.rs) r.ws.length).map fun x=>((af r.rs)[i]).getD x none]:=by
    rw[List.take_add_one];show _++(List.map _ (af r.rs))[i]?.toList=_
    rw[List.getElem?_map,List.getElem?_eq_getElem hi']; rfl
   rw[e]; exact hps
  ·intro z
   rcases List.mem_append.mp z with z | z
   ·exact hWc z
   ·have e:=List.mem_singleton.mp z
    subst e;have:=sm _ _ hl4
    rw[hL']at this; cases this
 rintro ys H5 ⟨cs,sm5,rfl,hc,hN,hWc⟩
 have hfull:(aX r).rs.take (bs2.map V.ref).length=(aX r).rs:=List.take_of_length_le (by
  show (List.map _ (af r.rs)).length≤_
  rw[List.length_map,List.length_map];have:bs2.length=(aY (merged r.rs)).length:=k2
  show (aY (merged r.rs)).length≤_
  omega)
 rw[hfull]at hN
 walk_at "rd1";refine⟨by decide,fun tp htp=>?_⟩
 have st:=al htp (.tup [.int r.s,.ref W,.ref Z]);have smA:Same H H5:=(sm13.trans sm4).trans sm5
 refine q tp W Z _ cs (smA.trans st) ae (st _ _ (sm5 _ _ hl4)) (hN.mono st) (smA.free htp) (sm13.free hW) ((sm13.trans sm4).free hZ) (aA hl4 hZ) hWc
theorem xk(D:DefAt K mg "least_rule" b5) (z_len:mg "len" = none) (c_least_upto:Cal P w K mg base 5 "least_upto" ["rule", "most"] pE):Cal P w K mg base 6 "least_rule" ["rule"] kB:=by
 refine D.cal oF (fun _ _ _ _ _ _ us hl=>match us,hl with | [_],_=>rfl) (fun vs H Q E h=>by obtain⟨p,r,rfl,_⟩:=h; rfl) (fun f cdv A outer s H vs Q E hr h=>?_)
 obtain⟨p,r,rfl,hR,ok,q⟩:=h
 obtain⟨pw0,pr0,as0,g1,g2,g3⟩:=id hR
 refine⟨_,(ak (aL (aq c_least_upto hr (aa (pv 0) (aa (bZ (bO K) z_len cR (aa (aK (bd K) (pv 0) aj (fun _ _=>rfl)) ab)) ab))))),?_⟩
 walk_at "rd1";refine⟨_,_,.inr (SqT.of g1),rfl,⟨_,.inl (SqL.of g3.1),?_⟩⟩
 refine⟨p,r,r.rs.length,?_,Nat.le_refl _,hR,ok,q⟩
 rw[List.length_map,g3.2.1]
end
theorem sM{R:aV}{m:Nat}(ok:eK R m):Rm R m:=⟨ok.n0,ok.row,ok.ins⟩
theorem dN(r:Rl):(aX r).rs=db (af r.rs) (places (af r.rs) r.ws.length):=rfl
theorem v8(r:Rl):(aX r).ws.length=(places (af r.rs) r.ws.length).length:=List.length_map _
def iR(R:aV)(k:Nat):Nat:=(aB (merged R)).idxOf ((ah R).getD k 0)
structure d_ (R:aV) (k:Nat):Prop where
 lt:k<R.length
 mem:(ah R).getD k 0∈aB (merged R)
theorem xP(f:Option Nat→Option Nat)(hf:f none=none)(x:List (Option Nat))(j:Nat):(x.map f).getD j none=f (x.getD j none):=by
 rw[List.getD_eq_getElem?_getD,List.getElem?_map,List.getD_eq_getElem?_getD]
 cases x[j]? with
 | none=>exact hf.symm
 | some y=>rfl
theorem lW{R:aV}(h:1≤R.length):(ah R).getD 0 0=0:=by
 have hl:(ah R).length=R.length:=bW R _
 have hc:=cH R (R.length * R.length) 1
 have e:(iter R (R.length * R.length)).take 1=[(ah R).getD 0 0]:=by
  show (ah R).take 1=_
  cases hk:ah R with
  | nil=>rw[hk]at hl; simp at hl; omega
  | cons a t=>rfl
 rw[e]at hc
 have:am [] [(ah R).getD 0 0]=[(ah R).getD 0 0]:=by simp[am]
 rw[this]at hc
 simpa using hc
theorem mG(M:aV):(aB M)[0]? = some 0:=jM M _
theorem sW{R:aV}(h:1≤R.length):d_ R 0:=⟨h,by rw[lW h]; exact List.mem_of_getElem? (mG _)⟩
theorem yg{R:aV}(h:1≤R.length):iR R 0=0:=by
 unfold iR;rw[lW h];have:=mG (merged R)
 cases hk:aB (merged R) with
 | nil=>rw[hk]at this; cases this
 | cons a t=>
  rw[hk]at this
  have:a=0:=by simpa using this
  rw[this]; simp
theorem uA{R:aV}{k:Nat}(h:d_ R k):iR R k<(af R).length:=by
 rw[leastN_len]; exact List.idxOf_lt_length_iff.mpr h.mem
theorem zX{R:aV}{k:Nat}(h:d_ R k):(af R).getD (iR R k) []=(R.getD k []).map (Option.map (iR R)):=by
 have hlt:=uA h;rw[mi hlt];have e:(aB (merged R))[iR R k]'(by rw[← leastN_len]; exact hlt)=(ah R).getD k 0:=List.getElem_idxOf (List.idxOf_lt_length_iff.mpr h.mem)
 rw[e,← (eU h.lt).2];unfold fm cX;rw[List.map_map];refine List.map_congr_left fun o _=>?_
 cases o <;> rfl
theorem B7{R:aV}{k:Nat}(h:d_ R k)(x:Nat):((af R).getD (iR R k) []).getD x none=((R.getD k []).getD x none).map (iR R):=by
 rw[zX h]; exact xP _ rfl _ _
theorem vW{R:aV}{m:Nat}(hR:Rm R m){k k':Nat}(h:d_ R k)(hk:some k'∈R.getD k []):d_ R k':=by
 have hM:=hR.merged;have hrow:R.getD k []=R[k]'h.lt:=aI h.lt
 refine⟨hR.ins _ (List.getElem_mem h.lt) k' (hrow ▸ hk),?_⟩
 refine dS hM.ins hM.n0 h.mem ?_
 rw[← (eU h.lt).2];exact List.mem_map.mpr ⟨some k',hk,rfl⟩
theorem vZ{N:aV}(S:Nat→Prop)(h0:S 0)(hc:∀ j,S j→∀ k,some k∈N.getD j []→S k):∀ t,∀ j∈aE N t,S j
 | 0=>fun j hj=>by simp[aE]at hj; rw[hj]; exact h0
 | t+1=>by
  have ih:=vZ S h0 hc t;show ∀ j∈(match (aE N t)[t]? with | some r=>aJ (aE N t) (N.getD r []) | none=>aE N t),S j
  cases e:(aE N t)[t]? with
  | none=>exact ih
  | some r=>
   intro j hj
   rcases(eh _ _ _).mp hj with z | z
   ·exact ih j z
   ·exact hc r (ih r (List.mem_of_getElem? e)) j z
def aw(r:Rl)(k:Nat)(y:Str):Option Nat:=if y∈r.ws then (r.rs.getD k []).getD (r.ws.idxOf y) none else some k
theorem fh{l:List Str}(nd:l.Nodup){i:Nat}(h:i<l.length):l.idxOf l[i]=i:=by
 have hm:=List.idxOf_lt_length_iff.mpr (List.getElem_mem h);exact(List.getElem_inj nd (h₀:=hm) (h₁:=h)).mp (List.getElem_idxOf hm)
theorem jz{r:Rl}(nd:r.ws.Nodup):(aX r).ws.Nodup:=by
 show ((places (af r.rs) r.ws.length).map fun x=>r.ws.getD x default).Nodup
 have h:(places (af r.rs) r.ws.length).Nodup:=List.Pairwise.filter _ List.nodup_range
 refine List.pairwise_map.mpr (List.Pairwise.imp_of_mem (fun {x y} hx hy hab e=>hab ?_) h)
 have hx':=bX hx;have hy':=bX hy;rw[aI hx',aI hy']at e
 exact(List.getElem_inj nd).mp e
theorem pM{r:Rl}(nd:r.ws.Nodup){x:Nat}(hx:x<r.ws.length):r.ws[x]∈(aX r).ws ↔ x∈places (af r.rs) r.ws.length:=by
 show r.ws[x]∈((places (af r.rs) r.ws.length).map fun x=>r.ws.getD x default) ↔ _
 constructor
 ·intro h
  obtain⟨y,hy,e⟩:=List.mem_map.mp h
  rw[aI (bX hy)]at e
  have:=(List.getElem_inj nd).mp e
  exact this ▸ hy
 ·exact fun h=>List.mem_map.mpr ⟨x,h,aI hx⟩
theorem sN{r:Rl}(ok:bm r)(nd:r.ws.Nodup){k:Nat}(h:d_ r.rs k){x:Nat}(hx:x<r.ws.length):aw (aX r) (iR r.rs k) r.ws[x]=(aw r k r.ws[x]).map (iR r.rs):=by
 have hlt:=uA h
 have e1:aw r k r.ws[x]=(r.rs.getD k []).getD x none:=by
  unfold aw;rw[if_pos (List.getElem_mem hx),fh nd hx]
 rw[e1,← B7 h];unfold aw
 by_cases hm:r.ws[x]∈(aX r).ws
 ·rw[if_pos hm]
  have hpl:=(pM nd hx).mp hm;obtain⟨q,hq,eq⟩:=List.mem_iff_getElem.mp hpl
  have hq':q<(aX r).ws.length:=by rw[show (aX r).ws=(places (af r.rs) r.ws.length).map (fun x=>r.ws.getD x default) from rfl,List.length_map]; exact hq
  have ew:(aX r).ws[q]=r.ws[x]:=by
   have z:(aX r).ws[q]? = some r.ws[x]:=by
    rw[show (aX r).ws=(places (af r.rs) r.ws.length).map (fun x=>r.ws.getD x default) from rfl,List.getElem?_map,List.getElem?_eq_getElem hq,eq]
    show some (r.ws.getD x default)=_
    rw[aI hx]
   rw[List.getElem?_eq_getElem hq']at z
   exact Option.some.inj z
  have ei:(aX r).ws.idxOf r.ws[x]=q:=by rw[← ew]; exact fh (jz nd) hq'
  rw[ei];show ((db (af r.rs) (places (af r.rs) r.ws.length)).getD (iR r.rs k) []).getD q none=_
  rw[jJ hlt,aI (by rw[List.length_map]; exact hq),List.getElem_map,eq]
 ·rw[if_neg hm]
  have hpl:x∉places (af r.rs) r.ws.length:=fun z=>hm ((pM nd hx).mpr z)
  have hd:dR (af r.rs) x=false:=by
   cases hd:dR (af r.rs) x with
   | false=>rfl
   | true=>exact absurd (List.mem_filter.mpr ⟨List.mem_range.mpr hx,hd⟩) hpl
  exact(jT hd hlt).symm
theorem zg{r:Rl}(ok:bm r)(nd:r.ws.Nodup){k k':Nat}(h:k<r.rs.length)(hk:some k'∈r.rs.getD k []):∃ x,∃ hx:x<r.ws.length,aw r k r.ws[x]=some k':=by
 rw[aI h]at hk
 obtain⟨x,hx,e⟩:=List.mem_iff_getElem.mp hk
 have hl:=(ok.row _ (List.getElem_mem h)).1;refine⟨x,by omega,?_⟩
 unfold aw;rw[if_pos (List.getElem_mem _),fh nd (by omega),aI h,aI hx,e]
theorem sQ{r:Rl}(ok:bm r)(nd:r.ws.Nodup){k k':Nat}(h:d_ r.rs k){x:Nat}(hx:x<r.ws.length)(e:aw r k r.ws[x]=some k'):d_ r.rs k':=by
 unfold aw at e;have hl:=(ok.row _ (List.getElem_mem h.lt)).1;have hrow:r.rs.getD k []=r.rs[k]'h.lt:=aI h.lt
 rw[if_pos (List.getElem_mem hx),fh nd hx,hrow,aI (by omega)]at e
 refine vW (m:=r.ws.length) ⟨ok.n0,fun x hx=>(ok.row x hx).1,fun x hx=>(ok.row x hx).2⟩ h ?_
 rw[hrow,← e]; exact List.getElem_mem _
theorem xH{x y:Str}(h:x.cps.toList=y.cps.toList):x=y:=by
 cases x; cases y
 have:=Array.ext' h
 simp_all
theorem kC:∀ (xs:List Str),sortedS xs=true→xs.Pairwise (fun a b=>a.cps.toList≤b.cps.toList)
 | [],_=>.nil
 | [x],_=>by simp
 | x::y::r,h=>by
  have h':(!ltCps y.cps.toList x.cps.toList&&sortedS (y::r))=true:=h
  rw[Bool.and_eq_true,ltCps_eq]at h'
  have h1:x.cps.toList≤y.cps.toList:=List.not_lt.mp (by simpa using h'.1)
  have ih:=kC (y::r) h'.2;refine List.pairwise_cons.mpr ⟨fun z hz=>?_,ih⟩
  rcases List.mem_cons.mp hz with rfl | hz
  ·exact h1
  ·exact List.le_trans h1 ((List.pairwise_cons.mp ih).1 z hz)
theorem vw{xs ys:List Str}(n1:xs.Nodup)(n2:ys.Nodup)(s1:sortedS xs=true)(s2:sortedS ys=true)(h:∀ x,x∈xs ↔ x∈ys):xs=ys:=
 ((List.perm_ext_iff_of_nodup n1 n2).mpr h).eq_of_pairwise (fun a b _ _ z1 z2=>xH (List.le_antisymm z1 z2)) (kC xs s1) (kC ys s2)
theorem mF:∀ (xs:List Str),xs.Pairwise (fun a b=>a.cps.toList≤b.cps.toList)→sortedS xs=true
 | [],_=>rfl
 | [x],_=>rfl
 | x::y::r,h=>by
  obtain⟨h1,h2⟩:=List.pairwise_cons.mp h
  show (!ltCps y.cps.toList x.cps.toList&&sortedS (y::r))=true
  rw[mF (y::r) h2,ltCps_eq];have:=List.not_lt.mpr (h1 y List.mem_cons_self)
  simpa using this
structure sj (R:aV):Prop where
 rng:∀ t,aE R t=List.range (aE R t).length
 led:∀ t,t<R.length→t<(aE R t).length
theorem oB{r:Rl}(ok:bm r):sj (aX r).rs:=by
 have h:=sM (kg ok);refine⟨fun t=>?_,fun t ht=>?_⟩
 ·rw[dN,nK h,List.length_range]
 ·rw[dN,dH]at ht
  rw[dN,nK h,List.length_range];exact oC h ht
theorem qK{r:Rl}(ok:bm r):ah (aX r).rs=List.range (aX r).rs.length:=by
 have h:=sM (kg ok);rw[dN,qW h,dH]
abbrev Pr:=Option Nat × Option Nat
def gP(r:Rl)(o:Option Nat)(y:Str):Option Nat:=o.bind fun k=>aw r k y
def dc(a b:Rl)(p:Pr)(y:Str):Pr:=(gP a p.1 y,gP b p.2 y)
def ju(a b:Rl)(p:Pr):Prop:=(∀ k,p.1=some k→k<a.rs.length)∧∀ k,p.2=some k→k<b.rs.length
theorem fL{r:Rl}(ok:bm r){k k':Nat}{y:Str}(hk:k<r.rs.length)(e:aw r k y=some k'):k'<r.rs.length:=by
 unfold aw at e
 by_cases h:y∈r.ws
 ·rw[if_pos h,aI hk]at e
  have hx:=ok.row _ (List.getElem_mem hk);have hi:r.ws.idxOf y<(r.rs[k]).length:=by rw[hx.1]; exact List.idxOf_lt_length_iff.mpr h
  rw[aI hi]at e
  exact hx.2 k' (e ▸ List.getElem_mem hi)
 ·rw[if_neg h]at e
  cases e; exact hk
theorem pW{r:Rl}(ok:bm r){o:Option Nat}{y:Str}(ho:∀ k,o=some k→k<r.rs.length):∀ k,gP r o y=some k→k<r.rs.length:=fun k e=>by
 cases o with
 | none=>cases e
 | some j=>exact fL ok (ho j rfl) e
theorem By{a b:Rl}(oa:bm a)(ob:bm b){p:Pr}(h:ju a b p)(y:Str):ju a b (dc a b p y):=⟨pW oa h.1,pW ob h.2⟩
theorem oY{a b:Rl}{y:Str}(ha:y∉a.ws)(hb:y∉b.ws)(p:Pr):dc a b p y=p:=by
 obtain⟨p1,p2⟩:=p
 have e1:gP a p1 y=p1:=by
  cases p1 with
  | none=>rfl
  | some k=>show aw a k y=some k; unfold aw; rw[if_neg ha]
 have e2:gP b p2 y=p2:=by
  cases p2 with
  | none=>rfl
  | some k=>show aw b k y=some k; unfold aw; rw[if_neg hb]
 show (gP a p1 y,gP b p2 y)=_
 rw[e1,e2]
def bD(br:Pr→Bool)(o:List Pr)(t:Pr):List Pr:=if t∈o then o else if br t then o else o++[t]
def b8(a b:Rl)(us:List Str)(p:Pr):List Pr:=us.map (dc a b p)
def aG(br:Pr→Bool)(a b:Rl)(us:List Str):Nat→List Pr
 | 0=>[(some 0,some 0)]
 | r+1=>if r<(aG br a b us r).length then (b8 a b us ((aG br a b us r).getD r (none,none))).foldl (bD br) (aG br a b us r) else aG br a b us r
def bq(br:Pr→Bool)(a b:Rl)(us:List Str)(r:Nat):Pr:=(aG br a b us r).getD r (none,none)
def c_(o:List Pr)(t:Pr):Option Nat:=if t∈o then some (o.idxOf t) else none
def ck(br:Pr→Bool)(a b:Rl)(us:List Str)(r:Nat):List (Option Nat):=(b8 a b us (bq br a b us r)).map (c_ (aG br a b us (r+1)))
def de(br:Pr→Bool)(a b:Rl)(us:List Str)(M:Nat):Rl:=⟨a.s,us,(List.range M).map (ck br a b us)⟩
section
variable{br:Pr→Bool}{a b:Rl}{us:List Str}
theorem u0(o:List Pr)(t:Pr):∃ x,bD br o t=o++x:=by
 unfold bD; split
 ·exact⟨[],by simp⟩
 ·split
  ·exact⟨[],by simp⟩
  ·exact⟨_,rfl⟩
theorem eX:∀ (ts o:List Pr),∃ x,ts.foldl (bD br) o=o++x
 | [],o=>⟨[],by simp⟩
 | t::ts,o=>by
  obtain⟨x,e⟩:=u0 (br:=br) o t
  obtain⟨y,e2⟩:=eX ts (bD br o t)
  exact⟨x++y,by rw[List.foldl_cons,e2,e,List.append_assoc]⟩
structure eO (br:Pr→Bool) (a b:Rl) (o:List Pr):Prop where
 nd:o.Nodup
 inn:∀ t∈o,ju a b t
 nb:∀ t∈o,br t=false
theorem v4{o:List Pr}{t:Pr}(h:eO br a b o)(ht:ju a b t):eO br a b (bD br o t):=by
 unfold bD; split
 ·exact h
 ·rename_i hn
  split
  ·exact h
  ·rename_i hb
   refine⟨List.nodup_append.mpr ⟨h.nd,by simp,fun x hx y hy e=>hn (by rw[List.mem_singleton.mp hy]at e; exact e ▸ hx)⟩,fun x hx=>?_,fun x hx=>?_⟩
   ·rcases List.mem_append.mp hx with z | z
    ·exact h.inn x z
    ·rw[List.mem_singleton.mp z]; exact ht
   ·rcases List.mem_append.mp hx with z | z
    ·exact h.nb x z
    ·rw[List.mem_singleton.mp z]; simpa using hb
theorem kt:∀ (ts:List Pr) {o:List Pr},eO br a b o→(∀ t∈ts,ju a b t)→eO br a b (ts.foldl (bD br) o)
 | [],o,h,_=>h
 | t::ts,o,h,ht=>kt ts (v4 h (ht t (by simp))) fun x hx=>ht x (by simp[hx])
theorem sy(oa:bm a)(ob:bm b){p:Pr}(h:ju a b p):∀ t∈b8 a b us p,ju a b t:=fun t ht=>by
 obtain⟨y,_,rfl⟩:=List.mem_map.mp ht
 exact By oa ob h y
theorem getD_mem{o:List Pr}{r:Nat}(h:r<o.length):o.getD r (none,none)∈o:=by
 rw[aI h]; exact List.getElem_mem h
theorem fR(oa:bm a)(ob:bm b)(h0:br (some 0,some 0)=false):∀ r,eO br a b (aG br a b us r)∧1≤(aG br a b us r).length
 | 0=>⟨⟨by simp[aG],fun t ht=>by
   simp[aG]at ht
   rw[ht]; exact⟨fun k e=>by cases e; have:=oa.n0; omega,fun k e=>by cases e; have:=ob.n0; omega⟩,fun t ht=>by simp[aG]at ht; rw[ht]; exact h0⟩,by simp[aG]⟩
 | r+1=>by
  obtain⟨h,h1⟩:=fR oa ob h0 r
  unfold aG;split
  ·rename_i hr
   obtain⟨x,e⟩:=eX (br:=br) (b8 a b us ((aG br a b us r).getD r (none,none))) (aG br a b us r)
   exact⟨kt _ h (sy oa ob (h.inn _ (getD_mem hr))),by rw[e,List.length_append]; omega⟩
  ·exact⟨h,h1⟩
theorem iO(r:Nat):∀ s,∃ x,aG br a b us (r+s)=aG br a b us r++x
 | 0=>⟨[],by simp⟩
 | s+1=>by
  obtain⟨x,e⟩:=iO r s
  show ∃ x,(if r+s<(aG br a b us (r+s)).length then _ else aG br a b us (r+s))=_
  split
  ·obtain⟨y,e2⟩:=eX (br:=br) (b8 a b us ((aG br a b us (r+s)).getD (r+s) (none,none))) (aG br a b us (r+s))
   exact⟨x++y,e2.trans (by rw[e,List.append_assoc])⟩
  ·exact⟨x,e⟩
theorem j4:∀ (ts o:List Pr) {t:Pr},t∈ts→br t=false→t∈ts.foldl (bD br) o
 | t'::ts,o,t,h,hn=>by
  rcases List.mem_cons.mp h with e | h
  ·subst e
   obtain⟨x,e⟩:=eX (br:=br) ts (bD br o t)
   rw[List.foldl_cons,e];refine List.mem_append_left _ ?_
   unfold bD; split
   ·assumption
   ·rw[if_neg (by rw[hn]; decide)]; simp
  ·exact j4 ts _ h hn
theorem wX{o x:List Pr}{t:Pr}(h:t∈o∨t∉o++x):c_ (o++x) t=c_ o t:=by
 unfold c_;rcases h with h | h
 ·rw[if_pos h,if_pos (List.mem_append_left _ h),List.idxOf_append,if_pos h]
 ·rw[if_neg h,if_neg (fun z=>h (List.mem_append_left _ z))]
structure Whole (br:Pr→Bool) (a b:Rl) (us:List Str) (M:Nat):Prop where
 oa:bm a
 ob:bm b
 b0:br (some 0,some 0)=false
 ws:∀ y,y∈us ↔ y∈a.ws∨y∈b.ws
 nd:us.Nodup
 M1:M=(aG br a b us M).length
theorem Whole.ord(h:Whole br a b us M):eO br a b (aG br a b us M):=(fR h.oa h.ob h.b0 M).1
theorem Whole.zero(h:Whole br a b us M):(aG br a b us M)[0]? = some (some 0,some 0):=by
 obtain⟨x,e⟩:=iO (br:=br) (a:=a) (b:=b) (us:=us) 0 M
 rw[Nat.zero_add]at e
 rw[e]; rfl
theorem Whole.pos(h:Whole br a b us M):1≤M:=by rw[h.M1]; exact(fR h.oa h.ob h.b0 M).2
theorem Whole.here(h:Whole br a b us M){i:Nat}(hi:i<M):i<(aG br a b us i).length∧bq br a b us i=(aG br a b us M)[i]'(by rw[← h.M1]; exact hi):=by
 have hl:i<(aG br a b us i).length:=by
  refine Classical.byContradiction fun hn=>?_
  have hfix:∀ k,aG br a b us (i+k)=aG br a b us i:=by
   intro k
   induction k with
   | zero=>rfl
   | succ k ih=>
    show (if i+k<(aG br a b us (i+k)).length then _ else aG br a b us (i+k))=_
    rw[if_neg (by rw[ih]; omega),ih]
  have e:=hfix (M - i);rw[show i+(M - i)=M by omega]at e
  have:=h.M1
  rw[e]at this
  omega
 refine⟨hl,?_⟩
 obtain⟨x,e⟩:=iO (br:=br) (a:=a) (b:=b) (us:=us) i (M - i)
 rw[show i+(M - i)=M by omega]at e
 unfold bq;rw[aI hl];have:(aG br a b us M)[i]? = some ((aG br a b us i)[i]):=by rw[e,List.getElem?_append_left hl,List.getElem?_eq_getElem hl]
 rw[List.getElem?_eq_getElem (by rw[← h.M1]; exact hi)]at this
 exact(Option.some.inj this).symm
theorem Whole.next(h:Whole br a b us M){i:Nat}(hi:i<M):aG br a b us (i+1)=(b8 a b us (bq br a b us i)).foldl (bD br) (aG br a b us i):=by
 show (if i<(aG br a b us i).length then _ else _)=_
 rw[if_pos (h.here hi).1]; rfl
theorem Whole.num(h:Whole br a b us M){i:Nat}(hi:i<M){t:Pr}(ht:t∈b8 a b us (bq br a b us i)):c_ (aG br a b us (i+1)) t=if br t then none else some ((aG br a b us M).idxOf t):=by
 obtain⟨x,e⟩:=iO (br:=br) (a:=a) (b:=b) (us:=us) (i+1) (M - (i+1))
 rw[show i+1+(M - (i+1))=M by omega]at e
 have o1:=(fR (us:=us) h.oa h.ob h.b0 (i+1)).1
 cases hb:br t with
 | true=>
  have:t∉aG br a b us (i+1):=fun z=>by have:=o1.nb t z; rw[hb]at this; cases this
  unfold c_;rw[if_neg this,if_pos rfl]
 | false=>
  have hm:t∈aG br a b us (i+1):=by rw[h.next hi]; exact j4 _ _ ht hb
  rw[if_neg (by decide),e,List.idxOf_append,if_pos hm]
  unfold c_;rw[if_pos hm]
theorem Whole.closed(h:Whole br a b us M){i:Nat}(hi:i<M){y:Str}(hb:br (dc a b ((aG br a b us M)[i]'(by rw[← h.M1]; exact hi)) y)=false):dc a b ((aG br a b us M)[i]'(by rw[← h.M1]; exact hi)) y∈aG br a b us M:=by
 by_cases hy:y∈us
 ·obtain⟨x,e⟩:=iO (br:=br) (a:=a) (b:=b) (us:=us) (i+1) (M - (i+1))
  rw[show i+1+(M - (i+1))=M by omega]at e
  have hm:dc a b ((aG br a b us M)[i]'(by rw[← h.M1]; exact hi)) y∈aG br a b us (i+1):=by
   rw[h.next hi,(h.here hi).2];exact j4 _ _ (List.mem_map.mpr ⟨y,hy,rfl⟩) hb
  have:=List.mem_append_left x hm
  rw[← e]at this
  exact this
 ·rw[h.ws,not_or]at hy
  rw[oY hy.1 hy.2];exact List.getElem_mem _
theorem iJ(M:Nat):(de br a b us M).rs.length=M:=by simp[de]
theorem wV{M i:Nat}(hi:i<M):(de br a b us M).rs.getD i []=ck br a b us i:=by
 rw[aI (by rw[iJ]; exact hi)]
 simp[de]
theorem jP(i:Nat):(ck br a b us i).length=us.length:=by unfold ck b8; simp
theorem Whole.step(h:Whole br a b us M){i:Nat}(hi:i<M)(y:Str):aw (de br a b us M) i y=if br (dc a b ((aG br a b us M)[i]'(by rw[← h.M1]; exact hi)) y) then none else some ((aG br a b us M).idxOf (dc a b ((aG br a b us M)[i]'(by rw[← h.M1]; exact hi)) y)):=by
 have hM:=h.M1;unfold aw
 by_cases hy:y∈us
 ·rw[if_pos (show y∈(de br a b us M).ws from hy),wV hi]
  have hx:us.idxOf y<us.length:=List.idxOf_lt_length_iff.mpr hy
  show (ck br a b us i).getD (us.idxOf y) none=_
  rw[aI (by rw[jP]; exact hx)]
  have e1:(ck br a b us i)[us.idxOf y]'(by rw[jP]; exact hx)=c_ (aG br a b us (i+1)) (dc a b (bq br a b us i) y):=by
   simp only[ck,b8,List.getElem_map,List.getElem_idxOf hx]
  rw[e1,h.num hi (List.mem_map.mpr ⟨y,hy,rfl⟩),(h.here hi).2]
 ·rw[if_neg (show y∉(de br a b us M).ws from hy)]
  have hy':=hy;rw[h.ws,not_or]at hy'
  have hm:(aG br a b us M)[i]'(by omega)∈aG br a b us M:=List.getElem_mem _
  rw[oY hy'.1 hy'.2,h.ord.nb _ hm,if_neg (by decide)]
  have:=h.ord.nd.idxOf_getElem i (by omega)
  rw[this]
theorem Whole.rl(h:Whole br a b us M)(hM:M≤60)(hu:us.length≤16)(hl:∀ u∈us,u.length≤10):bm (de br a b us M):=by
 refine⟨h.oa.s,hu,by rw[iJ]; exact h.pos,by rw[iJ]; exact hM,fun x hx=>?_,hl⟩
 obtain⟨i,hi,rfl⟩:=List.mem_map.mp hx
 have hi':=List.mem_range.mp hi;refine⟨jP i,fun k hk=>?_⟩
 rw[iJ];unfold ck at hk;obtain⟨t,ht,e⟩:=List.mem_map.mp hk
 rw[h.num hi' ht]at e
 split at e
 ·cases e
 ·rename_i hb
  have hb':br t=false:=by simpa using hb
  cases e;obtain⟨y,hy,rfl⟩:=List.mem_map.mp ht
  rw[(h.here hi').2]at hb' ⊢
  have:=h.closed hi' hb'
  conv=>rhs; rw[h.M1]
  exact List.idxOf_lt_length_iff.mpr this
end
theorem p6{n x y x' y':Nat}(h1:y<n)(h2:y'<n)(e:x * n+y=x' * n+y'):x=x'∧y=y':=by
 have a1:(x * n+y) % n=y:=by rw[Nat.add_comm,Nat.add_mul_mod_self_right,Nat.mod_eq_of_lt h1]
 have a2:(x' * n+y') % n=y':=by rw[Nat.add_comm,Nat.add_mul_mod_self_right,Nat.mod_eq_of_lt h2]
 have ey:y=y':=by rw[← a1,← a2,e]
 subst ey;exact⟨Nat.eq_of_mul_eq_mul_right (by omega) (show x * n=x' * n by omega),rfl⟩
def km:Option Nat→Nat
 | none=>0
 | some k=>k+1
theorem kN{o:Option Nat}{n:Nat}(h:∀ k,o=some k→k<n):km o<n+1:=by
 cases o with
 | none=>exact Nat.succ_pos _
 | some k=>exact Nat.succ_lt_succ (h k rfl)
theorem qi{o o':Option Nat}(h:km o=km o'):o=o':=by
 cases o <;> cases o' <;> simp[km]at h ⊢ <;> omega
def pT(n:Nat)(p:Pr):Nat:=km p.1 * (n+1)+km p.2
theorem rz{a b:Rl}{p:Pr}(h:ju a b p):pT b.rs.length p<(a.rs.length+1) * (b.rs.length+1):=by
 have h1:=kN h.1;have h2:=kN h.2;unfold pT;generalize km p.1=x at h1;generalize km p.2=y at h2
 calc x * (b.rs.length+1)+y<x * (b.rs.length+1)+(b.rs.length+1):=by omega
  _=(x+1) * (b.rs.length+1):=by rw[Nat.add_mul,Nat.one_mul]
  _≤(a.rs.length+1) * (b.rs.length+1):=Nat.mul_le_mul_right _ (by omega)
theorem yi{a b:Rl}{p q:Pr}(h:ju a b p)(h':ju a b q)(e:pT b.rs.length p=pT b.rs.length q):p=q:=by
 obtain⟨e1,e2⟩:=p6 (kN h.2) (kN h'.2) e
 exact Prod.ext (qi e1) (qi e2)
structure Alike (a b:Rl) (E:Nat→Nat→Prop):Prop where
 z:E 0 0
 lt:∀ i j,E i j→i<a.rs.length∧j<b.rs.length
 st:∀ i j y,E i j→(aw a i y=none∧aw b j y=none)∨∃ i' j',aw a i y=some i'∧aw b j y=some j'∧E i' j'
theorem Alike.symm{a b:Rl}{E:Nat→Nat→Prop}(h:Alike a b E):Alike b a (fun j i=>E i j):=
 ⟨h.z,fun i j e=>(h.lt j i e).symm,fun i j y e=>by
  rcases h.st j i y e with ⟨h1,h2⟩ | ⟨i',j',h1,h2,h3⟩
  ·exact .inl ⟨h2,h1⟩
  ·exact .inr ⟨j',i',h2,h1,h3⟩⟩
structure ff (A:Rl):Prop where
 ok:bm A
 nd:A.ws.Nodup
 so:sortedS A.ws=true
 ks:ah A.rs=List.range A.rs.length
 io:sj A.rs
 ds:∀ y∈A.ws,∃ i,i<A.rs.length∧aw A i y≠some i
theorem Alike.total{a b:Rl}{E:Nat→Nat→Prop}(h:Alike a b E)(A:ff a):∀ i,i<a.rs.length→∃ j,E i j:=by
 intro i hi
 have hm:i∈aE a.rs i:=by rw[A.io.rng i]; exact List.mem_range.mpr (A.io.led i hi)
 refine vZ (N:=a.rs) (fun i=>∃ j,E i j) ⟨0,h.z⟩ ?_ i i hm
 rintro k ⟨j,e⟩ k' hk
 obtain⟨x,hx,ex⟩:=zg A.ok A.nd (h.lt k j e).1 hk
 rcases h.st k j _ e with ⟨h1,_⟩ | ⟨i',j',h1,_,h3⟩
 ·rw[ex]at h1; cases h1
 ·rw[ex]at h1; cases h1; exact⟨j',h3⟩
theorem iT{A:Rl}(ok:bm A)(nd:A.ws.Nodup){u p:Nat}(hu:u<A.rs.length)(hp:p<A.ws.length):(A.rs.getD u [])[p]? = some (aw A u A.ws[p]):=by
 have hl:=(ok.row _ (List.getElem_mem hu)).1;unfold aw;rw[if_pos (List.getElem_mem hp),fh nd hp,aI hu,aI (by omega),List.getElem?_eq_getElem (by omega)]
theorem Alike.inj{a b:Rl}{E:Nat→Nat→Prop}(h:Alike a b E)(B:ff b){i j j':Nat}(e1:E i j)(e2:E i j'):j=j':=by
 have key:=jX (R:=b.rs) (fun u v=>∃ i,E i u∧E i v) (fun u v huv hu hv p=>by
  obtain⟨i,e1,e2⟩:=huv
  have lu:=(B.ok.row _ (List.getElem_mem hu)).1;have lv:=(B.ok.row _ (List.getElem_mem hv)).1
  by_cases hp:p<b.ws.length
  ·rw[iT B.ok B.nd hu hp,iT B.ok B.nd hv hp]
   rcases h.st i u b.ws[p] e1 with ⟨h1,h2⟩ | ⟨i',x,h1,h2,h3⟩
   ·rcases h.st i v b.ws[p] e2 with ⟨g1,g2⟩ | ⟨i2,y,g1,g2,g3⟩
    ·rw[h2,g2]; exact .inr (.inl ⟨rfl,rfl⟩)
    ·rw[h1]at g1; cases g1
   ·rcases h.st i v b.ws[p] e2 with ⟨g1,g2⟩ | ⟨i2,y,g1,g2,g3⟩
    ·rw[h1]at g1; cases g1
    ·rw[h1]at g1; cases g1
     rw[h2,g2];exact .inr (.inr ⟨x,y,rfl,rfl,⟨i',h3,g3⟩,(h.lt _ _ h3).2,(h.lt _ _ g3).2⟩)
  ·refine .inl ⟨?_,?_⟩
   ·rw[aI hu,List.getElem?_eq_none_iff]; omega
   ·rw[aI hv,List.getElem?_eq_none_iff]; omega)
 have hj:=(h.lt _ _ e1).2;have hj':=(h.lt _ _ e2).2;have e:(ah b.rs)[j]? = (ah b.rs)[j']?:=key _ j j' ⟨i,e1,e2⟩ hj hj'
 rw[B.ks,List.getElem?_range hj,List.getElem?_range hj']at e
 exact Option.some.inj e
theorem Alike.word{a b:Rl}{E:Nat→Nat→Prop}(h:Alike a b E)(A:ff a)(B:ff b){y:Str}(hy:y∈a.ws):y∈b.ws:=by
 obtain⟨i,hi,hn⟩:=A.ds y hy
 obtain⟨j,e⟩:=h.total A i hi
 refine Classical.byContradiction fun hb=>?_
 have e2:aw b j y=some j:=by unfold aw; rw[if_neg hb]
 rcases h.st i j y e with ⟨_,h2⟩ | ⟨i',j',h1,h2,h3⟩
 ·rw[e2]at h2; cases h2
 ·rw[e2]at h2; cases h2
  have:i'=i:=h.symm.inj A h3 e
  rw[this]at h1
  exact hn h1
inductive Beside2 (E:Nat→Nat→Prop):List Nat→List Nat→Prop where
 | nil:Beside2 E [] []
 | cons {a b:Nat} {s t:List Nat}:E a b→Beside2 E s t→Beside2 E (a::s) (b::t)
theorem Beside2.len{E:Nat→Nat→Prop}{s t:List Nat}(h:Beside2 E s t):s.length=t.length:=by
 induction h with
 | nil=>rfl
 | cons _ _ ih=>simp[ih]
theorem Beside2.get{E:Nat→Nat→Prop}{s t:List Nat}(h:Beside2 E s t):∀ (i a b:Nat),s[i]? = some a→t[i]? = some b→E a b:=by
 induction h with
 | nil=>intro i a b e; simp at e
 | cons h1 _ ih=>
  intro i a b e1 e2
  cases i with
  | zero=>simp at e1 e2; rw[← e1,← e2]; exact h1
  | succ i=>exact ih i a b (by simpa using e1) (by simpa using e2)
theorem Beside2.snoc{E:Nat→Nat→Prop}{s t:List Nat}{a b:Nat}(h:Beside2 E s t)(e:E a b):Beside2 E (s++[a]) (t++[b]):=by
 induction h with
 | nil=>exact .cons e .nil
 | cons h1 _ ih=>exact .cons h1 ih
theorem Beside2.mem{E:Nat→Nat→Prop}(inj:∀ i j j',E i j→E i j'→j=j')(inj':∀ i i' j,E i j→E i' j→i=i'){s t:List Nat}(h:Beside2 E s t){a b:Nat}(e:E a b):a∈s ↔ b∈t:=by
 induction h with
 | nil=>simp
 | @cons x y _ _ h1 _ ih=>
  rw[List.mem_cons,List.mem_cons,ih]
  constructor
  ·rintro(z | z)
   ·subst z; exact .inl (inj _ _ _ e h1)
   ·exact .inr z
  ·rintro(z | z)
   ·subst z; exact .inl (inj' _ _ _ e h1)
   ·exact .inr z
theorem Beside2.grow{E:Nat→Nat→Prop}(inj:∀ i j j',E i j→E i j'→j=j')(inj':∀ i i' j,E i j→E i' j→i=i'):∀ (x y:List (Option Nat)) {s t:List Nat},Beside2 E s t→x.length=y.length→(∀ p:Nat,p<x.length→(x[p]? = some none∧y[p]? = some none)∨∃ u v,x[p]? = some (some u)∧y[p]? = some (some v)∧E u v)→Beside2 E (aJ s x) (aJ t y)
 | [],[],s,t,h,_,_=>h
 | [],_::_,_,_,_,hl,_=>by simp at hl
 | _::_,[],_,_,_,hl,_=>by simp at hl
 | o::x,o'::y,s,t,h,hl,hp=>by
  have hr:∀ p:Nat,p<x.length→(x[p]? = some none∧y[p]? = some none)∨∃ u v,x[p]? = some (some u)∧y[p]? = some (some v)∧E u v:=fun p hp'=>by
   have:=hp (p+1) (by simpa using hp')
   simpa using this
  have hl':x.length=y.length:=by simpa using hl
  rcases hp 0 (by simp) with ⟨h1,h2⟩ | ⟨u,v,h1,h2,h3⟩
  ·have e1:o=none:=by simpa using h1
   have e2:o'=none:=by simpa using h2
   subst e1 e2;exact Beside2.grow inj inj' x y h hl' hr
  ·have e1:o=some u:=by simpa using h1
   have e2:o'=some v:=by simpa using h2
   subst e1 e2;show Beside2 E (aJ (if u∈s then s else s++[u]) x) (aJ (if v∈t then t else t++[v]) y)
   refine Beside2.grow inj inj' x y ?_ hl' hr
   by_cases c:u∈s
   ·rw[if_pos c,if_pos ((h.mem inj inj' h3).mp c)]; exact h
   ·rw[if_neg c,if_neg (fun z=>c ((h.mem inj inj' h3).mpr z))]; exact h.snoc h3
theorem Alike.one{A B:Rl}{E:Nat→Nat→Prop}(h:Alike A B E)(hs:A.s=B.s)(LA:ff A)(LB:ff B):A=B:=by
 have inj:∀ i j j',E i j→E i j'→j=j':=fun i j j' e1 e2=>h.inj LB e1 e2
 have inj':∀ i i' j,E i j→E i' j→i=i':=fun i i' j e1 e2=>h.symm.inj LA e1 e2
 have hw:A.ws=B.ws:=vw LA.nd LB.nd LA.so LB.so fun y=>⟨h.word LA LB,h.symm.word LB LA⟩
 have row:∀ i j,E i j→∀ p:Nat,p<A.ws.length→((A.rs.getD i [])[p]? = some none∧(B.rs.getD j [])[p]? = some none)∨∃ u v,(A.rs.getD i [])[p]? = some (some u)∧(B.rs.getD j [])[p]? = some (some v)∧E u v:=fun i j e p hp=>by
  have hp':p<B.ws.length:=by rw[← hw]; exact hp
  have hww:B.ws[p]=A.ws[p]:=by simp only[hw]
  rw[iT LA.ok LA.nd (h.lt _ _ e).1 hp,iT LB.ok LB.nd (h.lt _ _ e).2 hp',hww];rcases h.st i j A.ws[p] e with ⟨h1,h2⟩ | ⟨i',j',h1,h2,h3⟩
  ·exact .inl ⟨by rw[h1],by rw[h2]⟩
  ·exact .inr ⟨i',j',by rw[h1],by rw[h2],h3⟩
 have rl:∀ i,i<A.rs.length→(A.rs.getD i []).length=A.ws.length:=fun i hi=>by rw[aI hi]; exact(LA.ok.row _ (List.getElem_mem hi)).1
 have rl':∀ i,i<B.rs.length→(B.rs.getD i []).length=A.ws.length:=fun i hi=>by rw[aI hi,hw]; exact(LB.ok.row _ (List.getElem_mem hi)).1
 have hb:∀ t,Beside2 E (aE A.rs t) (aE B.rs t):=by
  intro t
  induction t with
  | zero=>exact .cons h.z .nil
  | succ t ih=>
   show Beside2 E (match (aE A.rs t)[t]? with | some r=>aJ (aE A.rs t) (A.rs.getD r []) | none=>aE A.rs t) (match (aE B.rs t)[t]? with | some r=>aJ (aE B.rs t) (B.rs.getD r []) | none=>aE B.rs t)
   cases e:(aE A.rs t)[t]? with
   | none=>
    have:(aE B.rs t)[t]? = none:=by rw[List.getElem?_eq_none_iff]at e ⊢; rw[← ih.len]; exact e
    rw[this]; exact ih
   | some r=>
    have hlt:t<(aE B.rs t).length:=by rw[← ih.len]; exact(List.getElem?_eq_some_iff.mp e).1
    rw[List.getElem?_eq_getElem hlt];have er:=ih.get t r _ e (List.getElem?_eq_getElem hlt);have hlt2:=h.lt _ _ er;exact Beside2.grow inj inj' _ _ ih (by rw[rl _ hlt2.1,rl' _ hlt2.2]) (fun p hp=>row _ _ er p (by rw[← rl _ hlt2.1]; exact hp))
 have same:∀ i,i<A.rs.length→E i i:=fun i hi=>by
  have h1:=LA.io.led i hi;have h2:=hb i;have hl:=h2.len;refine h2.get i i i ?_ ?_
  ·rw[LA.io.rng i,List.getElem?_range h1]
  ·rw[LB.io.rng i,List.getElem?_range (by omega)]
 have same':∀ i,i<B.rs.length→E i i:=fun i hi=>by
  have h1:=LB.io.led i hi;have h2:=hb i;have hl:=h2.len;refine h2.get i i i ?_ ?_
  ·rw[LA.io.rng i,List.getElem?_range (by omega)]
  ·rw[LB.io.rng i,List.getElem?_range h1]
 have hlen:A.rs.length=B.rs.length:=by
  refine Nat.le_antisymm ?_ ?_
  ·refine Nat.le_of_not_lt fun c=>?_
   have:=(h.lt _ _ (same B.rs.length c)).2; omega
  ·refine Nat.le_of_not_lt fun c=>?_
   have:=(h.lt _ _ (same' A.rs.length c)).1; omega
 have hrs:A.rs=B.rs:=by
  refine List.ext_getElem hlen fun i h1 h2=>?_
  have e1:A.rs.getD i []=A.rs[i]:=aI h1
  have e2:B.rs.getD i []=B.rs[i]:=aI h2
  refine List.ext_getElem? fun p=>?_
  rw[← e1,← e2]
  by_cases hp:p<A.ws.length
  ·rcases row i i (same i h1) p hp with ⟨z1,z2⟩ | ⟨u,v,z1,z2,z3⟩
   ·rw[z1,z2]
   ·rw[z1,z2,inj _ _ _ (same u (h.lt _ _ z3).1) z3]
  ·rw[List.getElem?_eq_none (by rw[rl i h1]; omega),List.getElem?_eq_none (by rw[rl' i h2]; omega)]
 cases A; cases B
 simp only at hs hw hrs
 subst hs hw hrs
 rfl
theorem nD{r:Rl}{y:Str}(h:y∈(aX r).ws):y∈r.ws:=by
 have h':y∈((places (af r.rs) r.ws.length).map fun x=>r.ws.getD x default):=h
 obtain⟨x,hx,e⟩:=List.mem_map.mp h'
 rw[aI (bX hx)]at e
 rw[← e]; exact List.getElem_mem _
theorem qZ{r:Rl}(ok:bm r)(nd:r.ws.Nodup){k:Nat}(h:d_ r.rs k)(y:Str):aw (aX r) (iR r.rs k) y=(aw r k y).map (iR r.rs):=by
 by_cases c:y∈r.ws
 ·obtain⟨x,hx,e⟩:=List.mem_iff_getElem.mp c
  subst e;exact sN ok nd h hx
 ·have c':y∉(aX r).ws:=fun z=>c (nD z)
  unfold aw;rw[if_neg c,if_neg c']; rfl
theorem qT{r:Rl}(ok:bm r)(nd:r.ws.Nodup){k k':Nat}(h:d_ r.rs k){y:Str}(e:aw r k y=some k'):d_ r.rs k':=by
 by_cases c:y∈r.ws
 ·obtain⟨x,hx,e2⟩:=List.mem_iff_getElem.mp c
  subst e2;exact sQ ok nd h hx e
 ·unfold aw at e
  rw[if_neg c]at e
  cases e; exact h
theorem sZ{r:Rl}(ok:bm r)(nd:r.ws.Nodup):∀ y∈(aX r).ws,∃ i,i<(aX r).rs.length∧aw (aX r) i y≠some i:=by
 intro y hy
 have nl:=jz nd;have okl:=jQ ok;obtain⟨q,hq,e⟩:=List.mem_iff_getElem.mp hy
 have hq':q<(places (af r.rs) r.ws.length).length:=by rw[← v8]; exact hq
 have hm:=List.getElem_mem hq';have hd:=(List.mem_filter.mp hm).2;unfold dR at hd;rw[List.any_eq_true]at hd
 obtain⟨i,hi,hd⟩:=hd
 have hi':=List.mem_range.mp hi;have hd':=of_decide_eq_true hd;have hil:i<(aX r).rs.length:=by rw[dN,dH]; exact hi'
 refine⟨i,hil,fun z=>hd' ?_⟩
 have h1:=iT okl nl hil hq;rw[e,z,dN,jJ hi',List.getElem?_map,List.getElem?_eq_getElem hq']at h1
 exact Option.some.inj h1
theorem ko{r:Rl}(so:sortedS r.ws=true):sortedS (aX r).ws=true:=by
 refine mF _ ?_
 show ((places (af r.rs) r.ws.length).map fun x=>r.ws.getD x default).Pairwise _
 have hp:(places (af r.rs) r.ws.length).Pairwise (· < ·):=List.Pairwise.filter _ List.pairwise_lt_range
 refine List.pairwise_map.mpr (List.Pairwise.imp_of_mem (fun {x y} hx hy hab=>?_) hp)
 rw[aI (bX hx),aI (bX hy)];exact List.pairwise_iff_getElem.mp (kC _ so) x y (bX hx) (bX hy) hab
theorem vx{r:Rl}(ok:bm r)(nd:r.ws.Nodup)(so:sortedS r.ws=true):ff (aX r):=
 ⟨jQ ok,jz nd,ko so,qK ok,oB ok,sZ ok nd⟩
def lD:Sp:=fun vs H Q _=>∃ (p q:Addr) (r r':Rl),vs=[.ref p,.ref q]∧RuleAt H p r∧RuleAt H q r'∧r.s=r'.s∧Q .non H
def lK(r r':Rl)(ws:List Str):Prop:=ws.Nodup∧(∀ y,y∈ws ↔ y∈r.ws∨y∈r'.ws)∧ws.length≤32
def qv:Sp:=fun vs H Q _=>∃ (p q:Addr) (r r':Rl),vs=[.ref p,.ref q]∧RuleAt H p r∧RuleAt H q r'∧bm r∧bm r'∧∀ (l:Addr) (H':Hp) (ws:List Str),Same H H'→H l=none→H' l=some (.lst (ws.map V.str))→lK r r' ws→sortedS ws=true→Q (.ref l) H'
section
variable{P:Program}{w:World}{K:PySem.W.Frag}{mg:Str→Option Value}{base:Heap}
theorem nB(D:DefAt K mg "refuse_unlike" bM):Cal P w K mg base 1 "refuse_unlike" ["one", "other"] lD:=by
 refine D.cal (k:=0) lR (fun _ _ _ _ _ _ us hl=>match us,hl with | [_,_],_=>rfl) (fun vs H Q E h=>by obtain⟨p,q,r,r',rfl,_⟩:=h; rfl) (fun f cdv A outer s H vs Q E hr h=>?_)
 obtain⟨p,q,r,r',rfl,⟨pw,pr,as,h1,_⟩,⟨qw,qr,bs,g1,_⟩,e,hq⟩:=h
 refine⟨_,(ak (bN (aT mJ (aK (bd K) (pv 0) aj (fun _ _=>rfl)) (aK (bd K) (pv 1) aj (fun _ _=>rfl)) (aP _)) (ak oT) bt)),?_⟩
 walk_at "rd1";refine⟨_,_,.inr (SqT.of h1),j_,?_⟩
 refine⟨_,_,.inr (SqT.of g1),j_,?_⟩
 walk_at "rd1";refine bh (fun c=>absurd c (by simp[e])) (fun _=>?_)
 exact hq
theorem sn(D:DefAt K mg "words_of_both" bA) (z_sorted:mg "sorted" = none) (z_set:mg "set" = none):Cal P w K mg base 1 "words_of_both" ["one", "other"] qv:=by
 refine D.cal (k:=0) lG (fun _ _ _ _ _ _ us hl=>match us,hl with | [_,_],_=>rfl) (fun vs H Q E h=>by obtain⟨p,q,r,r',rfl,_⟩:=h; rfl) (fun f cdv A outer s H vs Q E hr h=>?_)
 obtain⟨p,q,r,r',rfl,⟨pw,pr,as,h1,h2,h3⟩,⟨qw,qr,bs,g1,g2,g3⟩,ok,ok',hq⟩:=h
 have nw:=ok.nw;have nw':=ok'.nw;refine⟨_,(ak (aL (bZ (qJ P w hr) z_sorted nQ (aa (bb (zo P w) (fA (lV K P w hr) z_set v3 (aa (aK (bd K) (pv 0) aj (fun _ _=>rfl)) ab)) (fA (lV K P w hr) z_set v3 (aa (aK (bd K) (pv 1) aj (fun _ _=>rfl)) ab))) ab)))),?_⟩
 walk_at "rd1";refine⟨_,_,.inr (SqT.of h1),aZ (j:=1) rfl,?_⟩
 refine⟨pw,r.ws,rfl,SqL.of h2,by omega,fun a ds ha hd hda hdl=>?_⟩
 have s1:=al ha (cj P w a ds);have e1:upd H a (cj P w a ds) a=some (cj P w a ds):=ae
 generalize upd H a (cj P w a ds)=H1 at s1 e1 ⊢;walk_at "rd1";refine⟨_,_,.inr (SqT.of (s1 _ _ g1)),aZ (j:=1) rfl,?_⟩
 refine⟨qw,r'.ws,rfl,SqL.of (s1 _ _ g2),by omega,fun b es hb he hea hel=>?_⟩
 have s2:=al hb (cj P w b es);have e2:upd H1 b (cj P w b es) b=some (cj P w b es):=ae
 have hab:a≠b:=aA e1 hb
 generalize upd H1 b (cj P w b es)=H2 at s2 e2 ⊢;refine⟨a,b,ds,es,rfl,rfl,hab,s2 _ _ e1,e2,by omega,fun c us hc hu hua hul=>?_⟩
 have s3:=al hc (cj P w c us);have e3:upd H2 c (cj P w c us) c=some (cj P w c us):=ae
 generalize upd H2 c (cj P w c us)=H3 at s3 e3 ⊢;walk_at "rd1";refine⟨c,us,rfl,e3,by omega,fun l ts hl hp hs=>?_⟩
 have s123:=(s1.trans s2).trans s3;exact hq l _ ts (s123.trans (al hl _)) (s123.free hl) ae ⟨hp.nodup_iff.mpr hu,fun y=>by rw[hp.mem_iff,hua,hda,hea],by rw[hp.length_eq]; omega⟩ hs
end
def PlAt(ws:List Str)(i:Nat)(kvs:List (bp × V)):Prop:=kvs.length≤i∧∀ y,aH kvs (.inr y)=if y∈ws.take i then some (V.int (ws.idxOf y:Nat)) else none
theorem PlAt.put{ws:List Str}{i:Nat}{kvs:List (bp × V)}(nd:ws.Nodup)(h:PlAt ws i kvs)(hi:i<ws.length):PlAt ws (i+1) (cL kvs (.inr ws[i]) (.int (i:Int))):=by
 refine⟨by have:=dD kvs (.inr ws[i]) (.int (i:Int)); have:=h.1; omega,fun y=>?_⟩
 have ht:∀ z,z∈ws.take (i+1) ↔ z∈ws.take i∨z=ws[i]:=fun z=>by
  rw[List.take_add_one,List.getElem?_eq_getElem hi,List.mem_append];show _∨z∈[ws[i]] ↔ _
  rw[List.mem_singleton]
 rw[jR,h.2 y]
 by_cases e:y=ws[i]
 ·rw[if_pos (by rw[e]),if_pos ((ht y).mpr (.inr e)),e,fh nd hi]
 ·rw[if_neg (fun z=>e (Sum.inr.inj z))]
  by_cases m:y∈ws.take i
  ·rw[if_pos m,if_pos ((ht y).mpr (.inl m))]
  ·rw[if_neg m,if_neg (fun z=>((ht y).mp z).elim m e)]
def yQ:Sp:=fun vs H Q _=>∃ (wl pd ra:Addr) (ws:List Str) (kvs:List (bp × V)) (r:Rl) (k:Nat),vs=[.ref wl,.ref pd,.int (k:Int),.ref ra]∧H wl=some (.lst (ws.map V.str))∧ws.length≤32∧H pd=some (.dK kvs)∧PlAt r.ws r.ws.length kvs∧bm r∧k<r.rs.length∧H ra=some (.lst ((r.rs.getD k []).map ar))∧
 ∀ (L:Addr) (H':Hp),Same H H'→H L=none→H' L=some (.lst ((ws.map (aw r k)).map ar))→Q (.ref L) H'
section
variable{P:Program}{w:World}{K:PySem.W.Frag}{mg:Str→Option Value}{base:Heap}
theorem A1(D:DefAt K mg "ways_for" bx):Cal P w K mg base 1 "ways_for" ["words", "places", "number", "room"] yQ:=by
 refine D.cal (k:=0) qL (fun _ _ _ _ _ _ us hl=>match us,hl with | [_,_,_,_],_=>rfl) (fun vs H Q E h=>by obtain⟨_,_,_,_,_,_,_,rfl,_⟩:=h; rfl) (fun f cdv A outer s H vs Q E hr h=>?_)
 obtain⟨wl,pd,ra,ws,kvs,r,k,rfl,hw,hn,hd,hP,ok,hk,hra,q⟩:=h
 refine⟨_,(ak (aL (dC (CompSc.to (fsc:=(defScope bx)) (N:=["words", "places", "number", "room"]) (N0:=["words", "places", "number", "room"]) (T:=["word"]) ⟨by decide +kernel,by decide +kernel,by decide +kernel,by decide +kernel,by decide +kernel,by decide +kernel,by decide +kernel⟩ rfl rfl) rfl (cx K (pv 0)) (fun _ _ _ _=>(bc 4 (show (["words", "places", "number", "room", "word"]:List Str).Nodup from by decide +kernel) (hx:=(fo (defScope bx) (by decide +kernel))) (hf:=iZ (defScope bx) (by decide +kernel)))) (b9 (show (["words", "places", "number", "room"]:List Str).length≤4 from by decide)) (fun _ _ _ _=>cD) (fun _ _ _ _=>(oW (aT (BI hr) (pv 4 (hv:=(bV (defScope bx) (by decide +kernel)))) (pv 1 (hv:=(bV (defScope bx) (by decide +kernel)))) (by with_unfolding_all rfl)) (aK (bd K) (pv 3 (hv:=(bV (defScope bx) (by decide +kernel)))) (aK (B3 K) (pv 1 (hv:=(bV (defScope bx) (by decide +kernel)))) (pv 4 (hv:=(bV (defScope bx) (by decide +kernel)))) (fun _ _=>rfl)) (fun _ _=>rfl)) (pv 2 (hv:=(bV (defScope bx) (by decide +kernel))))))))),?_⟩
 walk_at "rd1";refine⟨⟨_,SqL.of hw⟩,fun L hL=>?_⟩
 refine cT (xs:=ws.map V.str) (fun i ys H'=>Same H H'∧H' L=some (.lst ys)∧ys=((ws.take i).map (aw r k)).map ar) ⟨al hL _,ae,rfl⟩ (fun i ys H' _ h=>SqL.of (h.1 _ _ hw)) ?_ ?_
 ·rintro i ys H' v hv hi ⟨sm,hl,rfl⟩
  rw[List.length_map]at hi
  rw[List.getElem?_map,List.getElem?_eq_getElem hi]at hv
  cases hv
  have next:∀ {v:V},v=ar (aw r k ws[i])→gF (ws.map V.str).length i (fun i ys H'=>Same H H'∧H' L=some (.lst ys)∧ys=((ws.take i).map (aw r k)).map ar) L (((ws.take i).map (aw r k)).map ar) v H':=fun {v} e=>by
   refine eJ (by rw[List.length_map]; exact hi) (by simp; omega) (by rw[List.length_map]; exact cg (by omega)) hl ⟨sm.upd hL _,ae,?_⟩
   rw[e,List.take_add_one,List.getElem?_eq_getElem hi,List.map_append,List.map_append]; rfl
  walk_at "rd1";refine⟨pd,kvs,.inr ws[i],rfl,rfl,sm _ _ hd,?_⟩
  rw[hP.2,List.take_length]
  by_cases hm:ws[i]∈r.ws
  ·rw[if_pos hm]
   have hx:=ok.row _ (List.getElem_mem hk);have hj:r.ws.idxOf ws[i]<(r.rs.getD k []).length:=by rw[aI hk,hx.1]; exact List.idxOf_lt_length_iff.mpr hm
   refine⟨_,rfl,bh (fun _=>?_) (fun c=>absurd rfl c)⟩
   refine .inr ⟨pd,kvs,.inr ws[i],_,rfl,rfl,sm _ _ hd,by rw[hP.2,List.take_length,if_pos hm],?_⟩
   walk_at "rd1";refine⟨_,_,.inl (SqL.of (sm _ _ hra)),aZ (v:=ar ((r.rs.getD k []).getD (r.ws.idxOf ws[i]) none)) (by rw[List.getElem?_map,List.getElem?_eq_getElem hj,aI hj]; rfl),?_⟩
   exact next (by unfold aw; rw[if_pos hm])
  ·rw[if_neg hm]
   refine⟨_,rfl,bh (fun c=>absurd c (by decide)) (fun _=>?_)⟩
   exact next (by unfold aw; rw[if_neg hm]; rfl)
 ·rintro ys H' ⟨sm,hl,rfl⟩
  rw[List.length_map,List.take_length]at hl
  exact q L H' sm hL hl
end
def WaysAt(P:Program)(w:World)(H:Hp)(d:Addr)(r:Rl)(ws:List Str):Prop:=∃ kvs,H d=some (i0 P w d kvs)∧(∀ k,k<r.rs.length→∃ a,aH kvs (some (k:Int))=some (.ref a)∧H a=some (.lst ((ws.map (aw r k)).map ar)))∧∃ a,aH kvs none=some (.ref a)∧H a=some (.lst (ws.map fun _=>V.non))
theorem WaysAt.mono{P:Program}{w:World}{H H':Hp}{d:Addr}{r:Rl}{ws:List Str}(h:WaysAt P w H d r ws)(sm:Same H H'):WaysAt P w H' d r ws:=by
 obtain⟨kvs,h1,h2,a,h3,h4⟩:=h
 exact⟨kvs,sm _ _ h1,fun k hk=>by obtain⟨a,e1,e2⟩:=h2 k hk; exact⟨a,e1,sm _ _ e2⟩,a,h3,sm _ _ h4⟩
def lT(P:Program)(w:World):Sp:=fun vs H Q _=>∃ (p wl:Addr) (r:Rl) (ws:List Str),vs=[.ref p,.ref wl]∧RuleAt H p r∧bm r∧r.ws.Nodup∧H wl=some (.lst (ws.map V.str))∧ws.length≤32∧∀ (d:Addr) (H':Hp),Same H H'→WaysAt P w H' d r ws→Q (.ref d) H'
section
variable{P:Program}{w:World}{K:PySem.W.Frag}{mg:Str→Option Value}{base:Heap}
theorem vS(D:DefAt K mg "ways_by_room" aD) (z_enumerate:mg "enumerate" = none) (c_ways_for:Cal P w K mg base 1 "ways_for" ["words", "places", "number", "room"] yQ):Cal P w K mg base 2 "ways_by_room" ["rule", "words"] (lT P w):=by
 refine D.cal (k:=1) sc_ways_by_room (fun _ _ _ _ _ _ us hl=>match us,hl with | [_,_],_=>rfl) (fun vs H Q E h=>by obtain⟨_,_,_,_,rfl,_⟩:=h; rfl) (fun f cdv A outer s H vs Q E hr h=>?_)
 obtain⟨p,wl,r,ws,rfl,⟨pw,pr,as,h1,h2,h3⟩,ok,nd,hw,hn,q⟩:=h
 have nw:=ok.nw;have n1:=ok.n1;have n0:=ok.n0
 refine⟨_,(ac (ax 2 sc_ways_by_room.nd qE)
   (ac (cS PassesOwn.never rfl (gk K C5 z_enumerate (aa (aK (bd K) (pv 0) aj (fun _ _=>rfl)) ab)) (gs K (n:=2) (bP (bc 3 sc_ways_by_room.nd) (bP (bc 4 sc_ways_by_room.nd) fk))) (ak (dw (pv 3) (dQ (pv 2) (pv 4) (sX hr)))))
   (ac (ax 5 sc_ways_by_room.nd (tq P w))
   (ac (cS PassesOwn.never rfl (gk K C5 z_enumerate (aa (aK (bd K) (pv 0) aj (fun _ _=>rfl)) ab)) (gs K (n:=2) (bP (bc 6 sc_ways_by_room.nd) (bP (bc 7 sc_ways_by_room.nd) fk))) (ak (dw (aq c_ways_for hr (aa (pv 1) (aa (pv 2) (aa (pv 6) (aa (pv 7) ab))))) (dQ (pv 5) (pv 6) (rJ P w)))))
   (ac (dw (dC (CompSc.to (fsc:=(defScope aD)) (N:=["rule", "words", "places", "place", "word", "ways", "number", "room"]) (N0:=["rule", "words", "places", "place", "word'", "ways", "number", "room"]) (T:=["word"]) ⟨by decide +kernel,by decide +kernel,by decide +kernel,by decide +kernel,by decide +kernel,by decide +kernel,by decide +kernel⟩ rfl rfl) rfl (cx K (pv 1)) (fun _ _ _ _=>(bc 8 (show (["rule", "words", "places", "place", "word'", "ways", "number", "room", "word"]:List Str).Nodup from by decide +kernel) (hx:=(fo (defScope aD) (by decide +kernel))) (hf:=iZ (defScope aD) (by decide +kernel)))) (b9 (show (["rule", "words", "places", "place", "word", "ways", "number", "room"]:List Str).length≤8 from by decide)) (fun _ _ _ _=>cD) (fun _ _ _ _=>bv)) (dQ (pv 5) bv (rJ P w)))
   (ak (aL (pv 5)))))))),?_⟩
 walk_at "rd1";refine fun pd hpd=>?_
 have s1:=al hpd (.dK []);have e1:upd H pd (.dK []) pd=some (.dK []):=ae
 generalize upd H pd (.dK [])=H1 at s1 e1 ⊢;walk_at "nx";refine⟨_,_,.inr (SqT.of (s1 _ _ h1)),aZ (j:=1) rfl,?_⟩
 walk_at "rd1";refine⟨⟨_,s1 _ _ h2⟩,?_⟩
 refine gJ (xs:=r.ws.map V.str) (fun i σ H'=>∃ (kvs:List (bp × V)) (o3 o4:Option V),σ=[some (.ref p),some (.ref wl),some (.ref pd),o3,o4,none,none,none]∧Same H H'∧H' pd=some (.dK kvs)∧PlAt r.ws i kvs)
  ⟨[],none,none,rfl,s1,e1,Nat.le_refl _,fun y=>by simp[ye]⟩ (fun i σ H' _ h=>by obtain⟨_,_,_,_,sm,_⟩:=h; exact SqL.of (sm _ _ h2)) ?_ ?_
 ·rintro i v t σ H' hv ⟨kvs,o3,o4,rfl,sm,hd,hP⟩ ht
  have hi:i<r.ws.length:=by have:=(List.getElem?_eq_some_iff.mp hv).1; simpa using this
  rw[List.getElem?_map,List.getElem?_eq_getElem hi]at hv
  cases hv;have st:=al ht (.tup [.int (i:Int),.str r.ws[i]]);have et:upd H' t (.tup [.int (i:Int),.str r.ws[i]]) t=some (.tup [.int (i:Int),.str r.ws[i]]):=ae
  generalize upd H' t (.tup [.int (i:Int),.str r.ws[i]])=H2 at st et ⊢;walk_at "rd1";refine⟨t,_,rfl,SqT.of et,rfl,?_⟩
  walk_at "rd1";have hl:=hP.1;refine⟨pd,kvs,.inr r.ws[i],rfl,rfl,st _ _ hd,ce (by omega),?_⟩
  exact⟨_,_,_,rfl,(sm.trans st).upd hpd _,ae,hP.put nd hi⟩
 rintro σ H2 ⟨kvs,o3,o4,rfl,s2,hd2,hP⟩
 rw[List.length_map]at hP
 walk_at "nx";refine fun dd hdd=>?_
 have s3:=al hdd (i0 P w dd []);have e3:upd H2 dd (i0 P w dd []) dd=some (i0 P w dd []):=ae
 generalize upd H2 dd (i0 P w dd [])=H3 at s3 e3 ⊢;have s03:=s2.trans s3;have hddH:H dd=none:=s2.free hdd
 have hdp:dd≠pd:=Ne.symm (aA hd2 hdd)
 walk_at "nx";refine⟨_,_,.inr (SqT.of (s03 _ _ h1)),aZ (j:=2) rfl,?_⟩
 walk_at "rd1";have hal:=h3.2.1;refine⟨⟨_,(h3.mono s03).1⟩,?_⟩
 refine gJ (xs:=as.map V.ref) (fun i σ H'=>∃ (kvs2:List (Option Int × V)) (o6 o7:Option V),σ=[some (.ref p),some (.ref wl),some (.ref pd),o3,o4,some (.ref dd),o6,o7]∧Same H H'∧H' pd=some (.dK kvs)∧H' dd=some (i0 P w dd kvs2)∧kvs2.length≤i∧∀ k,k<i→∃ a,aH kvs2 (some (k:Int))=some (.ref a)∧a≠dd∧H' a=some (.lst ((ws.map (aw r k)).map ar)))
  ⟨[],none,none,rfl,s03,s3 _ _ hd2,e3,Nat.le_refl _,fun k hk=>absurd hk (Nat.not_lt_zero _)⟩ (fun i σ H' _ h=>by obtain⟨_,_,_,_,sm,_⟩:=h; exact SqL.of (h3.mono sm).1) ?_ ?_
 ·rintro i v t σ H' hv ⟨kvs2,o6,o7,rfl,sm,hd,hdd',hl,hk⟩ ht
  have hia:i<as.length:=by have:=(List.getElem?_eq_some_iff.mp hv).1; simpa using this
  have hi:i<r.rs.length:=by omega
  rw[List.getElem?_map,List.getElem?_eq_getElem hia]at hv
  cases hv;have hrow:=h3.2.2 i _ _ (List.getElem?_eq_getElem hia) (List.getElem?_eq_getElem hi);have st:=al ht (.tup [.int (i:Int),.ref as[i]]);have et:upd H' t (.tup [.int (i:Int),.ref as[i]]) t=some (.tup [.int (i:Int),.ref as[i]]):=ae
  generalize upd H' t (.tup [.int (i:Int),.ref as[i]])=H4 at st et ⊢;have sm4:=sm.trans st;walk_at "rd1";refine⟨t,_,rfl,SqT.of et,rfl,?_⟩
  walk_at "rd1";refine⟨wl,pd,as[i],ws,kvs,r,i,rfl,sm4 _ _ hw,hn,st _ _ hd,hP,ok,hi,by rw[aI hi]; exact sm4 _ _ hrow,fun L H5 s5 hL hL5=>?_⟩
  walk_at "rd1";have hdd5:=s5 _ _ (st _ _ hdd');have nL:L≠dd:=Ne.symm (aA (st _ _ hdd') hL)
  refine⟨dd,some (i:Int),kvs2,rfl,rfl,hdd5,ce (by omega),?_⟩
  refine⟨cL kvs2 (some (i:Int)) (.ref L),_,_,rfl,(sm4.trans s5).upd hddH _,by rw[ai (Ne.symm hdp)]; exact s5 _ _ (st _ _ hd),ae,by have:=dD kvs2 (some (i:Int)) (.ref L); omega,fun k hk'=>?_⟩
  rw[jR]
  by_cases e:k=i
  ·subst e
   exact⟨L,by rw[if_pos rfl],nL,by rw[ai nL]; exact hL5⟩
  ·obtain⟨a,e1,e2,e3⟩:=hk k (by omega)
   exact⟨a,by rw[if_neg (fun z=>e (by have:=Option.some.inj z; omega))]; exact e1,e2,by rw[ai e2]; exact s5 _ _ (st _ _ e3)⟩
 rintro σ H4 ⟨kvs2,o6,o7,rfl,sm4,hd4,hdd4,hl4,hk4⟩
 rw[List.length_map,hal]at hl4 hk4
 walk_at "nx";refine⟨⟨_,SqL.of (sm4 _ _ hw)⟩,fun L hL=>?_⟩
 refine cT (xs:=ws.map V.str) (fun i ys H'=>Same H4 H'∧H' L=some (.lst ys)∧ys=(ws.take i).map fun _=>V.non) ⟨al hL _,ae,rfl⟩ (fun i ys H' _ h=>SqL.of (h.1 _ _ (sm4 _ _ hw))) ?_ ?_
 ·rintro i ys H' v hv hi ⟨sm,hl,rfl⟩
  rw[List.length_map]at hi
  rw[List.getElem?_map,List.getElem?_eq_getElem hi]at hv
  cases hv;walk_at "rd1";refine eJ (by rw[List.length_map]; exact hi) (by simp; omega) (by rw[List.length_map]; exact cg (by omega)) hl ⟨sm.upd hL _,ae,?_⟩
  rw[List.take_add_one,List.getElem?_eq_getElem hi,List.map_append]; rfl
 rintro ys H5 ⟨s5,hl5,rfl⟩
 rw[List.length_map,List.take_length]at hl5
 have nL:L≠dd:=Ne.symm (aA hdd4 hL)
 walk_at "rd1";refine⟨dd,none,kvs2,rfl,rfl,s5 _ _ hdd4,ce (by omega),?_⟩
 walk_at "nx";refine q dd _ ((sm4.trans s5).upd hddH _) ⟨_,ae,fun k hk=>?_,L,by rw[jR,if_pos rfl],by rw[ai nL]; exact hl5⟩
 obtain⟨a,e1,e2,e3⟩:=hk4 k hk
 exact⟨a,by rw[jR,if_neg (fun z=>nomatch z)]; exact e1,by rw[ai e2]; exact s5 _ _ e3⟩
end
theorem WaysAt.look{P:Program}{w:World}{H:Hp}{d:Addr}{r:Rl}{ws:List Str}(h:WaysAt P w H d r ws):∃ kvs,H d=some (i0 P w d kvs)∧∀ o:Option Nat,(∀ k,o=some k→k<r.rs.length)→∃ a,aH kvs (o.map fun k:Nat=>(k:Int))=some (.ref a)∧H a=some (.lst ((ws.map (gP r o)).map ar)):=by
 obtain⟨kvs,h1,h2,a,h3,h4⟩:=h
 refine⟨kvs,h1,fun o ho=>?_⟩
 cases o with
 | none=>
  refine⟨a,h3,?_⟩
  rw[h4,List.map_map]; rfl
 | some k=>exact h2 k (ho k rfl)
def PairsAt(H:Hp)(l:Addr)(ts:List Addr)(ps:List Pr):Prop:=H l=some (.lst (ts.map V.ref))∧ts.length=ps.length∧∀ (j:Nat) t p,ts[j]? = some t→ps[j]? = some p→H t=some (.tup [ar p.1,ar p.2])
theorem PairsAt.mono{H H':Hp}{l:Addr}{ts:List Addr}{ps:List Pr}(h:PairsAt H l ts ps)(sm:Same H H'):PairsAt H' l ts ps:=⟨sm _ _ h.1,h.2.1,fun j t p e1 e2=>sm _ _ (h.2.2 j t p e1 e2)⟩
def m5(P:Program)(w:World):Sp:=fun vs H Q _=>∃ (d d' t:Addr) (r r':Rl) (ws:List Str) (p:Pr),vs=[.ref d,.ref d',.ref t]∧WaysAt P w H d r ws∧WaysAt P w H d' r' ws∧ws.length≤32∧H t=some (.tup [ar p.1,ar p.2])∧ju r r' p∧∀ (l:Addr) (H':Hp) (ts:List Addr),Same H H'→H l=none→PairsAt H' l ts (b8 r r' ws p)→Q (.ref l) H'
theorem mM(o:Option Nat):ar o=cQ (o.map fun k:Nat=>(k:Int)):=by cases o <;> rfl
section
variable{P:Program}{w:World}{K:PySem.W.Frag}{mg:Str→Option Value}{base:Heap}
theorem qg(D:DefAt K mg "pairs_behind" bw) (z_list:mg "list" = none) (z_zip:mg "zip" = none):Cal P w K mg base 1 "pairs_behind" ["ones", "others", "pair"] (m5 P w):=by
 refine D.cal (k:=0) me (fun _ _ _ _ _ _ us hl=>match us,hl with | [_,_,_],_=>rfl) (fun vs H Q E h=>by obtain⟨_,_,_,_,_,_,_,rfl,_⟩:=h; rfl) (fun f cdv A outer s H vs Q E hr h=>?_)
 obtain⟨d,d',t,r,r',ws,p,rfl,hW,hW',hn,ht,hi,q⟩:=h
 obtain⟨kvs,h1,h2⟩:=hW.look
 obtain⟨kvs',g1,g2⟩:=hW'.look
 obtain⟨a,a1,a2⟩:=h2 p.1 hi.1
 obtain⟨b,b1,b2⟩:=g2 p.2 hi.2
 refine⟨_,(ak (aL (tY K hr F8 z_list FI z_zip (aa (aK (uU P w) (pv 0) (aK (bd K) (pv 2) aj (fun _ _=>rfl)) (fun _ _=>rfl)) (aa (aK (uU P w) (pv 1) (aK (bd K) (pv 2) aj (fun _ _=>rfl)) (fun _ _=>rfl)) ab))))),?_⟩
 walk_at "rd1";unfold y0;walk_at "rd1";refine⟨_,_,.inr (SqT.of ht),j_,?_⟩
 refine⟨d,_,kvs,_,rfl,mM p.1,h1,a1,?_⟩
 refine⟨_,_,.inr (SqT.of ht),aZ (j:=1) rfl,?_⟩
 refine⟨d',_,kvs',_,rfl,mM p.2,g1,b1,?_⟩
 walk_at "rd1";refine⟨a,b,_,_,rfl,SqL.of a2,SqL.of b2,by simp,by simp; omega,fun l ts H2 s2 hl hl2 htl hts=>?_⟩
 simp only[List.length_map]at htl
 refine q l H2 ts s2 hl ⟨hl2,by unfold b8; rw[List.length_map]; exact htl,fun k u pp e1 e2=>?_⟩
 obtain⟨x,y,ex,ey,hu,_⟩:=hts k u e1
 have hk:k<ws.length:=by have:=(List.getElem?_eq_some_iff.mp e1).1; omega
 unfold b8 at e2;simp only[List.getElem?_map,List.getElem?_eq_getElem hk]at ex ey e2
 cases ex; cases ey; cases e2
 exact hu
end
def fE(p:Pr):List (Option Int):=[p.1.map fun k:Nat=>(k:Int),p.2.map fun k:Nat=>(k:Int)]
theorem qo{o o':Option Nat}(h:(o.map fun k:Nat=>(k:Int))=o'.map fun k:Nat=>(k:Int)):o=o':=by
 cases o <;> cases o' <;> simp at h ⊢ <;> omega
theorem li{p q:Pr}(h:fE p=fE q):p=q:=by
 have h':[p.1.map fun k:Nat=>(k:Int),p.2.map fun k:Nat=>(k:Int)]=[q.1.map fun k:Nat=>(k:Int),q.2.map fun k:Nat=>(k:Int)]:=h
 have e1:=(List.cons.inj h').1;have e2:=(List.cons.inj (List.cons.inj h').2).1;exact Prod.ext (qo e1) (qo e2)
theorem lY{H:Hp}{t:Addr}{p:Pr}(h:H t=some (.tup [ar p.1,ar p.2])):KeyO H (fE p) t:=by
 show H t=some (.tup ((fE p).map cQ))
 rw[h];show _=some (HO.tup [cQ _,cQ _])
 rw[mM,mM]
def NumP(kvs:List (cn × V))(o:List Pr):Prop:=kvs.length=o.length∧(∀ t∈o,aH kvs (fE t)=some (V.int (o.idxOf t:Nat)))∧∀ k,(∀ t∈o,k≠fE t)→aH kvs k=none
theorem NumP.snoc{kvs:List (cn × V)}{o:List Pr}{t:Pr}(h:NumP kvs o)(ht:t∉o):aH kvs (fE t)=none∧NumP (kvs++[(fE t,V.int (o.length:Int))]) (o++[t]):=by
 obtain⟨h1,h2,h3⟩:=h
 have hn:aH kvs (fE t)=none:=h3 _ fun t' ht' e=>ht (by rw[li e]; exact ht')
 refine⟨hn,by simp[h1],fun t' ht'=>?_,fun k hk=>?_⟩
 ·rw[iY _ _ _ _ hn]
  rcases List.mem_append.mp ht' with z | z
  ·rw[if_neg (fun e=>by have:=li e; subst this; exact ht z),h2 t' z,List.idxOf_append,if_pos z]
  ·rw[List.mem_singleton.mp z,if_pos rfl,List.idxOf_append,if_neg ht]; simp
 ·rw[iY _ _ _ _ hn,if_neg (hk t (by simp))]
  exact h3 k fun t' ht'=>hk t' (by simp[ht'])
theorem NumP.zero(t:Pr):NumP [(fE t,V.int (0:Int))] [t]:=by
 refine⟨rfl,fun t' ht'=>?_,fun k hk=>?_⟩
 ·rw[List.mem_singleton.mp ht',cF rfl]; simp
 ·rw[cw (fun e=>hk t (by simp) e.symm)]; rfl
theorem NumP.look{kvs:List (cn × V)}{o:List Pr}(h:NumP kvs o)(t:Pr):(aH kvs (fE t)).getD .non=ar (c_ o t):=by
 unfold c_
 by_cases c:t∈o
 ·rw[if_pos c,h.2.1 _ c]; rfl
 ·rw[if_neg c,h.2.2 _ fun t' ht' e=>c (by rw[li e]; exact ht')]; rfl
def OrdAt(H:Hp)(p:Addr)(o:List Pr):Prop:=∃ ts:List Addr,PairsAt H p ts o
theorem OrdAt.mono{H H':Hp}{p:Addr}{o:List Pr}(h:OrdAt H p o)(sm:Same H H'):OrdAt H' p o:=let ⟨ts,h⟩:=h; ⟨ts,h.mono sm⟩
theorem OrdAt.other{H:Hp}{p c:Addr}{o:List Pr}{u:HO}(h:OrdAt H p o)(hc:p≠c)(ht:∀ xs,H c≠some (.tup xs)):OrdAt (upd H c u) p o:=by
 obtain⟨ts,h1,h2,h3⟩:=h
 refine⟨ts,by rw[ai hc]; exact h1,h2,fun i a t e1 e2=>?_⟩
 have e:=h3 i a t e1 e2;rw[ai (fun z=>by subst z; exact ht _ e)]; exact e
theorem OrdAt.push{H:Hp}{p a:Addr}{o:List Pr}{t:Pr}{ts:List Addr}(h1:H p=some (.lst (ts.map V.ref)))(h2:ts.length=o.length)(h3:∀ (i:Nat) a t,ts[i]? = some a→o[i]? = some t→H a=some (.tup [ar t.1,ar t.2]))(e:H a=some (.tup [ar t.1,ar t.2])):OrdAt (upd H p (.lst (ts.map V.ref++[.ref a]))) p (o++[t]):=by
 refine⟨ts++[a],by rw[ae]; simp,by simp[h2],fun i a' t' e1 e2=>?_⟩
 have np:∀ {b xs},H b=some (.tup xs)→b≠p:=fun e z=>by rw[z,h1]at e; cases e
 by_cases hi:i<ts.length
 ·rw[List.getElem?_append_left hi]at e1
  rw[List.getElem?_append_left (by omega)]at e2
  have z:=h3 i a' t' e1 e2;rw[ai (np z)]; exact z
 ·have hi':i=ts.length:=by have:=(List.getElem?_eq_some_iff.mp e1).1; simp at this; omega
  subst hi';rw[List.getElem?_append_right (Nat.le_refl _)]at e1
  rw[h2,List.getElem?_append_right (Nat.le_refl _)]at e2
  simp at e1 e2
  subst e1 e2;rw[ai (np e)]; exact e
theorem RoomsAs.other{H:Hp}{p c:Addr}{rs:List (List (Option Nat))}{as:List Addr}{u:HO}(h:RoomsAs H p rs as)(hc:p≠c)(ha:c∉as):RoomsAs (upd H c u) p rs as:=by
 obtain⟨h1,h2,h3⟩:=h
 refine⟨by rw[ai hc]; exact h1,h2,fun i a x e1 e2=>?_⟩
 rw[ai (fun z=>by subst z; exact ha (List.mem_of_getElem? e1))]; exact h3 i a x e1 e2
theorem RoomsAs.push{H:Hp}{p a:Addr}{rs:List (List (Option Nat))}{as:List Addr}{x:List (Option Nat)}(h:RoomsAs H p rs as)(hp:p∉as)(ha:p≠a)(e:H a=some (.lst (x.map ar))):RoomsAs (upd H p (.lst (as.map V.ref++[.ref a]))) p (rs++[x]) (as++[a]):=by
 obtain⟨h1,h2,h3⟩:=h
 refine⟨by rw[ae]; simp,by simp[h2],fun i a' x' e1 e2=>?_⟩
 by_cases hi:i<as.length
 ·rw[List.getElem?_append_left hi]at e1
  rw[List.getElem?_append_left (by omega)]at e2
  rw[ai (fun z=>by subst z; exact hp (List.mem_of_getElem? e1))]
  exact h3 i a' x' e1 e2
 ·have hi':i=as.length:=by have:=(List.getElem?_eq_some_iff.mp e1).1; simp at this; omega
  subst hi';rw[List.getElem?_append_right (Nat.le_refl _)]at e1
  rw[h2,List.getElem?_append_right (Nat.le_refl _)]at e2
  simp at e1 e2
  subst e1 e2;rw[ai ha.symm]; exact e
theorem iW{P:Program}{w:World}{H:Hp}{a c:Addr}{kvs:List (cn × V)}{xs:List V}{o:HO}(h:DO P w H a kvs)(hc:H c=some (.lst xs))(hne:a≠c):DO P w (upd H c o) a kvs:=by
 obtain⟨ys,h1,h2,h3,h4⟩:=h
 exact⟨ys,by rw[ai hne]; exact h1,h2,h3,Paired.imp' (fun p q z=>⟨z.1,z.2.1.mono fun d zs e=>by rw[ai (fun z=>by subst z; rw[hc]at e; cases e)]; exact e,z.2.2⟩) h4⟩
theorem eY{P:Program}{w:World}{H:Hp}{a c:Addr}{kvs:List (cn × V)}{xs:List V}(h:DO P w H a kvs)(hc:H c=some (.lst xs)):a≠c:=by
 obtain⟨ys,h1,_⟩:=h
 rintro rfl
 rw[h1]at hc; cases hc
theorem sk{P:Program}{w:World}{H:Hp}{a:Addr}{kvs:List (cn × V)}(h:DO P w H a kvs):∀ xs,H a≠some (.tup xs):=fun xs z=>by
 obtain⟨ys,h1,_⟩:=h
 rw[h1]at z; cases z
def gg(br:Pr→Bool):Sp:=fun vs H Q _=>∃ (t:Addr) (p:Pr),vs=[.ref t]∧H t=some (.tup [ar p.1,ar p.2])∧Q (.bl (br p)) H
def v6(P:Program)(w:World)(K:PySem.W.Frag)(mg:Str→Option Value)(base:Heap):Sp:=fun vs H Q _=>∃ (p q f:Addr) (a b:Rl) (br:Pr→Bool),vs=[.ref p,.ref q,.ref f]∧RuleAt H p a∧RuleAt H q b∧bm a∧bm b∧a.ws.Nodup∧b.ws.Nodup∧sI P w K mg base 1 f ["pair"] (gg br)∧br (some 0,some 0)=false∧(∀ o,eO br a b o→o.length≤60)∧
 ∀ (t:Addr) (H':Hp) (us:List Str) (M:Nat),Same H H'→lK a b us→sortedS us=true→M≤60→M=(aG br a b us M).length→RuleAt H' t (de br a b us M)→Q (.ref t) H'
section
variable{P:Program}{w:World}{K:PySem.W.Frag}{mg:Str→Option Value}{base:Heap}
theorem ku{D:dF}{H3:Hp}{p q fb wl d1 d2 op mp rp rl tt:Addr}{v9:V}{t:Pr}{kv:List (cn × V)}{o:List Pr}{X:List V}(ht:H3 tt=some (.tup [ar t.1,ar t.2]))(hM:DO P w H3 mp kv)(hN:NumP kv o)(hrl:H3 rl=some (.lst X))(hX:X.length≤1000)
  (hq:D.nx [some (.ref p),some (.ref q),some (.ref fb),some (.ref wl),some (.ref d1),some (.ref d2),some (.ref op),some (.ref mp),some (.ref rp),some v9,some (.ref rl),some (.ref tt)] (upd H3 rl (.lst (X++[ar (c_ o t)])))) :
  oS (uj (yX K "list" kF (mY 10) (tT (mz P w (mY 7) (mY 11)) wU))) D [some (.ref p),some (.ref q),some (.ref fb),some (.ref wl),some (.ref d1),some (.ref d2),some (.ref op),some (.ref mp),some (.ref rp),some v9,some (.ref rl),some (.ref tt)] H3:=by
 walk_at "nx";rw[wg];walk_at "rd1";refine⟨⟨_,SqL.of hrl⟩,mp,kv,rfl,hM,tt,_,kv,rfl,hM,lY ht,?_⟩
 rw[hN.look];exact⟨_,hrl,ce (by omega),hq⟩
theorem zA(D:DefAt K mg "rule_of_pairs" ao) (z_len:mg "len" = none) (c_words_of_both:Cal P w K mg base 1 "words_of_both" ["one", "other"] qv) (c_ways_by_room:Cal P w K mg base 2 "ways_by_room" ["rule", "words"] (lT P w)) (c_pairs_behind:Cal P w K mg base 1 "pairs_behind" ["ones", "others", "pair"] (m5 P w)):Cal P w K mg base 3 "rule_of_pairs" ["one", "other", "breaks"] (v6 P w K mg base):=by
 refine D.cal sc_rule_of_pairs (fun _ _ _ _ _ _ us hl=>match us,hl with | [_,_,_],_=>rfl) (fun vs H Q E h=>by obtain⟨_,_,_,_,_,_,rfl,_⟩:=h; rfl) (fun f cdv A outer s H vs Q E hr h=>?_)
 obtain⟨p,q,fb,a,b,br,rfl,hA,hB,oa,ob,na,nb,cf_breaks,b0,h60,fin⟩:=h
 refine⟨_,(ac (ax 3 sc_rule_of_pairs.nd (aq c_words_of_both hr (aa (pv 0) (aa (pv 1) ab))))
   (ac (ax 4 sc_rule_of_pairs.nd (aq c_ways_by_room hr (aa (pv 0) (aa (pv 3) ab))))
   (ac (ax 5 sc_rule_of_pairs.nd (aq c_ways_by_room hr (aa (pv 1) (aa (pv 3) ab))))
   (ac (ax 6 sc_rule_of_pairs.nd (cJ (aa (dG (aa aj (aa aj ab))) ab)))
   (ac (ax 7 sc_rule_of_pairs.nd ((lX P w hr) (dG (aa aj (aa aj ab))) aj))
   (ac (ax 8 sc_rule_of_pairs.nd (cJ ab))
   (ac (iU PassesOwn.never (aT mN (bZ (bO K) z_len cR (aa (pv 8) ab)) (bZ (bO K) z_len cR (aa (pv 6) ab)) (aP _)) (ac (ax 9 sc_rule_of_pairs.nd (aK (bd K) (pv 6) (bZ (bO K) z_len cR (aa (pv 8) ab)) (fun _ _=>rfl)))
   (ac (ax 10 sc_rule_of_pairs.nd (cJ ab))
   (ac (cS PassesOwn.never rfl (cx K (aq c_pairs_behind hr (aa (pv 4) (aa (pv 5) (aa (pv 9) ab))))) (bc 11 sc_rule_of_pairs.nd) (ac (bN (PW.pt' (uB (aT (tz P w hr) (pv 11) (pv 7) (by with_unfolding_all rfl)) (rW (iQ (gI (zZ cf_breaks hr (aa (pv 11) ab) (i:=2))))))) (ac (dw (bZ (bO K) z_len cR (aa (pv 6) ab)) (dQ (pv 7) (pv 11) (uG P w hr)))
   (ak (cN (dh K PySem.F.plainAttrs_list PySem.F.slot_list_append PySem.F.type_list_append b6 (pv 6) (aa (pv 11) ab))))) bt)
   (ak (cN (dh K PySem.F.plainAttrs_list PySem.F.slot_list_append PySem.F.type_list_append b6 (pv 10) (aa (yt P w hr (pv 7) (pv 11) ⟨rfl,rfl,rfl,rfl⟩) ab))))))
   (ak (cN (dh K PySem.F.plainAttrs_list PySem.F.slot_list_append PySem.F.type_list_append b6 (pv 8) (aa (pv 10) ab))))))))
   (ak (aL (dG (aa (aK (bd K) (pv 0) aj (fun _ _=>rfl)) (aa (pv 3) (aa (pv 8) ab))))))))))))),?_⟩
 walk_at "rd1";refine⟨p,q,a,b,rfl,hA,hB,oa,ob,fun wl H1 us s1 hwl hus hBo hso=>?_⟩
 obtain⟨hnd,hmem,h32⟩:=id hBo
 walk_at "nx";refine⟨p,wl,a,us,rfl,hA.mono s1,oa,na,hus,h32,fun d1 H2 s2 hW1=>?_⟩
 walk_at "nx";refine⟨q,wl,b,us,rfl,(hB.mono s1).mono s2,ob,nb,s2 _ _ hus,h32,fun d2 H3 s3 hW2=>?_⟩
 have hW1':=hW1.mono s3;have s03:=(s1.trans s2).trans s3;walk_at "nx";refine⟨by decide,fun z1 hz1=>?_⟩
 have s4:=al hz1 (.tup [V.int 0,V.int 0]);have e4:upd H3 z1 (.tup [V.int 0,V.int 0]) z1=some (.tup [ar (some 0),ar (some 0)]):=ae
 generalize upd H3 z1 (.tup [V.int 0,V.int 0])=H4 at s4 e4 ⊢;refine⟨by decide,fun op hop=>?_⟩
 have s5:=al hop (.lst [V.ref z1]);have e5:upd H4 op (.lst [V.ref z1]) op=some (.lst ([z1].map V.ref)):=ae
 generalize upd H4 op (.lst [V.ref z1])=H5 at s5 e5 ⊢;walk_at "nx";rw[tD];refine fun mp hmp u hu=>?_
 have s6:=al hmp u;generalize upd H5 mp u=H6 at s6 hu ⊢;walk_at "rd1";refine⟨by decide,fun z2 hz2=>?_⟩
 have s7:=al hz2 (.tup [V.int 0,V.int 0]);have e7:upd H6 z2 (.tup [V.int 0,V.int 0]) z2=some (.tup [ar (some 0),ar (some 0)]):=ae
 generalize upd H6 z2 (.tup [V.int 0,V.int 0])=H7 at s7 e7 ⊢;refine⟨z2,fE (some 0,some 0),rfl,lY (p:=(some 0,some 0)) e7,hu.mono s7,fun u' hu'=>?_⟩
 have s35:Same H3 H5:=s4.trans s5
 have hmp0:H3 mp=none:=s35.free hmp
 have s38:Same H3 (upd H7 mp u'):=((s35.trans s6).trans s7).upd hmp0 u'
 have e58:H7 op=some (.lst ([z1].map V.ref)):=(s6.trans s7) _ _ e5
 have hu7:=hu.mono s7
 have o8:OrdAt (upd H7 mp u') op (aG br a b us 0):=by
  refine OrdAt.other (H:=H7) ⟨[z1],e58,rfl,fun i x t w1 w2=>?_⟩ (Ne.symm (eY hu7 e58)) (sk hu7)
  match i,w1,w2 with
  | 0,w1,w2=>cases w1; cases w2; exact((s5.trans s6).trans s7) _ _ e4
  | i+1,w1,w2=>simp at w1
 generalize upd H7 mp u'=H8 at s38 o8 hu' ⊢;walk_at "nx";refine⟨by decide,fun rp hrp=>?_⟩
 have s9:=al hrp (.lst []);have e9:upd H8 rp (.lst []) rp=some (.lst (([]:List Addr).map V.ref)):=ae
 generalize upd H8 rp (.lst [])=H9 at s9 e9 ⊢;have hop0:H3 op=none:=s4.free hop
 have hrp0:H3 rp=none:=s38.free hrp
 obtain⟨_,oo,_⟩:=id o8
 have nor:op≠rp:=aA oo hrp
 walk_at "nx"
 refine⟨fun mm σ H'=>∃ (r:Nat) (as:List Addr) (kvs:List (cn × V)) (o9 o10 o11:Option V),mm=61 - r∧σ=[some (.ref p),some (.ref q),some (.ref fb),some (.ref wl),some (.ref d1),some (.ref d2),some (.ref op),some (.ref mp),some (.ref rp),o9,o10,o11]∧Same H3 H'∧OrdAt H' op (aG br a b us r)∧DO P w H' mp kvs∧NumP kvs (aG br a b us r)∧RoomsAs H' rp ((List.range r).map (ck br a b us)) as∧(op::rp::as).Nodup∧r≤(aG br a b us r).length,
  ⟨_,0,[],_,none,none,none,rfl,rfl,s38.trans s9,o8.mono s9,hu'.mono s9,NumP.zero _,⟨e9,rfl,fun i a x z=>by simp at z⟩,by simp[nor],by simp[aG]⟩,?_⟩
 rintro mm σ H' ⟨r,as,kvs,o9,o10,o11,em,rfl,sm,hO,hM,hN,hA',nd,hrl⟩
 obtain⟨hord,fl1⟩:=fR (us:=us) oa ob b0 r
 have hlen:=h60 _ hord;obtain⟨ts,t1,t2,t3⟩:=id hO
 walk_at "rd1";have hAl:as.length=r:=by have:=hA'.2.1; simpa using this
 refine⟨_,.inl (SqL.of hA'.1),_,.inl (SqL.of t1),?_⟩
 rw[List.length_map,List.length_map,hAl,t2]
 by_cases hend:r<(aG br a b us r).length
 rotate_left
 ·refine bh (fun c=>absurd (by omega) hend) (fun _=>?_)
  obtain⟨pw,pr,ras,r1,r2,r3⟩:=(hA.mono s03).mono sm
  walk_at "nx";refine⟨_,_,.inr (SqT.of r1),j_,?_⟩
  refine⟨by decide,fun t ht=>?_⟩
  have s':=al ht (.tup [V.int a.s,V.ref wl,V.ref rp]);exact fin t _ us r (s03.trans (sm.trans s')) hBo hso (by omega) (by omega) ⟨wl,rp,as,ae,(sm.trans s') _ _ ((s2.trans s3) _ _ hus),hA'.mono s'⟩
 refine bh (fun _=>?_) (fun c=>absurd (by omega) c)
 have hin:ju a b (bq br a b us r):=hord.inn _ (getD_mem hend)
 have hgr:(aG br a b us r)[r]? = some (bq br a b us r):=by unfold bq; rw[List.getD_eq_getElem?_getD,List.getElem?_eq_getElem hend]; rfl
 obtain⟨tx,htx⟩ : ∃ tx,ts[r]? = some tx:=⟨ts[r],List.getElem?_eq_getElem (by omega)⟩
 have etx:=t3 r tx _ htx hgr;refine⟨_,fun _ _ h=>h,_,.inl (SqL.of hA'.1),_,_,.inl (SqL.of t1),aZ (v:=.ref tx) (by rw[List.length_map,hAl,List.getElem?_map,htx]; rfl),?_⟩
 walk_at "nx";refine⟨by decide,fun rl hrl'=>?_⟩
 have s10:=al hrl' (.lst []);have e10:upd H' rl (.lst []) rl=some (.lst []):=ae
 generalize upd H' rl (.lst [])=H10 at s10 e10 ⊢;have sm10:=sm.trans s10;have hrl0:H3 rl=none:=sm.free hrl'
 walk_at "nx";refine⟨d1,d2,tx,a,b,us,bq br a b us r,rfl,hW1'.mono sm10,hW2.mono sm10,h32,s10 _ _ etx,hin,fun bl H11 ys s11 hbl hP=>?_⟩
 obtain⟨eb,hyl,hys⟩:=hP
 have hbl0:H3 bl=none:=sm10.free hbl
 have hylen:ys.length=us.length:=by rw[hyl]; unfold b8; simp
 have s1011:=s10.trans s11
 have nd11:(op::rp::rl::as).Nodup:=by
  have pm:(op::rp::rl::as).Perm (rl::op::rp::as):=by
   rw[List.perm_iff_count];intro x
   simp only[List.count_cons]
   omega
  refine pm.nodup_iff.mpr (List.nodup_cons.mpr ⟨fun z=>?_,nd⟩)
  have:∃ o,H' rl=some o:=by
   simp only[List.mem_cons]at z
   rcases z with z | z | z
   ·exact⟨_,by rw[z]; exact t1⟩
   ·exact⟨_,by rw[z]; exact hA'.1⟩
   ·obtain⟨i,hi,e⟩:=List.mem_iff_getElem.mp z
    exact⟨_,hA'.2.2 i rl _ (by rw[List.getElem?_eq_getElem hi,e]) (List.getElem?_eq_getElem (by rw[← hA'.2.1]; exact hi))⟩
  obtain⟨o,e⟩:=this
  rw[hrl']at e; cases e
 have hys':∀ (k:Nat) t (hk:k<us.length),ys[k]? = some t→H11 t=some (.tup [ar (dc a b (bq br a b us r) us[k]).1,ar (dc a b (bq br a b us r) us[k]).2]):=fun k t hk e=>hys k t _ e (by unfold b8; rw[List.getElem?_map,List.getElem?_eq_getElem hk]; rfl)
 have nbo:bl≠op:=Ne.symm (aA (s10 _ _ t1) hbl)
 have nbr:bl≠rl:=Ne.symm (aA e10 hbl)
 have nbm:bl≠mp:=by obtain⟨zs,z,_⟩:=hM; exact Ne.symm (aA (s10 _ _ z) hbl)
 have hrlen:(ck br a b us r).length=us.length:=jP r
 walk_at "rd1";refine⟨⟨_,SqL.of eb⟩,?_⟩
 refine ke (xs:=ys.map V.ref) (fun k σ H''=>∃ (kv2:List (cn × V)) (o11:Option V),σ=[some (.ref p),some (.ref q),some (.ref fb),some (.ref wl),some (.ref d1),some (.ref d2),some (.ref op),some (.ref mp),some (.ref rp),some (.ref tx),some (.ref rl),o11]∧Same H3 H''∧H'' bl=some (.lst (ys.map V.ref))∧(∀ (k:Nat) t (hk:k<us.length),ys[k]? = some t→H'' t=some (.tup [ar (dc a b (bq br a b us r) us[k]).1,ar (dc a b (bq br a b us r) us[k]).2]))∧OrdAt H'' op (((b8 a b us (bq br a b us r)).take k).foldl (bD br) (aG br a b us r))∧DO P w H'' mp kv2∧NumP kv2 (((b8 a b us (bq br a b us r)).take k).foldl (bD br) (aG br a b us r))∧RoomsAs H'' rp ((List.range r).map (ck br a b us)) as∧H'' rl=some (.lst (((ck br a b us r).take k).map ar)))
  ⟨kvs,o11,rfl,sm10.trans s11,eb,hys',hO.mono s1011,hM.mono s1011,hN,hA'.mono s1011,s11 _ _ e10⟩ (fun k σ H'' _ h=>by obtain⟨_,_,_,_,z,_⟩:=h; exact SqL.of z) ?_ ?_
 ·rintro k v σ H'' hv ⟨kv2,o11,rfl,sx,ebx,hyx,hOx,hMx,hNx,hAx,erl⟩
  have hk:k<ys.length:=by have:=(List.getElem?_eq_some_iff.mp hv).1; simpa using this
  have hku:k<us.length:=by omega
  rw[List.getElem?_map,List.getElem?_eq_getElem hk]at hv
  cases hv;have ety:=hyx k ys[k] hku (List.getElem?_eq_getElem hk)
  have hst:((b8 a b us (bq br a b us r)).take (k+1)).foldl (bD br) (aG br a b us r)=bD br (((b8 a b us (bq br a b us r)).take k).foldl (bD br) (aG br a b us r)) (dc a b (bq br a b us r) us[k]):=by
   rw[List.take_add_one,List.foldl_append];unfold b8;rw[List.getElem?_map,List.getElem?_eq_getElem hku]
   rfl
  have pord:eO br a b (((b8 a b us (bq br a b us r)).take k).foldl (bD br) (aG br a b us r)):=kt _ hord fun t ht=>sy oa ob hin t (List.mem_of_mem_take ht)
  have plen:=h60 _ pord
  have hOr:aG br a b us (r+1)=((b8 a b us (bq br a b us r)).drop (k+1)).foldl (bD br) (((b8 a b us (bq br a b us r)).take (k+1)).foldl (bD br) (aG br a b us r)):=by
   rw[← List.foldl_append,List.take_append_drop];show (if r<(aG br a b us r).length then _ else _)=_
   rw[if_pos hend]; rfl
  have ord1:=(fR (us:=us) oa ob b0 (r+1)).1
  have hrow:(ck br a b us r)[k]? = some (c_ (bD br (((b8 a b us (bq br a b us r)).take k).foldl (bD br) (aG br a b us r)) (dc a b (bq br a b us r) us[k])) (dc a b (bq br a b us r) us[k])):=by
   obtain⟨x,e⟩:=eX (br:=br) ((b8 a b us (bq br a b us r)).drop (k+1)) (((b8 a b us (bq br a b us r)).take (k+1)).foldl (bD br) (aG br a b us r))
   rw[← hOr,hst]at e
   have e0:(ck br a b us r)[k]? = some (c_ (aG br a b us (r+1)) (dc a b (bq br a b us r) us[k])):=by
    unfold ck b8;rw[List.getElem?_map,List.getElem?_map,List.getElem?_eq_getElem hku]; rfl
   rw[e0,e];refine congrArg some (wX ?_)
   cases hb:br (dc a b (bq br a b us r) us[k]) with
   | true=>
    refine .inr fun z=>?_
    rw[← e]at z
    rw[ord1.nb _ z]at hb; cases hb
   | false=>
    refine .inl ?_
    unfold bD; split
    ·assumption
    ·rw[if_neg (by rw[hb]; decide)]; simp
  rw[hst];generalize ((b8 a b us (bq br a b us r)).take k).foldl (bD br) (aG br a b us r)=o' at hOx hNx pord plen hrow ⊢;generalize dc a b (bq br a b us r) us[k]=t at ety hrow ⊢;have hx:=nd11;simp only[List.nodup_cons,List.mem_cons,not_or]at hx
  obtain⟨⟨_,n1,n2⟩,⟨n3,n4⟩,n5,_⟩:=hx
  have k60:((ck br a b us r).take k).length<100:=by rw[List.length_take]; omega
  have done:∀ (G:Hp) (kv3:List (cn × V)) (o3:List Pr) (v11:V),Same H3 G→G bl=some (.lst (ys.map V.ref))→(∀ (k:Nat) t (hk:k<us.length),ys[k]? = some t→G t=some (.tup [ar (dc a b (bq br a b us r) us[k]).1,ar (dc a b (bq br a b us r) us[k]).2]))→OrdAt G op o3→DO P w G mp kv3→NumP kv3 o3→RoomsAs G rp ((List.range r).map (ck br a b us)) as→G rl=some (.lst (((ck br a b us r).take k).map ar))→(ck br a b us r)[k]? = some (c_ o3 t)→
    ∃ (kv2:List (cn × V)) (o11:Option V),[some (.ref p),some (.ref q),some (.ref fb),some (.ref wl),some (.ref d1),some (.ref d2),some (.ref op),some (.ref mp),some (.ref rp),some (.ref tx),some (.ref rl),some v11]=[some (.ref p),some (.ref q),some (.ref fb),some (.ref wl),some (.ref d1),some (.ref d2),some (.ref op),some (.ref mp),some (.ref rp),some (.ref tx),some (.ref rl),o11]∧Same H3 (upd G rl (.lst (((ck br a b us r).take k).map ar++[ar (c_ o3 t)])))∧(upd G rl (.lst (((ck br a b us r).take k).map ar++[ar (c_ o3 t)]))) bl=some (.lst (ys.map V.ref))∧(∀ (k':Nat) t' (hk:k'<us.length),ys[k']? = some t'→(upd G rl (.lst (((ck br a b us r).take k).map ar++[ar (c_ o3 t)]))) t'=some (.tup [ar (dc a b (bq br a b us r) us[k']).1,ar (dc a b (bq br a b us r) us[k']).2]))∧OrdAt (upd G rl (.lst (((ck br a b us r).take k).map ar++[ar (c_ o3 t)]))) op o3∧DO P w (upd G rl (.lst (((ck br a b us r).take k).map ar++[ar (c_ o3 t)]))) mp kv2∧NumP kv2 o3∧RoomsAs (upd G rl (.lst (((ck br a b us r).take k).map ar++[ar (c_ o3 t)]))) rp ((List.range r).map (ck br a b us)) as∧(upd G rl (.lst (((ck br a b us r).take k).map ar++[ar (c_ o3 t)]))) rl=some (.lst (((ck br a b us r).take (k+1)).map ar)):=by
   intro G kv3 o3 v11 g1 g2 g3 g4 g5 g6 g7 g8 g9
   refine⟨kv3,_,rfl,g1.upd hrl0 _,by rw[ai nbr]; exact g2,fun k' t' hk' e=>?_,g4.other n1 (fun xs z=>by rw[g8]at z; cases z),iW g5 g8 (eY g5 g8),g6,g7.other n3 n5,?_⟩
   ·have z:=g3 k' t' hk' e
    rw[ai (fun z'=>by subst z'; rw[g8]at z; cases z)]; exact z
   ·rw[ae,List.take_add_one,g9,List.map_append]; rfl
  walk_at "rd1";refine⟨ys[k],mp,fE t,kv2,rfl,rfl,hMx,lY ety,_,rfl,?_⟩
  by_cases c2:t∈o'
  ·rw[hNx.2.1 _ c2]
   refine bh (fun z=>by cases z) (fun _=>?_)
   have est:bD br o' t=o':=by unfold bD; rw[if_pos c2]
   rw[est]at hrow ⊢
   refine ku ety hMx hNx erl (by rw[List.length_map]; omega) ?_
   exact done H'' kv2 o' _ sx ebx hyx hOx hMx hNx hAx erl hrow
  obtain⟨hvn,hN2⟩:=hNx.snoc c2
  rw[hvn];refine bh (fun _=>?_) (fun z=>absurd rfl z)
  refine⟨rfl,?_⟩
  walk_at "rd1";refine⟨ys[k],t,rfl,ety,_,rfl,?_⟩
  cases hb:br t with
  | true=>
   refine bh (fun z=>by cases z) (fun _=>?_)
   have est:bD br o' t=o':=by unfold bD; rw[if_neg c2,if_pos hb]
   rw[est]at hrow ⊢
   refine ku ety hMx hNx erl (by rw[List.length_map]; omega) ?_
   exact done H'' kv2 o' _ sx ebx hyx hOx hMx hNx hAx erl hrow
  | false=>
   refine bh (fun _=>?_) (fun z=>absurd rfl z)
   have est:bD br o' t=o'++[t]:=by unfold bD; rw[if_neg c2,if_neg (by rw[hb]; decide)]
   rw[est]at hrow ⊢
   obtain⟨us2,a1,a2,a3⟩:=id hOx
   walk_at "rd1";refine⟨_,.inl (SqL.of a1),mp,ys[k],fE t,kv2,rfl,rfl,hMx,lY ety,hvn,ce (by have:=hNx.1; omega),fun uu huu=>?_⟩
   rw[List.length_map,a2]at huu
   have ntm:=sk hMx;have hO2:=hOx.other (u:=uu) (Ne.symm (eY hMx a1)) ntm;have keepT:∀ {c:Addr} {xs:List V},H'' c=some (.tup xs)→upd H'' mp uu c=some (.tup xs):=fun {c xs} e=>by rw[ai (fun z=>by subst z; exact ntm _ e)]; exact e
   have ety2:=keepT ety;have hyx2:∀ (k:Nat) t (hk:k<us.length),ys[k]? = some t→upd H'' mp uu t=some (.tup [ar (dc a b (bq br a b us r) us[k]).1,ar (dc a b (bq br a b us r) us[k]).2]):=fun k t hk e=>keepT (hyx k t hk e)
   have ebx2:upd H'' mp uu bl=some (.lst (ys.map V.ref)):=by rw[ai nbm]; exact ebx
   have erl2:upd H'' mp uu rl=some (.lst (((ck br a b us r).take k).map ar)):=by rw[ai (Ne.symm (eY hMx erl))]; exact erl
   have nml:mp∉as:=fun hm=>by
    obtain⟨i,hi,e⟩:=List.mem_iff_getElem.mp hm
    exact eY hMx (hAx.2.2 i mp _ (by rw[List.getElem?_eq_getElem hi,e]) (List.getElem?_eq_getElem (by rw[← hAx.2.1]; exact hi))) rfl
   have hA2:=hAx.other (u:=uu) (Ne.symm (eY hMx hAx.1)) nml;have sx2:=sx.upd hmp0 uu;generalize upd H'' mp uu=G at huu hO2 ety2 hyx2 ebx2 erl2 hA2 sx2 ⊢;obtain⟨us3,b1,b2,b3⟩:=id hO2
   walk_at "nx";refine⟨⟨_,SqL.of b1⟩,_,b1,by rw[List.length_map]; exact ce (by omega),?_⟩
   have hO3:=OrdAt.push (t:=t) b1 b2 b3 ety2;have tup3:∀ {c:Addr} {xs:List V},G c=some (.tup xs)→upd G op (.lst (us3.map V.ref++[.ref ys[k]])) c=some (.tup xs):=fun {c xs} e=>by rw[ai (fun z=>by subst z; rw[b1]at e; cases e)]; exact e
   have hM3:=iW huu (o:=.lst (us3.map V.ref++[.ref ys[k]])) b1 (eY huu b1);have erl3:upd G op (.lst (us3.map V.ref++[.ref ys[k]])) rl=some (.lst (((ck br a b us r).take k).map ar)):=by rw[ai (Ne.symm n1)]; exact erl2
   refine ku (tup3 ety2) hM3 hN2 erl3 (by rw[List.length_map]; omega) ?_
   exact done _ _ (o'++[t]) _ (sx2.upd hop0 _) (by rw[ai nbo]; exact ebx2) (fun k t hk e=>tup3 (hyx2 k t hk e)) hO3 hM3 hN2 (hA2.other (Ne.symm nor) n2) erl3 hrow
 rintro σ H12 ⟨kv2,o11',rfl,sx,ebx,hyx,hOx,hMx,hNx,hAx,erl⟩
 have ho':((b8 a b us (bq br a b us r)).take (ys.map V.ref).length).foldl (bD br) (aG br a b us r)=aG br a b us (r+1):=by
  rw[List.length_map,List.take_of_length_le (by rw[← hyl]; exact Nat.le_refl _)]
  show _=(if r<(aG br a b us r).length then _ else _)
  rw[if_pos hend]; rfl
 rw[ho']at hOx hNx
 rw[List.length_map,List.take_of_length_le (by omega)]at erl
 have hx:=nd11;simp only[List.nodup_cons,List.mem_cons,not_or]at hx
 obtain⟨⟨_,n1,n2⟩,⟨n3,n4⟩,n5,_⟩:=hx
 walk_at "nx";refine⟨⟨_,SqL.of hAx.1⟩,_,hAx.1,by rw[List.length_map]; exact ce (by omega),?_⟩
 have hA2:=hAx.push n4 n3 erl;have mapS:∀ {β : Type} (f:Nat→β),(List.range (r+1)).map f=(List.range r).map f++[f r]:=fun f=>by rw[List.range_succ,List.map_append]; rfl
 refine⟨61 - (r+1),by omega,r+1,as++[rl],kv2,_,_,_,rfl,rfl,sx.upd hrp0 _,hOx.other nor (fun xs z=>by rw[hAx.1]at z; cases z),iW hMx hAx.1 (eY hMx hAx.1),hNx,by rw[mapS]; exact hA2,?_,?_⟩
 ·have pm:(op::rp::(as++[rl])).Perm (op::rp::rl::as):=by
   rw[List.perm_iff_count];intro x
   simp only[List.count_cons,List.count_append,List.count_nil]
   omega
  exact pm.nodup_iff.mpr nd11
 ·obtain⟨x,e⟩:=eX (br:=br) (b8 a b us (bq br a b us r)) (aG br a b us r)
  show r+1≤(if r<(aG br a b us r).length then _ else _:List Pr).length
  rw[if_pos hend];show r+1≤((b8 a b us (bq br a b us r)).foldl (bD br) (aG br a b us r)).length
  rw[e,List.length_append]; omega
end
def FreshR(H H':Hp)(q:Addr)(r:Rl):Prop:=∃ (pw pr:Addr) (as:List Addr),H' q=some (.tup [.int r.s,.ref pw,.ref pr])∧H' pw=some (.lst (r.ws.map V.str))∧NR H H' pr r.rs as∧H q=none∧H pw=none∧H pr=none∧pw≠pr∧pw∉as
theorem FreshR.at'{H H':Hp}{q:Addr}{r:Rl}(h:FreshR H H' q r):RuleAt H' q r:=let ⟨pw,pr,as,h1,h2,h3,_⟩:=h; ⟨pw,pr,as,h1,h2,h3.at'⟩
theorem FreshR.older{H0 H H':Hp}{q:Addr}{r:Rl}(h:FreshR H H' q r)(sm:Same H0 H):FreshR H0 H' q r:=let ⟨pw,pr,as,h1,h2,h3,h4,h5,h6,h7⟩:=h; ⟨pw,pr,as,h1,h2,⟨h3.at',fun a ha=>⟨sm.free (h3.new a ha).1,(h3.new a ha).2⟩,h3.nd⟩,sm.free h4,sm.free h5,sm.free h6,h7⟩
structure Fit (br:Pr→Bool) (a b:Rl):Prop where
 oa:bm a
 ob:bm b
 na:a.ws.Nodup
 nb:b.ws.Nodup
 s:a.s=b.s
 b0:br (some 0,some 0)=false
 h60:∀ o,eO br a b o→o.length≤60
 h16:∀ us,lK a b us→us.length≤16
theorem Fit.rl{br:Pr→Bool}{a b:Rl}(h:Fit br a b){us:List Str}{M:Nat}(hB:lK a b us)(hM:M≤60)(e:M=(aG br a b us M).length):Whole br a b us M∧bm (de br a b us M):=by
 have hw:Whole br a b us M:=⟨h.oa,h.ob,h.b0,hB.2.1,hB.1,e⟩
 exact⟨hw,hw.rl hM (h.h16 us hB) fun u hu=>by
  rcases(hB.2.1 u).mp hu with z | z
  ·exact h.oa.lw u z
  ·exact h.ob.lw u z⟩
def lS(P:Program)(w:World)(K:PySem.W.Frag)(mg:Str→Option Value)(base:Heap):Sp:=fun vs H Q _=>∃ (p q f:Addr) (a b:Rl) (br:Pr→Bool),vs=[.ref p,.ref q,.ref f]∧RuleAt H p a∧RuleAt H q b∧Fit br a b∧sI P w K mg base 1 f ["pair"] (gg br)∧
 ∀ (t:Addr) (H':Hp) (us:List Str) (M:Nat),Same H H'→lK a b us→sortedS us=true→M≤60→M=(aG br a b us M).length→FreshR H H' t (aX (de br a b us M))→Q (.ref t) H'
def eC(br:Pr→Bool):Sp:=fun vs H Q _=>∃ (p q:Addr) (a b:Rl),vs=[.ref p,.ref q]∧RuleAt H p a∧RuleAt H q b∧Fit br a b∧
 ∀ (t:Addr) (H':Hp) (us:List Str) (M:Nat),Same H H'→lK a b us→sortedS us=true→M≤60→M=(aG br a b us M).length→FreshR H H' t (aX (de br a b us M))→Q (.ref t) H'
section
variable{P:Program}{w:World}{K:PySem.W.Frag}{mg:Str→Option Value}{base:Heap}
theorem vU(D:DefAt K mg "least_of_pairs" aQ) (z_len:mg "len" = none) (g_MOST_ROOMS:∃ t,mg "MOST_ROOMS" = some (.int 60 t)) (g_MOST_WORDS:∃ t,mg "MOST_WORDS" = some (.int 16 t)) (c_refuse_unlike:Cal P w K mg base 1 "refuse_unlike" ["one", "other"] lD) (c_rule_of_pairs:Cal P w K mg base 3 "rule_of_pairs" ["one", "other", "breaks"] (v6 P w K mg base)) (c_least_upto:Cal P w K mg base 5 "least_upto" ["rule", "most"] pE):Cal P w K mg base 6 "least_of_pairs" ["one", "other", "breaks"] (lS P w K mg base):=by
 refine D.cal sc_least_of_pairs (fun _ _ _ _ _ _ us hl=>match us,hl with | [_,_,_],_=>rfl) (fun vs H Q E h=>by obtain⟨_,_,_,_,_,_,rfl,_⟩:=h; rfl) (fun f cdv A outer s H vs Q E hr h=>?_)
 obtain⟨p,q,fb,a,b,br,rfl,hA,hB,ft,cf,fin⟩:=h
 refine⟨_,(ac (cN (aq c_refuse_unlike hr (aa (pv 0) (aa (pv 1) ab))))
   (ac (ax 3 sc_least_of_pairs.nd (aq c_least_upto hr (aa (aq c_rule_of_pairs hr (aa (pv 0) (aa (pv 1) (aa (pv 2) ab)))) (aa (rU g_MOST_ROOMS) ab))))
   (ac (bN (PW.pt' (gE (aT bU (pv 3) bv (aP _)) (fq (aT CF (bZ (bO K) z_len cR (aa (aK (bd K) (pv 3) aj (fun _ _=>rfl)) ab)) (rU g_MOST_WORDS) (aP _))))) (ak oT) bt)
   (ak (aL (pv 3)))))),?_⟩
 walk_at "rd1";refine⟨p,q,a,b,rfl,hA,hB,ft.s,?_⟩
 walk_at "nx";refine⟨p,q,fb,a,b,br,rfl,hA,hB,ft.oa,ft.ob,ft.na,ft.nb,cf,ft.b0,ft.h60,fun t H1 us M s1 hBo hso hM eM hR=>?_⟩
 obtain⟨hw,ok⟩:=ft.rl hBo hM eM
 walk_at "rd1";refine⟨t,_,60,rfl,by rw[iJ]; exact hM,hR,ok,fun q' pw pr H2 as s2 e1 e2 e3 e4 e5 e6 e7 e8=>?_⟩
 walk_at "nx";have hl:=(jQ ok).nw;refine bh (fun c=>absurd c (by simp)) (fun _=>?_)
 refine⟨_,_,.inr (SqT.of e1),aZ (j:=1) rfl,?_⟩
 walk_at "rd1";refine⟨_,.inl (SqL.of e2),bh (fun c=>?_) (fun _=>?_)⟩
 ·rw[List.length_map]at c; omega
 walk_at "nx";exact fin q' H2 us M (s1.trans s2) hBo hso hM eM (FreshR.older ⟨pw,pr,as,e1,e2,e3,e4,e5,e6,e7,e8⟩ s1)
def cW(p:Pr):Bool:=decide (p.1=none)||decide (p.2=none)
theorem rR(o:Option Nat):decide (ar o=V.non)=decide (o=none):=by cases o <;> rfl
theorem tZ(D:DefAt K mg "breaks_one" cM):Cal P w K mg base 1 "breaks_one" ["pair"] (gg cW):=by
 refine D.cal (k:=0) oE (fun _ _ _ _ _ _ us hl=>match us,hl with | [_],_=>rfl) (fun vs H Q E h=>by obtain⟨_,_,rfl,_⟩:=h; rfl) (fun f cdv A outer s H vs Q E hr h=>?_)
 obtain⟨t,p,rfl,ht,q⟩:=h
 refine⟨_,(ak (aL (Ck (cr bU (aK (bd K) (pv 0) aj (fun _ _=>rfl)) bv (aP _)) (mE (cr bU (aK (bd K) (pv 0) aj (fun _ _=>rfl)) bv (aP _)))))),?_⟩
 walk_at "rd1";refine⟨_,_,.inr (SqT.of ht),j_,?_⟩
 obtain⟨p1,p2⟩:=p
 cases p1 with
 | none=>exact bh (fun _=>q) (fun c=>absurd rfl c)
 | some k=>
  have e:cW (some k,p2)=decide (ar p2=V.non):=by rw[rR]; simp[cW]
  rw[e]at q
  exact bh (fun c=>by cases c) (fun _=>⟨_,_,.inr (SqT.of ht),aZ (j:=1) rfl,q⟩)
theorem uI(D:DefAt K mg "joined_rule" bJ) (c_breaks:Cal P w K mg base 1 "breaks_one" ["pair"] (gg cW)) (c_least_of_pairs:Cal P w K mg base 6 "least_of_pairs" ["one", "other", "breaks"] (lS P w K mg base)):Cal P w K mg base 7 "joined_rule" ["one", "other"] (eC cW):=by
 refine D.cal ng (fun _ _ _ _ _ _ us hl=>match us,hl with | [_,_],_=>rfl) (fun vs H Q E h=>by obtain⟨_,_,_,_,rfl,_⟩:=h; rfl) (fun f cdv A outer s H vs Q E hr h=>?_)
 obtain⟨p,q,a,b,rfl,hA,hB,ft,fin⟩:=h
 obtain⟨fb,fm_breaks_one,cf⟩:=c_breaks.f
 refine⟨_,(ak (aL (aq c_least_of_pairs hr (aa (pv 0) (aa (pv 1) (aa (ux fm_breaks_one) ab)))))),?_⟩
 walk_at "rd1";exact⟨p,q,fb,a,b,cW,rfl,hA,hB,ft,cf,fin⟩
def cY(p:Pr):Bool:=decide (p.1=none)&&decide (p.2=none)
theorem tw(D:DefAt K mg "breaks_both" cu):Cal P w K mg base 1 "breaks_both" ["pair"] (gg cY):=by
 refine D.cal (k:=0) m8 (fun _ _ _ _ _ _ us hl=>match us,hl with | [_],_=>rfl) (fun vs H Q E h=>by obtain⟨_,_,rfl,_⟩:=h; rfl) (fun f cdv A outer s H vs Q E hr h=>?_)
 obtain⟨t,p,rfl,ht,q⟩:=h
 refine⟨_,(ak (aL (qk (cr bU (aK (bd K) (pv 0) aj (fun _ _=>rfl)) bv (aP _)) (mE (cr bU (aK (bd K) (pv 0) aj (fun _ _=>rfl)) bv (aP _)))))),?_⟩
 walk_at "rd1";refine⟨_,_,.inr (SqT.of ht),j_,?_⟩
 obtain⟨p1,p2⟩:=p
 cases p1 with
 | some k=>exact bh (fun c=>by cases c) (fun _=>q)
 | none=>
  have e:cY (none,p2)=decide (ar p2=V.non):=by rw[rR]; simp[cY]
  rw[e]at q
  exact bh (fun _=>⟨_,_,.inr (SqT.of ht),aZ (j:=1) rfl,q⟩) (fun c=>absurd rfl c)
theorem uC(D:DefAt K mg "either_rule" bH) (c_breaks:Cal P w K mg base 1 "breaks_both" ["pair"] (gg cY)) (c_least_of_pairs:Cal P w K mg base 6 "least_of_pairs" ["one", "other", "breaks"] (lS P w K mg base)):Cal P w K mg base 7 "either_rule" ["one", "other"] (eC cY):=by
 refine D.cal m4 (fun _ _ _ _ _ _ us hl=>match us,hl with | [_,_],_=>rfl) (fun vs H Q E h=>by obtain⟨_,_,_,_,rfl,_⟩:=h; rfl) (fun f cdv A outer s H vs Q E hr h=>?_)
 obtain⟨p,q,a,b,rfl,hA,hB,ft,fin⟩:=h
 obtain⟨fb,fm_breaks_both,cf⟩:=c_breaks.f
 refine⟨_,(ak (aL (aq c_least_of_pairs hr (aa (pv 0) (aa (pv 1) (aa (ux fm_breaks_both) ab)))))),?_⟩
 walk_at "rd1";exact⟨p,q,fb,a,b,cY,rfl,hA,hB,ft,cf,fin⟩
abbrev step:=aw
def after(r:Rl):Nat→List Str→Option Nat
 | k,[]=>some k
 | k,y::ys=>match step r k y with
  | none=>none
  | some k'=>after r k' ys
theorem zr{r:Rl}{k j:Nat}{y:Str}(ok:bm r)(hk:k<r.rs.length)(h:step r k y=some j):j<r.rs.length:=fL ok hk h
def u_:Sp:=fun vs H Q _=>∃ (p:Addr) (r:Rl) (k:Nat) (y:Str),vs=[.ref p,.int k,.str y]∧RuleAt H p r∧bm r∧k<r.rs.length∧Q (ar (step r k y)) H
def su(K:PySem.W.Frag):Sp:=fun vs H Q _=>∃ (p b:Addr) (r:Rl) (ys:List Str),vs=[.ref p,.ref b]∧RuleAt H p r∧bm r∧SqL K H b (ys.map V.str)∧Q (ar (after r 0 ys)) H
def uy(K:PySem.W.Frag):Sp:=fun vs H Q _=>∃ (p b:Addr) (r:Rl) (j:Nat) (ys:List Str),vs=[.ref p,.int j,.ref b]∧RuleAt H p r∧bm r∧j<r.rs.length∧SqL K H b (ys.map V.str)∧Q (ar (after r j ys)) H
theorem zP{r:Rl}{k:Nat}{y:Str}{x:List (Option Nat)}(ok:bm r)(hx:r.rs[k]? = some x)(hy:y∈r.ws):(x.map ar)[r.ws.idxOf y]? = some (ar (step r k y)):=by
 have hj:r.ws.idxOf y<x.length:=by rw[(ok.row x (List.mem_of_getElem? hx)).1]; exact List.idxOf_lt_length_iff.mpr hy
 rw[List.getElem?_map,List.getElem?_eq_getElem hj];show some (ar x[r.ws.idxOf y])=_
 unfold step aw;rw[if_pos hy,List.getD_eq_getElem?_getD (l:=r.rs),hx];show _=some (ar (x.getD (r.ws.idxOf y) none))
 rw[List.getD_eq_getElem?_getD,List.getElem?_eq_getElem hj]; rfl
theorem zB(D:DefAt K mg "next_room" bR):Cal P w K mg base 1 "next_room" ["rule", "room", "text"] u_:=by
 refine D.cal sc_next_room (fun _ _ _ _ _ _ us hl=>match us,hl with | [_,_,_],_=>rfl) (fun vs H Q E h=>by obtain⟨p,r,k,y,rfl,_⟩:=h; rfl) (fun f cdv A outer s H vs Q E hr h=>?_)
 obtain⟨p,r,k,y,rfl,hR,ok,hk,q⟩:=h
 obtain⟨pw,pr,as,h1,h2,h3,h4,h5⟩:=hR
 refine⟨_,(ac (ax 3 sc_next_room.nd (aK (bd K) (pv 0) aj (fun _ _=>rfl)))
   (ac (bN (aT (vm K) (pv 2) (pv 3) (by with_unfolding_all rfl)) (ak (aL (pv 1))) bt)
   (ak (aL (aK (bd K) (aK (bd K) (aK (bd K) (pv 0) aj (fun _ _=>rfl)) (pv 1) (fun _ _=>rfl)) (dh K PySem.F.plainAttrs_list PySem.F.slot_list_index PySem.F.type_list_index (vb K) (pv 3) (aa (pv 2) ab)) (fun _ _=>rfl)))))),?_⟩
 walk_at "rd1";refine⟨_,_,.inr (SqT.of h1),rfl,?_⟩
 walk_at "nx";refine⟨_,.inl (SqL.of h2),rfl,u7 _,?_⟩
 rw[zq];refine bh (fun c=>?_) (fun c=>?_)
 ·have hy:y∉r.ws:=by simpa using c
  have e:step r k y=some k:=by unfold step aw; rw[if_neg hy]
  rw[e]at q; exact q
 ·have hy:y∈r.ws:=by simpa using c
  obtain⟨b,hb⟩ : ∃ b,as[k]? = some b:=⟨as[k],List.getElem?_eq_getElem (by omega)⟩
  obtain⟨x,hx⟩ : ∃ x,r.rs[k]? = some x:=⟨_,List.getElem?_eq_getElem hk⟩
  walk_at "nx";refine⟨_,_,.inr (SqT.of h1),rfl,?_⟩
  walk_at "rd1";refine⟨_,_,.inl (SqL.of h3),(p9 (by omega) (by simpa using hb)),?_⟩
  walk_at "rd1";refine⟨⟨_,SqL.of h2⟩,_,SqL.of h2,hy,?_⟩
  exact⟨_,_,.inl (SqL.of (h5 k b x hb hx)),(aZ (zP ok hx hy)),q⟩
theorem t_{r:Rl}{k i:Nat}{ys:List Str}{y:Str}(h:ys[i]? = some y):after r k (ys.drop i)=match step r k y with
  | none=>none
  | some k'=>after r k' (ys.drop (i+1)):=by
 have hi:=(List.getElem?_eq_some_iff.mp h);obtain⟨hi,e⟩:=hi
 rw[List.drop_eq_getElem_cons hi,e]
 rfl
theorem pe(D:DefAt K mg "room_from" bE) (c_next_room:Cal P w K mg base 1 "next_room" ["rule", "room", "text"] u_):Cal P w K mg base 2 "room_from" ["rule", "room", "row"] (uy K):=by
 refine D.cal sc_room_from (fun _ _ _ _ _ _ us hl=>match us,hl with | [_,_,_],_=>rfl) (fun vs H Q E h=>by obtain⟨p,b,r,j,ys,rfl,_⟩:=h; rfl) (fun f cdv A outer s H vs Q E hr h=>?_)
 obtain⟨p,b,r,j,ys,rfl,hR,ok,hj,hb,q⟩:=h
 refine⟨_,(ac (cS PassesOwn.never rfl (cx K (pv 2)) (bc 3 sc_room_from.nd) (ac (ax 1 sc_room_from.nd (aq c_next_room hr (aa (pv 0) (aa (pv 1) (aa (pv 3) ab)))))
   (ak (bN (aT bU (pv 1) bv (aP _)) (ak (aL bv)) bt))))
   (ak (aL (pv 1)))),?_⟩
 walk_at "rd1";refine⟨⟨_,hb⟩,?_⟩
 refine ke (xs:=ys.map V.str) (fun i σ H'=>∃ (k:Nat) (o:Option V),σ=[some (.ref p),some (.int k),some (.ref b),o]∧H=H'∧k<r.rs.length∧after r j ys=after r k (ys.drop i)) ⟨j,none,rfl,rfl,hj,rfl⟩ (fun i σ H' _ h=>by obtain⟨_,_,_,rfl,_⟩:=h; exact hb) ?_ ?_
 ·rintro i x σ H' hx ⟨k,o,rfl,rfl,hk,e⟩
  rw[List.getElem?_map]at hx
  cases qy:ys[i]? with
  | none=>rw[qy]at hx; cases hx
  | some y=>
   rw[qy]at hx; cases hx
   rw[t_ qy]at e
   walk_at "rd1";refine⟨p,r,k,y,rfl,hR,ok,hk,?_⟩
   cases hst:step r k y with
   | none=>
    rw[hst]at e
    walk_at "nx";refine bh (fun c=>?_) (fun c=>?_)
    ·rw[e]at q; exact q
    ·exact absurd rfl c
   | some k'=>
    rw[hst]at e
    have hk':=zr ok hk hst;walk_at "nx";refine bh (fun c=>?_) (fun c=>?_)
    ·cases c
    ·exact⟨k',_,rfl,hk',e⟩
 ·rintro σ H' ⟨k,o,rfl,rfl,hk,e⟩
  rw[List.length_map,List.drop_length]at e
  walk_at "nx";have e':after r j ys=some k:=e
  rw[e']at q; exact q
theorem oG(D:DefAt K mg "room_after" b4) (c_room_from:Cal P w K mg base 2 "room_from" ["rule", "room", "row"] (uy K)):Cal P w K mg base 3 "room_after" ["rule", "row"] (su K):=by
 refine D.cal oA (fun _ _ _ _ _ _ us hl=>match us,hl with | [_,_],_=>rfl) (fun vs H Q E h=>by obtain⟨p,b,r,ys,rfl,_⟩:=h; rfl) (fun f cdv A outer s H vs Q E hr h=>?_)
 obtain⟨p,b,r,ys,rfl,hR,ok,hb,q⟩:=h
 refine⟨_,(ak (aL (aq c_room_from hr (aa (pv 0) (aa aj (aa (pv 1) ab)))))),?_⟩
 walk_at "rd1";exact⟨p,b,r,0,ys,rfl,hR,ok,ok.n0,hb,q⟩
end
theorem nM:∀ {l m:List Str},l.Nodup→(∀ x∈l,x∈m)→l.length≤m.length
 | [],_,_,_=>Nat.zero_le _
 | x::l,m,hn,hs=>by
  have hx:=hs x List.mem_cons_self;obtain⟨h1,h2⟩:=List.nodup_cons.mp hn
  have h3:=nM (m:=m.erase x) h2 (fun y hy=>(List.mem_erase_of_ne (by rintro rfl; exact h1 hy)).mpr (hs y (List.mem_cons_of_mem _ hy)))
  rw[List.length_erase_of_mem hx]at h3
  have:=List.length_pos_of_mem hx
  rw[List.length_cons]; omega
def kp(r:Rl)(ys:List Str):Prop:=after r 0 ys≠none
theorem b7(r:Rl)(k:Nat)(y:Str)(ys:List Str):after r k (y::ys)=(aw r k y).bind fun k'=>after r k' ys:=by
 show (match aw r k y with | none=>none | some k'=>after r k' ys)=_
 cases aw r k y <;> rfl
theorem fv(r:Rl):∀ (ys:List Str) (k:Nat) (y:Str),after r k (ys++[y])=(after r k ys).bind fun k'=>aw r k' y
 | [],k,y=>by
  show after r k [y]=aw r k y
  rw[b7]
  cases aw r k y <;> rfl
 | x::ys,k,y=>by
  rw[List.cons_append,b7,b7]
  cases aw r k x with
  | none=>rfl
  | some k'=>exact fv r ys k' y
theorem kR{r:Rl}(ok:bm r)(nd:r.ws.Nodup):∀ (ys:List Str) (k:Nat),d_ r.rs k→after (aX r) (iR r.rs k) ys=(after r k ys).map (iR r.rs)
 | [],_,_=>rfl
 | y::ys,k,h=>by
  rw[b7,b7,qZ ok nd h]
  cases e:aw r k y with
  | none=>rfl
  | some k'=>exact kR ok nd ys k' (qT ok nd h e)
theorem yw{r:Rl}(ok:bm r)(nd:r.ws.Nodup)(ys:List Str):kp (aX r) ys ↔ kp r ys:=by
 have:=kR ok nd ys 0 (sW ok.n0)
 rw[yg ok.n0]at this
 unfold kp;rw[this]
 cases after r 0 ys <;> simp
theorem xQ{A B:Rl}(LA:ff A)(LB:ff B)(hs:A.s=B.s)(h:∀ ys,kp A ys ↔ kp B ys):A=B:=by
 refine Alike.one (E:=fun i j=>i<A.rs.length∧j<B.rs.length∧∀ ys,after A i ys≠none ↔ after B j ys≠none) ⟨⟨LA.ok.n0,LB.ok.n0,h⟩,fun i j e=>⟨e.1,e.2.1⟩,?_⟩ hs LA LB
 rintro i j y ⟨hi,hj,e⟩
 have e1:=e [y];rw[b7,b7]at e1
 cases ha:aw A i y with
 | none=>
  cases hb:aw B j y with
  | none=>exact .inl ⟨rfl,rfl⟩
  | some j'=>
   rw[ha,hb]at e1
   exact absurd rfl (e1.mpr (by intro z; cases z))
 | some i'=>
  cases hb:aw B j y with
  | none=>
   rw[ha,hb]at e1
   exact absurd rfl (e1.mp (by intro z; cases z))
  | some j'=>
   refine .inr ⟨i',j',rfl,rfl,fL LA.ok hi ha,fL LB.ok hj hb,fun ys=>?_⟩
   have e2:=e (y::ys);rw[b7,b7,ha,hb]at e2
   exact e2
def dM(r:Rl)(o:Option Nat)(ys:List Str):Option Nat:=o.bind fun k=>after r k ys
theorem nU(r:Rl)(o:Option Nat)(y:Str)(ys:List Str):dM r o (y::ys)=dM r (gP r o y) ys:=by
 cases o with
 | none=>rfl
 | some k=>
  show after r k (y::ys)=dM r (aw r k y) ys
  rw[b7]; rfl
theorem vi(r:Rl)(ys:List Str):dM r none ys=none:=rfl
theorem po(r:Rl)(o:Option Nat):dM r o []=o:=by cases o <;> rfl
theorem mC{br:Pr→Bool}{a b:Rl}{us:List Str}{M:Nat}(mono:∀ (p:Pr) (ys:List Str),br p=true→br (dM a p.1 ys,dM b p.2 ys)=true)(h:Whole br a b us M):∀ (ys:List Str) (i:Nat) (hi:i<M) (p:Pr),(aG br a b us M)[i]? = some p→(after (de br a b us M) i ys=none ↔ br (dM a p.1 ys,dM b p.2 ys)=true)
 | [],i,hi,p,e=>by
  have:=h.ord.nb p (List.mem_of_getElem? e)
  rw[po,po,this];show some i=none ↔ _
  simp
 | y::ys,i,hi,p,e=>by
  have hl:i<(aG br a b us M).length:=by rw[← h.M1]; exact hi
  have ep:(aG br a b us M)[i]=p:=by rw[List.getElem?_eq_getElem hl]at e; exact Option.some.inj e
  rw[b7,h.step hi y,ep,nU,nU]
  cases hb:br (dc a b p y) with
  | true=>
   rw[if_pos rfl];have:=mono (dc a b p y) ys hb
   exact⟨fun _=>this,fun _=>rfl⟩
  | false=>
   rw[if_neg (by decide)]
   have c:=h.closed hi (y:=y) (by rw[ep]; exact hb)
   rw[ep]at c
   have x:=List.idxOf_lt_length_iff.mpr c;exact mC mono h ys _ (Nat.lt_of_lt_of_eq x h.M1.symm) (dc a b p y) (by rw[List.getElem?_eq_getElem x,List.getElem_idxOf])
theorem zx{br:Pr→Bool}{a b:Rl}{us:List Str}{M:Nat}(mono:∀ (p:Pr) (ys:List Str),br p=true→br (dM a p.1 ys,dM b p.2 ys)=true)(h:Whole br a b us M)(ys:List Str):kp (de br a b us M) ys ↔ br (after a 0 ys,after b 0 ys)=false:=by
 have:=mC mono h ys 0 h.pos _ h.zero
 unfold kp;rw[Ne,this];show ¬ br (after a 0 ys,after b 0 ys)=true ↔ _
 simp
theorem xb{a b:Rl}(p:Pr)(ys:List Str)(h:cW p=true):cW (dM a p.1 ys,dM b p.2 ys)=true:=by
 obtain⟨x,y⟩:=p
 cases x with
 | none=>rfl
 | some i=>
  cases y with
  | none=>simp[cW,vi]
  | some j=>cases h
theorem xT{a b:Rl}(p:Pr)(ys:List Str)(h:cY p=true):cY (dM a p.1 ys,dM b p.2 ys)=true:=by
 obtain⟨x,y⟩:=p
 cases x with
 | none=>
  cases y with
  | none=>rfl
  | some j=>cases h
 | some i=>cases h
theorem zV{a b:Rl}{o:List Pr}(h:eO cW a b o):o.length≤a.rs.length * b.rs.length:=by
 have key:∀ t∈o,∃ i j,t=(some i,some j)∧i<a.rs.length∧j<b.rs.length:=fun t ht=>by
  have h1:=h.nb t ht;have h2:=h.inn t ht;obtain⟨x,y⟩:=t
  cases x with
  | none=>cases h1
  | some i=>
   cases y with
   | none=>simp[cW]at h1
   | some j=>exact⟨i,j,rfl,h2.1 i rfl,h2.2 j rfl⟩
 have:=fJ (a.rs.length * b.rs.length) (o.map fun t=>t.1.getD 0 * b.rs.length+t.2.getD 0) (List.pairwise_map.mpr (List.Pairwise.imp_of_mem (fun {x y} hx hy hab e=>hab (by
  obtain⟨i,j,rfl,h1,h2⟩:=key x hx
  obtain⟨i',j',rfl,h3,h4⟩:=key y hy
  obtain⟨rfl,rfl⟩:=p6 h2 h4 e
  rfl)) h.nd)) (fun x hx=>by
   obtain⟨t,ht,rfl⟩:=List.mem_map.mp hx
   obtain⟨i,j,rfl,h1,h2⟩:=key t ht
   show i * b.rs.length+j<_
   calc i * b.rs.length+j<i * b.rs.length+b.rs.length:=by omega
    _=(i+1) * b.rs.length:=by rw[Nat.add_mul,Nat.one_mul]
    _≤a.rs.length * b.rs.length:=Nat.mul_le_mul_right _ (by omega))
 rwa [List.length_map]at this
theorem zh{a b:Rl}{o:List Pr}(h:eO cY a b o):o.length+1≤(a.rs.length+1) * (b.rs.length+1):=by
 have hn:((none,none):Pr)∉o:=fun z=>by have:=h.nb _ z; cases this
 have:=fJ ((a.rs.length+1) * (b.rs.length+1)) (((none,none)::o).map (pT b.rs.length)) (List.pairwise_map.mpr (List.Pairwise.imp_of_mem (fun {x y} hx hy hab e=>hab (by
  have inn:∀ t∈(none,none)::o,ju a b t:=fun t ht=>by
   rcases List.mem_cons.mp ht with z | z
   ·rw[z]; exact⟨fun k e=>(by cases e),fun k e=>(by cases e)⟩
   ·exact h.inn t z
  exact yi (inn x hx) (inn y hy) e)) (List.nodup_cons.mpr ⟨hn,h.nd⟩))) (fun x hx=>by
  obtain⟨t,ht,rfl⟩:=List.mem_map.mp hx
  rcases List.mem_cons.mp ht with z | z
  ·rw[z]; exact rz ⟨fun k e=>(by cases e),fun k e=>(by cases e)⟩
  ·exact rz (h.inn t z))
 simpa using this
theorem qS{r:Rl}(ok:bm r):(aX r).rs.length≤r.rs.length:=by
 have h:=sM (kg ok);obtain⟨h1,h2,h3⟩:=eG h.n0 h.ins
 rw[dN,dH,leastN_len];exact Nat.le_trans (dE h1 h2).2.2 h3
structure IsR (W:List Str) (S:Int) (n:Nat) (L:List Str→Prop) (r:Rl):Prop where
 ok:bm r
 nd:r.ws.Nodup
 so:sortedS r.ws=true
 sub:∀ y∈r.ws,y∈W
 s:r.s=S
 le:r.rs.length≤n
 lang:∀ ys,kp r ys ↔ L ys
theorem IsR.least{W:List Str}{S:Int}{n:Nat}{L:List Str→Prop}{r:Rl}(h:IsR W S n L r):IsR W S n L (aX r)∧ff (aX r):=
 ⟨⟨jQ h.ok,jz h.nd,ko h.so,fun y hy=>h.sub y (nD hy),h.s,Nat.le_trans (qS h.ok) h.le,fun ys=>by rw[yw h.ok h.nd]; exact h.lang ys⟩,vx h.ok h.nd h.so⟩
theorem IsR.eq{W:List Str}{S:Int}{n m:Nat}{L L':List Str→Prop}{r r':Rl}(h:IsR W S n L r)(h':IsR W S m L' r')(l:ff r)(l':ff r')(e:∀ ys,L ys ↔ L' ys):r=r':=
 xQ l l' (by rw[h.s,h'.s]) fun ys=>by rw[h.lang,h'.lang,e]
theorem IsR.iff{W:List Str}{S:Int}{n m:Nat}{L L':List Str→Prop}{r r':Rl}(h:IsR W S n L r)(h':IsR W S m L' r')(l:ff r)(l':ff r'):r=r' ↔ ∀ ys,L ys ↔ L' ys:=
 ⟨fun e ys=>by rw[← h.lang,← h'.lang,e],h.eq h' l l'⟩
theorem IsR.fit{br:Pr→Bool}{W:List Str}{S:Int}{n m:Nat}{L L':List Str→Prop}{a b:Rl}(ha:IsR W S n L a)(hb:IsR W S m L' b)(hW:W.length≤16)(b0:br (some 0,some 0)=false)(h60:∀ o,eO br a b o→o.length≤60):Fit br a b:=
 ⟨ha.ok,hb.ok,ha.nd,hb.nd,by rw[ha.s,hb.s],b0,h60,fun us hu=>by
  have:=nM (m:=W) hu.1 fun x hx=>by
   rcases(hu.2.1 x).mp hx with z | z
   ·exact ha.sub x z
   ·exact hb.sub x z
  omega⟩
theorem IsR.prod{br:Pr→Bool}{W:List Str}{S:Int}{n m N:Nat}{L L':List Str→Prop}{a b:Rl}(ha:IsR W S n L a)(hb:IsR W S m L' b)(ft:Fit br a b)(mono:∀ (p:Pr) (ys:List Str),br p=true→br (dM a p.1 ys,dM b p.2 ys)=true)(hN:∀ o,eO br a b o→o.length≤N){us:List Str}{M:Nat}(hB:lK a b us)(so:sortedS us=true)(hM:M≤60)(e:M=(aG br a b us M).length):IsR W S N (fun ys=>br (after a 0 ys,after b 0 ys)=false) (aX (de br a b us M))∧ff (aX (de br a b us M)):=by
 obtain⟨hw,ok⟩:=ft.rl hB hM e
 refine IsR.least ⟨ok,hB.1,so,fun y hy=>?_,ha.s,by rw[iJ,e]; exact hN _ hw.ord,fun ys=>zx mono hw ys⟩
 rcases(hB.2.1 y).mp hy with z | z
 ·exact ha.sub y z
 ·exact hb.sub y z
theorem cP{W:List Str}{S:Int}{n m:Nat}{L L':List Str→Prop}{a b:Rl}{p q:Addr}{H:Hp}{Q:V→Hp→Prop}{E}(hA:RuleAt H p a)(hB:RuleAt H q b)(ha:IsR W S n L a)(hb:IsR W S m L' b)(hW:W.length≤16)(h60:n * m≤60)(k:∀ (t:Addr) (H':Hp) (c:Rl),Same H H'→RuleAt H' t c→IsR W S (n * m) (fun ys=>L ys∧L' ys) c→ff c→Q (.ref t) H'):eC cW [.ref p,.ref q] H Q E:=by
 have hN:∀ o,eO cW a b o→o.length≤n * m:=fun o ho=>Nat.le_trans (zV ho) (Nat.mul_le_mul ha.le hb.le)
 have ft:Fit cW a b:=ha.fit hb hW rfl fun o ho=>Nat.le_trans (hN o ho) h60
 refine⟨p,q,a,b,rfl,hA,hB,ft,fun t H' us M sm hBo so hM e hF=>?_⟩
 obtain⟨h1,h2⟩:=ha.prod hb ft xb hN hBo so hM e
 refine k t H' _ sm hF.at' ⟨h1.ok,h1.nd,h1.so,h1.sub,h1.s,h1.le,fun ys=>?_⟩ h2
 rw[h1.lang,← ha.lang,← hb.lang];simp[cW,kp]
theorem cq{W:List Str}{S:Int}{n m:Nat}{L L':List Str→Prop}{a b:Rl}{p q:Addr}{H:Hp}{Q:V→Hp→Prop}{E}(hA:RuleAt H p a)(hB:RuleAt H q b)(ha:IsR W S n L a)(hb:IsR W S m L' b)(hW:W.length≤16)(h60:(n+1) * (m+1) - 1≤60)(k:∀ (t:Addr) (H':Hp) (c:Rl),Same H H'→RuleAt H' t c→IsR W S ((n+1) * (m+1) - 1) (fun ys=>L ys∨L' ys) c→ff c→Q (.ref t) H'):eC cY [.ref p,.ref q] H Q E:=by
 have hN:∀ o,eO cY a b o→o.length≤(n+1) * (m+1) - 1:=fun o ho=>by
  have h1:=zh ho;have h2:=Nat.mul_le_mul (Nat.succ_le_succ ha.le) (Nat.succ_le_succ hb.le);have h3:(a.rs.length+1) * (b.rs.length+1)≤(n+1) * (m+1):=h2
  omega
 have ft:Fit cY a b:=ha.fit hb hW rfl fun o ho=>Nat.le_trans (hN o ho) h60
 refine⟨p,q,a,b,rfl,hA,hB,ft,fun t H' us M sm hBo so hM e hF=>?_⟩
 obtain⟨h1,h2⟩:=ha.prod hb ft xT hN hBo so hM e
 refine k t H' _ sm hF.at' ⟨h1.ok,h1.nd,h1.so,h1.sub,h1.s,h1.le,fun ys=>?_⟩ h2
 rw[h1.lang,← ha.lang,← hb.lang];have e:∀ x y:Option Nat,cY (x,y)=false ↔ (x≠none∨y≠none):=fun x y=>by cases x <;> cases y <;> simp[cY]
 exact e _ _
inductive RowTo (cs:List (Option (Nat × Str))):Nat→List Str→Prop
 | z {i:Nat}:cs[i]? = some none→RowTo cs i []
 | s {i k:Nat} {w:Str} {row:List Str}:cs[i]? = some (some (k,w))→RowTo cs k row→RowTo cs i (row++[w])
def EntC(H:Hp)(v:V):Option (Nat × Str)→Prop
 | none=>v = .non
 | some (k,w)=>∃ t,v = .ref t∧H t=some (.tup [.int (k:Int),.str w])
def CameAt(H:Hp)(c:Addr)(cs:List (Option (Nat × Str))):Prop:=∃ vs:List V,H c=some (.lst vs)∧vs.length=cs.length∧(∀ (i:Nat) v e,vs[i]? = some v→cs[i]? = some e→EntC H v e)∧(∀ (i:Nat) k w,cs[i]? = some (some (k,w))→k<i)
theorem EntC.mono{H H':Hp}{v:V}{e:Option (Nat × Str)}(h:EntC H v e)(sm:∀ t xs,H t=some (.tup xs)→H' t=some (.tup xs)):EntC H' v e:=by
 cases e with
 | none=>exact h
 | some p=>obtain⟨k,w⟩:=p; obtain⟨t,e1,e2⟩:=h; exact⟨t,e1,sm _ _ e2⟩
theorem CameAt.mono{H H':Hp}{c:Addr}{cs:List (Option (Nat × Str))}(h:CameAt H c cs)(sm:Same H H'):CameAt H' c cs:=by
 obtain⟨vs,h1,h2,h3,h4⟩:=h
 exact⟨vs,sm _ _ h1,h2,fun i v e e1 e2=>(h3 i v e e1 e2).mono fun t xs z=>sm _ _ z,h4⟩
def rm:Sp:=fun vs H Q _=>∃ (c:Addr) (cs:List (Option (Nat × Str))) (k:Nat),vs=[.ref c,.int (k:Int)]∧CameAt H c cs∧k<cs.length∧cs.length≤4000∧∀ (l:Addr) (H':Hp) (row:List Str),Same H H'→H l=none→H' l=some (.lst (row.map V.str))→RowTo cs k row→row.length≤4000→Q (.ref l) H'
section
variable{P:Program}{w:World}{K:PySem.W.Frag}{mg:Str→Option Value}{base:Heap}
theorem x9(D:DefAt K mg "row_to" b_) (z_list:mg "list" = none) (z_reversed:mg "reversed" = none):Cal P w K mg base 1 "row_to" ["came", "at"] rm:=by
 refine D.cal (k:=0) sc_row_to (fun _ _ _ _ _ _ us hl=>match us,hl with | [_,_],_=>rfl) (fun vs H Q E h=>by obtain⟨_,_,_,rfl,_⟩:=h; rfl) (fun f cdv A outer s H vs Q E hr h=>?_)
 obtain⟨c,cs,k,rfl,⟨us,h1,h2,h3,h4⟩,hk,h4000,q⟩:=h
 refine⟨_,(ac (ax 2 sc_row_to.nd (cJ ab))
   (ac (ax 3 sc_row_to.nd (pv 1))
   (ac (iU PassesOwn.never (aT qm (aK (bd K) (pv 0) (pv 3) (fun _ _=>rfl)) bv (aP _)) (ac (cN (dh K PySem.F.plainAttrs_list PySem.F.slot_list_append PySem.F.type_list_append b6 (pv 2) (aa (aK (bd K) (aK (bd K) (pv 0) (pv 3) (fun _ _=>rfl)) aj (fun _ _=>rfl)) ab)))
   (ak (ax 3 sc_row_to.nd (aK (bd K) (aK (bd K) (pv 0) (pv 3) (fun _ _=>rfl)) aj (fun _ _=>rfl))))))
   (ak (aL (tI K hr Em z_list Df z_reversed (aa (pv 2) ab))))))),?_⟩
 walk_at "rd1";refine⟨by decide,fun rp hrp=>?_⟩
 have s1:=al hrp (.lst []);have e1:upd H rp (.lst []) rp=some (.lst (([]:List Str).map V.str)):=ae
 generalize upd H rp (.lst [])=H1 at s1 e1 ⊢;walk_at "nx";walk_at "nx"
 refine⟨fun mm σ H'=>∃ (p:Nat) (row:List Str),mm=p∧p+row.length≤k∧σ=[some (.ref c),some (.int (k:Int)),some (.ref rp),some (.int (p:Int))]∧Same H H'∧H' rp=some (.lst (row.map V.str))∧∀ row',RowTo cs p row'→RowTo cs k (row'++row.reverse),
  ⟨_,k,[],rfl,by simp,rfl,s1,e1,fun row' h=>by simpa using h⟩,?_⟩
 rintro mm σ H' ⟨p,row,em,hp,rfl,sm,hr',hrow⟩
 subst em;have hpl:mm<cs.length:=by omega
 obtain⟨v,hv⟩ : ∃ v,us[mm]? = some v:=⟨us[mm],List.getElem?_eq_getElem (by omega)⟩
 obtain⟨e,he⟩ : ∃ e,cs[mm]? = some e:=⟨cs[mm],List.getElem?_eq_getElem hpl⟩
 have hent:=(h3 mm v e hv he).mono (H':=H') fun t xs z=>sm _ _ z
 walk_at "rd1";refine⟨_,v,.inl (SqL.of (sm _ _ h1)),aZ hv,?_⟩
 cases e with
 | none=>
  have ev:v = .non:=hent
  subst ev;walk_at "rd1";walk_at "nx";refine bh (fun c=>absurd c (by simp)) (fun _=>?_)
  rw[xJ];walk_at "rd1";refine⟨_,SqL.of hr',by rw[List.length_map]; omega,fun l hl=>?_⟩
  rw[← List.map_reverse];exact q l _ row.reverse (sm.trans (al hl _)) (sm.free hl) ae (by simpa using hrow [] (.z he)) (by simp; omega)
 | some kw=>
  obtain⟨k',wd⟩:=kw
  obtain⟨t,rfl,ht⟩:=hent
  have hlt:=h4 mm k' wd he;walk_at "rd1";refine bh (fun _=>?_) (fun c=>absurd (by simp) c)
  refine⟨fun σ' H'=>∃ m',m'<mm∧∃ (p:Nat) (row:List Str),m'=p∧p+row.length≤k∧σ'=[some (.ref c),some (.int (k:Int)),some (.ref rp),some (.int (p:Int))]∧Same H H'∧H' rp=some (.lst (row.map V.str))∧∀ row',RowTo cs p row'→RowTo cs k (row'++row.reverse),fun _ _ h=>h,⟨_,SqL.of hr'⟩,_,_,.inl (SqL.of (sm _ _ h1)),aZ hv,?_⟩
  walk_at "rd1";refine⟨_,_,.inr (SqT.of ht),aZ (j:=1) rfl,?_⟩
  refine⟨_,hr',by rw[List.length_map]; exact ce (by omega),?_⟩
  have sm2:=sm.upd hrp (.lst (row.map V.str++[.str wd]));have e2:upd H' rp (.lst (row.map V.str++[.str wd])) rp=some (.lst (row.map V.str++[.str wd])):=ae
  have ht2:upd H' rp (.lst (row.map V.str++[.str wd])) t=some (.tup [.int (k':Int),.str wd]):=by rw[ai (fun z=>by subst z; rw[hr']at ht; cases ht)]; exact ht
  generalize upd H' rp (.lst (row.map V.str++[.str wd]))=H2 at sm2 e2 ht2 ⊢;walk_at "nx";refine⟨_,_,.inl (SqL.of (sm2 _ _ h1)),aZ hv,?_⟩
  walk_at "rd1";refine⟨_,_,.inr (SqT.of ht2),j_,?_⟩
  refine⟨k',hlt,k',row++[wd],rfl,by simp; omega,rfl,sm2,by rw[e2,List.map_append]; rfl,fun row' h=>?_⟩
  have:=hrow _ (.s he h)
  simpa using this
end
def ClosedP(r r':Rl)(ps:List (Nat × Nat))(p:Nat × Nat):Prop:=∀ y,(y∈r.ws∨y∈r'.ws)→∀ i',aw r p.1 y=some i'→∃ j',aw r' p.2 y=some j'∧(i',j')∈ps
theorem ClosedP.sub{r r':Rl}{ps qs:List (Nat × Nat)}{p:Nat × Nat}(h:ClosedP r r' ps p)(hs:∀ x∈ps,x∈qs):ClosedP r r' qs p:=fun y hy i' e=>by
 obtain⟨j',e2,m⟩:=h y hy i' e
 exact⟨j',e2,hs _ m⟩
theorem jL{r r':Rl}{ps:List (Nat × Nat)}(hc:∀ p∈ps,ClosedP r r' ps p):∀ (ys:List Str) (i j:Nat),(i,j)∈ps→after r i ys≠none→after r' j ys≠none
 | [],i,j,_,_=>fun z=>by cases z
 | y::ys,i,j,m,h=>by
  rw[b7]at h ⊢
  by_cases hy:y∈r.ws∨y∈r'.ws
  ·cases e:aw r i y with
   | none=>rw[e]at h; exact absurd rfl h
   | some i'=>
    obtain⟨j',e2,m'⟩:=hc _ m y hy i' e
    rw[e2];rw[e]at h
    exact jL hc ys i' j' m' h
  ·rw[not_or]at hy
   have e1:aw r i y=some i:=by unfold aw; rw[if_neg hy.1]
   have e2:aw r' j y=some j:=by unfold aw; rw[if_neg hy.2]
   rw[e1]at h
   rw[e2];exact jL hc ys i j m h
theorem RowTo.cut{cs es:List (Option (Nat × Str))}(h4:∀ (i:Nat) k w,cs[i]? = some (some (k,w))→k<i){i:Nat}{row:List Str}(h:RowTo (cs++es) i row):i<cs.length→RowTo cs i row:=by
 induction h with
 | z e=>intro hi; rw[List.getElem?_append_left hi]at e; exact .z e
 | s e _ ih=>
  intro hi
  rw[List.getElem?_append_left hi]at e
  exact .s e (ih (Nat.lt_trans (h4 _ _ _ e) hi))
def RwOk(r r':Rl)(ps:List (Nat × Nat))(cs:List (Option (Nat × Str))):Prop:=cs.length=ps.length∧∀ k row x,RowTo cs k row→ps[k]? = some x→after r 0 row=some x.1∧after r' 0 row=some x.2
theorem RwOk.new{r r':Rl}:RwOk r r' [(0,0)] [none]:=⟨rfl,fun k row x h e=>by
 match k,e with
 | 0,e=>
  cases e
  cases h with
  | z=>exact⟨rfl,rfl⟩
  | s e _=>cases e
 | k+1,e=>simp at e⟩
theorem RwOk.push{r r':Rl}{ps:List (Nat × Nat)}{cs:List (Option (Nat × Str))}(h:RwOk r r' ps cs)(h4:∀ (i:Nat) k w,cs[i]? = some (some (k,w))→k<i){k i' j':Nat}{x:Nat × Nat}{y:Str}(hx:ps[k]? = some x)(ea:aw r x.1 y=some i')(eb:aw r' x.2 y=some j'):RwOk r r' (ps++[(i',j')]) (cs++[some (k,y)]):=by
 refine⟨by simp[h.1],fun n row z hr e=>?_⟩
 have hk:k<cs.length:=by rw[h.1]; exact(List.getElem?_eq_some_iff.mp hx).1
 rcases Nat.lt_or_ge n cs.length with c | c
 ·rw[List.getElem?_append_left (by have:=h.1; omega)]at e
  exact h.2 n row z (hr.cut h4 c) e
 ·have hl:=h.1
  rw[List.getElem?_append_right (by omega)]at e
  have n0:n - ps.length=0:=by have:=(List.getElem?_eq_some_iff.mp e).1; simp at this; omega
  rw[n0]at e
  cases e;have en:n=cs.length:=by omega
  subst en
  cases hr with
  | z e=>simp at e
  | s e hr'=>
   simp at e
   obtain⟨rfl,rfl⟩:=e
   obtain⟨g1,g2⟩:=h.2 _ _ x (hr'.cut h4 hk) hx
   rw[fv,fv,g1,g2];exact⟨ea,eb⟩
theorem vB{ps:List (Nat × Nat)}(nd:ps.Nodup)(h:∀ p∈ps,p.1<60∧p.2<60):ps.length≤3600:=by
 have:=fJ 3600 (ps.map fun p=>60 * p.1+p.2) (List.pairwise_map.mpr (List.Pairwise.imp_of_mem (fun {p q} hp hq hpq e=>hpq (by
  have h1:=h p hp;have h2:=h q hq
  exact Prod.ext (by omega) (by omega))) nd)) (fun x hx=>by
   obtain⟨p,hp,rfl⟩:=List.mem_map.mp hx
   have:=h p hp
   omega)
 rwa [List.length_map]at this
def eN(ps:List (Nat × Nat)):List (cn × V):=ps.map fun p=>([some (p.1:Int),some (p.2:Int)],V.bl true)
theorem pQ(a:Nat)(b:Option Nat):∀ (ps:List (Nat × Nat)),(aH (eN ps) [some (a:Int),b.map (fun n:Nat=>(n:Int))]).isSome=true ↔ ∃ j,b=some j∧(a,j)∈ps
 | []=>by
  constructor
  ·intro h; cases h
  ·rintro⟨j,_,h⟩; cases h
 | p::ps=>by
  have ih:=pQ a b ps;show (aH (([some (p.1:Int),some (p.2:Int)],V.bl true)::eN ps) _).isSome=true ↔ _
  by_cases e:([some (p.1:Int),some (p.2:Int)]:cn)=[some (a:Int),b.map (fun n:Nat=>(n:Int))]
  ·rw[cF e]
   refine⟨fun _=>?_,fun _=>rfl⟩
   have e1:(p.1:Int)=(a:Int):=by injection e with z1 z2; exact Option.some.inj z1
   have e2:some (p.2:Int)=b.map (fun n:Nat=>(n:Int)):=by injection e with z1 z2; injection z2
   cases b with
   | none=>cases e2
   | some j=>
    have e2':(p.2:Int)=(j:Int):=Option.some.inj e2
    refine⟨j,rfl,?_⟩
    have:p=(a,j):=Prod.ext (by omega) (by omega)
    rw[← this]; exact List.mem_cons_self
  ·rw[cw e,ih]
   constructor
   ·rintro⟨j,e1,m⟩; exact⟨j,e1,List.mem_cons_of_mem _ m⟩
   ·rintro⟨j,rfl,m⟩
    rcases List.mem_cons.mp m with z | z
    ·exact absurd (by rw[← z]; rfl) e
    ·exact⟨j,rfl,z⟩
def OrdN(H:Hp)(o:Addr)(ps:List (Nat × Nat)):Prop:=∃ ts:List Addr,H o=some (.lst (ts.map V.ref))∧ts.length=ps.length∧∀ (k:Nat) t p,ts[k]? = some t→ps[k]? = some p→H t=some (.tup [.int (p.1:Int),.int (p.2:Int)])
theorem OrdN.mono{H H':Hp}{o:Addr}{ps:List (Nat × Nat)}(h:OrdN H o ps)(sm:Same H H'):OrdN H' o ps:=by
 obtain⟨ts,h1,h2,h3⟩:=h
 exact⟨ts,sm _ _ h1,h2,fun k t p e1 e2=>sm _ _ (h3 k t p e1 e2)⟩
theorem OrdN.other{H:Hp}{o c:Addr}{ps:List (Nat × Nat)}{u:HO}(h:OrdN H o ps)(hne:o≠c)(hc:∀ xs,H c≠some (.tup xs)):OrdN (upd H c u) o ps:=by
 obtain⟨ts,h1,h2,h3⟩:=h
 exact⟨ts,by rw[ai hne]; exact h1,h2,fun k t p e1 e2=>by rw[ai (fun z=>by subst z; exact hc _ (h3 k t p e1 e2))]; exact h3 k t p e1 e2⟩
theorem OrdN.push{H:Hp}{o t:Addr}{ps:List (Nat × Nat)}{p:Nat × Nat}{ts:List Addr}(h1:H o=some (.lst (ts.map V.ref)))(h2:ts.length=ps.length)(h3:∀ (k:Nat) t p,ts[k]? = some t→ps[k]? = some p→H t=some (.tup [.int (p.1:Int),.int (p.2:Int)]))(ht:H t=some (.tup [.int (p.1:Int),.int (p.2:Int)])):OrdN (upd H o (.lst (ts.map V.ref++[.ref t]))) o (ps++[p]):=by
 have old:∀ {c:Addr} {xs:List V},H c=some (.tup xs)→upd H o (.lst (ts.map V.ref++[.ref t])) c=some (.tup xs):=fun {c xs} e=>by rw[ai (fun z=>by subst z; rw[h1]at e; cases e)]; exact e
 refine⟨ts++[t],by rw[ae,List.map_append]; rfl,by simp[h2],fun k u q e1 e2=>?_⟩
 rcases Nat.lt_or_ge k ts.length with z | z
 ·rw[List.getElem?_append_left z]at e1
  rw[List.getElem?_append_left (by omega)]at e2
  exact old (h3 k u q e1 e2)
 ·rw[List.getElem?_append_right z]at e1
  rw[List.getElem?_append_right (by omega)]at e2
  have k0:k - ts.length=0:=by have:=(List.getElem?_eq_some_iff.mp e1).1; simp at this; omega
  have k1:k - ps.length=0:=by omega
  rw[k0]at e1
  rw[k1]at e2
  cases e1; cases e2
  exact old ht
theorem CameAt.other{H:Hp}{c d:Addr}{cs:List (Option (Nat × Str))}{u:HO}(h:CameAt H c cs)(hne:c≠d)(hc:∀ xs,H d≠some (.tup xs)):CameAt (upd H d u) c cs:=by
 obtain⟨vs,h1,h2,h3,h4⟩:=h
 exact⟨vs,by rw[ai hne]; exact h1,h2,fun i v e e1 e2=>(h3 i v e e1 e2).mono fun t xs z=>by rw[ai (fun y=>by subst y; exact hc _ z)]; exact z,h4⟩
theorem CameAt.push{H:Hp}{c t:Addr}{cs:List (Option (Nat × Str))}{k:Nat}{wd:Str}(h:CameAt H c cs)(hk:k<cs.length)(ht:H t=some (.tup [.int (k:Int),.str wd])):∃ vs:List V,H c=some (.lst vs)∧vs.length=cs.length∧CameAt (upd H c (.lst (vs++[.ref t]))) c (cs++[some (k,wd)]):=by
 obtain⟨vs,h1,h2,h3,h4⟩:=h
 have old:∀ (a:Addr) (xs:List V),H a=some (.tup xs)→upd H c (.lst (vs++[.ref t])) a=some (.tup xs):=fun a xs e=>by rw[ai (fun z=>by subst z; rw[h1]at e; cases e)]; exact e
 refine⟨vs,h1,h2,vs++[.ref t],ae,by simp[h2],fun i v e e1 e2=>?_,fun i k' w' e=>?_⟩
 ·rcases Nat.lt_or_ge i vs.length with z | z
  ·rw[List.getElem?_append_left z]at e1
   rw[List.getElem?_append_left (by omega)]at e2
   exact(h3 i v e e1 e2).mono old
  ·rw[List.getElem?_append_right z]at e1
   rw[List.getElem?_append_right (by omega)]at e2
   have k0:i - vs.length=0:=by have:=(List.getElem?_eq_some_iff.mp e1).1; simp at this; omega
   have k1:i - cs.length=0:=by omega
   rw[k0]at e1
   rw[k1]at e2
   cases e1; cases e2
   exact⟨t,rfl,old _ _ ht⟩
 ·rcases Nat.lt_or_ge i cs.length with z | z
  ·rw[List.getElem?_append_left z]at e
   exact h4 i k' w' e
  ·rw[List.getElem?_append_right z]at e
   have k1:i - cs.length=0:=by have:=(List.getElem?_eq_some_iff.mp e).1; simp at this; omega
   rw[k1]at e
   cases e;omega
structure Srch (r r':Rl) (ps:List (Nat × Nat)):Prop where
 nd:ps.Nodup
 z:(0,0)∈ps
 rch:∀ p∈ps,p.1<r.rs.length∧p.2<r'.rs.length
theorem Srch.len{r r':Rl}{ps:List (Nat × Nat)}(h:Srch r r' ps)(ok:bm r)(ok':bm r'):ps.length≤3600:=vB h.nd fun p hp=>by
 have:=h.rch p hp
 have:=ok.n1
 have:=ok'.n1
 omega
theorem Srch.new{r r':Rl}(ok:bm r)(ok':bm r'):Srch r r' [(0,0)]:=⟨by simp,by simp,fun p hp=>by rw[List.mem_singleton.mp hp]; exact⟨ok.n0,ok'.n0⟩⟩
theorem Srch.push{r r':Rl}{ps:List (Nat × Nat)}(h:Srch r r' ps)(ok:bm r)(ok':bm r'){p:Nat × Nat}{i' j':Nat}{y:Str}(hp:p∈ps)(e1:aw r p.1 y=some i')(e2:aw r' p.2 y=some j')(hn:(i',j')∉ps):Srch r r' (ps++[(i',j')]):=by
 obtain⟨z2,z3⟩:=h.rch p hp
 refine⟨List.nodup_append.mpr ⟨h.nd,by simp,fun a ha b hb e=>hn ?_⟩,List.mem_append_left _ h.z,fun q hq=>?_⟩
 ·rw[List.mem_singleton]at hb
  rw[← hb,← e]; exact ha
 ·rcases List.mem_append.mp hq with z | z
  ·exact h.rch q z
  ·rw[List.mem_singleton.mp z]; exact⟨fL ok z2 e1,fL ok' z3 e2⟩
def jO(r r':Rl)(i j:Nat)(y:Str):Option Nat × Option Nat:=(aw r i y,aw r' j y)
def mS:Sp:=fun vs H Q _=>∃ (p q:Addr) (r r':Rl),vs=[.ref p,.ref q]∧RuleAt H p r∧RuleAt H q r'∧bm r∧bm r'∧r.ws.Nodup∧r'.ws.Nodup∧r.s=r'.s∧∀ (v:V) (H':Hp),Same H H'→(v = .non∧(∀ ys,kp r ys→kp r' ys)∨∃ l row,v = .ref l∧H' l=some (.lst (row.map V.str))∧kp r row∧¬ kp r' row)→Q v H'
section
variable{P:Program}{w:World}{K:PySem.W.Frag}{mg:Str→Option Value}{base:Heap}
theorem xD(D:DefAt K mg "row_apart" az) (z_len:mg "len" = none) (z_zip:mg "zip" = none) (c_refuse_unlike:Cal P w K mg base 1 "refuse_unlike" ["one", "other"] lD) (c_words_of_both:Cal P w K mg base 1 "words_of_both" ["one", "other"] qv) (c_ways_by_room:Cal P w K mg base 2 "ways_by_room" ["rule", "words"] (lT P w))
  (c_pairs_behind:Cal P w K mg base 1 "pairs_behind" ["ones", "others", "pair"] (m5 P w)) (c_row_to:Cal P w K mg base 1 "row_to" ["came", "at"] rm):Cal P w K mg base 3 "row_apart" ["other", "one"] mS:=by
 refine D.cal (k:=2) sc_row_apart (fun _ _ _ _ _ _ us hl=>match us,hl with | [_,_],_=>rfl) (fun vs H Q E h=>by obtain⟨_,_,_,_,rfl,_⟩:=h; rfl) (fun f cdv A outer s H vs Q E hr h=>?_)
 obtain⟨p,q,r,r',rfl,hR,hR',ok,ok',nd,nd',hs,fin⟩:=h
 refine⟨_,(ac (cN (aq c_refuse_unlike hr (aa (pv 0) (aa (pv 1) ab))))
   (ac (ax 2 sc_row_apart.nd (aq c_words_of_both hr (aa (pv 0) (aa (pv 1) ab))))
   (ac (ax 3 sc_row_apart.nd (aq c_ways_by_room hr (aa (pv 0) (aa (pv 2) ab))))
   (ac (ax 4 sc_row_apart.nd (aq c_ways_by_room hr (aa (pv 1) (aa (pv 2) ab))))
   (ac (ax 5 sc_row_apart.nd (cJ (aa (dG (aa aj (aa aj ab))) ab)))
   (ac (ax 6 sc_row_apart.nd (cJ (aa bv ab)))
   (ac (ax 7 sc_row_apart.nd ((lX P w hr) (dG (aa aj (aa aj ab))) dr))
   (ac (ax 8 sc_row_apart.nd aj)
   (ac (iU PassesOwn.never (aT mN (pv 8) (bZ (bO K) z_len cR (aa (pv 5) ab)) (aP _)) (ac (ax 9 sc_row_apart.nd (aK (bd K) (pv 5) (pv 8) (fun _ _=>rfl)))
   (ac (cS PassesOwn.never rfl (zH K DH z_zip (aa (pv 2) (aa (aq c_pairs_behind hr (aa (pv 3) (aa (pv 4) (aa (pv 9) ab)))) ab))) (gs K (n:=2) (bP (bc 10 sc_row_apart.nd) (bP (bc 11 sc_row_apart.nd) fk))) (ac (bN (PW.pt' (gE (aT bU (aK (bd K) (pv 11) aj (fun _ _=>rfl)) bv (aP _)) (fq (aT (zF P w hr) (pv 11) (pv 7) (by with_unfolding_all rfl))))) (ak qG) bt)
   (ac (bN (aT bU (aK (bd K) (pv 11) aj (fun _ _=>rfl)) bv (aP _)) (ak (aL (bb bK (aq c_row_to hr (aa (pv 6) (aa (pv 8) ab))) (cJ (aa (pv 10) ab))))) bt)
   (ac (dw dr (dQ (pv 7) (pv 11) (uG P w hr)))
   (ac (cN (dh K PySem.F.plainAttrs_list PySem.F.slot_list_append PySem.F.type_list_append b6 (pv 5) (aa (pv 11) ab)))
   (ak (cN (dh K PySem.F.plainAttrs_list PySem.F.slot_list_append PySem.F.type_list_append b6 (pv 6) (aa (dG (aa (pv 8) (aa (pv 10) ab))) ab)))))))))
   (ak (ax 8 sc_row_apart.nd (bb bK (pv 8) aj))))))
   (ak (aL bv))))))))))),?_⟩
 walk_at "rd1";refine⟨p,q,r,r',rfl,hR,hR',hs,?_⟩
 walk_at "nx";refine⟨p,q,r,r',rfl,hR,hR',ok,ok',fun wl H1 ws s1 hwl hw hB hso=>?_⟩
 have hwn:=hB.2.2;walk_at "nx";refine⟨p,wl,r,ws,rfl,hR.mono s1,ok,nd,hw,hwn,fun d H2 s2 hd=>?_⟩
 walk_at "nx";refine⟨q,wl,r',ws,rfl,hR'.mono (s1.trans s2),ok',nd',s2 _ _ hw,hwn,fun d' H3 s3 hd'=>?_⟩
 have hd3:=hd.mono s3;have hw3:=(s2.trans s3) _ _ hw;have s03:=(s1.trans s2).trans s3;walk_at "nx";refine⟨by decide,fun t0 ht0=>⟨by decide,fun op hop=>?_⟩⟩
 have s4':=al ht0 (.tup [V.int 0,V.int 0]);have e4':upd H3 t0 (.tup [V.int 0,V.int 0]) t0=some (.tup [V.int 0,V.int 0]):=ae
 generalize upd H3 t0 (.tup [V.int 0,V.int 0])=H4 at s4' e4' hop ⊢;have s5:=al hop (.lst [V.ref t0]);have e5:upd H4 op (.lst [V.ref t0]) op=some (.lst ([t0].map V.ref)):=ae
 generalize upd H4 op (.lst [V.ref t0])=H5 at s5 e5 ⊢;walk_at "nx";refine⟨by decide,fun cp hcp=>?_⟩
 have s6:=al hcp (.lst [V.non]);have e6:upd H5 cp (.lst [V.non]) cp=some (.lst [V.non]):=ae
 generalize upd H5 cp (.lst [V.non])=H6 at s6 e6 ⊢;walk_at "nx";refine fun mp hmp u hu=>?_
 have s7:=al hmp u;generalize upd H6 mp u=H7 at s7 hu ⊢;walk_at "rd1";refine⟨by decide,fun t1 ht1=>?_⟩
 have s8:=al ht1 (.tup [V.int 0,V.int 0]);have e8:upd H7 t1 (.tup [V.int 0,V.int 0]) t1=some (.tup [V.int 0,V.int 0]):=ae
 generalize upd H7 t1 (.tup [V.int 0,V.int 0])=H8 at s8 e8 ⊢;have s48:=((s5.trans s6).trans s7).trans s8;have s38:=s4'.trans s48;have hop3:H3 op=none:=s4'.free hop
 have hcp3:H3 cp=none:=(s4'.trans s5).free hcp
 have hmp3:H3 mp=none:=((s4'.trans s5).trans s6).free hmp
 have n1:op≠cp:=aA e5 hcp
 have n2:op≠mp:=aA (s6 _ _ e5) hmp
 have n3:cp≠mp:=aA e6 hmp
 have o8:OrdN H8 op [(0,0)]:=⟨[t0],((s6.trans s7).trans s8) _ _ e5,rfl,fun k t p e1 e2=>by
  match k,e1,e2 with
  | 0,e1,e2=>cases e1; cases e2; exact s48 _ _ e4'
  | k+1,e1,e2=>simp at e1⟩
 have c8:CameAt H8 cp [none]:=⟨[.non],(s7.trans s8) _ _ e6,rfl,fun i v e e1 e2=>by
  match i,e1,e2 with
  | 0,e1,e2=>cases e1; cases e2; rfl
  | i+1,e1,e2=>simp at e1,fun i k w e=>by
  match i,e with
  | 0,e=>cases e
  | i+1,e=>simp at e⟩
 refine⟨t1,[some 0,some 0],rfl,e8,hu.mono s8,fun u' hu'=>?_⟩
 have om:=(o8.other (c:=mp) (u:=u') n2 (fun xs z=>by obtain⟨ys,e,_⟩:=hu.mono s8; rw[e]at z; cases z))
 have cm:=(c8.other (d:=mp) (u:=u') n3 (fun xs z=>by obtain⟨ys,e,_⟩:=hu.mono s8; rw[e]at z; cases z))
 have s39:=s38.upd hmp3 u';have hm9:DO P w (upd H8 mp u') mp (eN [(0,0)]):=hu'
 generalize upd H8 mp u'=H9 at om cm s39 hm9 ⊢;walk_at "nx";walk_at "nx"
 refine⟨fun mm σ H'=>∃ (at':Nat) (ps:List (Nat × Nat)) (cs:List (Option (Nat × Str))) (o9 o10 o11:Option V),mm=3601 - at'∧at'≤ps.length∧σ=[some (.ref p),some (.ref q),some (.ref wl),some (.ref d),some (.ref d'),some (.ref op),some (.ref cp),some (.ref mp),some (.int (at':Int)),o9,o10,o11]∧Same H3 H'∧OrdN H' op ps∧CameAt H' cp cs∧RwOk r r' ps cs∧DO P w H' mp (eN ps)∧Srch r r' ps∧∀ (k:Nat) x,k<at'→ps[k]? = some x→ClosedP r r' ps x,
  ⟨_,0,[(0,0)],[none],none,none,none,rfl,by simp,rfl,s39,om,cm,RwOk.new,hm9,Srch.new ok ok',fun k x hk=>absurd hk (Nat.not_lt_zero _)⟩,?_⟩
 rintro mm σ H' ⟨at',ps,cs,o9,o10,o11,em,hat,rfl,sm,hO,hC,hcl,hM,hS,hcd⟩
 have hlen:=hS.len ok ok';obtain⟨ts,t1',t2,t3⟩:=id hO
 walk_at "rd1";refine⟨_,.inl (SqL.of t1'),?_⟩
 rw[List.length_map,t2]
 by_cases hend:at'<ps.length
 rotate_left
 ·refine bh (fun c=>absurd (by omega) hend) (fun _=>?_)
  walk_at "nx";have hall:at'=ps.length:=by omega
  refine fin _ _ (s03.trans sm) (.inl ⟨rfl,fun ys=>jL (fun x hx=>?_) ys 0 0 hS.z⟩)
  obtain⟨k,hk,e⟩:=List.mem_iff_getElem.mp hx
  exact hcd k x (by omega) (by rw[← e]; exact List.getElem?_eq_getElem hk)
 refine bh (fun _=>?_) (fun c=>absurd (by omega) c)
 obtain⟨x,hx⟩ : ∃ x,ps[at']? = some x:=⟨ps[at'],List.getElem?_eq_getElem hend⟩
 obtain⟨tx,htx⟩ : ∃ tx,ts[at']? = some tx:=⟨ts[at'],List.getElem?_eq_getElem (by omega)⟩
 have hxm:=List.mem_of_getElem? hx;obtain⟨hx2,hx3⟩:=hS.rch x hxm
 have etx:=t3 at' tx x htx hx;refine⟨fun σ' H'=>∃ m',m'<mm∧∃ (at':Nat) (ps:List (Nat × Nat)) (cs:List (Option (Nat × Str))) (o9 o10 o11:Option V),m'=3601 - at'∧at'≤ps.length∧σ'=[some (.ref p),some (.ref q),some (.ref wl),some (.ref d),some (.ref d'),some (.ref op),some (.ref cp),some (.ref mp),some (.int (at':Int)),o9,o10,o11]∧Same H3 H'∧OrdN H' op ps∧CameAt H' cp cs∧RwOk r r' ps cs∧DO P w H' mp (eN ps)∧Srch r r' ps∧∀ (k:Nat) x,k<at'→ps[k]? = some x→ClosedP r r' ps x,fun _ _ h=>h,?_⟩
 refine⟨_,_,.inl (SqL.of t1'),aZ (v:=.ref tx) (by rw[List.getElem?_map,htx]; rfl),?_⟩
 walk_at "nx";refine⟨d,d',tx,r,r',ws,(some x.1,some x.2),rfl,hd3.mono sm,hd'.mono sm,hwn,etx,⟨fun k e=>by cases e; exact hx2,fun k e=>by cases e; exact hx3⟩,fun pl H10 us s10 hpl hP=>?_⟩
 obtain⟨p1,p2,p3⟩:=hP
 have p3:∀ (j:Nat) t x',us[j]? = some t→(ws.map (jO r r' x.1 x.2))[j]? = some x'→H10 t=some (.tup [ar x'.1,ar x'.2]):=p3
 unfold b8 at p2;rw[List.length_map]at p2
 have sm10:=sm.trans s10;walk_at "rd1";refine⟨⟨_,SqL.of (sm10 _ _ hw3)⟩,⟨_,SqL.of p1⟩,?_⟩
 have q1:op≠pl:=aA t1' hpl
 have q2:cp≠pl:=by obtain⟨vs,z,_⟩:=hC; exact aA z hpl
 have q3:mp≠pl:=by obtain⟨vs,z,_⟩:=hM; exact aA z hpl
 refine xL (xs:=ws.map V.str) (ys:=us.map V.ref) (fun k σ H''=>∃ (ps':List (Nat × Nat)) (cs':List (Option (Nat × Str))) (more:List (Nat × Nat)) (o10 o11:Option V),σ=[some (.ref p),some (.ref q),some (.ref wl),some (.ref d),some (.ref d'),some (.ref op),some (.ref cp),some (.ref mp),some (.int (at':Int)),some (.ref tx),o10,o11]∧Same H3 H''∧H'' pl=some (.lst (us.map V.ref))∧(∀ (j:Nat) t x',us[j]? = some t→(ws.map (jO r r' x.1 x.2))[j]? = some x'→H'' t=some (.tup [ar x'.1,ar x'.2]))∧OrdN H'' op ps'∧CameAt H'' cp cs'∧RwOk r r' ps' cs'∧DO P w H'' mp (eN ps')∧Srch r r' ps'∧ps'=ps++more∧∀ (z:Nat) y,z<k→ws[z]? = some y→∀ i',aw r x.1 y=some i'→∃ j',aw r' x.2 y=some j'∧(i',j')∈ps')
  (by rw[List.length_map,List.length_map]; exact p2.symm) ⟨ps,cs,[],o10,o11,rfl,sm10,p1,p3,hO.mono s10,hC.mono s10,hcl,hM.mono s10,hS,by simp,fun z y hz=>absurd hz (Nat.not_lt_zero _)⟩ (fun k σ H'' _ h=>by obtain⟨_,_,_,_,_,_,sx,px,_⟩:=h; exact⟨SqL.of (sx _ _ hw3),SqL.of px⟩) ?_ ?_
 ·rintro k v v2 t σ H'' hv hv2 ⟨ps',cs',more,o10,o11,rfl,sx,px,pt,hO',hC',hcl',hM',hS',hps,hpr⟩ ht
  have hk:k<ws.length:=by have:=(List.getElem?_eq_some_iff.mp hv).1; simpa using this
  have hku:k<us.length:=by omega
  rw[List.getElem?_map,List.getElem?_eq_getElem hk]at hv
  rw[List.getElem?_map,List.getElem?_eq_getElem hku]at hv2
  cases hv; cases hv2
  have hy:ws[k]∈r.ws∨ws[k]∈r'.ws:=(hB.2.1 _).mp (List.getElem_mem hk)
  have hpt:=pt k us[k] (jO r r' x.1 x.2 ws[k]) (List.getElem?_eq_getElem hku) (by rw[List.getElem?_map,List.getElem?_eq_getElem hk]; rfl)
  have hlen':=hS'.len ok ok';have hcl1:=hcl'.1;have st:=al ht (.tup [V.str ws[k],.ref us[k]]);have et:upd H'' t (.tup [V.str ws[k],.ref us[k]]) t=some (.tup [V.str ws[k],.ref us[k]]):=ae
  generalize upd H'' t (.tup [V.str ws[k],.ref us[k]])=G at st et ⊢;have hpG:=st _ _ hpt;have sxG:=sx.trans st
  have hpr':∀ (ps2:List (Nat × Nat)),(∀ y∈ps',y∈ps2)→(∀ i',aw r x.1 ws[k]=some i'→∃ j',aw r' x.2 ws[k]=some j'∧(i',j')∈ps2)→∀ (z:Nat) y,z<k+1→ws[z]? = some y→∀ i',aw r x.1 y=some i'→∃ j',aw r' x.2 y=some j'∧(i',j')∈ps2:=fun ps2 hsub hnew z y hz hzy i' e=>by
   rcases Nat.lt_or_ge z k with c | c
   ·obtain⟨j',e2,m⟩:=hpr z y c hzy i' e
    exact⟨j',e2,hsub _ m⟩
   ·have ez:z=k:=by omega
    subst ez;rw[List.getElem?_eq_getElem hk]at hzy
    cases hzy;exact hnew i' e
  walk_at "rd1";refine⟨t,_,rfl,SqT.of et,rfl,?_⟩
  walk_at "rd1";refine⟨_,_,.inr (SqT.of hpG),j_,?_⟩
  have e1':(jO r r' x.1 x.2 ws[k]).1=aw r x.1 ws[k]:=rfl
  have e2':(jO r r' x.1 x.2 ws[k]).2=aw r' x.2 ws[k]:=rfl
  rw[e1',e2']at hpG
  rw[e1']
  cases ea:aw r x.1 ws[k] with
  | none=>
   walk_at "rd1";refine bh (fun _=>?_) (fun c=>absurd rfl c)
   exact⟨ps',cs',more,_,_,rfl,sxG,st _ _ px,fun j t x' z1 z2=>st _ _ (pt j t x' z1 z2),hO'.mono st,hC'.mono st,hcl',hM'.mono st,hS',hps,hpr' ps' (fun _ z=>z) (fun i' e=>by rw[ea]at e; cases e)⟩
  | some i'=>
   rw[ea]at hpG
   walk_at "rd1";refine bh (fun c=>absurd c (by simp[ar])) (fun _=>?_)
   refine⟨us[k],mp,[some (i':Int),(aw r' x.2 ws[k]).map (fun n:Nat=>(n:Int))],_,rfl,rfl,hM'.mono st,?_,?_⟩
   ·show G us[k]=some (.tup _)
    rw[hpG]
    cases aw r' x.2 ws[k] <;> rfl
   have hmv:=pQ i' (aw r' x.2 ws[k]) ps'
   cases hin:(aH (eN ps') [some (i':Int),(aw r' x.2 ws[k]).map (fun n:Nat=>(n:Int))]).isSome with
   | true=>
    obtain⟨j',ej,hmem⟩:=hmv.mp hin
    refine⟨_,rfl,bh (fun _=>?_) (fun c=>absurd rfl c)⟩
    exact⟨ps',cs',more,_,_,rfl,sxG,st _ _ px,fun j t x' z1 z2=>st _ _ (pt j t x' z1 z2),hO'.mono st,hC'.mono st,hcl',hM'.mono st,hS',hps,hpr' ps' (fun _ z=>z) (fun i2 e=>by rw[ea]at e; cases e; exact⟨j',ej,hmem⟩)⟩
   | false=>
    have hnin:∀ j',aw r' x.2 ws[k]=some j'→(i',j')∉ps':=fun j' e m=>by rw[hmv.mpr ⟨j',e,m⟩]at hin; cases hin
    refine⟨_,rfl,bh (fun c=>absurd c (by decide)) (fun _=>?_)⟩
    walk_at "nx";refine⟨_,_,.inr (SqT.of hpG),aZ (j:=1) rfl,?_⟩
    cases eb:aw r' x.2 ws[k] with
    | none=>
     walk_at "rd1";refine bh (fun _=>?_) (fun c=>absurd rfl c)
     refine⟨cp,cs',at',rfl,hC'.mono st,by rw[hcl'.1,hps]; simp; omega,by omega,fun l Hl row sl hl0 hl hrow hrl=>?_⟩
     walk_at "rd1";refine⟨by decide,fun l2 hl2=>⟨_,_,al hl2 _ _ _ hl,ae,by rw[List.length_map]; exact cg (by show _+1≤_; omega),fun l3 hl3=>?_⟩⟩
     obtain⟨g1,g2⟩:=hcl'.2 at' row x hrow (by rw[hps,List.getElem?_append_left hend]; exact hx)
     refine fin _ _ (s03.trans (((sxG.trans sl).trans (al hl2 _)).trans (al hl3 _))) (.inr ⟨l3,row++[ws[k]],rfl,by rw[ae,List.map_append]; rfl,?_,?_⟩)
     ·unfold kp; rw[fv,g1]; show aw r x.1 ws[k]≠none; rw[ea]; intro z; cases z
     ·unfold kp; rw[fv,g2]; show ¬ aw r' x.2 ws[k]≠none; rw[eb]; exact fun z=>z rfl
    | some j'=>
     rw[eb]at hpG
     have hni:=hnin j' eb;rw[eb]at hin
     walk_at "rd1";refine bh (fun c=>absurd c (by simp[ar])) (fun _=>?_)
     walk_at "nx";have hkey:KeyO G [some (i':Int),some (j':Int)] us[k]:=hpG
     have hvn:aH (eN ps') [some (i':Int),some (j':Int)]=none:=by
      cases hz:aH (eN ps') [some (i':Int),some (j':Int)] with
      | none=>rfl
      | some _=>
       have:(aH (eN ps') [some (i':Int),(some j').map (fun n:Nat=>(n:Int))]).isSome=true:=by show (aH (eN ps') [some (i':Int),some (j':Int)]).isSome=true; rw[hz]; rfl
       rw[this]at hin; cases hin
     refine⟨mp,us[k],_,_,rfl,rfl,hM'.mono st,hkey,hvn,by show (List.map _ _).length<_; rw[List.length_map]; exact ce (by omega),fun uu huu=>?_⟩
     have ntup:∀ xs,G mp≠some (.tup xs):=fun xs z=>by obtain⟨ys,e,_⟩:=hM'.mono st; rw[e]at z; cases z
     have hM2:DO P w (upd G mp uu) mp (eN (ps'++[(i',j')])):=by
      have:eN (ps'++[(i',j')])=eN ps'++[([some (i':Int),some (j':Int)],V.bl true)]:=by unfold eN; rw[List.map_append]; rfl
      rw[this]; exact huu
     have hO2:=(hO'.mono st).other (u:=uu) n2 ntup;have hC2:=(hC'.mono st).other (u:=uu) n3 ntup;have keepT:∀ {c:Addr} {xs:List V},G c=some (.tup xs)→upd G mp uu c=some (.tup xs):=fun {c xs} e=>by rw[ai (fun z=>by subst z; exact ntup _ e)]; exact e
     have hp2:=keepT hpG;have pt2:∀ (j:Nat) t x',us[j]? = some t→(ws.map (jO r r' x.1 x.2))[j]? = some x'→upd G mp uu t=some (.tup [ar x'.1,ar x'.2]):=fun j t x' z1 z2=>keepT (st _ _ (pt j t x' z1 z2))
     have px2:upd G mp uu pl=some (.lst (us.map V.ref)):=by rw[ai (Ne.symm q3)]; exact st _ _ px
     have sx2:=sxG.upd hmp3 uu;generalize upd G mp uu=G2 at hM2 hO2 hC2 hp2 pt2 px2 sx2 ⊢;obtain⟨ts2,a1,a2,a3⟩:=id hO2
     walk_at "nx";refine⟨⟨_,SqL.of a1⟩,_,a1,by rw[List.length_map]; exact ce (by omega),?_⟩
     have hO3:=OrdN.push (t:=us[k]) (p:=(i',j')) a1 a2 a3 hp2;have ntop:∀ xs,G2 op≠some (.tup xs):=fun xs z=>by rw[a1]at z; cases z
     have hC3:=hC2.other (u:=.lst (ts2.map V.ref++[.ref us[k]])) (Ne.symm n1) ntop;have hM3:=iW hM2 (o:=.lst (ts2.map V.ref++[.ref us[k]])) a1 (Ne.symm n2);have keepT2:∀ {c:Addr} {xs:List V},G2 c=some (.tup xs)→upd G2 op (.lst (ts2.map V.ref++[.ref us[k]])) c=some (.tup xs):=fun {c xs} e=>by rw[ai (fun z=>by subst z; exact ntop _ e)]; exact e
     have pt3:∀ (j:Nat) t x',us[j]? = some t→(ws.map (jO r r' x.1 x.2))[j]? = some x'→upd G2 op (.lst (ts2.map V.ref++[.ref us[k]])) t=some (.tup [ar x'.1,ar x'.2]):=fun j t x' z1 z2=>keepT2 (pt2 j t x' z1 z2)
     have px3:upd G2 op (.lst (ts2.map V.ref++[.ref us[k]])) pl=some (.lst (us.map V.ref)):=by rw[ai (Ne.symm q1)]; exact px2
     have sx3:=sx2.upd hop3 (.lst (ts2.map V.ref++[.ref us[k]]));generalize upd G2 op (.lst (ts2.map V.ref++[.ref us[k]]))=G3 at hO3 hC3 hM3 pt3 px3 sx3 ⊢;walk_at "nx";refine⟨by obtain⟨vs,z,_⟩:=id hC3; exact⟨vs,SqL.of z⟩,by decide,fun t5 ht5=>?_⟩
     have s5':=al ht5 (.tup [.int (at':Int),.str ws[k]]);have e5':upd G3 t5 (.tup [.int (at':Int),.str ws[k]]) t5=some (.tup [.int (at':Int),.str ws[k]]):=ae
     generalize upd G3 t5 (.tup [.int (at':Int),.str ws[k]])=G4 at s5' e5' ⊢
     obtain⟨vs,b1,b2,b3⟩:=(hC3.mono s5').push (k:=at') (wd:=ws[k]) (by rw[hcl'.1,hps]; simp; omega) e5'
     refine⟨vs,b1,ce (by omega),?_⟩
     have hO4:=(hO3.mono s5').other (u:=.lst (vs++[.ref t5])) n1 (fun xs z=>by rw[b1]at z; cases z)
     have hM4:=iW (hM3.mono s5') (o:=.lst (vs++[.ref t5])) b1 (Ne.symm n3);refine⟨ps'++[(i',j')],_,more++[(i',j')],_,_,rfl,(sx3.trans s5').upd hcp3 _,by rw[ai (Ne.symm q2)]; exact s5' _ _ px3,fun j t x' z1 z2=>?_,hO4,b3,hcl'.push (by obtain⟨_,_,_,_,z⟩:=id hC'; exact z) (by rw[hps,List.getElem?_append_left hend]; exact hx) ea eb,hM4,hS'.push ok ok' (by rw[hps]; exact List.mem_append_left _ hxm) ea eb hni,by rw[hps,List.append_assoc],hpr' _ (fun _ z=>List.mem_append_left _ z) (fun i2 e=>by rw[ea]at e; cases e; exact⟨j',eb,by simp⟩)⟩
     rw[ai (fun z=>by subst z; have:=s5' _ _ (pt3 j t x' z1 z2); rw[b1]at this; cases this)]
     exact s5' _ _ (pt3 j t x' z1 z2)
 ·rintro σ H'' ⟨ps',cs',more,o10,o11,rfl,sx,px,pt,hO',hC',hcl',hM',hS',hps,hpr⟩
  rw[List.length_map]at hpr
  walk_at "nx";have hsub:∀ y∈ps,y∈ps':=fun y hy=>by rw[hps]; exact List.mem_append_left _ hy
  refine⟨3601 - (at'+1),by omega,at'+1,ps',cs',_,_,_,rfl,by rw[hps]; simp; omega,rfl,sx,hO',hC',hcl',hM',hS',fun k y hk e=>?_⟩
  rcases Nat.lt_or_ge k at' with c | c
  ·have hkl:k<ps.length:=by omega
   rw[hps,List.getElem?_append_left hkl]at e
   exact(hcd k y c e).sub hsub
  ·have ek:k=at':=by omega
   subst ek;rw[hps,List.getElem?_append_left hend,hx]at e
   cases e;intro y' hy' i' e'
   obtain⟨z,hz,ez⟩:=List.mem_iff_getElem.mp ((hB.2.1 y').mpr hy')
   exact hpr z y' hz (by rw[← ez]; exact List.getElem?_eq_getElem hz) i' e'
end
def T(x:Str):List Nat:=x.cps.toList
theorem yW(x y:Str):T (x++y)=T x++T y:=by
 show (x.cps++y.cps).toList=_
 simp[T]
theorem je(x:Str):(T x).length=x.length:=by simp[T,Str.length]
theorem xB{α : Type}{ss:List α}{R:Nat→α→Prop}{i:Nat}{x:α}(hn:ss.length=i)(h:∀ (k:Nat) s,ss[k]? = some s→R k s)(hx:R i x):∀ (k:Nat) s,(ss++[x])[k]? = some s→R k s:=by
 intro k s e
 rcases Nat.lt_or_ge k ss.length with z | z
 ·rw[List.getElem?_append_left z]at e; exact h k s e
 ·rw[List.getElem?_append_right z]at e
  have hk:k - ss.length=0:=by
   have:=(List.getElem?_eq_some_iff.mp e).1
   simp at this; omega
  rw[hk]at e
  have:x=s:=by simpa using e
  subst this;rw[show k=i by omega]; exact hx
section
variable{P:Program}{w:World}{K:PySem.W.Frag}{mg:Str→Option Value}{base:Heap}
def ki(z:Int):Nat:=letters.cps.toList.getD (z % 26).toNat 0
theorem tQ(z:Int):letters.length≤sizeLine∧eB letters.cps.toList (z % 26)=some (ki z):=by
 have hz:(z % 26).toNat<letters.cps.toList.length:=by
  show (z % 26).toNat<26
  omega
 refine⟨by decide,?_⟩
 have q:=aZ (List.getElem?_eq_getElem hz);rw[show (((z % 26).toNat:Nat):Int)=z % 26 by omega]at q
 rw[q];unfold ki;rw[List.getD_eq_getElem?_getD,List.getElem?_eq_getElem hz]; rfl
theorem xK{y z:Int}(h:ki y=ki z):y % 26=z % 26:=by
 have key:∀ i j:Fin 26,letters.cps.toList.getD i.val 0=letters.cps.toList.getD j.val 0→i=j:=by decide +kernel
 have:=key ⟨(y % 26).toNat,by omega⟩ ⟨(z % 26).toNat,by omega⟩ h
 have:=congrArg Fin.val this
 simp only[]at this
 omega
theorem ve(x:Str)(c:Nat):(x++(⟨#[c]⟩ : Str)).cps.toList=x.cps.toList++[c]:=by
 show (x.cps ++ #[c]).toList=_
 simp
def qh:Sp:=fun vs H Q _=>∃ (c:Int) (n:Nat) (sd:Int),vs=[.int c,.int n,.int sd]∧n≤8∧(sd=1∨sd=2)∧∀ (p:Addr) (H':Hp) (ss:List Str),Same H H'→H p=none→H' p=some (.lst (ss.map V.str))→ss.length=n→(∀ x∈ss,x.length≤10)→ss.Nodup→Q (.ref p) H'
theorem tJ(D:DefAt K mg "_law_words" aF) (z_range:mg "range" = none) (z_int:mg "int" = none) (z_str:mg "str" = none) (c_law_mixed:Cal P w K mg base 1 "_law_mixed" ["_law_cell", "_law_many"] nr):Cal P w K mg base 2 "_law_words" ["_law_cell", "_law_many", "_law_sides"] qh:=by
 refine D.cal sc_law_words (fun _ _ _ _ _ _ us hl=>match us,hl with | [_,_,_],_=>rfl) (fun vs H Q E h=>by obtain⟨c,n,sd,rfl,_⟩:=h; rfl) (fun f cdv A outer s H vs Q E hr h=>?_)
 obtain⟨c,n,sd,rfl,n26,hsd,q⟩:=h
 refine⟨_,(ac (ax 3 sc_law_words.nd pj)
   (ac (ax 4 sc_law_words.nd (aq c_law_mixed hr (aa (pv 0) (aa aj ab))))
   (ac (ax 5 sc_law_words.nd (bb bK aj (bb cK (aK (bd K) (pv 4) aj (fun _ _=>rfl)) aj)))
   (ac (ax 6 sc_law_words.nd (bb cK (aK (bd K) (pv 4) aj (fun _ _=>rfl)) (pv 5)))
   (ac (ax 7 sc_law_words.nd (cJ ab))
   (ac (cS PassesOwn.never rfl (cU BQ z_range (aa (pv 1) ab)) (bc 8 sc_law_words.nd) (ac (ax 9 sc_law_words.nd pj)
   (ac (cS PassesOwn.never rfl (cU BQ z_range (aa (pv 5) ab)) (bc 10 sc_law_words.nd) (ak (ax 9 sc_law_words.nd (bb bK (pv 9) (aK (bd K) (pv 3) (bb cK (bb bK (aK (bd K) (pv 4) (bb bK aj (pv 10)) (fun _ _=>rfl)) (bb iu (pv 8) (fA uV z_int Bj (aa (cr jw (pv 10) (pv 6) (aP _)) ab)))) aj) (fun _ _=>rfl))))))
   (ac (bN (aT jw (pv 2) aj (aP _)) (ak (ax 9 sc_law_words.nd (bb bK (bb bK (fA v5 z_str B2 (aa (bb bK aj (bb cK (bb h_ (aK (bd K) (pv 4) (bb bK aj (pv 8)) (fun _ _=>rfl)) aj) aj)) ab)) pj) (pv 9)))) bt)
   (ak (cN (dh K PySem.F.plainAttrs_list PySem.F.slot_list_append PySem.F.type_list_append b6 (pv 7) (aa (pv 9) ab))))))))
   (ak (aL (pv 7))))))))),?_⟩
 walk_at "rd1";walk_at "nx";refine⟨c,10,rfl,by decide,by decide,fun xp H1 ms sm1 hxp hxl hxn hxb=>?_⟩
 have item:∀ {H':Hp} (i:Nat),Same H1 H'→i<10→∃ xs,(SqL K H' xp xs∨SqT K H' xp xs)∧eB xs (i:Int)=some (.int (ms.getD i 0)):=fun {H'} i sm h1=>
  ⟨_,.inl (SqL.of (sm _ _ hxl)),aZ (by rw[List.getElem?_map,List.getD_eq_getElem?_getD,List.getElem?_eq_getElem (by omega)]; rfl)⟩
 walk_at "nx";obtain⟨xs,h1,h2⟩:=item 0 (Same.refl H1) (by decide)
 refine⟨xs,_,h1,h2,?_⟩
 walk_at "rd1";refine⟨by decide,?_⟩
 have hsz0:∃ z:Nat,1+ms.getD 0 0 % 8=(z:Int)∧1≤z∧z≤8:=⟨(1+ms.getD 0 0 % 8).toNat,by omega,by omega,by omega⟩
 obtain⟨sz,esz,sz0,sz1⟩:=hsz0
 rw[esz];walk_at "nx";obtain⟨xs,h1,h2⟩:=item 9 (Same.refl H1) (by decide)
 refine⟨xs,_,h1,h2,?_⟩
 walk_at "rd1";refine⟨by omega,?_⟩
 have hat0:∃ z:Nat,ms.getD 9 0 % (sz:Int)=(z:Int)∧z<sz:=⟨(ms.getD 9 0 % (sz:Int)).toNat,by have:=Int.emod_nonneg (ms.getD 9 0) (show (sz:Int)≠0 by omega); omega,by have:=Int.emod_lt_of_pos (ms.getD 9 0) (show (0:Int)<sz by omega); have:=Int.emod_nonneg (ms.getD 9 0) (show (sz:Int)≠0 by omega); omega⟩
 obtain⟨at',eat,hat⟩:=hat0
 rw[eat];walk_at "nx";refine⟨by decide,fun p hp=>?_⟩
 generalize hH2:upd H1 p _=H2
 have sm2:=ef hH2 hp;have e2:=jb hH2;walk_at "nx";refine⟨by omega,by omega,?_⟩
 refine dv (fun i σ H'=>∃ (ss:List Str) (o7 o8 o9:Option V),σ=[some (.int c),some (.int n),some (.int sd),some (.str letters),some (.ref xp),some (.int sz),some (.int at'),some (.ref p),o7,o8,o9]∧Same H1 H'∧H' p=some (.lst (ss.map V.str))∧ss.length=i∧(∀ x∈ss,x.length≤10)∧∀ (k:Nat) x,ss[k]? = some x→x.cps.toList[at'+if sd=2 then 2 else 0]? = some (ki (ms.getD (1+at') 0+k * 1)))
  ⟨[],none,none,none,rfl,sm2,e2,rfl,by simp,by simp⟩ ?_ ?_
 ·rintro i σ H' hi ⟨ss,o7,o8,o9,rfl,sm,hl,hsn,hsl,hsk⟩
  rw[Int.toNat_natCast]at hi
  walk_at "rd1";walk_at "nx";refine⟨by omega,by omega,?_⟩
  refine dv (fun j σ H2=>∃ (x:Str) (o8:Option V),σ=[some (.int c),some (.int n),some (.int sd),some (.str letters),some (.ref xp),some (.int sz),some (.int at'),some (.ref p),some (.int (0+(i:Int))),some (.str x),o8]∧H'=H2∧x.length=j∧(at'<j→x.cps.toList[at']? = some (ki (ms.getD (1+at') 0+i * 1))))
   ⟨_,_,rfl,rfl,rfl,fun h=>absurd h (by omega)⟩ ?_ ?_
  ·rintro j σ H2 hj ⟨x,o8,rfl,rfl,hx,hxa⟩
   rw[Int.toNat_natCast]at hj
   walk_at "rd1";obtain⟨xs,h1,h2⟩:=item (1+j) sm (by omega)
   rw[show ((1+j:Nat):Int)=1+(0+(j:Int)) by omega]at h2
   refine⟨xs,_,h1,h2,.inl ⟨by omega,by omega⟩,?_⟩
   walk_at "rd1";obtain⟨l1,l2⟩:=tQ (ms.getD (1+j) 0+(0+(i:Int)) * if 0+(j:Int)=(at':Int) then 1 else 0)
   refine⟨by decide,_,l1,l2,?_,x++⟨#[ki (ms.getD (1+j) 0+(0+(i:Int)) * if 0+(j:Int)=(at':Int) then 1 else 0)]⟩,_,rfl,?_,fun hlt=>?_⟩
   ·show x.length+1≤sizeLine
    exact cg (by omega)
   ·rw[xr,hx]
   ·have hxl:x.cps.toList.length=j:=by rw[Array.length_toList]; exact hx
    rw[ve];rcases Nat.lt_or_ge at' j with g | g
    ·rw[List.getElem?_append_left (by omega)]; exact hxa g
    ·have e:at'=j:=by omega
     subst e;rw[List.getElem?_append_right (by omega),hxl,Nat.sub_self,if_pos (by omega),Int.zero_add]; rfl
  ·rintro σ H2 ⟨x,o8,rfl,rfl,hx,hxa⟩
   rw[Int.toNat_natCast]at hx hxa
   dsimp only
   refine ww (fun σ' H2=>∃ (y:Str),σ'=[some (.int c),some (.int n),some (.int sd),some (.str letters),some (.ref xp),some (.int sz),some (.int at'),some (.ref p),some (.int (0+(i:Int))),some (.str y),o8]∧H'=H2∧y.length≤10∧y.cps.toList[at'+if sd=2 then 2 else 0]? = some (ki (ms.getD (1+at') 0+i * 1))) (fun k hk=>?_) ?_
   ·rcases hsd with rfl | rfl
    ·walk_at "rd1"
     refine bh (fun c=>absurd c (by decide)) (fun _=>?_)
     exact hk _ _ ⟨x,rfl,rfl,by omega,hxa hat⟩
    ·walk_at "rd1"
     obtain⟨xs,h1,h2⟩:=item (1+i) sm (by omega)
     rw[show ((1+i:Nat):Int)=1+(0+(i:Int)) by omega]at h2
     refine⟨xs,_,h1,h2,?_⟩
     walk_at "rd1";have hd:1+ms.getD (1+i) 0 / 64 % 2=1∨1+ms.getD (1+i) 0 / 64 % 2=2:=by omega
     have hl1:(Str.ofString (toString (1+ms.getD (1+i) 0 / 64 % 2))).length=1:=by rcases hd with e | e <;> rw[e] <;> decide +kernel
     have hlg:(1+ms.getD (1+i) 0 / 64 % 2).natAbs.log2<1920:=by rcases hd with e | e <;> rw[e] <;> decide +kernel
     have hdot:(Str.ofString ".").length=1:=by decide +kernel
     have hpre:(Str.ofString (toString (1+ms.getD (1+i) 0 / 64 % 2))++Str.ofString ".").length=2:=by rw[← je,yW,List.length_append,je,je,hl1,hdot]
     have hall:T (Str.ofString (toString (1+ms.getD (1+i) 0 / 64 % 2))++Str.ofString "." ++ x)=T (Str.ofString (toString (1+ms.getD (1+i) 0 / 64 % 2))++Str.ofString ".")++T x:=yW _ _
     refine⟨⟨by decide,by decide⟩,by decide,hlg,by rw[hl1,hdot]; exact cg (by decide),by rw[hpre]; exact cg (by omega),?_⟩
     refine hk _ _ ⟨_,rfl,rfl,?_,?_⟩
     ·rw[← je,hall,List.length_append,je,je,hpre]; omega
     ·show (T _)[at'+2]? = _
      rw[hall,List.getElem?_append_right (by rw[je,hpre]; omega),je,hpre,Nat.add_sub_cancel]
      exact hxa hat
   rintro σ' H2 ⟨y,rfl,rfl,hy10,hyat⟩
   walk_at "nx";refine⟨⟨_,SqL.of hl⟩,_,hl,by rw[List.length_map]; exact ce (by omega),?_⟩
   refine⟨ss++[y],_,_,_,rfl,sm.upd hp _,by rw[ae,List.map_append]; rfl,by simp[hsn],fun z hz=>?_,xB hsn hsk hyat⟩
   rcases List.mem_append.mp hz with z' | z'
   ·exact hsl z z'
   ·rw[List.mem_singleton.mp z']; exact hy10
 ·rintro σ H' ⟨ss,o7,o8,o9,rfl,sm,hl,hsn,hsl,hsk⟩
  rw[Int.toNat_natCast]at hsn
  walk_at "nx";refine q p H' ss (sm1.trans sm) (sm1.free hp) hl hsn hsl ?_
  rw[List.nodup_iff_pairwise_ne,List.pairwise_iff_getElem];intro a b ha hb hab e
  have h1:=hsk a _ (List.getElem?_eq_getElem ha);have h2:=hsk b _ (List.getElem?_eq_getElem hb);rw[e,h2]at h1
  have h3:=xK (Option.some.inj h1);omega
end
theorem xq(l:List Int)(c:Int)(h:l.length=4)(hb:∀ x∈l,0<x∧x<1073741824):∃ v,eB (l.map V.int) (c % 4)=some (.int v)∧0<v∧v<1073741824:=by
 obtain⟨v,hv,_⟩:=Aj (xs:=l) (i:=c % 4) (by omega) (by omega)
 exact⟨v,p9 (by omega) hv,(hb v (List.mem_of_getElem? hv)).1,(hb v (List.mem_of_getElem? hv)).2⟩
theorem y3{xs:List V}{i:Nat}(h:i<xs.length):k_ xs.length (0+(i:Int))=some i:=by
 unfold k_;rw[if_pos (by omega),if_pos (by omega)]
 congr 1
 omega
section
variable{P:Program}{w:World}{K:PySem.W.Frag}{mg:Str→Option Value}{base:Heap}
def rZ(K:PySem.W.Frag):Sp:=fun vs H Q _=>∃ (cp:Addr) (cs:List Int) (sz mn:Nat) (c:Int),vs=[.ref cp,.int sz,.int mn,.int c]∧SqL K H cp (cs.map V.int)∧1≤sz∧sz≤6∧mn≤3∧∀ (p:Addr) (H':Hp) (as:List Addr) (rs:List (List (Option Nat))),Same H H'→H p=none→NR H H' p rs as→rs.length=sz→(∀ x∈rs,x.length=mn∧∀ k,some k∈x→k<sz)→Q (.ref p) H'
theorem wL(D:DefAt K mg "_law_rooms" aC) (z_range:mg "range" = none) (z_len:mg "len" = none) (z_min:mg "min" = none) (c_law_mixed:Cal P w K mg base 1 "_law_mixed" ["_law_cell", "_law_many"] nr) (c_law_way:Cal P w K mg base 1 "_law_way" ["_law_number", "_law_share", "_law_many"] y4):Cal P w K mg base 2 "_law_rooms" ["_law_cells", "_law_size", "_law_many", "_law_cell"] (rZ K):=by
 refine D.cal sc_law_rooms (fun _ _ _ _ _ _ us hl=>match us,hl with | [_,_,_,_],_=>rfl) (fun vs H Q E h=>by obtain⟨_,_,_,_,_,rfl,_⟩:=h; rfl) (fun f cdv A outer s H vs Q E hr h=>?_)
 obtain⟨cp,cs,sz,mn,c,rfl,hcs,z0,z1,m1,q⟩:=h
 refine⟨_,(ac (ax 4 sc_law_rooms.nd (aK (bd K) (cJ (aa aj (aa aj (aa aj (aa aj ab))))) (bb cK (pv 3) aj) (fun _ _=>rfl)) (hx:=EX))
   (ac (ax 5 sc_law_rooms.nd (aq c_law_mixed hr (aa (pv 3) (aa (bb iu (pv 2 (hv:=AN)) (pv 1 (hv:=xj))) ab))) (hx:=Dq))
   (ac (cS PassesOwn.never rfl (cU Aw z_range (aa (bZ wk z_min AJ (aa (bZ (bO K) z_len cR (aa (pv 0) ab)) (aa (bb iu (pv 2 (hv:=AN)) (pv 1 (hv:=xj))) ab))) ab)) (bc 6 sc_law_rooms.nd) (ak (dw (bb cK (aK (bd K) (pv 0) (pv 6) (fun _ _=>rfl)) aj) (dQ (pv 5 (hv:=DC)) (pv 6) ui))))
   (ak (aL (xG (CompScO.to (fsc:=(defScope aC)) (N:=["_law_cells", "_law_size", "_law_many", "_law_cell", "_law_share", "_law_xs", "_law_k"]) (N0:=["_law_cells", "_law_size", "_law_many", "_law_cell", "_law_share", "_law_xs", "_law_k"]) (T:=["_law_r"]) ⟨by decide +kernel,by decide +kernel,by decide +kernel,by decide +kernel,by decide +kernel,by decide +kernel⟩ rfl rfl) rfl (cU Aw z_range (aa (pv 1 (hv:=xj)) ab)) (fun _ _ _ _=>(bc 7 (show (["_law_cells", "_law_size", "_law_many", "_law_cell", "_law_share", "_law_xs", "_law_k", "_law_r"]:List Str).Nodup from by decide +kernel) (hx:=(CH (defScope aC) (by decide +kernel))) (hf:=DU (defScope aC) (by decide +kernel)))) (b9 (show (["_law_cells", "_law_size", "_law_many", "_law_cell", "_law_share", "_law_xs", "_law_k"]:List Str).length≤7 from by decide)) (fun _ _ _ _=>cD) (fun _ _ _ _=>(dC (CompSc.to (fsc:=(bg _ (defScope aC))) (N:=["_law_cells", "_law_size", "_law_many", "_law_cell", "_law_share", "_law_xs", "_law_k", "_law_r"]) (N0:=["_law_cells", "_law_size", "_law_many", "_law_cell", "_law_share", "_law_xs", "_law_k", "_law_r"]) (T:=["_law_j"]) ⟨by decide +kernel,by decide +kernel,by decide +kernel,by decide +kernel,by decide +kernel,by decide +kernel,by decide +kernel⟩ rfl rfl) rfl (cU (Ew (defScope aC) (by decide +kernel)) z_range (aa (pv 2 (hv:=(Cb (defScope aC) (by decide +kernel)))) ab)) (fun _ _ _ _=>(bc 8 (show (["_law_cells", "_law_size", "_law_many", "_law_cell", "_law_share", "_law_xs", "_law_k", "_law_r", "_law_j"]:List Str).Nodup from by decide +kernel) (hx:=(fo (bg _ (defScope aC)) (e:=rfl) (by decide +kernel))) (hf:=iZ (bg _ (defScope aC)) (e:=rfl) (by decide +kernel)))) (b9 (show (["_law_cells", "_law_size", "_law_many", "_law_cell", "_law_share", "_law_xs", "_law_k", "_law_r"]:List Str).length≤8 from by decide)) (fun _ _ _ _=>cD) (fun _ _ _ _=>(aq c_law_way hr (aa (aK (bd K) (pv 5 (hv:=(bV (bg _ (defScope aC)) (e:=rfl) (by decide +kernel)))) (bb bK (bb iu (pv 2 (hv:=(bV (bg _ (defScope aC)) (e:=rfl) (by decide +kernel)))) (pv 7 (hv:=(bV (bg _ (defScope aC)) (e:=rfl) (by decide +kernel))))) (pv 8 (hv:=(bV (bg _ (defScope aC)) (e:=rfl) (by decide +kernel))))) (fun _ _=>rfl)) (aa (pv 4 (hv:=(bV (bg _ (defScope aC)) (e:=rfl) (by decide +kernel)))) (aa (pv 1 (hv:=(bV (bg _ (defScope aC)) (e:=rfl) (by decide +kernel)))) ab))) (hg:=(pX (bg _ (defScope aC)) (e:=rfl) (by decide +kernel))))))))))))),?_⟩
 walk_at "rd1";refine⟨by decide,fun sp hsp=>?_⟩
 have s1:=al hsp (.lst [V.int 2,V.int 3,V.int 5,V.int 19]);have e1:upd H sp (.lst [V.int 2,V.int 3,V.int 5,V.int 19]) sp=some (.lst ([2,3,5,19].map V.int)):=ae
 generalize upd H sp (.lst [V.int 2,V.int 3,V.int 5,V.int 19])=H1 at s1 e1 ⊢;obtain⟨sh,hsh,sh0,sh1⟩:=xq [2,3,5,19] c rfl (by decide)
 refine⟨by decide,_,_,.inl (SqL.of e1),hsh,?_⟩
 walk_at "nx";have hmz:(mn:Int) * sz=((mn * sz:Nat):Int):=by simp
 have hmz9:mn * sz≤18:=Nat.le_trans (Nat.mul_le_mul m1 z1) (by decide)
 refine⟨.inl ⟨by omega,by omega⟩,_,_,rfl,by rw[hmz]; omega,by rw[hmz]; omega,fun xp H2 ms s2 hxp hxl hxn hxb=>?_⟩
 walk_at "nx";have hcs2:=(s1.trans s2).seq hcs;refine⟨_,.inl hcs2,.inl ⟨by omega,by omega⟩,?_⟩
 have hb:∃ b:Nat,(if (mn:Int) * sz<((cs.map V.int).length:Int) then (mn:Int) * sz else ((cs.map V.int).length:Int))=(b:Int)∧b≤mn * sz∧b≤cs.length:=by
  rw[hmz,List.length_map];split
  ·exact⟨mn * sz,rfl,Nat.le_refl _,by omega⟩
  ·exact⟨cs.length,rfl,by omega,Nat.le_refl _⟩
 obtain⟨b,eb,hb1,hb2⟩:=hb
 rw[eb];have hxn':ms.length=mn * sz:=by rw[hmz]at hxn; omega
 refine⟨by omega,by omega,?_⟩
 refine dv (fun i σ H'=>∃ (ms':List Int) (o6:Option V),σ=[some (.ref cp),some (.int sz),some (.int mn),some (.int c),some (.int sh),some (.ref xp),o6]∧Same H H'∧H' xp=some (.lst (ms'.map V.int))∧ms'.length=mn * sz) ⟨ms,none,rfl,s1.trans s2,hxl,hxn'⟩ ?_ ?_
 ·rintro i σ H' hi ⟨ms',o6,rfl,sm,hl,hn⟩
  rw[Int.toNat_natCast]at hi
  walk_at "rd1"
  have hat:eB (cs.map V.int) (0+(i:Int))=some (.int (cs.getD i 0)):=by
   rw[Int.zero_add];exact aZ (by rw[List.getElem?_map,List.getD_eq_getElem?_getD,List.getElem?_eq_getElem (by omega)]; rfl)
  refine⟨_,_,.inl (sm.seq hcs),hat,?_⟩
  walk_at "rd1";exact⟨by decide,_,i,hl,y3 (by rw[List.length_map]; omega),ms'.set i (cs.getD i 0 % 998244353),_,rfl,sm.upd (s1.free hxp) _,by rw[ae,List.map_set],by rw[List.length_set]; exact hn⟩
 rintro σ H3 ⟨ms',o6,rfl,s3,hl3,hn3⟩
 walk_at "nx";refine⟨by omega,by omega,fun L hL=>?_⟩
 refine lc (fun i ys H'=>∃ (as:List Addr) (rs:List (List (Option Nat))),Same H3 H'∧H' L=some (.lst ys)∧ys=as.map V.ref∧as.length=i∧rs.length=i∧(∀ (k:Nat) a x,as[k]? = some a→rs[k]? = some x→H' a=some (.lst (x.map ar))∧a≠L)∧(∀ a∈as,H3 a=none)∧as.Nodup∧∀ x∈rs,x.length=mn∧∀ k,some k∈x→k<sz) ⟨[],[],al hL _,ae,rfl,rfl,rfl,by simp,by simp,List.nodup_nil,by simp⟩ ?_ ?_
 ·rintro i ys H' hi ⟨as,rs,sm,hl,rfl,hal,hrl,has,hfr,hnd,hrs⟩
  have hi':i<sz:=by omega
  walk_at "rd1";refine⟨by omega,by omega,fun L2 hL2=>?_⟩
  have nL:L2≠L:=Ne.symm (aA hl hL2)
  refine lc (fun j ys H''=>∃ x:List (Option Nat),Same H' H''∧H'' L2=some (.lst ys)∧ys=x.map ar∧x.length=j∧∀ k,some k∈x→k<sz) ⟨[],al hL2 _,ae,rfl,rfl,by simp⟩ ?_ ?_
  ·rintro j ys H'' hj ⟨x,smx,hlx,rfl,hx,hxk⟩
   have hj':j<mn:=by omega
   have hix:mn * i+j<ms'.length:=by
    rw[hn3]
    calc mn * i+j<mn * i+mn:=by omega
     _=mn * (i+1):=by rw[Nat.mul_add,Nat.mul_one]
     _≤mn * sz:=Nat.mul_le_mul_left _ hi'
   have hat:eB (ms'.map V.int) ((mn:Int) * (0+(i:Int))+(0+(j:Int)))=some (.int ms'[mn * i+j]):=by
    rw[show (mn:Int) * (0+(i:Int))+(0+(j:Int))=((mn * i+j:Nat):Int) by simp]
    exact aZ (by rw[List.getElem?_map,List.getElem?_eq_getElem hix]; rfl)
   walk_at "rd1";refine⟨.inl ⟨by omega,by omega⟩,_,_,.inl (SqL.of ((sm.trans smx) _ _ hl3)),hat,?_⟩
   refine⟨_,sh,sz,rfl,sh0,sh1,by omega,by omega,fun o ho=>?_⟩
   exact eJ (by omega) (by rw[List.length_map]; exact hx) (cg (by omega)) hlx ⟨x++[o],smx.upd hL2 _,ae,by simp,by simp[hx],fun k hk=>by
    rcases List.mem_append.mp hk with z | z
    ·exact hxk k z
    ·have:=ho k (List.mem_singleton.mp z).symm
     omega⟩
  rintro ys H'' ⟨x,smx,hlx,rfl,hx,hxk⟩
  refine eJ (by omega) (by rw[List.length_map]; exact hal) (cg (by omega)) (smx _ _ hl) ⟨as++[L2],rs++[x],(sm.trans smx).upd hL _,ae,by simp,by simp[hal],by simp[hrl],fun k a y e1 e2=>?_,fun a ha=>?_,?_,fun y hy=>?_⟩
  ·by_cases hk:k<as.length
   ·rw[List.getElem?_append_left hk]at e1
    rw[List.getElem?_append_left (by omega)]at e2
    obtain⟨g1,g2⟩:=has k a y e1 e2
    exact⟨by rw[ai g2]; exact smx _ _ g1,g2⟩
   ·have hk':k=as.length:=by have:=(List.getElem?_eq_some_iff.mp e1).1; simp at this; omega
    subst hk';rw[List.getElem?_append_right (Nat.le_refl _)]at e1
    rw[show as.length=rs.length by omega,List.getElem?_append_right (Nat.le_refl _)]at e2
    simp at e1 e2
    subst e1 e2;exact⟨by rw[ai nL]; exact hlx,nL⟩
  ·rcases List.mem_append.mp ha with z | z
   ·exact hfr a z
   ·rw[List.mem_singleton.mp z]; exact sm.free hL2
  ·refine List.nodup_append.mpr ⟨hnd,by simp,fun x hx y hy e=>?_⟩
   rw[List.mem_singleton.mp hy]at e
   obtain⟨i',hi',e'⟩:=List.mem_iff_getElem.mp hx
   have z:=(has i' x _ (by rw[List.getElem?_eq_getElem hi',e']) (List.getElem?_eq_getElem (by omega))).1
   rw[e,hL2]at z; cases z
  ·rcases List.mem_append.mp hy with z | z
   ·exact hrs y z
   ·rw[List.mem_singleton.mp z]; exact⟨by omega,hxk⟩
 rintro ys H4 ⟨as,rs,sm,hl,rfl,hal,hrl,has,hfr,hnd,hrs⟩
 refine q L H4 as rs (s3.trans sm) (s3.free hL) ⟨⟨hl,by omega,fun i a x e1 e2=>(has i a x e1 e2).1⟩,fun a ha=>⟨s3.free (hfr a ha),fun z=>?_⟩,hnd⟩ (by omega) hrs
 obtain⟨i',hi',e'⟩:=List.mem_iff_getElem.mp ha
 exact(has i' a _ (by rw[List.getElem?_eq_getElem hi',e']) (List.getElem?_eq_getElem (by omega))).2 z
end
theorem wD(xs:List V)(i j:Nat):lz xs (some (i:Int)) (some (j:Int))=(xs.take j).drop i:=by
 unfold lz;rw[HT.sIx_nat,HT.sIx_nat,List.drop_take];rcases Nat.lt_or_ge xs.length i with h | h
 ·rw[List.drop_eq_nil_of_le (by omega),List.drop_eq_nil_of_le (by omega)]; simp
 ·rcases Nat.lt_or_ge xs.length j with h2 | h2
  ·rw[show min i xs.length=i by omega,show min j xs.length=xs.length by omega,List.take_of_length_le (by simp),List.take_of_length_le (by simp; omega)]
  ·rw[show min i xs.length=i by omega,show min j xs.length=j by omega]
theorem pG(xs:List V)(lo n:Nat)(hn:1≤n):(gW xs (some (lo:Int)) none (some (n:Int))).length≤xs.length:=by
 unfold gW;refine Nat.le_trans (List.length_filterMap_le _ _) ?_
 have hb:∃ st:Int,0≤st∧sliceBounds (some (lo:Int)) none (some (n:Int)) xs.length=(st,(xs.length:Int),(n:Int)):=by
  refine⟨max 0 (min (lo:Int) xs.length),by omega,?_⟩
  have hn':(n:Int)>0:=by omega
  show (_,_,_)=_
  simp only[sliceBounds,Option.getD_some,hn',if_true]
  rw[if_neg (by omega)]
 obtain⟨st,h0,e⟩:=hb
 rw[e];unfold sliceRange;rw[List.length_map,List.length_range]
 dsimp only
 rw[if_pos (by omega)]
 split
 ·rename_i h
  have:((xs.length:Int) - st+n - 1) / n≤xs.length - st:=by
   refine Int.le_of_lt_add_one (Int.ediv_lt_of_lt_mul (by omega) ?_)
   have h1:((xs.length:Int) - st+1) * n=((xs.length:Int) - st) * n+n:=by rw[Int.add_mul,Int.one_mul]
   have h2:((xs.length:Int) - st) * 1≤((xs.length:Int) - st) * n:=Int.mul_le_mul_of_nonneg_left (by omega) (by omega)
   rw[h1];omega
  omega
 ·simp
theorem uH{ns:List Int}{lo hi st:Option Int}:∃ cs:List Int,gW (ns.map V.int) lo hi st=cs.map V.int:=by
 have h:∀ vs:List V,(∀ v∈vs,v∈ns.map V.int)→∃ cs:List Int,vs=cs.map V.int:=by
  intro vs
  induction vs with
  | nil=>exact fun _=>⟨[],rfl⟩
  | cons v vs ih=>
   intro h
   obtain⟨cs,e⟩:=ih fun u hu=>h u (List.mem_cons_of_mem _ hu)
   obtain⟨z,_,e2⟩:=List.mem_map.mp (h v List.mem_cons_self)
   exact⟨z::cs,by rw[e,← e2]; rfl⟩
 exact h _ fun v hv=>xS hv
theorem RoomsAs.setRow{H:Hp}{p c:Addr}{rs:List (List (Option Nat))}{as:List Addr}{i:Nat}{y:List (Option Nat)}(h:RoomsAs H p rs as)(nd:as.Nodup)(hp:p∉as)(hc:as[i]? = some c):RoomsAs (upd H c (.lst (y.map ar))) p (rs.set i y) as:=by
 obtain⟨h1,h2,h3⟩:=h
 have hm:=List.mem_of_getElem? hc;refine⟨by rw[ai (show p≠c from fun z=>hp (by rw[z]; exact hm))]; exact h1,by rw[List.length_set]; exact h2,fun k a x e1 e2=>?_⟩
 by_cases ek:k=i
 ·subst ek
  rw[hc]at e1; cases e1
  have hk:k<rs.length:=by have:=(List.getElem?_eq_some_iff.mp hc).1; omega
  rw[List.getElem?_set_self hk]at e2
  cases e2;exact ae
 ·rw[List.getElem?_set_ne (Ne.symm ek)]at e2
  have na:a≠c:=fun z=>by
   subst z;obtain⟨x1,f1⟩:=List.getElem?_eq_some_iff.mp hc
   obtain⟨x2,f2⟩:=List.getElem?_eq_some_iff.mp e1
   exact ek ((List.getElem_inj nd).mp (f2.trans f1.symm))
  rw[ai na]; exact h3 k a x e1 e2
def KeptAt(H0 H:Hp)(p:Addr)(r:Rl):Prop:=∃ pw pr as,H p=some (.tup [.int r.s,.ref pw,.ref pr])∧H pw=some (.lst (r.ws.map V.str))∧RoomsAs H pr r.rs as∧H0 p=none∧H0 pw=none∧H0 pr=none∧∀ a∈as,H0 a=none
theorem KeptAt.upd{H0 H:Hp}{p a:Addr}{r:Rl}{o:HO}(h:KeptAt H0 H p r)(ha:H0 a≠none):KeptAt H0 (upd H a o) p r:=by
 obtain⟨pw,pr,as,h1,h2,⟨h3,h4,h5⟩,z1,z2,z3,z4⟩:=h
 have ne:∀ b,H0 b=none→b≠a:=fun b hb e=>ha (e ▸ hb)
 refine⟨pw,pr,as,by rw[ai (ne _ z1)]; exact h1,by rw[ai (ne _ z2)]; exact h2,⟨by rw[ai (ne _ z3)]; exact h3,h4,fun i b x e1 e2=>?_⟩,z1,z2,z3,z4⟩
 rw[ai (ne _ (z4 b (List.mem_of_getElem? e1)))]; exact h5 i b x e1 e2
theorem KeptAt.mono{H0 H H':Hp}{p:Addr}{r:Rl}(h:KeptAt H0 H p r)(sm:Same H H'):KeptAt H0 H' p r:=by
 obtain⟨pw,pr,as,h1,h2,h3,z⟩:=h
 exact⟨pw,pr,as,sm _ _ h1,sm _ _ h2,h3.mono sm,z⟩
theorem KeptAt.at'{H0 H:Hp}{p:Addr}{r:Rl}(h:KeptAt H0 H p r):RuleAt H p r:=by
 obtain⟨pw,pr,as,h1,h2,h3,z⟩:=h
 exact⟨pw,pr,as,h1,h2,h3⟩
section
variable{P:Program}{w:World}{K:PySem.W.Frag}{mg:Str→Option Value}{base:Heap}
def jh(i:Nat):Nat:=[3,3,2].getD i 0
theorem Ci{i:Nat}(h:i<3):eB [V.int 3,V.int 3,V.int 2] (0+(i:Int))=some (V.int (jh i:Nat))∧2≤jh i∧jh i≤3:=by
 match i,h with
 | 0,_=>exact⟨rfl,by decide,by decide⟩
 | 1,_=>exact⟨rfl,by decide,by decide⟩
 | 2,_=>exact⟨rfl,by decide,by decide⟩
def rV(K:PySem.W.Frag):Sp:=fun vs H Q _=>∃ (a:Addr) (ns:List Int),vs=[.ref a]∧SqL K H a (ns.map V.int)∧ns.length≤63∧∀ (t p1 p2 p3:Addr) (H':Hp) (r1 r2 r3:Rl) (W:List Str) (S:Int),Same H H'→H' t=some (.lst [.ref p1,.ref p2,.ref p3])→RuleAt H' p1 r1→RuleAt H' p2 r2→RuleAt H' p3 r3→W.length≤16→IsR W S 3 (kp r1) r1→IsR W S 3 (kp r2) r2→IsR W S 2 (kp r3) r3→Q (.ref t) H'
theorem xY(D:DefAt K mg "_law_three" au) (z_range:mg "range" = none) (z_len:mg "len" = none) (z_sorted:mg "sorted" = none) (z_list:mg "list" = none) (c_law_cell_at:Cal P w K mg base 1 "_law_cell_at" ["_law_script", "_law_k"] (uK K)) (c_law_words:Cal P w K mg base 2 "_law_words" ["_law_cell", "_law_many", "_law_sides"] qh) (c_law_rooms:Cal P w K mg base 2 "_law_rooms" ["_law_cells", "_law_size", "_law_many", "_law_cell"] (rZ K)):Cal P w K mg base 3 "_law_three" ["_law_script"] (rV K):=by
 refine D.cal sc_law_three (fun _ _ _ _ _ _ us hl=>match us,hl with | [_],_=>rfl) (fun vs H Q E h=>by obtain⟨_,_,rfl,_⟩:=h; rfl) (fun f cdv A outer s H vs Q E hr h=>?_)
 obtain⟨a,ns,rfl,hS,h63,fin⟩:=h
 refine⟨_,(ac (ax 1 sc_law_three.nd (aq c_law_cell_at hr (aa (pv 0) (aa aj ab))))
   (ac (ax 2 sc_law_three.nd (bb bK aj (bb cK (pv 1) aj)))
   (ac (ax 3 sc_law_three.nd (aq c_law_words hr (aa (aq c_law_cell_at hr (aa (pv 0) (aa aj ab))) (aa aj (aa (pv 2) ab)))))
   (ac (ax 4 sc_law_three.nd (cJ ab))
   (ac (cS PassesOwn.never rfl (cU wY z_range (aa aj ab)) (bc 5 sc_law_three.nd) (ac (ax 6 sc_law_three.nd (aq c_law_cell_at hr (aa (pv 0) (aa (bb bK aj (pv 5)) ab))))
   (ac (ax 7 sc_law_three.nd (bZ (ut K) z_sorted nQ (aa (xl (xU K) (pv 3) (kH (bb cK (pv 6) aj)) (kH (bb bK (bb cK (pv 6) aj) (bb cK (bb h_ (pv 6) aj) aj)))) ab)))
   (ac (ax 8 sc_law_three.nd (bb bK aj (bb cK (bb h_ (pv 6) aj) (aK (bd K) (cJ (aa aj (aa aj (aa aj ab)))) (pv 5) (fun _ _=>rfl)))))
   (ak (cN (dh K PySem.F.plainAttrs_list PySem.F.slot_list_append PySem.F.type_list_append b6 (pv 4) (aa (dG (aa (pv 2) (aa (pv 7) (aa (aq c_law_rooms hr (aa (vp K (pv 0) (kH (bb bK aj (pv 5))) zI (kH aj)) (aa (pv 8) (aa (bZ (bO K) z_len cR (aa (pv 7) ab)) (aa (aq c_law_cell_at hr (aa (pv 0) (aa (bb bK aj (pv 5)) ab))) ab))))) ab)))) ab))))))))
   (ac (bN (aT jw (bb cK (bb h_ (pv 1) aj) aj) aj (aP _)) (ac (jC (CompSc.to (fsc:=(defScope au)) (N:=["_law_script", "_law_first", "_law_sides", "_law_words_here", "_law_rules", "_law_k", "_law_head", "_law_some", "_law_size", "_law_rooms_here", "_law_r", "_law_j"]) (N0:=["_law_script", "_law_first", "_law_sides", "_law_words_here", "_law_rules", "_law_k", "_law_head", "_law_some", "_law_size", "_law_rooms_here", "_law_r", "_law_j"]) (T:=["_law_room"]) ⟨by decide +kernel,by decide +kernel,by decide +kernel,by decide +kernel,by decide +kernel,by decide +kernel,by decide +kernel⟩ rfl rfl) rfl sc_law_three.nd (i:=9) rfl GE (cx K (aK (bd K) (aK (bd K) (pv 4) aj (fun _ _=>rfl)) aj (fun _ _=>rfl))) (fun _ _ _ _=>(bc 12 (show (["_law_script", "_law_first", "_law_sides", "_law_words_here", "_law_rules", "_law_k", "_law_head", "_law_some", "_law_size", "_law_rooms_here", "_law_r", "_law_j", "_law_room"]:List Str).Nodup from by decide +kernel) (hx:=(fo (defScope au) (by decide +kernel))) (hf:=iZ (defScope au) (by decide +kernel)))) (b9 (show (["_law_script", "_law_first", "_law_sides", "_law_words_here", "_law_rules", "_law_k", "_law_head", "_law_some", "_law_size", "_law_rooms_here", "_law_r", "_law_j"]:List Str).length≤12 from by decide)) (fun _ _ _ _=>cD) (fun _ _ _ _=>(fA (gR K) z_list iN (aa (pv 12 (hv:=(bV (defScope au) (by decide +kernel)))) ab) (hg:=(pX (defScope au) (by decide +kernel))))))
   (ac (cS PassesOwn.never rfl (cU wY z_range (aa (bZ (bO K) z_len cR (aa (pv 9) ab)) ab)) (bc 10 sc_law_three.nd) (ak (cS PassesOwn.never rfl (cU wY z_range (aa (bZ (bO K) z_len cR (aa (aK (bd K) (pv 9) (pv 10) (fun _ _=>rfl)) ab)) ab)) (bc 11 sc_law_three.nd) (ak (bN (aT jw (bb cK (bb h_ (aq c_law_cell_at hr (aa (pv 0) (aa aj ab))) (bb bK (bb bK aj (bb iu aj (pv 10))) (pv 11))) aj) aj (aP _)) (ak (dw bv (dQ (aK (bd K) (pv 9) (pv 10) (fun _ _=>rfl)) (pv 11) ui))) bt)))))
   (ak (dw (dG (aa (pv 2) (aa (fA (gR K) z_list iN (aa (aK (bd K) (aK (bd K) (pv 4) aj (fun _ _=>rfl)) aj (fun _ _=>rfl)) ab)) (aa (pv 9) ab)))) (dQ (pv 4) aj ui))))) bt)
   (ak (aL (pv 4))))))))),?_⟩
 walk_at "rd1";refine⟨a,ns,0,rfl,hS,by decide,?_⟩
 generalize ns.getD (0:Int).toNat 0=fi
 walk_at "nx";refine⟨by decide,?_⟩
 have hsd:∃ sd:Int,1+fi % 2=sd∧(sd=1∨sd=2):=⟨_,rfl,by omega⟩
 obtain⟨sd,esd,hsd⟩:=hsd
 rw[esd];walk_at "nx";refine⟨a,ns,1,rfl,hS,by decide,?_⟩
 refine⟨_,7,_,rfl,by decide,hsd,fun wp H1 ss s1 hwp ew hsl hs10 hsn=>?_⟩
 walk_at "nx";refine⟨by decide,fun rp hrp=>?_⟩
 have s2:=al hrp (.lst []);have e2:upd H1 rp (.lst []) rp=some (.lst []):=ae
 generalize upd H1 rp (.lst [])=H2 at s2 e2 ⊢;have hrp2:H2 rp≠none:=by rw[e2]; intro z; cases z
 walk_at "nx";refine⟨by decide,by decide,?_⟩
 refine dv (fun i σ H'=>∃ (ps:List Addr) (rs:List Rl) (o5 o6 o7 o8:Option V),σ=[some (.ref a),some (.int fi),some (.int sd),some (.ref wp),some (.ref rp),o5,o6,o7,o8,none,none,none]∧Same H1 H'∧(∀ c,H' c=none→H2 c=none)∧H' rp=some (.lst (ps.map V.ref))∧ps.length=i∧rs.length=i∧∀ (j:Nat) p r,ps[j]? = some p→rs[j]? = some r→KeptAt H2 H' p r∧IsR ss sd (jh j) (kp r) r)
  ⟨[],[],none,none,none,none,rfl,s2,fun _ h=>h,e2,rfl,rfl,fun j p r e=>by simp at e⟩ ?_ ?_
 ·rintro i σ H' hi ⟨ps,rs,o5,o6,o7,o8,rfl,sm,fr,hl,pl,rl,hk⟩
  have hi3:i<3:=hi
  have s0m:=s1.trans sm;walk_at "rd1";refine⟨a,ns,_,rfl,s0m.seq hS,by omega,?_⟩
  generalize ns.getD (2+(0+(i:Int))).toNat 0=hd
  walk_at "nx";refine⟨by decide,by decide,⟨by decide,by decide⟩,by decide,_,SqL.of (sm _ _ ew),fun c1 hc1=>?_⟩
  obtain⟨st,est,hst⟩ : ∃ z:Nat,hd % 4=(z:Int)∧z≤3:=⟨(hd % 4).toNat,by omega,by omega⟩
  obtain⟨mn,emn,hmn⟩ : ∃ z:Nat,hd / 4 % 4=(z:Int)∧z≤3:=⟨(hd / 4 % 4).toNat,by omega,by omega⟩
  rw[est,emn,show (st:Int)+(mn:Int)=((st+mn:Nat):Int) by omega,wD,← List.map_take,← List.map_drop]
  have s3:=al hc1 (.lst (((ss.take (st+mn)).drop st).map V.str));have e3:upd H' c1 (.lst (((ss.take (st+mn)).drop st).map V.str)) c1=some (.lst (((ss.take (st+mn)).drop st).map V.str)):=ae
  generalize upd H' c1 (.lst (((ss.take (st+mn)).drop st).map V.str))=H3 at s3 e3 ⊢;refine⟨_,SqL.of e3,by rw[List.length_drop,List.length_take]; omega,fun w1 ts hw1 pm so=>?_⟩
  have s4:=al hw1 (.lst (ts.map V.str));have e4:upd H3 w1 (.lst (ts.map V.str)) w1=some (.lst (ts.map V.str)):=ae
  generalize upd H3 w1 (.lst (ts.map V.str))=H4 at s4 e4 ⊢;have tl:ts.length=mn:=by rw[pm.length_eq,List.length_drop,List.length_take]; omega
  have tn:ts.Nodup:=pm.nodup_iff.mpr (hsn.sublist ((List.drop_sublist _ _).trans (List.take_sublist _ _)))
  have tm:∀ u∈ts,u∈ss:=fun u hu=>List.mem_of_mem_take (List.mem_of_mem_drop (pm.mem_iff.mp hu))
  walk_at "nx";refine⟨⟨by decide,by decide⟩,by decide,fun zp hzp=>?_⟩
  have s5:=al hzp (.lst [V.int 3,V.int 3,V.int 2]);have e5:upd H4 zp (.lst [V.int 3,V.int 3,V.int 2]) zp=some (.lst [V.int 3,V.int 3,V.int 2]):=ae
  generalize upd H4 zp (.lst [V.int 3,V.int 3,V.int 2])=H5 at s5 e5 ⊢;obtain⟨za,z2,z3⟩:=Ci hi3
  refine⟨_,_,.inl (SqL.of e5),za,?_⟩
  walk_at "rd1";refine⟨by omega,?_⟩
  obtain⟨sz,esz,hsz,hsz'⟩ : ∃ z:Nat,1+hd / 16 % (jh i:Nat)=(z:Int)∧1≤z∧z≤jh i:=by
   have h1:=Int.emod_nonneg (hd / 16) (show ((jh i:Nat):Int)≠0 by omega)
   have h2:=Int.emod_lt_of_pos (hd / 16) (show (0:Int)<((jh i:Nat):Int) by omega)
   exact⟨(1+hd / 16 % (jh i:Nat)).toNat,by omega,by omega,by omega⟩
  rw[esz];have s35:=s3.trans (s4.trans s5);have s05:=s0m.trans s35;walk_at "nx";refine⟨⟨_,SqL.of (s35 _ _ hl)⟩,?_⟩
  rw[zK];walk_at "rd1";obtain⟨cs,ecs⟩:=uH (ns:=ns) (lo:=some ((8+i:Nat):Int)) (hi:=none) (st:=some ((3:Nat):Int))
  have hp1:=pG (ns.map V.int) (8+i) 3 (by decide)
  rw[List.length_map]at hp1
  rw[show (8+(0+(i:Int)))=((8+i:Nat):Int) by omega]
  refine⟨a,_,rfl,s05.seq hS,by decide,cg (Nat.le_trans hp1 (by omega)),fun v1 hv1=>?_⟩
  have ecs':gW (ns.map V.int) (some ((8+i:Nat):Int)) none (some 3)=cs.map V.int:=ecs
  rw[ecs'];have s6:=al hv1 (.lst (cs.map V.int));have e6:upd H5 v1 (.lst (cs.map V.int)) v1=some (.lst (cs.map V.int)):=ae
  generalize upd H5 v1 (.lst (cs.map V.int))=H6 at s6 e6 ⊢;refine⟨_,.inl (SqL.of ((s5.trans s6) _ _ e4)),?_⟩
  rw[List.length_map,tl];refine⟨a,ns,_,rfl,(s05.trans s6).seq hS,by omega,?_⟩
  refine⟨v1,cs,sz,mn,_,rfl,SqL.of e6,hsz,by omega,hmn,fun pr H7 as rr s7 hpr hN hrl hrr=>?_⟩
  refine⟨by decide,fun p hp=>?_⟩
  have s8:=al hp (.tup [V.int sd,V.ref w1,V.ref pr]);have e8:upd H7 p (.tup [V.int sd,V.ref w1,V.ref pr]) p=some (.tup [V.int sd,V.ref w1,V.ref pr]):=ae
  generalize upd H7 p (.tup [V.int sd,V.ref w1,V.ref pr])=H8 at s8 e8 ⊢;have s38:=s35.trans (s6.trans (s7.trans s8));have hl8:=s38 _ _ hl;refine⟨_,hl8,by rw[List.length_map]; exact cg (by omega),?_⟩
  have ok:bm ⟨sd,ts,rr⟩:=⟨hsd,by show ts.length≤16; omega,by show 1≤rr.length; omega,by show rr.length≤60; omega,fun x hx=>⟨by rw[(hrr x hx).1]; exact tl.symm,fun k hk=>by rw[hrl]; exact(hrr x hx).2 k hk⟩,fun u hu=>hs10 u (tm u hu)⟩
  have hnew:KeptAt H2 H8 p ⟨sd,ts,rr⟩:=⟨w1,pr,as,e8,((s5.trans s6).trans (s7.trans s8)) _ _ e4,hN.at'.mono s8,fr _ (s35.free (s6.free (s7.free hp))),fr _ (s3.free hw1),fr _ (s35.free (s6.free hpr)),fun c hc=>fr _ (s35.free (s6.free (hN.new c hc).1))⟩
  have hir:IsR ss sd (jh i) (kp ⟨sd,ts,rr⟩) ⟨sd,ts,rr⟩:=⟨ok,tn,so,tm,rfl,by show rr.length≤_; omega,fun ys=>Iff.rfl⟩
  refine⟨ps++[p],rs++[⟨sd,ts,rr⟩],_,_,_,_,rfl,(sm.trans s38).upd hrp _,fun c hc=>?_,by rw[ae,List.map_append]; rfl,by simp[pl],by simp[rl],fun j q r e1 e2=>?_⟩
  ·by_cases h:c=rp
   ·subst h; rw[ae]at hc; cases hc
   ·rw[ai h]at hc
    exact fr c (s38.free hc)
  rcases Nat.lt_or_ge j i with c | c
  ·rw[List.getElem?_append_left (by omega)]at e1 e2
   obtain⟨k1,k2⟩:=hk j q r e1 e2
   exact⟨(k1.mono s38).upd hrp2,k2⟩
  ·rw[List.getElem?_append_right (by omega)]at e1 e2
   have j0:j - ps.length=0:=by have:=(List.getElem?_eq_some_iff.mp e1).1; simp at this; omega
   have ej:j=i:=by have:=(List.getElem?_eq_some_iff.mp e1).1; simp at this; omega
   rw[j0]at e1
   rw[show j - rs.length=0 by omega]at e2
   cases e1; cases e2
   rw[ej];exact⟨hnew.upd hrp2,hir⟩
 rintro σ H3 ⟨ps,rs,o5,o6,o7,o8,rfl,sm,fr,hl,pl,rl,hk⟩
 have pl:ps.length=3:=pl
 have rl:rs.length=3:=rl
 match ps,rs,pl,rl,hl,hk with
 | [p1,p2,p3],[r1,r2,r3],_,_,hl,hk=>
  obtain⟨k1,i1⟩:=hk 0 p1 r1 rfl rfl
  obtain⟨k2,i2⟩:=hk 1 p2 r2 rfl rfl
  obtain⟨k3,i3⟩:=hk 2 p3 r3 rfl rfl
  have s03:=s1.trans sm;have hw16:ss.length≤16:=by omega
  have hl:H3 rp=some (.lst [.ref p1,.ref p2,.ref p3]):=hl
  walk_at "nx";refine⟨⟨by decide,by decide⟩,by decide,bh (fun _=>?_) (fun _=>?_)⟩
  rotate_left
  ·walk_at "nx"
   exact fin rp p1 p2 p3 H3 r1 r2 r3 ss sd s03 hl k1.at' k2.at' k3.at' hw16 i1 i2 i3
  obtain⟨pw,pr,as,f1,f2,f3,_⟩:=id k1
  refine⟨_,_,.inl (SqL.of hl),j_,_,_,.inr (SqT.of f1),aZ (j:=2) rfl,_,rfl,⟨_,SqL.of f3.1⟩,fun L hL=>?_⟩
  refine mL f3 i1.ok.n1 hL (fun a xs H' C y1 y2=>?_) (fun H4 bs s4 hB hbn hnd=>?_)
  ·walk_at "rd1"
   exact⟨_,.inl (SqL.of y1),y2⟩
  have hLb:L∉bs:=fun hm=>(hbn L hm).2 rfl
  have hbl:=hB.2.1;have zl:=i1.le;have hlL:rp≠L:=aA hl hL
  have wl:=i1.ok.nw;walk_at "nx";refine⟨_,.inl (SqL.of hB.1),?_⟩
  rw[List.length_map,hbl];have n60:=i1.ok.n1;refine⟨by omega,by omega,?_⟩
  rw[Int.toNat_natCast]
  refine dv (fun i σ H'=>∃ (rows:List (List (Option Nat))) (o10 o11:Option V),σ=[some (.ref a),some (.int fi),some (.int sd),some (.ref wp),some (.ref rp),o5,o6,o7,o8,some (.ref L),o10,o11]∧Same H3 H'∧RoomsAs H' L rows bs∧rows.length=r1.rs.length∧∀ x∈rows,x.length=r1.ws.length∧∀ k,some k∈x→k<r1.rs.length)
   ⟨r1.rs,none,none,rfl,s4,hB,rfl,i1.ok.row⟩ ?_ ?_
  ·rintro i σ H' hi ⟨rows,o10,o11,rfl,sx,hRo,hrl,hrr⟩
   have hib:i<bs.length:=by omega
   have hir:i<rows.length:=by omega
   have at':∀ {G:Hp} {rows:List (List (Option Nat))},RoomsAs G L rows bs→∃ xs,(SqL K G L xs∨SqT K G L xs)∧eB xs (0+(i:Int))=some (V.ref bs[i]):=fun {G rows} h=>⟨_,.inl (SqL.of h.1),by rw[Int.zero_add]; exact aZ (v:=V.ref bs[i]) (by rw[List.getElem?_map,List.getElem?_eq_getElem hib]; rfl)⟩
   have row':∀ {G:Hp} {rows:List (List (Option Nat))} (h:i<rows.length),RoomsAs G L rows bs→G bs[i]=some (.lst (rows[i].map ar)):=fun {G rows} h hh=>hh.2.2 i bs[i] rows[i] (List.getElem?_eq_getElem hib) (List.getElem?_eq_getElem h)
   walk_at "rd1";obtain⟨xs,g1,g2⟩:=at' hRo
   refine⟨xs,_,g1,g2,?_⟩
   walk_at "rd1";refine⟨_,.inl (SqL.of (row' hir hRo)),?_⟩
   rw[List.length_map,(hrr _ (List.getElem_mem hir)).1];refine⟨by omega,by omega,?_⟩
   rw[Int.toNat_natCast]
   refine dv (fun j σ H'=>∃ (rows:List (List (Option Nat))) (o11:Option V),σ=[some (.ref a),some (.int fi),some (.int sd),some (.ref wp),some (.ref rp),o5,o6,o7,o8,some (.ref L),some (.int (0+(i:Int))),o11]∧Same H3 H'∧RoomsAs H' L rows bs∧rows.length=r1.rs.length∧∀ x∈rows,x.length=r1.ws.length∧∀ k,some k∈x→k<r1.rs.length)
    ⟨rows,o11,rfl,sx,hRo,hrl,hrr⟩ ?_ ?_
   ·rintro j σ H' hj ⟨rows,o11,rfl,sx,hRo,hrl,hrr⟩
    have hir:i<rows.length:=by omega
    walk_at "rd1";refine⟨a,ns,6,rfl,(s03.trans sx).seq hS,by decide,?_⟩
    walk_at "rd1";have zl3:r1.rs.length≤3:=zl
    refine⟨.inl ⟨by omega,by omega⟩,⟨by omega,by omega⟩,by decide,bh (fun _=>?_) (fun _=>⟨rows,_,rfl,sx,hRo,hrl,hrr⟩)⟩
    obtain⟨xs,g1,g2⟩:=at' hRo
    refine⟨xs,_,g1,g2,?_⟩
    walk_at "rd1";have hrow:=row' hir hRo;obtain⟨hx1,hx2⟩:=hrr _ (List.getElem_mem hir)
    refine⟨_,j,hrow,y3 (by rw[List.length_map]; omega),?_⟩
    have hset:(rows[i].map ar).set j V.non=(rows[i].set j none).map ar:=by rw[List.map_set]; rfl
    rw[hset];refine⟨rows.set i (rows[i].set j none),_,rfl,sx.upd (hbn _ (List.getElem_mem hib)).1 _,hRo.setRow hnd hLb (List.getElem?_eq_getElem hib),by rw[List.length_set]; exact hrl,fun y hy=>?_⟩
    rcases List.mem_or_eq_of_mem_set hy with z | z
    ·exact hrr y z
    ·rw[z,List.length_set]
     refine⟨hx1,fun k hk=>?_⟩
     rcases List.mem_or_eq_of_mem_set hk with z' | z'
     ·exact hx2 k z'
     ·cases z'
   ·rintro σ H' ⟨rows,o11,rfl,sx,hRo,hrl,hrr⟩
    exact⟨rows,_,_,rfl,sx,hRo,hrl,hrr⟩
  rintro σ H5 ⟨rows,o10,o11,rfl,s5,hRo,hrl,hrr⟩
  walk_at "nx";have f1':=s5 _ _ f1;refine⟨_,_,.inl (SqL.of (s5 _ _ hl)),j_,_,_,.inr (SqT.of f1'),aZ (j:=1) rfl,?_⟩
  walk_at "rd1";refine⟨_,.inl (SqL.of (s5 _ _ f2)),fun w2 hw2=>?_⟩
  have s6:=al hw2 (.lst (r1.ws.map V.str));have e6:upd H5 w2 (.lst (r1.ws.map V.str)) w2=some (.lst (r1.ws.map V.str)):=ae
  generalize upd H5 w2 (.lst (r1.ws.map V.str))=H6 at s6 e6 ⊢;refine⟨by decide,fun p hp=>?_⟩
  have s7:=al hp (.tup [V.int sd,V.ref w2,V.ref L]);have e7:upd H6 p (.tup [V.int sd,V.ref w2,V.ref L]) p=some (.tup [V.int sd,V.ref w2,V.ref L]):=ae
  generalize upd H6 p (.tup [V.int sd,V.ref w2,V.ref L])=H7 at s7 e7 ⊢;have s37:=s5.trans (s6.trans s7);refine⟨_,1,s37 _ _ hl,rfl,?_⟩
  have hk2:KeptAt H2 H7 p ⟨sd,r1.ws,rows⟩:=⟨w2,L,bs,e7,s7 _ _ e6,hRo.mono (s6.trans s7),fr _ (s5.free (s6.free hp)),fr _ (s5.free hw2),fr _ hL,fun c hc=>fr _ (hbn c hc).1⟩
  have i2':IsR ss sd 3 (kp ⟨sd,r1.ws,rows⟩) ⟨sd,r1.ws,rows⟩:=⟨⟨hsd,i1.ok.nw,by show 1≤rows.length; rw[hrl]; exact i1.ok.n0,by show rows.length≤60; omega,fun x hx=>⟨(hrr x hx).1,fun k hk=>by rw[hrl]; exact(hrr x hx).2 k hk⟩,i1.ok.lw⟩,i1.nd,i1.so,i1.sub,rfl,by show rows.length≤3; rw[hrl]; exact zl,fun ys=>Iff.rfl⟩
  walk_at "nx";exact fin rp p1 p p3 _ r1 _ r3 ss sd (s1.trans ((sm.trans s37).upd hrp _)) ae ((k1.mono s37).upd hrp2).at' (hk2.upd hrp2).at' ((k3.mono s37).upd hrp2).at' hw16 i1 i2' i3
end
theorem zE(o o':Option Nat):fF (ar o) (ar o')=decide (o=o'):=by
 cases o with
 | none=>cases o' <;> rfl
 | some k=>
  cases o' with
  | none=>rfl
  | some k'=>
   show ((k:Int) == (k':Int))=_
   rw[Bool.eq_iff_iff,beq_iff_eq,decide_eq_true_eq]
   constructor
   ·intro h; rw[show k=k' by omega]
   ·intro h; rw[Option.some.inj h]
theorem vq{α : Type}[DecidableEq α]{x y:List α}(h:x.length=y.length):(List.range x.length).all (fun i=>decide (x[i]? = y[i]?))=decide (x=y):=by
 rw[Bool.eq_iff_iff,List.all_eq_true,decide_eq_true_eq]
 constructor
 ·intro h2
  refine List.ext_getElem? fun i=>?_
  by_cases hi:i<x.length
  ·exact of_decide_eq_true (h2 i (List.mem_range.mpr hi))
  ·rw[List.getElem?_eq_none (by omega),List.getElem?_eq_none (by omega)]
 ·rintro rfl i _; simp
theorem zt{K:PySem.W.Frag}{H:Hp}{a b:Addr}{x y:List (Option Nat)}(h1:H a=some (.lst (x.map ar)))(h2:H b=some (.lst (y.map ar))):EqN K H 1 (.ref a) (.ref b) (decide (x=y)):=by
 by_cases hl:x.length=y.length
 ·refine .inr ⟨a,b,_,_,rfl,rfl,.inl ⟨SqL.of h1,SqL.of h2⟩,.inl ⟨fun i=>decide (x[i]? = y[i]?),by simp[hl],fun i u v e1 e2=>?_,?_⟩⟩
  ·rw[List.getElem?_map]at e1 e2
   cases hx:x[i]? with
   | none=>rw[hx]at e1; cases e1
   | some o=>
    cases hy:y[i]? with
    | none=>rw[hy]at e2; cases e2
    | some o'=>
     rw[hx]at e1; rw[hy]at e2
     cases e1; cases e2
     refine⟨by cases o <;> rfl,by cases o' <;> rfl,?_⟩
     rw[zE];show decide (x[i]? = y[i]?)=_
     rw[hx,hy]; simp
  ·rw[List.length_map,vq hl]
 ·rw[decide_eq_false (fun z=>hl (by rw[z]))]
  exact .inr ⟨a,b,_,_,rfl,rfl,.inl ⟨SqL.of h1,SqL.of h2⟩,.inr ⟨SqL.of h1,SqL.of h2,by simpa using hl,rfl⟩⟩
theorem vk{K:PySem.W.Frag}{H:Hp}{p q:Addr}{rs rs':List (List (Option Nat))}{as bs:List Addr}(h1:RoomsAs H p rs as)(h2:RoomsAs H q rs' bs):EqN K H 2 (.ref p) (.ref q) (decide (rs=rs')):=by
 obtain⟨a1,a2,a3⟩:=h1
 obtain⟨b1,b2,b3⟩:=h2
 by_cases hl:rs.length=rs'.length
 ·refine .inr ⟨p,q,_,_,rfl,rfl,.inl ⟨SqL.of a1,SqL.of b1⟩,.inl ⟨fun i=>decide (rs[i]? = rs'[i]?),by simp; omega,fun i u v e1 e2=>?_,?_⟩⟩
  ·rw[List.getElem?_map]at e1 e2
   cases qa:as[i]? with
   | none=>rw[qa]at e1; cases e1
   | some a=>
    cases qb:bs[i]? with
    | none=>rw[qb]at e2; cases e2
    | some b=>
     rw[qa]at e1; rw[qb]at e2
     cases e1; cases e2
     have hi:i<rs.length:=by have:=(List.getElem?_eq_some_iff.mp qa).1; omega
     have hi':i<rs'.length:=by omega
     have e:=zt (K:=K) (a3 i a _ qa (List.getElem?_eq_getElem hi)) (b3 i b _ qb (List.getElem?_eq_getElem hi'));have e2:decide (rs[i]? = rs'[i]?)=decide (rs[i]=rs'[i]):=by rw[List.getElem?_eq_getElem hi,List.getElem?_eq_getElem hi']; simp
     show EqN K H 1 (.ref a) (.ref b) (decide (rs[i]? = rs'[i]?))
     rw[e2]; exact e
  ·rw[List.length_map,a2,vq hl]
 ·rw[decide_eq_false (fun z=>hl (by rw[z]))]
  exact .inr ⟨p,q,_,_,rfl,rfl,.inl ⟨SqL.of a1,SqL.of b1⟩,.inr ⟨SqL.of a1,SqL.of b1,by simp; omega,rfl⟩⟩
def pA(r r':Rl):Bool:=decide (r.s=r'.s)&&(decide (r.ws=r'.ws)&&decide (r.rs=r'.rs))
theorem eqR_iff{r r':Rl}:pA r r'=true ↔ r=r':=by
 unfold pA;rw[Bool.and_eq_true,Bool.and_eq_true,decide_eq_true_eq,decide_eq_true_eq,decide_eq_true_eq]
 constructor
 ·rintro⟨h1,h2,h3⟩
  cases r; cases r'
  simp only at h1 h2 h3
  subst h1 h2 h3; rfl
 ·rintro rfl; exact⟨rfl,rfl,rfl⟩
theorem lN{K:PySem.W.Frag}{H:Hp}{p q:Addr}{r r':Rl}(h1:RuleAt H p r)(h2:RuleAt H q r'):EqN K H 3 (.ref p) (.ref q) (pA r r'):=by
 obtain⟨pw,pr,as,a1,a2,a3⟩:=h1
 obtain⟨qw,qr,bs,b1,b2,b3⟩:=h2
 refine .inr ⟨p,q,_,_,rfl,rfl,.inr ⟨SqT.of a1,SqT.of b1⟩,.inl ⟨fun i=>match i with | 0=>decide (r.s=r'.s) | 1=>decide (r.ws=r'.ws) | _=>decide (r.rs=r'.rs),rfl,fun i u v e1 e2=>?_,?_⟩⟩
 ·match i,e1,e2 with
  | 0,e1,e2=>
   cases e1; cases e2
   have:=EqN.flat (K:=K) (H:=H) (n:=2) (x:=V.int r.s) (y:=V.int r'.s) rfl rfl
   have e:fF (V.int r.s) (V.int r'.s)=decide (r.s=r'.s):=by show (r.s == r'.s)=_; rw[Bool.eq_iff_iff,beq_iff_eq,decide_eq_true_eq]
   rw[e]at this; exact this
  | 1,e1,e2=>cases e1; cases e2; exact EqN.strs (SqL.of a2) (SqL.of b2)
  | 2,e1,e2=>cases e1; cases e2; exact vk a3 b3
  | i+3,e1,e2=>simp at e1
 ·show pA r r'=([0,1,2]:List Nat).all _
  simp[pA]
section
variable{P:Program}{w:World}{K:PySem.W.Frag}{mg:Str→Option Value}{base:Heap}
def l_:Sp:=fun vs H Q _=>∃ (p q:Addr) (a b:Rl) (W:List Str) (S:Int),vs=[.ref p,.ref q]∧RuleAt H p a∧RuleAt H q b∧W.length≤16∧IsR W S 3 (kp a) a∧IsR W S 3 (kp b) b∧∀ H',Same H H'→Q (.bl true) H'
theorem d8{K:PySem.W.Frag}{H:Hp}{p q:Addr}{r r':Rl}(h1:RuleAt H p r)(h2:RuleAt H q r')(e:r=r'):EqN K H 3 (.ref p) (.ref q) true:=by
 have:=lN (K:=K) h1 h2
 rw[eqR_iff.mpr e]at this; exact this
theorem j3{W:List Str}{S:Int}{n:Nat}{L:List Str→Prop}{a:Rl}{p:Addr}{H:Hp}{Q:V→Hp→Prop}{E}(hA:RuleAt H p a)(ha:IsR W S n L a)(k:∀ (t:Addr) (H':Hp) (c:Rl),Same H H'→RuleAt H' t c→IsR W S n L c→ff c→Q (.ref t) H'):kB [.ref p] H Q E:=by
 refine⟨p,a,rfl,hA,ha.ok,fun l lw lr H' ls sm a1 a2 a3 _ _ _ _ _=>?_⟩
 exact k l H' (aX a) sm ⟨lw,lr,ls,a1,a2,a3.at'⟩ ha.least.1 ha.least.2
theorem q5(D:DefAt K mg "_law_one_of_two" aM) (c_joined_rule:Cal P w K mg base 7 "joined_rule" ["one", "other"] (eC cW)) (c_either_rule:Cal P w K mg base 7 "either_rule" ["one", "other"] (eC cY)) (c_least_rule:Cal P w K mg base 6 "least_rule" ["rule"] kB) (c_row_apart:Cal P w K mg base 3 "row_apart" ["other", "one"] mS):Cal P w K mg base 8 "_law_one_of_two" ["_law_one", "_law_other"] l_:=by
 refine D.cal sc_law_one_of_two (fun _ _ _ _ _ _ us hl=>match us,hl with | [_,_],_=>rfl) (fun vs H Q E h=>by obtain⟨_,_,_,_,_,_,rfl,_⟩:=h; rfl) (fun f cdv A outer s H vs Q E hr h=>?_)
 obtain⟨p,q,a,b,W,S,rfl,hA,hB,hW,ia,ib,fin⟩:=h
 refine⟨_,(ac (ax 2 sc_law_one_of_two.nd (aq c_joined_rule hr (aa (pv 0) (aa (pv 1) ab))))
   (ac (ax 3 sc_law_one_of_two.nd (aq c_either_rule hr (aa (pv 0) (aa (pv 1) ab))))
   (ac (bN (PW.pt' (gE (aT (dW K hr) (pv 2) (aq c_joined_rule hr (aa (pv 1) (aa (pv 0) ab))) (aP _)) (fq (aT (dW K hr) (pv 3) (aq c_either_rule hr (aa (pv 1) (aa (pv 0) ab))) (aP _))))) (ak (aL dr)) bt)
   (ac (ax 4 sc_law_one_of_two.nd (aq c_least_rule hr (aa (pv 0) ab)))
   (ac (bN (PW.pt' (gE (aT (dW K hr) (aq c_joined_rule hr (aa (pv 0) (aa (pv 0) ab))) (pv 4) (aP _)) (fq (aT (dW K hr) (aq c_either_rule hr (aa (pv 0) (aa (pv 0) ab))) (pv 4) (aP _))))) (ak (aL dr)) bt)
   (ac (bN (PW.pt' (gE (aT (dW K hr) (aq c_joined_rule hr (aa (pv 0) (aa (pv 3) ab))) (pv 4) (aP _)) (fq (aT (dW K hr) (aq c_either_rule hr (aa (pv 0) (aa (pv 2) ab))) (pv 4) (aP _))))) (ak (aL dr)) bt)
   (ak (aL (qk (cr bU (aq c_row_apart hr (aa (pv 2) (aa (pv 0) ab))) bv (aP _)) (mE (cr bU (aq c_row_apart hr (aa (pv 0) (aa (pv 3) ab))) bv (aP _)))))))))))),?_⟩
 walk_at "rd1";refine cP hA hB ia ib hW (by decide) fun t1 H1 c1 s1 h1 i1 l1=>?_
 walk_at "nx";refine cq (hA.mono s1) (hB.mono s1) ia ib hW (by decide) fun t2 H2 c2 s2 h2 i2 l2=>?_
 walk_at "nx";have s02:=s1.trans s2;refine cP (hB.mono s02) (hA.mono s02) ib ia hW (by decide) fun t3 H3 c3 s3 h3 i3 l3=>?_
 walk_at "rd1";refine⟨2,true,by decide,d8 ((h1.mono s2).mono s3) h3 (i1.eq i3 l1 l3 fun ys=>And.comm),?_⟩
 refine bh (fun c=>absurd c (by decide)) (fun _=>?_)
 have s03:=s02.trans s3;refine cq (hB.mono s03) (hA.mono s03) ib ia hW (by decide) fun t4 H4 c4 s4 h4 i4 l4=>?_
 walk_at "rd1";have h2':=h2.mono (s3.trans s4);refine⟨2,true,by decide,d8 h2' h4 (i2.eq i4 l2 l4 fun ys=>Or.comm),?_⟩
 refine bh (fun c=>absurd c (by decide)) (fun _=>?_)
 have s04:=s03.trans s4;walk_at "nx";refine j3 (hA.mono s04) ia fun t5 H5 c5 s5 h5 i5 l5=>?_
 have s05:=s04.trans s5;walk_at "nx";refine cP (hA.mono s05) (hA.mono s05) ia ia hW (by decide) fun t6 H6 c6 s6 h6 i6 l6=>?_
 walk_at "rd1";refine⟨2,true,by decide,d8 h6 (h5.mono s6) (i6.eq i5 l6 l5 fun ys=>and_self_iff),?_⟩
 refine bh (fun c=>absurd c (by decide)) (fun _=>?_)
 have s06:=s05.trans s6;refine cq (hA.mono s06) (hA.mono s06) ia ia hW (by decide) fun t7 H7 c7 s7 h7 i7 l7=>?_
 walk_at "rd1";have h57:=(h5.mono s6).mono s7;refine⟨2,true,by decide,d8 h7 h57 (i7.eq i5 l7 l5 fun ys=>or_self_iff),?_⟩
 refine bh (fun c=>absurd c (by decide)) (fun _=>?_)
 have s07:=s06.trans s7;have s47:=s5.trans (s6.trans s7);have h27:=h2'.mono s47;walk_at "nx";refine cP (hA.mono s07) h27 ia i2 hW (by decide) fun t8 H8 c8 s8 h8 i8 l8=>?_
 walk_at "rd1";refine⟨2,true,by decide,d8 h8 (h57.mono s8) (i8.eq i5 l8 l5 fun ys=>⟨fun z=>z.1,fun z=>⟨z,.inl z⟩⟩),?_⟩
 refine bh (fun c=>absurd c (by decide)) (fun _=>?_)
 have s08:=s07.trans s8;have s18:=s2.trans (s3.trans (s4.trans (s47.trans s8)));refine cq (hA.mono s08) (h1.mono s18) ia i1 hW (by decide) fun t9 H9 c9 s9 h9 i9 l9=>?_
 walk_at "rd1";refine⟨2,true,by decide,d8 h9 ((h57.mono s8).mono s9) (i9.eq i5 l9 l5 fun ys=>⟨fun z=>z.elim id fun z=>z.1,.inl⟩),?_⟩
 refine bh (fun c=>absurd c (by decide)) (fun _=>?_)
 have s09:=s08.trans s9;walk_at "nx";refine⟨t1,p,c1,a,rfl,h1.mono (s18.trans s9),hA.mono s09,i1.ok,ia.ok,i1.nd,ia.nd,by rw[i1.s,ia.s],fun v G sv hv=>?_⟩
 rcases hv with ⟨rfl,_⟩ | ⟨l,row,rfl,_,z1,z2⟩
 rotate_left
 ·exact absurd ((i1.lang row).mp z1).1 z2
 walk_at "rd1";refine⟨p,t2,a,c2,rfl,(hA.mono s09).mono sv,(h27.mono (s8.trans s9)).mono sv,ia.ok,i2.ok,ia.nd,i2.nd,by rw[i2.s,ia.s],fun v G2 sv2 hv=>?_⟩
 rcases hv with ⟨rfl,_⟩ | ⟨l,row,rfl,_,z1,z2⟩
 rotate_left
 ·exact absurd ((i2.lang row).mpr (.inl z1)) z2
 walk_at "rd1";exact fin G2 (s09.trans (sv.trans sv2))
def si:Sp:=fun vs H Q _=>∃ (p q u:Addr) (a b d:Rl) (W:List Str) (S:Int),vs=[.ref p,.ref q,.ref u]∧RuleAt H p a∧RuleAt H q b∧RuleAt H u d∧W.length≤16∧IsR W S 3 (kp a) a∧IsR W S 3 (kp b) b∧IsR W S 2 (kp d) d∧∀ H',Same H H'→Q (.bl true) H'
theorem sK(D:DefAt K mg "_law_grouped" bu) (c_joined_rule:Cal P w K mg base 7 "joined_rule" ["one", "other"] (eC cW)) (c_either_rule:Cal P w K mg base 7 "either_rule" ["one", "other"] (eC cY)):Cal P w K mg base 8 "_law_grouped" ["_law_one", "_law_other", "_law_third"] si:=by
 refine D.cal sc_law_grouped (fun _ _ _ _ _ _ us hl=>match us,hl with | [_,_,_],_=>rfl) (fun vs H Q E h=>by obtain⟨_,_,_,_,_,_,_,_,rfl,_⟩:=h; rfl) (fun f cdv A outer s H vs Q E hr h=>?_)
 obtain⟨p,q,u,a,b,d,W,S,rfl,hA,hB,hD,hW,ia,ib,id',fin⟩:=h
 refine⟨_,(ac (bN (aT (dW K hr) (aq c_joined_rule hr (aa (aq c_joined_rule hr (aa (pv 0) (aa (pv 1) ab))) (aa (pv 2) ab))) (aq c_joined_rule hr (aa (pv 0) (aa (aq c_joined_rule hr (aa (pv 1) (aa (pv 2) ab))) ab))) (aP _)) (ak (aL dr)) bt)
   (ac (bN (aT (dW K hr) (aq c_either_rule hr (aa (aq c_either_rule hr (aa (pv 0) (aa (pv 1) ab))) (aa (pv 2) ab))) (aq c_either_rule hr (aa (pv 0) (aa (aq c_either_rule hr (aa (pv 1) (aa (pv 2) ab))) ab))) (aP _)) (ak (aL dr)) bt)
   (ac (ax 3 sc_law_grouped.nd (aq c_joined_rule hr (aa (aq c_either_rule hr (aa (pv 0) (aa (pv 1) ab))) (aa (pv 2) ab))))
   (ak (aL (cr (kJ K hr) (pv 3) (aq c_either_rule hr (aa (aq c_joined_rule hr (aa (pv 0) (aa (pv 2) ab))) (aa (aq c_joined_rule hr (aa (pv 1) (aa (pv 2) ab))) ab))) (aP _))))))),?_⟩
 walk_at "rd1";refine cP hA hB ia ib hW (by decide) fun t1 H1 c1 s1 h1 i1 l1=>?_
 refine cP h1 (hD.mono s1) i1 id' hW (by decide) fun t2 H2 c2 s2 h2 i2 l2=>?_
 have s02:=s1.trans s2;refine cP (hB.mono s02) (hD.mono s02) ib id' hW (by decide) fun t3 H3 c3 s3 h3 i3 l3=>?_
 have s03:=s02.trans s3;refine cP (hA.mono s03) h3 ia i3 hW (by decide) fun t4 H4 c4 s4 h4 i4 l4=>?_
 have s04:=s03.trans s4;walk_at "rd1";refine⟨2,true,by decide,d8 ((h2.mono s3).mono s4) h4 (i2.eq i4 l2 l4 fun ys=>and_assoc),?_⟩
 refine bh (fun c=>absurd c (by decide)) (fun _=>?_)
 walk_at "nx";refine cq (hA.mono s04) (hB.mono s04) ia ib hW (by decide) fun t5 H5 c5 s5 h5 i5 l5=>?_
 have s05:=s04.trans s5;refine cq h5 (hD.mono s05) i5 id' hW (by decide) fun t6 H6 c6 s6 h6 i6 l6=>?_
 have s06:=s05.trans s6;refine cq (hB.mono s06) (hD.mono s06) ib id' hW (by decide) fun t7 H7 c7 s7 h7 i7 l7=>?_
 have s07:=s06.trans s7;refine cq (hA.mono s07) h7 ia i7 hW (by decide) fun t8 H8 c8 s8 h8 i8 l8=>?_
 have s08:=s07.trans s8;walk_at "rd1";refine⟨2,true,by decide,d8 ((h6.mono s7).mono s8) h8 (i6.eq i8 l6 l8 fun ys=>or_assoc),?_⟩
 refine bh (fun c=>absurd c (by decide)) (fun _=>?_)
 walk_at "nx";refine cq (hA.mono s08) (hB.mono s08) ia ib hW (by decide) fun t9 H9 c9 s9 h9 i9 l9=>?_
 have s09:=s08.trans s9;refine cP h9 (hD.mono s09) i9 id' hW (by decide) fun tA HA cA sA hA' iA lA=>?_
 have s0A:=s09.trans sA;walk_at "nx";refine cP (hA.mono s0A) (hD.mono s0A) ia id' hW (by decide) fun tB HB cB sB hB' iB lB=>?_
 have s0B:=s0A.trans sB;refine cP (hB.mono s0B) (hD.mono s0B) ib id' hW (by decide) fun tC HC cC sC hC iC lC=>?_
 have s0C:=s0B.trans sC;refine cq (hB'.mono sC) hC iB iC hW (by decide) fun tE HE cE sE hE iE lE=>?_
 walk_at "rd1";refine⟨2,true,by decide,d8 (hA'.mono (sB.trans (sC.trans sE))) hE (iA.eq iE lA lE fun ys=>or_and_right),?_⟩
 exact fin HE (s0C.trans sE)
theorem pJ(D:DefAt K mg "_law_following" aN) (c_joined_rule:Cal P w K mg base 7 "joined_rule" ["one", "other"] (eC cW)) (c_either_rule:Cal P w K mg base 7 "either_rule" ["one", "other"] (eC cY)) (c_least_rule:Cal P w K mg base 6 "least_rule" ["rule"] kB) (c_row_apart:Cal P w K mg base 3 "row_apart" ["other", "one"] mS) (c_room_after:Cal P w K mg base 3 "room_after" ["rule", "row"] (su K)):Cal P w K mg base 8 "_law_following" ["_law_one", "_law_other"] l_:=by
 refine D.cal sc_law_following (fun _ _ _ _ _ _ us hl=>match us,hl with | [_,_],_=>rfl) (fun vs H Q E h=>by obtain⟨_,_,_,_,_,_,rfl,_⟩:=h; rfl) (fun f cdv A outer s H vs Q E hr h=>?_)
 obtain⟨p,q,a,b,W,S,rfl,hA,hB,hW,ia,ib,fin⟩:=h
 refine⟨_,(ac (ax 2 sc_law_following.nd (aq c_row_apart hr (aa (pv 0) (aa (pv 1) ab))))
   (ac (ax 3 sc_law_following.nd (aq c_joined_rule hr (aa (pv 0) (aa (pv 1) ab))))
   (ac (ax 4 sc_law_following.nd (aq c_either_rule hr (aa (pv 0) (aa (pv 1) ab))))
   (ac (bN (PW.pt' (gE (aT mJ (cr bU (pv 2) bv (aP _)) (cr (kJ K hr) (pv 3) (aq c_least_rule hr (aa (pv 0) ab)) (aP _)) (aP _)) (fq (aT mJ (cr bU (pv 2) bv (aP _)) (cr (kJ K hr) (pv 4) (aq c_least_rule hr (aa (pv 1) ab)) (aP _)) (aP _))))) (ak (aL dr)) bt)
   (ac (bN (aT bU (pv 2) bv (aP _)) (ak (aL dr)) bt)
   (ac (bN (PW.pt' (gE (aT bU (aq c_room_after hr (aa (pv 0) (aa (pv 2) ab))) bv (aP _)) (fq (aT bU (aq c_room_after hr (aa (pv 4) (aa (pv 2) ab))) bv (aP _))))) (ak (aL dr)) bt)
   (ak (aL (qk (cr bU (aq c_room_after hr (aa (pv 1) (aa (pv 2) ab))) bv (aP _)) (mE (cr bU (aq c_room_after hr (aa (pv 3) (aa (pv 2) ab))) bv (aP _)))))))))))),?_⟩
 walk_at "rd1";refine⟨p,q,a,b,rfl,hA,hB,ia.ok,ib.ok,ia.nd,ib.nd,by rw[ia.s,ib.s],fun v H1 s1 hv=>?_⟩
 walk_at "nx";refine cP (hA.mono s1) (hB.mono s1) ia ib hW (by decide) fun t2 H2 c2 s2 h2 i2 l2=>?_
 have s02:=s1.trans s2;walk_at "nx";refine cq (hA.mono s02) (hB.mono s02) ia ib hW (by decide) fun t3 H3 c3 s3 h3 i3 l3=>?_
 have s03:=s02.trans s3;have h23:=h2.mono s3;walk_at "nx";refine j3 (hA.mono s03) ia fun t4 H4 c4 s4 h4 i4 l4=>?_
 have s04:=s03.trans s4;walk_at "rd1"
 have key:∀ {n m:Nat} {L L':List Str→Prop} {c c':Rl},IsR W S n L c→IsR W S m L' c'→ff c→ff c'→((∀ ys,L ys ↔ L' ys) ↔ ∀ ys,kp a ys→kp b ys)→decide (v=V.non)=pA c c':=fun {n m L L' c c'} h h' l l' e=>by
  rcases hv with ⟨rfl,z⟩ | ⟨g,row,rfl,_,z1,z2⟩
  ·rw[eqR_iff.mpr (h.eq h' l l' (e.mpr z))]; rfl
  ·have:pA c c'=false:=by
    rw[Bool.eq_false_iff];intro z
    exact z2 (e.mp ((h.iff h' l l').mp (eqR_iff.mp z)) row z1)
   rw[this]; rfl
 have k1:=key i2 i4 l2 l4 ⟨fun h ys z=>((h ys).mpr z).2,fun h ys=>⟨fun z=>z.1,fun z=>⟨z,h ys z⟩⟩⟩
 refine⟨2,_,by decide,lN (h23.mono s4) h4,?_⟩
 refine bh (fun c=>absurd c (by rw[k1]; simp)) (fun _=>?_)
 refine j3 (hB.mono s04) ib fun t5 H5 c5 s5 h5 i5 l5=>?_
 have s05:=s04.trans s5;walk_at "rd1";have k2:=key i3 i5 l3 l5 ⟨fun h ys z=>(h ys).mp (.inl z),fun h ys=>⟨fun z=>z.elim (h ys) id,.inr⟩⟩
 refine⟨2,_,by decide,lN ((h3.mono s4).mono s5) h5,?_⟩
 refine bh (fun c=>absurd c (by rw[k2]; simp)) (fun _=>?_)
 walk_at "nx";rcases hv with ⟨rfl,z⟩ | ⟨g,row,rfl,hg,z1,z2⟩
 ·exact bh (fun _=>fin H5 s05) (fun c=>absurd rfl c)
 refine bh (fun c=>by cases c) (fun _=>?_)
 have s15:=s2.trans (s3.trans (s4.trans s5));have hg5:=s15 _ _ hg;walk_at "nx"
 have wn:∀ {o:Option Nat},o≠none→¬ ar o=V.non:=fun {o} h=>by
  cases o with
  | none=>exact absurd rfl h
  | some k=>intro c; cases c
 have nk:∀ {r:Rl},¬ kp r row→after r 0 row=none:=fun {r} h=>Classical.byContradiction h
 refine⟨p,g,a,row,rfl,hA.mono s05,ia.ok,SqL.of hg5,?_⟩
 refine bh (fun c=>absurd c (wn z1)) (fun _=>?_)
 refine⟨t3,g,c3,row,rfl,(h3.mono s4).mono s5,i3.ok,SqL.of hg5,?_⟩
 refine bh (fun c=>absurd c (wn ((i3.lang row).mpr (.inl z1)))) (fun _=>?_)
 walk_at "nx";refine⟨q,g,b,row,rfl,hB.mono s05,ib.ok,SqL.of hg5,?_⟩
 rw[nk z2];walk_at "rd1";refine⟨t2,g,c2,row,rfl,(h23.mono s4).mono s5,i2.ok,SqL.of hg5,?_⟩
 rw[nk fun z=>z2 ((i2.lang row).mp z).2]
 exact fin H5 s05
theorem wM{K:PySem.W.Frag}{H:Hp}{l m a b c a' b' c':Addr}{r1 r2 r3:Rl}(h1:H l=some (.lst [.ref a,.ref b,.ref c]))(h2:H m=some (.lst [.ref a',.ref b',.ref c']))(ha:RuleAt H a r1)(hb:RuleAt H b r2)(hc:RuleAt H c r3)(ha':RuleAt H a' r1)(hb':RuleAt H b' r2)(hc':RuleAt H c' r3):EqN K H 4 (.ref l) (.ref m) true:=by
 refine EqN.seq (.inl ⟨SqL.of h1,SqL.of h2⟩) rfl fun i x y e1 e2=>?_
 match i,e1,e2 with
 | 0,e1,e2=>cases e1; cases e2; exact mO ha ha'
 | 1,e1,e2=>cases e1; cases e2; exact mO hb hb'
 | 2,e1,e2=>cases e1; cases e2; exact mO hc hc'
 | i+3,e1,e2=>simp at e1
theorem AO{f:Addr}{fd:FuncData}(F:Fun K "law" "law" bC f fd) (z_list:mg "list" = none) (c_law_three:Cal P w K mg base 3 "_law_three" ["_law_script"] (rV K)) (c_law_one_of_two:Cal P w K mg base 8 "_law_one_of_two" ["_law_one", "_law_other"] l_) (c_law_grouped:Cal P w K mg base 8 "_law_grouped" ["_law_one", "_law_other", "_law_third"] si) (c_law_following:Cal P w K mg base 8 "_law_following" ["_law_one", "_law_other"] l_):iV P w K mg base kY 9 f fd ["_law_script"] (oJ K):=by
 refine F.ok sc_law (fun vs H Q E h=>by obtain⟨a,ns,rfl,_⟩:=h; rfl) (fun cdv A outer s H vs Q E hr h=>?_)
 obtain⟨a,ns,rfl,hS,h63,q⟩:=h
 refine⟨_,(ac (dw (aq c_law_three hr (aa (pv 0) ab)) (zR K (n:=3) (bP (bc 1 sc_law.nd) (bP (bc 2 sc_law.nd) (bP (bc 3 sc_law.nd) fk)))))
   (ac (jC (CompSc.to (fsc:=(defScope bC)) (N:=["_law_script", "_law_one", "_law_other", "_law_third", "_law_kept"]) (N0:=["_law_script", "_law_one", "_law_other", "_law_third", "_law_kept"]) (T:=["_law_rule"]) ⟨by decide +kernel,by decide +kernel,by decide +kernel,by decide +kernel,by decide +kernel,by decide +kernel,by decide +kernel⟩ rfl rfl) rfl sc_law.nd (i:=4) rfl Gs (cx K (cJ (aa (pv 1) (aa (pv 2) (aa (pv 3) ab))))) (fun _ _ _ _=>(bc 5 (show (["_law_script", "_law_one", "_law_other", "_law_third", "_law_kept", "_law_rule"]:List Str).Nodup from by decide +kernel) (hx:=(fo (defScope bC) (by decide +kernel))) (hf:=iZ (defScope bC) (by decide +kernel)))) (b9 (show (["_law_script", "_law_one", "_law_other", "_law_third", "_law_kept"]:List Str).length≤5 from by decide)) (fun _ _ _ _=>cD) (fun _ _ _ _=>(dG (aa (aK (bd K) (pv 5 (hv:=(bV (defScope bC) (by decide +kernel)))) aj (fun _ _=>rfl)) (aa (fA (gR K) z_list iN (aa (aK (bd K) (pv 5 (hv:=(bV (defScope bC) (by decide +kernel)))) aj (fun _ _=>rfl)) ab) (hg:=(pX (defScope bC) (by decide +kernel)))) (aa (dC (CompSc.to (fsc:=(bg _ (defScope bC))) (N:=["_law_script", "_law_one", "_law_other", "_law_third", "_law_kept", "_law_rule"]) (N0:=["_law_script", "_law_one", "_law_other", "_law_third", "_law_kept", "_law_rule"]) (T:=["_law_room"]) ⟨by decide +kernel,by decide +kernel,by decide +kernel,by decide +kernel,by decide +kernel,by decide +kernel,by decide +kernel⟩ rfl rfl) rfl (cx K (aK (bd K) (pv 5 (hv:=(bV (defScope bC) (by decide +kernel)))) aj (fun _ _=>rfl))) (fun _ _ _ _=>(bc 6 (show (["_law_script", "_law_one", "_law_other", "_law_third", "_law_kept", "_law_rule", "_law_room"]:List Str).Nodup from by decide +kernel) (hx:=(fo (bg _ (defScope bC)) (e:=rfl) (by decide +kernel))) (hf:=iZ (bg _ (defScope bC)) (e:=rfl) (by decide +kernel)))) (b9 (show (["_law_script", "_law_one", "_law_other", "_law_third", "_law_kept", "_law_rule"]:List Str).length≤6 from by decide)) (fun _ _ _ _=>cD) (fun _ _ _ _=>(fA (gR K) z_list iN (aa (pv 6 (hv:=(bV (bg _ (defScope bC)) (e:=rfl) (by decide +kernel)))) ab) (hg:=(pX (bg _ (defScope bC)) (e:=rfl) (by decide +kernel)))))) ab))))))
   (ac (bN (PW.pt' (gE (iQ (gI (aq c_law_one_of_two hr (aa (pv 1) (aa (pv 2) ab))))) (fq (iQ (gI (aq c_law_one_of_two hr (aa (pv 2) (aa (pv 3) ab)))))))) (ak (aL dr)) bt)
   (ac (bN (iQ (gI (aq c_law_grouped hr (aa (pv 1) (aa (pv 2) (aa (pv 3) ab)))))) (ak (aL dr)) bt)
   (ac (bN (PW.pt' (gE (iQ (gI (aq c_law_following hr (aa (pv 1) (aa (pv 2) ab))))) (gE (iQ (gI (aq c_law_following hr (aa (pv 2) (aa (pv 1) ab))))) (fq (iQ (gI (aq c_law_following hr (aa (pv 3) (aa (pv 1) ab))))))))) (ak (aL dr)) bt)
   (ak (aL (cr (kJ K hr) (cJ (aa (pv 1) (aa (pv 2) (aa (pv 3) ab)))) (pv 4) (aP _))))))))),?_⟩
 walk_at "rd1";refine⟨a,ns,rfl,hS,h63,fun t p1 p2 p3 H1 r1 r2 r3 W S s1 ht h1 h2 h3 hW i1 i2 i3=>?_⟩
 walk_at "rd1";rw[zb];walk_at "rd1";refine⟨t,_,rfl,SqL.of ht,rfl,_,_,rfl,_,_,rfl,_,_,rfl,rfl,?_⟩
 walk_at "nx";refine⟨by decide,fun lp hlp=>?_⟩
 have s2:=al hlp (.lst [V.ref p1,V.ref p2,V.ref p3]);have e2:upd H1 lp (.lst [V.ref p1,V.ref p2,V.ref p3]) lp=some (.lst [V.ref p1,V.ref p2,V.ref p3]):=ae
 generalize upd H1 lp (.lst [V.ref p1,V.ref p2,V.ref p3])=H2 at s2 e2 ⊢;refine⟨⟨_,SqL.of e2⟩,fun D hD=>?_⟩
 have sD:=al hD (.lst []);have eD:upd H2 D (.lst []) D=some (.lst []):=ae
 generalize upd H2 D (.lst [])=HD at sD eD ⊢;have hDn:HD D≠none:=by rw[eD]; intro z; cases z
 have each:∀ (i:Nat) x,([V.ref p1,V.ref p2,V.ref p3]:List V)[i]? = some x→∃ p r,x = .ref p∧[r1,r2,r3][i]? = some r∧RuleAt H2 p r∧r.rs.length≤60:=fun i x e=>by
  match i,e with
  | 0,e=>cases e; exact⟨p1,r1,rfl,rfl,h1.mono s2,i1.ok.n1⟩
  | 1,e=>cases e; exact⟨p2,r2,rfl,rfl,h2.mono s2,i2.ok.n1⟩
  | 2,e=>cases e; exact⟨p3,r3,rfl,rfl,h3.mono s2,i3.ok.n1⟩
  | i+3,e=>simp at e
 refine cT (xs:=[V.ref p1,V.ref p2,V.ref p3]) (fun i ys H'=>∃ ks:List Addr,ys=ks.map V.ref∧Same H2 H'∧(∀ c,H' c=none→HD c=none)∧H' D=some (.lst ys)∧ks.length=i∧∀ (j:Nat) k r,ks[j]? = some k→[r1,r2,r3][j]? = some r→KeptAt HD H' k r)
  ⟨[],rfl,sD,fun _ h=>h,eD,rfl,fun j k r e=>by simp at e⟩ (fun i ys H' _ h=>by obtain⟨_,_,z,_⟩:=h; exact SqL.of (z _ _ e2)) ?_ ?_
 ·rintro i ys H' x hx hi ⟨ks,rfl,sm,fr,hl,kl,hk⟩
  obtain⟨pp,r,rfl,er,hR,n60⟩:=each i x hx
  obtain⟨pw,pr,as,f1,f2,f3⟩:=hR.mono sm
  walk_at "rd1";refine⟨_,_,.inr (SqT.of f1),j_,_,_,.inr (SqT.of f1),aZ (j:=1) rfl,?_⟩
  walk_at "rd1";refine⟨_,.inl (SqL.of f2),fun wl hwl=>?_⟩
  have s3:=al hwl (.lst (r.ws.map V.str));have e3:upd H' wl (.lst (r.ws.map V.str)) wl=some (.lst (r.ws.map V.str)):=ae
  generalize upd H' wl (.lst (r.ws.map V.str))=H3 at s3 e3 ⊢;refine⟨_,_,.inr (SqT.of (s3 _ _ f1)),aZ (j:=2) rfl,_,rfl,⟨_,SqL.of (f3.mono s3).1⟩,fun L hL=>?_⟩
  refine mL (f3.mono s3) n60 hL (fun a xs H' C z1 z2=>?_) (fun H4 bs s4 hB hbn hnd=>?_)
  ·walk_at "rd1"
   exact⟨_,.inl (SqL.of z1),z2⟩
  refine⟨by decide,fun p hp=>?_⟩
  have s5:=al hp (.tup [V.int r.s,V.ref wl,V.ref L]);have e5:upd H4 p (.tup [V.int r.s,V.ref wl,V.ref L]) p=some (.tup [V.int r.s,V.ref wl,V.ref L]):=ae
  generalize upd H4 p (.tup [V.int r.s,V.ref wl,V.ref L])=H5 at s5 e5 ⊢;have s35:=s3.trans (s4.trans s5);have hnew:KeptAt HD H5 p r:=⟨wl,L,bs,e5,(s4.trans s5) _ _ e3,hB.mono s5,fr _ (s3.free (s4.free hp)),fr _ hwl,fr _ (s3.free hL),fun c hc=>fr _ (s3.free (hbn c hc).1)⟩
  refine eJ hi (by rw[List.length_map]; exact kl) (by decide) (s35 _ _ hl) ⟨ks++[p],by rw[List.map_append]; rfl,(sm.trans s35).upd hD _,fun c hc=>?_,ae,by simp[kl],fun j k r' g1 g2=>?_⟩
  ·by_cases h:c=D
   ·subst h; rw[ae]at hc; cases hc
   ·rw[ai h]at hc
    exact fr c (s35.free hc)
  rcases Nat.lt_or_ge j i with c | c
  ·rw[List.getElem?_append_left (by omega)]at g1
   exact((hk j k r' g1 g2).mono s35).upd hDn
  ·rw[List.getElem?_append_right (by omega)]at g1
   have hj:=(List.getElem?_eq_some_iff.mp g1).1;have j0:j - ks.length=0:=by simp at hj; omega
   have ej:j=i:=by simp at hj; omega
   rw[j0]at g1
   rw[ej,er]at g2
   cases g1; cases g2
   exact hnew.upd hDn
 rintro ys H3 ⟨ks,rfl,sm,fr,hl,kl,hk⟩
 match ks,kl,hl,hk with
 | [k1,k2,k3],_,hl,hk=>
  have hl:H3 D=some (.lst [.ref k1,.ref k2,.ref k3]):=hl
  have g1:=(hk 0 k1 r1 rfl rfl).at';have g2:=(hk 1 k2 r2 rfl rfl).at';have g3:=(hk 2 k3 r3 rfl rfl).at';have s13:=s2.trans sm;have h1:=h1.mono s13;have h2:=h2.mono s13;have h3:=h3.mono s13;have i3':IsR W S 3 (kp r3) r3:=⟨i3.ok,i3.nd,i3.so,i3.sub,i3.s,Nat.le_trans i3.le (by decide),i3.lang⟩
  walk_at "nx";refine⟨p1,p2,r1,r2,W,S,rfl,h1,h2,hW,i1,i2,fun H4 s4=>?_⟩
  walk_at "rd1";refine⟨p2,p3,r2,r3,W,S,rfl,h2.mono s4,h3.mono s4,hW,i2,i3',fun H5 s5=>?_⟩
  have s35:=s4.trans s5;refine⟨true,rfl,bh (fun c=>absurd c (by decide)) (fun _=>?_)⟩
  walk_at "nx";refine⟨p1,p2,p3,r1,r2,r3,W,S,rfl,h1.mono s35,h2.mono s35,h3.mono s35,hW,i1,i2,i3,fun H6 s6=>?_⟩
  have s36:=s35.trans s6;refine⟨true,rfl,bh (fun c=>absurd c (by decide)) (fun _=>?_)⟩
  walk_at "nx";refine⟨p1,p2,r1,r2,W,S,rfl,h1.mono s36,h2.mono s36,hW,i1,i2,fun H7 s7=>?_⟩
  have s37:=s36.trans s7;walk_at "rd1";refine⟨p2,p1,r2,r1,W,S,rfl,h2.mono s37,h1.mono s37,hW,i2,i1,fun H8 s8=>?_⟩
  have s38:=s37.trans s8;walk_at "rd1";refine⟨p3,p1,r3,r1,W,S,rfl,h3.mono s38,h1.mono s38,hW,i3',i1,fun H9 s9=>?_⟩
  have s39:=s38.trans s9;refine⟨true,rfl,bh (fun c=>absurd c (by decide)) (fun _=>?_)⟩
  walk_at "nx";refine⟨by decide,fun ol hol=>?_⟩
  have sA:=al hol (.lst [V.ref p1,V.ref p2,V.ref p3]);have eA:upd H9 ol (.lst [V.ref p1,V.ref p2,V.ref p3]) ol=some (.lst [V.ref p1,V.ref p2,V.ref p3]):=ae
  generalize upd H9 ol (.lst [V.ref p1,V.ref p2,V.ref p3])=HA at sA eA ⊢;have s3A:=s39.trans sA;exact⟨3,true,by decide,wM eA (s3A _ _ hl) (h1.mono s3A) (h2.mono s3A) (h3.mono s3A) (g1.mono s3A) (g2.mono s3A) (g3.mono s3A),q HA⟩
end
theorem all_mk{l:PySem.W.OpenLaw}{w:World}{K:PySem.W.Frag}{h:Heap}{mg:Str→Option Value}{fa:Addr}(X:K.In h)(G:h.Ns mainGlobals mg)(hfa:mg "law" = some (.ref fa))
  {f0:Addr} {od0 an0:Option Addr} {sl0:Array (Option Value)} {oc0 kV0 dc0 pm0 cd0 ct0:Value} {f1:Addr} {od1 an1:Option Addr} {sl1:Array (Option Value)} {oc1 kV1 dc1 pm1 cd1 ct1:Value} {f2:Addr} {od2 an2:Option Addr} {sl2:Array (Option Value)} {oc2 kV2 dc2 pm2 cd2 ct2:Value} {f3:Addr} {od3 an3:Option Addr} {sl3:Array (Option Value)} {oc3 kV3 dc3 pm3 cd3 ct3:Value} {f4:Addr} {od4 an4:Option Addr} {sl4:Array (Option Value)} {oc4 kV4 dc4 pm4 cd4 ct4:Value} {f5:Addr} {od5 an5:Option Addr} {sl5:Array (Option Value)} {oc5 kV5 dc5 pm5 cd5 ct5:Value} {f6:Addr} {od6 an6:Option Addr} {sl6:Array (Option Value)} {oc6 kV6 dc6 pm6 cd6 ct6:Value} {f7:Addr} {od7 an7:Option Addr} {sl7:Array (Option Value)} {oc7 kV7 dc7 pm7 cd7 ct7:Value} {f8:Addr} {od8 an8:Option Addr} {sl8:Array (Option Value)} {oc8 kV8 dc8 pm8 cd8 ct8:Value} {f9:Addr} {od9 an9:Option Addr} {sl9:Array (Option Value)} {oc9 kV9 dc9 pm9 cd9 ct9:Value} {f10:Addr} {od10 an10:Option Addr} {sl10:Array (Option Value)} {oc10 kV10 dc10 pm10 cd10 ct10:Value} {f11:Addr} {od11 an11:Option Addr} {sl11:Array (Option Value)} {oc11 kV11 dc11 pm11 cd11 ct11:Value} {f12:Addr} {od12 an12:Option Addr} {sl12:Array (Option Value)} {oc12 kV12 dc12 pm12 cd12 ct12:Value} {f13:Addr} {od13 an13:Option Addr} {sl13:Array (Option Value)} {oc13 kV13 dc13 pm13 cd13 ct13:Value} {f14:Addr} {od14 an14:Option Addr} {sl14:Array (Option Value)} {oc14 kV14 dc14 pm14 cd14 ct14:Value} {f15:Addr} {od15 an15:Option Addr} {sl15:Array (Option Value)} {oc15 kV15 dc15 pm15 cd15 ct15:Value} {f16:Addr} {od16 an16:Option Addr} {sl16:Array (Option Value)} {oc16 kV16 dc16 pm16 cd16 ct16:Value} {f17:Addr} {od17 an17:Option Addr} {sl17:Array (Option Value)} {oc17 kV17 dc17 pm17 cd17 ct17:Value} {f18:Addr} {od18 an18:Option Addr} {sl18:Array (Option Value)} {oc18 kV18 dc18 pm18 cd18 ct18:Value} {f19:Addr} {od19 an19:Option Addr} {sl19:Array (Option Value)} {oc19 kV19 dc19 pm19 cd19 ct19:Value} {f20:Addr} {od20 an20:Option Addr} {sl20:Array (Option Value)} {oc20 kV20 dc20 pm20 cd20 ct20:Value} {f21:Addr} {od21 an21:Option Addr} {sl21:Array (Option Value)} {oc21 kV21 dc21 pm21 cd21 ct21:Value} {f22:Addr} {od22 an22:Option Addr} {sl22:Array (Option Value)} {oc22 kV22 dc22 pm22 cd22 ct22:Value} {f23:Addr} {od23 an23:Option Addr} {sl23:Array (Option Value)} {oc23 kV23 dc23 pm23 cd23 ct23:Value} {f24:Addr} {od24 an24:Option Addr} {sl24:Array (Option Value)} {oc24 kV24 dc24 pm24 cd24 ct24:Value} {f25:Addr} {od25 an25:Option Addr} {sl25:Array (Option Value)} {oc25 kV25 dc25 pm25 cd25 ct25:Value} {f26:Addr} {od26 an26:Option Addr} {sl26:Array (Option Value)} {oc26 kV26 dc26 pm26 cd26 ct26:Value} {f27:Addr} {od27 an27:Option Addr} {sl27:Array (Option Value)} {oc27 kV27 dc27 pm27 cd27 ct27:Value} {f28:Addr} {od28 an28:Option Addr} {sl28:Array (Option Value)} {oc28 kV28 dc28 pm28 cd28 ct28:Value} {f29:Addr} {od29 an29:Option Addr} {sl29:Array (Option Value)} {oc29 kV29 dc29 pm29 cd29 ct29:Value} {f30:Addr} {od30 an30:Option Addr} {sl30:Array (Option Value)} {oc30 kV30 dc30 pm30 cd30 ct30:Value} {f31:Addr} {od31 an31:Option Addr} {sl31:Array (Option Value)} {oc31 kV31 dc31 pm31 cd31 ct31:Value} {f32:Addr} {od32 an32:Option Addr} {sl32:Array (Option Value)} {oc32 kV32 dc32 pm32 cd32 ct32:Value} {f33:Addr} {od33 an33:Option Addr} {sl33:Array (Option Value)} {oc33 kV33 dc33 pm33 cd33 ct33:Value} {f34:Addr} {od34 an34:Option Addr} {sl34:Array (Option Value)} {oc34 kV34 dc34 pm34 cd34 ct34:Value} {f35:Addr} {od35 an35:Option Addr} {sl35:Array (Option Value)} {oc35 kV35 dc35 pm35 cd35 ct35:Value} {t_MOST_ROOMS:Tok} {t_MOST_WORDS:Tok}
  (a0:PySem.W.nsIn K mainGlobals "ways_by" = some (some (.ref f0))) (l0:K.lookup f0=some ⟨oc0,od0,.func (PySem.W.fnOf "ways_by" "ways_by" (defArgs bY) (defBody bY) (defScope bY) .none kV0 dc0 pm0 an0 cd0 ct0),sl0⟩) (c0:PySem.W.codeIn K cd0 "ways_by" = true) (k0:PySem.W.keepIn K (.ref f0)=true)
  (a1:PySem.W.nsIn K mainGlobals "finer_kinds" = some (some (.ref f1))) (l1:K.lookup f1=some ⟨oc1,od1,.func (PySem.W.fnOf "finer_kinds" "finer_kinds" (defArgs aO) (defBody aO) (defScope aO) .none kV1 dc1 pm1 an1 cd1 ct1),sl1⟩) (c1:PySem.W.codeIn K cd1 "finer_kinds" = true) (k1:PySem.W.keepIn K (.ref f1)=true)
  (a2:PySem.W.nsIn K mainGlobals "kinds_upto" = some (some (.ref f2))) (l2:K.lookup f2=some ⟨oc2,od2,.func (PySem.W.fnOf "kinds_upto" "kinds_upto" (defArgs bf) (defBody bf) (defScope bf) .none kV2 dc2 pm2 an2 cd2 ct2),sl2⟩) (c2:PySem.W.codeIn K cd2 "kinds_upto" = true) (k2:PySem.W.keepIn K (.ref f2)=true)
  (a3:PySem.W.nsIn K mainGlobals "merged_rooms" = some (some (.ref f3))) (l3:K.lookup f3=some ⟨oc3,od3,.func (PySem.W.fnOf "merged_rooms" "merged_rooms" (defArgs a_) (defBody a_) (defScope a_) .none kV3 dc3 pm3 an3 cd3 ct3),sl3⟩) (c3:PySem.W.codeIn K cd3 "merged_rooms" = true) (k3:PySem.W.keepIn K (.ref f3)=true)
  (a4:PySem.W.nsIn K mainGlobals "rooms_led_to" = some (some (.ref f4))) (l4:K.lookup f4=some ⟨oc4,od4,.func (PySem.W.fnOf "rooms_led_to" "rooms_led_to" (defArgs aW) (defBody aW) (defScope aW) .none kV4 dc4 pm4 an4 cd4 ct4),sl4⟩) (c4:PySem.W.codeIn K cd4 "rooms_led_to" = true) (k4:PySem.W.keepIn K (.ref f4)=true)
  (a5:PySem.W.nsIn K mainGlobals "numbered_rooms" = some (some (.ref f5))) (l5:K.lookup f5=some ⟨oc5,od5,.func (PySem.W.fnOf "numbered_rooms" "numbered_rooms" (defArgs ay) (defBody ay) (defScope ay) .none kV5 dc5 pm5 an5 cd5 ct5),sl5⟩) (c5:PySem.W.codeIn K cd5 "numbered_rooms" = true) (k5:PySem.W.keepIn K (.ref f5)=true)
  (a6:PySem.W.nsIn K mainGlobals "does_something" = some (some (.ref f6))) (l6:K.lookup f6=some ⟨oc6,od6,.func (PySem.W.fnOf "does_something" "does_something" (defArgs aR) (defBody aR) (defScope aR) .none kV6 dc6 pm6 an6 cd6 ct6),sl6⟩) (c6:PySem.W.codeIn K cd6 "does_something" = true) (k6:PySem.W.keepIn K (.ref f6)=true)
  (a7:PySem.W.nsIn K mainGlobals "picked" = some (some (.ref f7))) (l7:K.lookup f7=some ⟨oc7,od7,.func (PySem.W.fnOf "picked" "picked" (defArgs cy) (defBody cy) (defScope cy) .none kV7 dc7 pm7 an7 cd7 ct7),sl7⟩) (c7:PySem.W.codeIn K cd7 "picked" = true) (k7:PySem.W.keepIn K (.ref f7)=true)
  (a8:PySem.W.nsIn K mainGlobals "least_upto" = some (some (.ref f8))) (l8:K.lookup f8=some ⟨oc8,od8,.func (PySem.W.fnOf "least_upto" "least_upto" (defArgs av) (defBody av) (defScope av) .none kV8 dc8 pm8 an8 cd8 ct8),sl8⟩) (c8:PySem.W.codeIn K cd8 "least_upto" = true) (k8:PySem.W.keepIn K (.ref f8)=true)
  (a9:PySem.W.nsIn K mainGlobals "least_rule" = some (some (.ref f9))) (l9:K.lookup f9=some ⟨oc9,od9,.func (PySem.W.fnOf "least_rule" "least_rule" (defArgs b5) (defBody b5) (defScope b5) .none kV9 dc9 pm9 an9 cd9 ct9),sl9⟩) (c9:PySem.W.codeIn K cd9 "least_rule" = true) (k9:PySem.W.keepIn K (.ref f9)=true)
  (a10:PySem.W.nsIn K mainGlobals "refuse_unlike" = some (some (.ref f10))) (l10:K.lookup f10=some ⟨oc10,od10,.func (PySem.W.fnOf "refuse_unlike" "refuse_unlike" (defArgs bM) (defBody bM) (defScope bM) .none kV10 dc10 pm10 an10 cd10 ct10),sl10⟩) (c10:PySem.W.codeIn K cd10 "refuse_unlike" = true) (k10:PySem.W.keepIn K (.ref f10)=true)
  (a11:PySem.W.nsIn K mainGlobals "words_of_both" = some (some (.ref f11))) (l11:K.lookup f11=some ⟨oc11,od11,.func (PySem.W.fnOf "words_of_both" "words_of_both" (defArgs bA) (defBody bA) (defScope bA) .none kV11 dc11 pm11 an11 cd11 ct11),sl11⟩) (c11:PySem.W.codeIn K cd11 "words_of_both" = true) (k11:PySem.W.keepIn K (.ref f11)=true)
  (a12:PySem.W.nsIn K mainGlobals "ways_for" = some (some (.ref f12))) (l12:K.lookup f12=some ⟨oc12,od12,.func (PySem.W.fnOf "ways_for" "ways_for" (defArgs bx) (defBody bx) (defScope bx) .none kV12 dc12 pm12 an12 cd12 ct12),sl12⟩) (c12:PySem.W.codeIn K cd12 "ways_for" = true) (k12:PySem.W.keepIn K (.ref f12)=true)
  (a13:PySem.W.nsIn K mainGlobals "ways_by_room" = some (some (.ref f13))) (l13:K.lookup f13=some ⟨oc13,od13,.func (PySem.W.fnOf "ways_by_room" "ways_by_room" (defArgs aD) (defBody aD) (defScope aD) .none kV13 dc13 pm13 an13 cd13 ct13),sl13⟩) (c13:PySem.W.codeIn K cd13 "ways_by_room" = true) (k13:PySem.W.keepIn K (.ref f13)=true)
  (a14:PySem.W.nsIn K mainGlobals "pairs_behind" = some (some (.ref f14))) (l14:K.lookup f14=some ⟨oc14,od14,.func (PySem.W.fnOf "pairs_behind" "pairs_behind" (defArgs bw) (defBody bw) (defScope bw) .none kV14 dc14 pm14 an14 cd14 ct14),sl14⟩) (c14:PySem.W.codeIn K cd14 "pairs_behind" = true) (k14:PySem.W.keepIn K (.ref f14)=true)
  (a15:PySem.W.nsIn K mainGlobals "next_room" = some (some (.ref f15))) (l15:K.lookup f15=some ⟨oc15,od15,.func (PySem.W.fnOf "next_room" "next_room" (defArgs bR) (defBody bR) (defScope bR) .none kV15 dc15 pm15 an15 cd15 ct15),sl15⟩) (c15:PySem.W.codeIn K cd15 "next_room" = true) (k15:PySem.W.keepIn K (.ref f15)=true)
  (a16:PySem.W.nsIn K mainGlobals "room_from" = some (some (.ref f16))) (l16:K.lookup f16=some ⟨oc16,od16,.func (PySem.W.fnOf "room_from" "room_from" (defArgs bE) (defBody bE) (defScope bE) .none kV16 dc16 pm16 an16 cd16 ct16),sl16⟩) (c16:PySem.W.codeIn K cd16 "room_from" = true) (k16:PySem.W.keepIn K (.ref f16)=true)
  (a17:PySem.W.nsIn K mainGlobals "room_after" = some (some (.ref f17))) (l17:K.lookup f17=some ⟨oc17,od17,.func (PySem.W.fnOf "room_after" "room_after" (defArgs b4) (defBody b4) (defScope b4) .none kV17 dc17 pm17 an17 cd17 ct17),sl17⟩) (c17:PySem.W.codeIn K cd17 "room_after" = true) (k17:PySem.W.keepIn K (.ref f17)=true)
  (a18:PySem.W.nsIn K mainGlobals "breaks_one" = some (some (.ref f18))) (l18:K.lookup f18=some ⟨oc18,od18,.func (PySem.W.fnOf "breaks_one" "breaks_one" (defArgs cM) (defBody cM) (defScope cM) .none kV18 dc18 pm18 an18 cd18 ct18),sl18⟩) (c18:PySem.W.codeIn K cd18 "breaks_one" = true) (k18:PySem.W.keepIn K (.ref f18)=true)
  (a19:PySem.W.nsIn K mainGlobals "breaks_both" = some (some (.ref f19))) (l19:K.lookup f19=some ⟨oc19,od19,.func (PySem.W.fnOf "breaks_both" "breaks_both" (defArgs cu) (defBody cu) (defScope cu) .none kV19 dc19 pm19 an19 cd19 ct19),sl19⟩) (c19:PySem.W.codeIn K cd19 "breaks_both" = true) (k19:PySem.W.keepIn K (.ref f19)=true)
  (a20:PySem.W.nsIn K mainGlobals "rule_of_pairs" = some (some (.ref f20))) (l20:K.lookup f20=some ⟨oc20,od20,.func (PySem.W.fnOf "rule_of_pairs" "rule_of_pairs" (defArgs ao) (defBody ao) (defScope ao) .none kV20 dc20 pm20 an20 cd20 ct20),sl20⟩) (c20:PySem.W.codeIn K cd20 "rule_of_pairs" = true) (k20:PySem.W.keepIn K (.ref f20)=true)
  (a21:PySem.W.nsIn K mainGlobals "least_of_pairs" = some (some (.ref f21))) (l21:K.lookup f21=some ⟨oc21,od21,.func (PySem.W.fnOf "least_of_pairs" "least_of_pairs" (defArgs aQ) (defBody aQ) (defScope aQ) .none kV21 dc21 pm21 an21 cd21 ct21),sl21⟩) (c21:PySem.W.codeIn K cd21 "least_of_pairs" = true) (k21:PySem.W.keepIn K (.ref f21)=true)
  (a22:PySem.W.nsIn K mainGlobals "joined_rule" = some (some (.ref f22))) (l22:K.lookup f22=some ⟨oc22,od22,.func (PySem.W.fnOf "joined_rule" "joined_rule" (defArgs bJ) (defBody bJ) (defScope bJ) .none kV22 dc22 pm22 an22 cd22 ct22),sl22⟩) (c22:PySem.W.codeIn K cd22 "joined_rule" = true) (k22:PySem.W.keepIn K (.ref f22)=true)
  (a23:PySem.W.nsIn K mainGlobals "either_rule" = some (some (.ref f23))) (l23:K.lookup f23=some ⟨oc23,od23,.func (PySem.W.fnOf "either_rule" "either_rule" (defArgs bH) (defBody bH) (defScope bH) .none kV23 dc23 pm23 an23 cd23 ct23),sl23⟩) (c23:PySem.W.codeIn K cd23 "either_rule" = true) (k23:PySem.W.keepIn K (.ref f23)=true)
  (a24:PySem.W.nsIn K mainGlobals "row_to" = some (some (.ref f24))) (l24:K.lookup f24=some ⟨oc24,od24,.func (PySem.W.fnOf "row_to" "row_to" (defArgs b_) (defBody b_) (defScope b_) .none kV24 dc24 pm24 an24 cd24 ct24),sl24⟩) (c24:PySem.W.codeIn K cd24 "row_to" = true) (k24:PySem.W.keepIn K (.ref f24)=true)
  (a25:PySem.W.nsIn K mainGlobals "row_apart" = some (some (.ref f25))) (l25:K.lookup f25=some ⟨oc25,od25,.func (PySem.W.fnOf "row_apart" "row_apart" (defArgs az) (defBody az) (defScope az) .none kV25 dc25 pm25 an25 cd25 ct25),sl25⟩) (c25:PySem.W.codeIn K cd25 "row_apart" = true) (k25:PySem.W.keepIn K (.ref f25)=true)
  (a26:PySem.W.nsIn K mainGlobals "_law_cell_at" = some (some (.ref f26))) (l26:K.lookup f26=some ⟨oc26,od26,.func (PySem.W.fnOf "_law_cell_at" "_law_cell_at" (defArgs bQ) (defBody bQ) (defScope bQ) .none kV26 dc26 pm26 an26 cd26 ct26),sl26⟩) (c26:PySem.W.codeIn K cd26 "_law_cell_at" = true) (k26:PySem.W.keepIn K (.ref f26)=true)
  (a27:PySem.W.nsIn K mainGlobals "_law_mixed" = some (some (.ref f27))) (l27:K.lookup f27=some ⟨oc27,od27,.func (PySem.W.fnOf "_law_mixed" "_law_mixed" (defArgs bB) (defBody bB) (defScope bB) .none kV27 dc27 pm27 an27 cd27 ct27),sl27⟩) (c27:PySem.W.codeIn K cd27 "_law_mixed" = true) (k27:PySem.W.keepIn K (.ref f27)=true)
  (a28:PySem.W.nsIn K mainGlobals "_law_words" = some (some (.ref f28))) (l28:K.lookup f28=some ⟨oc28,od28,.func (PySem.W.fnOf "_law_words" "_law_words" (defArgs aF) (defBody aF) (defScope aF) .none kV28 dc28 pm28 an28 cd28 ct28),sl28⟩) (c28:PySem.W.codeIn K cd28 "_law_words" = true) (k28:PySem.W.keepIn K (.ref f28)=true)
  (a29:PySem.W.nsIn K mainGlobals "_law_way" = some (some (.ref f29))) (l29:K.lookup f29=some ⟨oc29,od29,.func (PySem.W.fnOf "_law_way" "_law_way" (defArgs cV) (defBody cV) (defScope cV) .none kV29 dc29 pm29 an29 cd29 ct29),sl29⟩) (c29:PySem.W.codeIn K cd29 "_law_way" = true) (k29:PySem.W.keepIn K (.ref f29)=true)
  (a30:PySem.W.nsIn K mainGlobals "_law_rooms" = some (some (.ref f30))) (l30:K.lookup f30=some ⟨oc30,od30,.func (PySem.W.fnOf "_law_rooms" "_law_rooms" (defArgs aC) (defBody aC) (defScope aC) .none kV30 dc30 pm30 an30 cd30 ct30),sl30⟩) (c30:PySem.W.codeIn K cd30 "_law_rooms" = true) (k30:PySem.W.keepIn K (.ref f30)=true)
  (a31:PySem.W.nsIn K mainGlobals "_law_three" = some (some (.ref f31))) (l31:K.lookup f31=some ⟨oc31,od31,.func (PySem.W.fnOf "_law_three" "_law_three" (defArgs au) (defBody au) (defScope au) .none kV31 dc31 pm31 an31 cd31 ct31),sl31⟩) (c31:PySem.W.codeIn K cd31 "_law_three" = true) (k31:PySem.W.keepIn K (.ref f31)=true)
  (a32:PySem.W.nsIn K mainGlobals "_law_one_of_two" = some (some (.ref f32))) (l32:K.lookup f32=some ⟨oc32,od32,.func (PySem.W.fnOf "_law_one_of_two" "_law_one_of_two" (defArgs aM) (defBody aM) (defScope aM) .none kV32 dc32 pm32 an32 cd32 ct32),sl32⟩) (c32:PySem.W.codeIn K cd32 "_law_one_of_two" = true) (k32:PySem.W.keepIn K (.ref f32)=true)
  (a33:PySem.W.nsIn K mainGlobals "_law_grouped" = some (some (.ref f33))) (l33:K.lookup f33=some ⟨oc33,od33,.func (PySem.W.fnOf "_law_grouped" "_law_grouped" (defArgs bu) (defBody bu) (defScope bu) .none kV33 dc33 pm33 an33 cd33 ct33),sl33⟩) (c33:PySem.W.codeIn K cd33 "_law_grouped" = true) (k33:PySem.W.keepIn K (.ref f33)=true)
  (a34:PySem.W.nsIn K mainGlobals "_law_following" = some (some (.ref f34))) (l34:K.lookup f34=some ⟨oc34,od34,.func (PySem.W.fnOf "_law_following" "_law_following" (defArgs aN) (defBody aN) (defScope aN) .none kV34 dc34 pm34 an34 cd34 ct34),sl34⟩) (c34:PySem.W.codeIn K cd34 "_law_following" = true) (k34:PySem.W.keepIn K (.ref f34)=true)
  (a35:PySem.W.nsIn K mainGlobals "law" = some (some (.ref f35))) (l35:K.lookup f35=some ⟨oc35,od35,.func (PySem.W.fnOf "law" "law" (defArgs bC) (defBody bC) (defScope bC) .none kV35 dc35 pm35 an35 cd35 ct35),sl35⟩) (c35:PySem.W.codeIn K cd35 "law" = true) (k35:PySem.W.keepIn K (.ref f35)=true)
  (y_isinstance:PySem.W.nsIn K mainGlobals "isinstance" = some none)
  (y_str:PySem.W.nsIn K mainGlobals "str" = some none)
  (y_len:PySem.W.nsIn K mainGlobals "len" = some none)
  (y_range:PySem.W.nsIn K mainGlobals "range" = some none)
  (y_int:PySem.W.nsIn K mainGlobals "int" = some none)
  (y_list:PySem.W.nsIn K mainGlobals "list" = some none)
  (y_sorted:PySem.W.nsIn K mainGlobals "sorted" = some none)
  (y_min:PySem.W.nsIn K mainGlobals "min" = some none)
  (y_tuple:PySem.W.nsIn K mainGlobals "tuple" = some none)
  (y_enumerate:PySem.W.nsIn K mainGlobals "enumerate" = some none)
  (y_any:PySem.W.nsIn K mainGlobals "any" = some none)
  (y_max:PySem.W.nsIn K mainGlobals "max" = some none)
  (y_set:PySem.W.nsIn K mainGlobals "set" = some none)
  (y_zip:PySem.W.nsIn K mainGlobals "zip" = some none)
  (y_reversed:PySem.W.nsIn K mainGlobals "reversed" = some none)
  (h_MOST_ROOMS:PySem.W.nsIn K mainGlobals "MOST_ROOMS" = some (some (.int 60 t_MOST_ROOMS)))
  (h_MOST_WORDS:PySem.W.nsIn K mainGlobals "MOST_WORDS" = some (some (.int 16 t_MOST_WORDS))) :
  ∃ fd:FuncData,(∀ (s:Shared) (v:Value),BindsTo s fd ⟨[v],[]⟩ [("_law_script", v)])∧∀ base:Heap,K.In base→base.Ns mainGlobals mg→iV l.prog w K mg base kY 9 fa fd ["_law_script"] (oJ K):=by
 have e:=hfa.symm.trans (PySem.W.mg_of X G a35)
 cases e;have D_ways_by:DefAt K mg "ways_by" bY:=⟨f0,_,bj (st:=bY) l0 c0 k0,PySem.W.mg_of X G a0⟩
 have D_finer_kinds:DefAt K mg "finer_kinds" aO:=⟨f1,_,bj (st:=aO) l1 c1 k1,PySem.W.mg_of X G a1⟩
 have D_kinds_upto:DefAt K mg "kinds_upto" bf:=⟨f2,_,bj (st:=bf) l2 c2 k2,PySem.W.mg_of X G a2⟩
 have D_merged_rooms:DefAt K mg "merged_rooms" a_:=⟨f3,_,bj (st:=a_) l3 c3 k3,PySem.W.mg_of X G a3⟩
 have D_rooms_led_to:DefAt K mg "rooms_led_to" aW:=⟨f4,_,bj (st:=aW) l4 c4 k4,PySem.W.mg_of X G a4⟩
 have D_numbered_rooms:DefAt K mg "numbered_rooms" ay:=⟨f5,_,bj (st:=ay) l5 c5 k5,PySem.W.mg_of X G a5⟩
 have D_does_something:DefAt K mg "does_something" aR:=⟨f6,_,bj (st:=aR) l6 c6 k6,PySem.W.mg_of X G a6⟩
 have D_picked:DefAt K mg "picked" cy:=⟨f7,_,bj (st:=cy) l7 c7 k7,PySem.W.mg_of X G a7⟩
 have D_least_upto:DefAt K mg "least_upto" av:=⟨f8,_,bj (st:=av) l8 c8 k8,PySem.W.mg_of X G a8⟩
 have D_least_rule:DefAt K mg "least_rule" b5:=⟨f9,_,bj (st:=b5) l9 c9 k9,PySem.W.mg_of X G a9⟩
 have D_refuse_unlike:DefAt K mg "refuse_unlike" bM:=⟨f10,_,bj (st:=bM) l10 c10 k10,PySem.W.mg_of X G a10⟩
 have D_words_of_both:DefAt K mg "words_of_both" bA:=⟨f11,_,bj (st:=bA) l11 c11 k11,PySem.W.mg_of X G a11⟩
 have D_ways_for:DefAt K mg "ways_for" bx:=⟨f12,_,bj (st:=bx) l12 c12 k12,PySem.W.mg_of X G a12⟩
 have D_ways_by_room:DefAt K mg "ways_by_room" aD:=⟨f13,_,bj (st:=aD) l13 c13 k13,PySem.W.mg_of X G a13⟩
 have D_pairs_behind:DefAt K mg "pairs_behind" bw:=⟨f14,_,bj (st:=bw) l14 c14 k14,PySem.W.mg_of X G a14⟩
 have D_next_room:DefAt K mg "next_room" bR:=⟨f15,_,bj (st:=bR) l15 c15 k15,PySem.W.mg_of X G a15⟩
 have D_room_from:DefAt K mg "room_from" bE:=⟨f16,_,bj (st:=bE) l16 c16 k16,PySem.W.mg_of X G a16⟩
 have D_room_after:DefAt K mg "room_after" b4:=⟨f17,_,bj (st:=b4) l17 c17 k17,PySem.W.mg_of X G a17⟩
 have D_breaks_one:DefAt K mg "breaks_one" cM:=⟨f18,_,bj (st:=cM) l18 c18 k18,PySem.W.mg_of X G a18⟩
 have D_breaks_both:DefAt K mg "breaks_both" cu:=⟨f19,_,bj (st:=cu) l19 c19 k19,PySem.W.mg_of X G a19⟩
 have D_rule_of_pairs:DefAt K mg "rule_of_pairs" ao:=⟨f20,_,bj (st:=ao) l20 c20 k20,PySem.W.mg_of X G a20⟩
 have D_least_of_pairs:DefAt K mg "least_of_pairs" aQ:=⟨f21,_,bj (st:=aQ) l21 c21 k21,PySem.W.mg_of X G a21⟩
 have D_joined_rule:DefAt K mg "joined_rule" bJ:=⟨f22,_,bj (st:=bJ) l22 c22 k22,PySem.W.mg_of X G a22⟩
 have D_either_rule:DefAt K mg "either_rule" bH:=⟨f23,_,bj (st:=bH) l23 c23 k23,PySem.W.mg_of X G a23⟩
 have D_row_to:DefAt K mg "row_to" b_:=⟨f24,_,bj (st:=b_) l24 c24 k24,PySem.W.mg_of X G a24⟩
 have D_row_apart:DefAt K mg "row_apart" az:=⟨f25,_,bj (st:=az) l25 c25 k25,PySem.W.mg_of X G a25⟩
 have D_law_cell_at:DefAt K mg "_law_cell_at" bQ:=⟨f26,_,bj (st:=bQ) l26 c26 k26,PySem.W.mg_of X G a26⟩
 have D_law_mixed:DefAt K mg "_law_mixed" bB:=⟨f27,_,bj (st:=bB) l27 c27 k27,PySem.W.mg_of X G a27⟩
 have D_law_words:DefAt K mg "_law_words" aF:=⟨f28,_,bj (st:=aF) l28 c28 k28,PySem.W.mg_of X G a28⟩
 have D_law_way:DefAt K mg "_law_way" cV:=⟨f29,_,bj (st:=cV) l29 c29 k29,PySem.W.mg_of X G a29⟩
 have D_law_rooms:DefAt K mg "_law_rooms" aC:=⟨f30,_,bj (st:=aC) l30 c30 k30,PySem.W.mg_of X G a30⟩
 have D_law_three:DefAt K mg "_law_three" au:=⟨f31,_,bj (st:=au) l31 c31 k31,PySem.W.mg_of X G a31⟩
 have D_law_one_of_two:DefAt K mg "_law_one_of_two" aM:=⟨f32,_,bj (st:=aM) l32 c32 k32,PySem.W.mg_of X G a32⟩
 have D_law_grouped:DefAt K mg "_law_grouped" bu:=⟨f33,_,bj (st:=bu) l33 c33 k33,PySem.W.mg_of X G a33⟩
 have D_law_following:DefAt K mg "_law_following" aN:=⟨f34,_,bj (st:=aN) l34 c34 k34,PySem.W.mg_of X G a34⟩
 have z_isinstance:mg "isinstance" = none:=PySem.W.mg_none_of X G y_isinstance
 have z_str:mg "str" = none:=PySem.W.mg_none_of X G y_str
 have z_len:mg "len" = none:=PySem.W.mg_none_of X G y_len
 have z_range:mg "range" = none:=PySem.W.mg_none_of X G y_range
 have z_int:mg "int" = none:=PySem.W.mg_none_of X G y_int
 have z_list:mg "list" = none:=PySem.W.mg_none_of X G y_list
 have z_sorted:mg "sorted" = none:=PySem.W.mg_none_of X G y_sorted
 have z_min:mg "min" = none:=PySem.W.mg_none_of X G y_min
 have z_tuple:mg "tuple" = none:=PySem.W.mg_none_of X G y_tuple
 have z_enumerate:mg "enumerate" = none:=PySem.W.mg_none_of X G y_enumerate
 have z_any:mg "any" = none:=PySem.W.mg_none_of X G y_any
 have z_max:mg "max" = none:=PySem.W.mg_none_of X G y_max
 have z_set:mg "set" = none:=PySem.W.mg_none_of X G y_set
 have z_zip:mg "zip" = none:=PySem.W.mg_none_of X G y_zip
 have z_reversed:mg "reversed" = none:=PySem.W.mg_none_of X G y_reversed
 have g_MOST_ROOMS:∃ t,mg "MOST_ROOMS" = some (.int 60 t):=⟨t_MOST_ROOMS,PySem.W.mg_of X G h_MOST_ROOMS⟩
 have g_MOST_WORDS:∃ t,mg "MOST_WORDS" = some (.int 16 t):=⟨t_MOST_WORDS,PySem.W.mg_of X G h_MOST_WORDS⟩
 have F:=bj (st:=bC) l35 c35 k35;refine⟨PySem.W.fnOf "law" "law" (defArgs bC) (defBody bC) (defScope bC) .none kV35 dc35 pm35 an35 cd35 ct35,fun s v=>.of_eq rfl,fun base _ _=>?_⟩
 have c1:=zU (P:=l.prog) (w:=w) (base:=base) D_law_cell_at z_len;have c2:=x6 (P:=l.prog) (w:=w) (base:=base) D_law_mixed z_range;have c3:=xY D_law_three z_range z_len z_sorted z_list c1 (tJ D_law_words z_range z_int z_str c2) (wL D_law_rooms z_range z_len z_min c2 (z9 D_law_way))
 have d1:=tF (P:=l.prog) (w:=w) (base:=base) D_ways_by;have d2:=xa D_finer_kinds z_enumerate z_tuple z_len d1;have d3:=xF D_kinds_upto z_max d2;have d4:=uD D_merged_rooms z_enumerate z_len d1;have d5:=q9 D_numbered_rooms z_enumerate (A5 D_rooms_led_to z_len) d1;have d6:=zc D_least_upto z_range z_len d3 d4 d5 (zY D_does_something z_enumerate z_any) (uL D_picked);have d7:=xk D_least_rule z_len d6;have p0:=vS (P:=l.prog) (w:=w) (base:=base) D_ways_by_room z_enumerate (A1 D_ways_for);have p1:=zA (P:=l.prog) (w:=w) (base:=base) D_rule_of_pairs z_len (sn D_words_of_both z_sorted z_set) p0 (qg D_pairs_behind z_list z_zip);have p2:=vU D_least_of_pairs z_len g_MOST_ROOMS g_MOST_WORDS (nB D_refuse_unlike) p1 d6;have p3:=uI D_joined_rule (tZ D_breaks_one) p2;have p4:=uC D_either_rule (tw D_breaks_both) p2;have a1:=xD D_row_apart z_len z_zip (nB D_refuse_unlike) (sn D_words_of_both z_sorted z_set) p0 (qg D_pairs_behind z_list z_zip) (x9 D_row_to z_list z_reversed);have a2:=oG (P:=l.prog) (w:=w) (base:=base) D_room_after (pe D_room_from (zB D_next_room));exact AO F z_list c3 (q5 D_law_one_of_two p3 p4 d7 a1) (sK D_law_grouped p3 p4) (pJ D_law_following p3 p4 d7 a1 a2)
theorem walk{l:PySem.W.OpenLaw}{q:Program}{loose:List Str}{XP:(Str→Option Value)→Heap→Prop}{YP:World→Heap→Prop}{d:DefRec}{K:Params→PySem.W.Frag}(hn:l.most=some 63)(hdf:d.params.defaults=[])
  (hY:∀ (w:World) (h:Heap),YP w h→(K w.params).In h)
  (F:∀ (w:World) (mg:Str→Option Value) (fa:Addr) (h:Heap),(K w.params).In h→h.Ns mainGlobals mg→mg d.name=some (.ref fa)→
   ∃ fd:FuncData,(∀ (s:Shared) (u:Value),BindsTo s fd ⟨[u],[]⟩ [("_law_script", u)])∧∀ base:Heap,(K w.params).In base→base.Ns mainGlobals mg→iV l.prog w (K w.params) mg base kY 9 fa fd ["_law_script"] (oJ (K w.params))) :
  PySem.W.WalkO q loose XP YP l.row.toRowW d [] (fun f vs=>PySem.call f vs):=
 L2.walk_of (n:=63) (k:=9) (x := "_law_script") (CX:=fun _=>kY) (sp:=fun w=>oJ (K w.params)) hn (by decide) hdf ⟨rfl,by decide,by decide⟩ hY F (fun _ _ a ns hl _ hS=>⟨a,ns,rfl,hS,hl,fun _=>rfl⟩) fun _ _ _ _ _ z=>z
end K16
end
open PySem PySem.W PyProof.Rows
set_option maxRecDepth 100000 in
set_option maxHeartbeats 0 in
theorem PySem.Challenge.cw_usewarden_k16_whole_rules_joined_and_fol_holds : PySem.Challenge.rw_usewarden_k16_whole_rules_joined_and_fol.Holds := by
 w_on
 refine holds_law (by decide +kernel) fun said=>?_
 refine holds_open (q:=K16.qq) (loose:=K16.loo) (Xt:=K16.xt) (XP:=XL K16.qq []) (Yf:=Hook.obs (kHook K16.KK K16.kk K16.kk_eq)) (Ya:=Hook.val (kHook K16.KK K16.kk K16.kk_eq)) (YP:=Hook.says (kHook K16.KK K16.kk K16.kk_eq)) (N:=3702) K16.hl (Hook.of (kHook K16.KK K16.kk K16.kk_eq)) (Hook.keeps (kHook K16.KK K16.kk K16.kk_eq)) (fun s e=>xl_of s (Bool.and_eq_true_iff.mp e).1) XL.keeps (by rfl) (by rfl) (by rfl) (fun s e=>recFacts_of (Bool.and_eq_true_iff.mp e).2) (by rfl) said (by decide +kernel) ⟨rfl,rfl,rfl,rfl,rfl,by decide +kernel⟩ ?hw ?hc
 (case hw=>w_witness2)
 k_fill
 refine K16.walk (l:=PySem.Challenge.rw_usewarden_k16_whole_rules_joined_and_fol) rfl rfl (fun w h Y=>PySem.W.kIn_of Y) ?F
 case F=>
  intro w mg fa h KX G hmg
  refine' K16.all_mk KX G hmg ?a0 ?l0 ?c0 ?k0 ?a1 ?l1 ?c1 ?k1 ?a2 ?l2 ?c2 ?k2 ?a3 ?l3 ?c3 ?k3 ?a4 ?l4 ?c4 ?k4 ?a5 ?l5 ?c5 ?k5 ?a6 ?l6 ?c6 ?k6 ?a7 ?l7 ?c7 ?k7 ?a8 ?l8 ?c8 ?k8 ?a9 ?l9 ?c9 ?k9 ?a10 ?l10 ?c10 ?k10 ?a11 ?l11 ?c11 ?k11 ?a12 ?l12 ?c12 ?k12 ?a13 ?l13 ?c13 ?k13 ?a14 ?l14 ?c14 ?k14 ?a15 ?l15 ?c15 ?k15 ?a16 ?l16 ?c16 ?k16 ?a17 ?l17 ?c17 ?k17 ?a18 ?l18 ?c18 ?k18 ?a19 ?l19 ?c19 ?k19 ?a20 ?l20 ?c20 ?k20 ?a21 ?l21 ?c21 ?k21 ?a22 ?l22 ?c22 ?k22 ?a23 ?l23 ?c23 ?k23 ?a24 ?l24 ?c24 ?k24 ?a25 ?l25 ?c25 ?k25 ?a26 ?l26 ?c26 ?k26 ?a27 ?l27 ?c27 ?k27 ?a28 ?l28 ?c28 ?k28 ?a29 ?l29 ?c29 ?k29 ?a30 ?l30 ?c30 ?k30 ?a31 ?l31 ?c31 ?k31 ?a32 ?l32 ?c32 ?k32 ?a33 ?l33 ?c33 ?k33 ?a34 ?l34 ?c34 ?k34 ?a35 ?l35 ?c35 ?k35 ?y_isinstance ?y_str ?y_len ?y_range ?y_int ?y_list ?y_sorted ?y_min ?y_tuple ?y_enumerate ?y_any ?y_max ?y_set ?y_zip ?y_reversed ?h_MOST_ROOMS ?h_MOST_WORDS
  (case a0=>k_is)
  (case l0=>k_is)
  (case c0=>k_is)
  (case k0=>k_is)
  (case a1=>k_is)
  (case l1=>k_is)
  (case c1=>k_is)
  (case k1=>k_is)
  (case a2=>k_is)
  (case l2=>k_is)
  (case c2=>k_is)
  (case k2=>k_is)
  (case a3=>k_is)
  (case l3=>k_is)
  (case c3=>k_is)
  (case k3=>k_is)
  (case a4=>k_is)
  (case l4=>k_is)
  (case c4=>k_is)
  (case k4=>k_is)
  (case a5=>k_is)
  (case l5=>k_is)
  (case c5=>k_is)
  (case k5=>k_is)
  (case a6=>k_is)
  (case l6=>k_is)
  (case c6=>k_is)
  (case k6=>k_is)
  (case a7=>k_is)
  (case l7=>k_is)
  (case c7=>k_is)
  (case k7=>k_is)
  (case a8=>k_is)
  (case l8=>k_is)
  (case c8=>k_is)
  (case k8=>k_is)
  (case a9=>k_is)
  (case l9=>k_is)
  (case c9=>k_is)
  (case k9=>k_is)
  (case a10=>k_is)
  (case l10=>k_is)
  (case c10=>k_is)
  (case k10=>k_is)
  (case a11=>k_is)
  (case l11=>k_is)
  (case c11=>k_is)
  (case k11=>k_is)
  (case a12=>k_is)
  (case l12=>k_is)
  (case c12=>k_is)
  (case k12=>k_is)
  (case a13=>k_is)
  (case l13=>k_is)
  (case c13=>k_is)
  (case k13=>k_is)
  (case a14=>k_is)
  (case l14=>k_is)
  (case c14=>k_is)
  (case k14=>k_is)
  (case a15=>k_is)
  (case l15=>k_is)
  (case c15=>k_is)
  (case k15=>k_is)
  (case a16=>k_is)
  (case l16=>k_is)
  (case c16=>k_is)
  (case k16=>k_is)
  (case a17=>k_is)
  (case l17=>k_is)
  (case c17=>k_is)
  (case k17=>k_is)
  (case a18=>k_is)
  (case l18=>k_is)
  (case c18=>k_is)
  (case k18=>k_is)
  (case a19=>k_is)
  (case l19=>k_is)
  (case c19=>k_is)
  (case k19=>k_is)
  (case a20=>k_is)
  (case l20=>k_is)
  (case c20=>k_is)
  (case k20=>k_is)
  (case a21=>k_is)
  (case l21=>k_is)
  (case c21=>k_is)
  (case k21=>k_is)
  (case a22=>k_is)
  (case l22=>k_is)
  (case c22=>k_is)
  (case k22=>k_is)
  (case a23=>k_is)
  (case l23=>k_is)
  (case c23=>k_is)
  (case k23=>k_is)
  (case a24=>k_is)
  (case l24=>k_is)
  (case c24=>k_is)
  (case k24=>k_is)
  (case a25=>k_is)
  (case l25=>k_is)
  (case c25=>k_is)
  (case k25=>k_is)
  (case a26=>k_is)
  (case l26=>k_is)
  (case c26=>k_is)
  (case k26=>k_is)
  (case a27=>k_is)
  (case l27=>k_is)
  (case c27=>k_is)
  (case k27=>k_is)
  (case a28=>k_is)
  (case l28=>k_is)
  (case c28=>k_is)
  (case k28=>k_is)
  (case a29=>k_is)
  (case l29=>k_is)
  (case c29=>k_is)
  (case k29=>k_is)
  (case a30=>k_is)
  (case l30=>k_is)
  (case c30=>k_is)
  (case k30=>k_is)
  (case a31=>k_is)
  (case l31=>k_is)
  (case c31=>k_is)
  (case k31=>k_is)
  (case a32=>k_is)
  (case l32=>k_is)
  (case c32=>k_is)
  (case k32=>k_is)
  (case a33=>k_is)
  (case l33=>k_is)
  (case c33=>k_is)
  (case k33=>k_is)
  (case a34=>k_is)
  (case l34=>k_is)
  (case c34=>k_is)
  (case k34=>k_is)
  (case a35=>k_is)
  (case l35=>k_is)
  (case c35=>k_is)
  (case k35=>k_is)
  (case y_isinstance=>k_is)
  (case y_str=>k_is)
  (case y_len=>k_is)
  (case y_range=>k_is)
  (case y_int=>k_is)
  (case y_list=>k_is)
  (case y_sorted=>k_is)
  (case y_min=>k_is)
  (case y_tuple=>k_is)
  (case y_enumerate=>k_is)
  (case y_any=>k_is)
  (case y_max=>k_is)
  (case y_set=>k_is)
  (case y_zip=>k_is)
  (case y_reversed=>k_is)
  (case h_MOST_ROOMS=>k_is)
  (case h_MOST_WORDS=>k_is)
#print axioms PySem.Challenge.cw_usewarden_k16_whole_rules_joined_and_fol_holds
