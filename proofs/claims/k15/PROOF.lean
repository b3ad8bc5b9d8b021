import PyProof.Rows.All
import Wide.All
import OpenK.AllK
import Wide.FinOn
import Lean
import PyProof.EqAt
import PyProof.EqKinds
import PyProof.TupleCall
import PyProof.SetScanFacts
import PyProof.SetKind
import PyProof.SetRoads
import PyProof.Rows.SetFrom
import PyProof.FactsBase
import PyProof.TableTree
import PyProof.FactsTree
import PyProof.PlainAttrs
import PyProof.FactsAll.set_1
import PyProof.CollectIter
import PyProof.FactsAll.set
import PyProof.ZipIter
import PyProof.EnumIter
import PyProof.TupleIter
import KE.KRevIter
import KE.KDictList
import PyProof.Rows.SumAny
import KE.KIntText
import PyProof.StrLawsTight
import PyProof.StrLawsChain
import PyProof.Rows.SortStr
import PyProof.Rows.StrNews2
import PyProof.StrLawsFirst
import PyProof.AutoSeq1
import OpenK.KOwn
import PyProof.Rows.CatchOwn
import KE.KDictOf
import PyProof.DictItems
import PyProof.NeKinds
import KE.KPairComp
import PyProof.FactsAll.tuple_2
import PyProof.FactsAll.tuple_3
import KE.KDictLaws
import PyProof.FactsAll.dict_3
import PyProof.MinMaxWalk
import PyProof.WalkInts
import PyProof.Cells
import KE.KUnpack
import PySem.Challenge.RW_usewarden_k15_a_row_apart
set_option Elab.async false
set_option linter.all false
set_option maxRecDepth 100000
set_option maxHeartbeats 4000000
namespace L2
open PySem
def AF(s:Stmt)(j:Nat):Stmt:=match s with
 | .ClassDef _ _ _ body _ _ _ _ _ _ _=>body.getD j (.Pass ⟨0,0,0,0⟩)
 | _=>.Pass ⟨0,0,0,0⟩
def defArgs(s:Stmt):Arguments:=match s with
 | .FunctionDef _ a _ _ _ _ _ _ _ _=>a
 | _=>{ posonlyargs:=[],args:=[],vararg:=none,kwonlyargs:=[],kw_defaults:=[],kwarg:=none,defaults:=[] }
def defBody(s:Stmt):List Stmt:=match s with
 | .FunctionDef _ _ b _ _ _ _ _ _ _=>b
 | _=>[]
def defScope(s:Stmt):Scope:=match s with
 | .FunctionDef _ _ _ _ _ _ sc _ _ _=>sc
 | _=>{ kind:=.function,names:=[],isGenerator:=false,isCoroutine:=false }
end L2
namespace K15
open PySem PySem.W
def top (i:Nat):Stmt:=PySem.Challenge.pw_usewarden_k15_a_row_apart.main.body.getD i (.Pass ⟨0,0,0,0⟩)
abbrev tUp(x:Array Value):Obj:=⟨.type "tuple", none,.seq x 0,#[]⟩
abbrev cOd(n:Str)(a b c:Nat)(l g:Int)(p q r s u:Addr)(i:Int)(d:Nat):Obj:=⟨.type "code", none,.fields #[.str n a,.str n b,.str "/claim/cut.py" c,.int l 0,.int g 0,.int 0 0,.int 0 0,.int 3 0,.ref p,.bool true,.int 181 0,.ref q,.none,.ref r,.ref s,.ref u,.int i 0,.int l 0,.str "/claim/cut.py" d],#[]⟩
abbrev fUn(n:Str)(i:Nat)(m:Str)(a:Nat)(c:Addr):Obj:=⟨.type "function", none,.func ⟨n,n,L2.defArgs (top i),.stmts (L2.defBody (top i)),L2.defScope (top i),3,[],.none,.none,.none,.str m a,none,.ref c,.none,0⟩,#[]⟩
noncomputable def KK(P:Params):Frag:=
 (nat_lit 2,⟨.none,none,.dict #[] 0,#[]⟩) ::
 (nat_lit 3,⟨.type "dict", none,.dict #[⟨PyData.keyHash P "__name__", .str "__name__" 165,.str "law_usewarden_k15_a_row_apart" 292⟩,⟨PyData.keyHash P "__doc__", .str "__doc__" 166,.none⟩,⟨PyData.keyHash P "__package__", .str "__package__" 167,.none⟩,⟨PyData.keyHash P "__loader__", .str "__loader__" 168,.builtin "__main__.__loader__#opaque"⟩,⟨PyData.keyHash P "__spec__", .str "__spec__" 169,.none⟩,⟨PyData.keyHash P "__annotations__", .str "__annotations__" 170,.ref 6⟩,⟨PyData.keyHash P "__builtins__", .str "__builtins__" 171,.ref 4⟩,⟨PyData.keyHash P "__file__", .str "__file__" 173,.str "/claim/cut.py" 172⟩,⟨PyData.keyHash P "__cached__", .str "__cached__" 174,.none⟩,⟨PyData.keyHash P "UseError", .str "UseError" 206,.ref 24⟩,⟨PyData.keyHash P "NoFit", .str "NoFit" 222,.ref 37⟩,⟨PyData.keyHash P "refuse_unlike", .str "refuse_unlike" 232,.ref 46⟩,⟨PyData.keyHash P "words_of_both", .str "words_of_both" 240,.ref 53⟩,⟨PyData.keyHash P "ways_for", .str "ways_for" 246,.ref 58⟩,⟨PyData.keyHash P "ways_by_room", .str "ways_by_room" 252,.ref 63⟩,⟨PyData.keyHash P "pairs_behind", .str "pairs_behind" 261,.ref 70⟩,⟨PyData.keyHash P "row_to", .str "row_to" 273,.ref 77⟩,⟨PyData.keyHash P "row_apart", .str "row_apart" 291,.ref 84⟩,⟨PyData.keyHash P "_law_cell_at", .str "_law_cell_at" 301,.ref 91⟩,⟨PyData.keyHash P "_law_mixed", .str "_law_mixed" 312,.ref 98⟩,⟨PyData.keyHash P "_law_words", .str "_law_words" 329,.ref 105⟩,⟨PyData.keyHash P "_law_way", .str "_law_way" 338,.ref 112⟩,⟨PyData.keyHash P "_law_rooms", .str "_law_rooms" 344,.ref 117⟩,⟨PyData.keyHash P "_law_two", .str "_law_two" 350,.ref 122⟩,⟨PyData.keyHash P "_law_to", .str "_law_to" 359,.ref 129⟩,⟨PyData.keyHash P "_law_pairs", .str "_law_pairs" 373,.ref 136⟩,⟨PyData.keyHash P "_law_left", .str "_law_left" 390,.ref 143⟩,⟨PyData.keyHash P "_law_told", .str "_law_told" 406,.ref 150⟩,⟨PyData.keyHash P "_law_ring", .str "_law_ring" 412,.ref 155⟩,⟨PyData.keyHash P "_law_rings_told", .str "_law_rings_told" 433,.ref 162⟩,⟨PyData.keyHash P "_law_copy", .str "_law_copy" 439,.ref 167⟩,⟨PyData.keyHash P "law", .str "law" 454,.ref 174⟩] 32,#[]⟩) ::
 (nat_lit 15,tUp #[.type "ValueError"]) ::
 (nat_lit 22,tUp #[]) ::
 (nat_lit 23,⟨.type "dict", none,.dict #[⟨PyData.keyHash P "__module__", .str "__module__" 196,.str "usewarden.errors" 187⟩,⟨PyData.keyHash P "__firstlineno__", .str "__firstlineno__" 200,.int 2 199⟩,⟨PyData.keyHash P "__static_attributes__", .str "__static_attributes__" 201,.ref 22⟩,⟨PyData.keyHash P "__weakref__", .str "__weakref__" 203,.ref 25⟩,⟨PyData.keyHash P "__doc__", .str "__doc__" 204,.none⟩] 3,#[]⟩) ::
 (nat_lit 24,⟨.type "type", none,.cls ⟨"UseError", [.type "ValueError"],[.ref 24,.type "ValueError", .type "Exception", .type "BaseException", .type "object"],23, "UseError", true,[],[.ref 37],false,none,false⟩,#[some (.ref 15),none,some (.str "UseError" 189),some (.str "UseError" 197),some (.builtin "ValueError.__new__"),some (.bool true)]⟩) ::
 (nat_lit 25,⟨.type "getset_descriptor", none,.fields #[.str "__weakref__" 202,.ref 24,.builtin "ExceptionGroup.__weakref__", .none],#[]⟩) ::
 (nat_lit 28,tUp #[.ref 24]) ::
 (nat_lit 35,tUp #[]) ::
 (nat_lit 36,⟨.type "dict", none,.dict #[⟨PyData.keyHash P "__module__", .str "__module__" 214,.str "usewarden.errors" 187⟩,⟨PyData.keyHash P "__firstlineno__", .str "__firstlineno__" 218,.int 4 217⟩,⟨PyData.keyHash P "__static_attributes__", .str "__static_attributes__" 219,.ref 35⟩,⟨PyData.keyHash P "__doc__", .str "__doc__" 220,.none⟩] 2,#[]⟩) ::
 (nat_lit 37,⟨.type "type", none,.cls ⟨"NoFit", [.ref 24],[.ref 37,.ref 24,.type "ValueError", .type "Exception", .type "BaseException", .type "object"],36, "NoFit", true,[],[],false,none,false⟩,#[some (.ref 28),none,some (.str "NoFit" 207),some (.str "NoFit" 215),some (.builtin "ValueError.__new__"),some (.bool true)]⟩) ::
 (nat_lit 40,tUp #[]) ::
 (nat_lit 42,tUp #[.str "one" 228,.str "other" 229]) ::
 (nat_lit 43,tUp #[]) ::
 (nat_lit 45,cOd "refuse_unlike" 225 226 227 7 2 40 41 42 43 44 230 231) ::
 (nat_lit 46,fUn "refuse_unlike" 4 "usewarden.pairs" 223 45) ::
 (nat_lit 47,tUp #[]) ::
 (nat_lit 49,tUp #[.str "one" 236,.str "other" 237]) ::
 (nat_lit 50,tUp #[]) ::
 (nat_lit 52,cOd "words_of_both" 233 234 235 10 2 47 48 49 50 51 238 239) ::
 (nat_lit 53,fUn "words_of_both" 5 "usewarden.pairs" 223 52) ::
 (nat_lit 54,tUp #[]) ::
 (nat_lit 57,⟨.type "code", none,.fields #[.str "ways_for" 241,.str "ways_for" 242,.str "/claim/cut.py" 243,.int 12 0,.int 4 0,.int 0 0,.int 0 0,.int 3 0,.ref 54,.bool true,.int 181 0,.ref 55,.none,.none,.none,.ref 56,.int 244 0,.int 12 0,.str "/claim/cut.py" 245],#[]⟩) ::
 (nat_lit 58,fUn "ways_for" 6 "usewarden.pairs" 223 57) ::
 (nat_lit 59,tUp #[]) ::
 (nat_lit 62,⟨.type "code", none,.fields #[.str "ways_by_room" 247,.str "ways_by_room" 248,.str "/claim/cut.py" 249,.int 14 0,.int 2 0,.int 0 0,.int 0 0,.int 3 0,.ref 59,.bool true,.int 181 0,.ref 60,.none,.none,.none,.ref 61,.int 250 0,.int 14 0,.str "/claim/cut.py" 251],#[]⟩) ::
 (nat_lit 63,fUn "ways_by_room" 7 "usewarden.pairs" 223 62) ::
 (nat_lit 64,tUp #[]) ::
 (nat_lit 66,tUp #[.str "ones" 256,.str "others" 257,.str "pair" 258]) ::
 (nat_lit 67,tUp #[]) ::
 (nat_lit 69,cOd "pairs_behind" 253 254 255 23 3 64 65 66 67 68 259 260) ::
 (nat_lit 70,fUn "pairs_behind" 8 "usewarden.pairs" 223 69) ::
 (nat_lit 71,tUp #[]) ::
 (nat_lit 73,tUp #[.str "came" 267,.str "at" 268,.str "row" 269,.str "place" 270]) ::
 (nat_lit 74,tUp #[]) ::
 (nat_lit 76,cOd "row_to" 264 265 266 26 2 71 72 73 74 75 271 272) ::
 (nat_lit 77,fUn "row_to" 10 "usewarden.follows" 262 76) ::
 (nat_lit 78,tUp #[]) ::
 (nat_lit 80,tUp #[.str "other" 277,.str "one" 278,.str "words" 279,.str "others" 280,.str "ones" 281,.str "order" 282,.str "came" 283,.str "met" 284,.str "at" 285,.str "here" 286,.str "word" 287,.str "pair" 288]) ::
 (nat_lit 81,tUp #[]) ::
 (nat_lit 83,cOd "row_apart" 274 275 276 33 2 78 79 80 81 82 289 290) ::
 (nat_lit 84,fUn "row_apart" 11 "usewarden.follows" 262 83) ::
 (nat_lit 85,tUp #[]) ::
 (nat_lit 87,tUp #[.str "_law_script" 297,.str "_law_k" 298]) ::
 (nat_lit 88,tUp #[]) ::
 (nat_lit 90,cOd "_law_cell_at" 294 295 296 55 2 85 86 87 88 89 299 300) ::
 (nat_lit 91,fUn "_law_cell_at" 13 "law_usewarden_k15_a_row_apart" 292 90) ::
 (nat_lit 92,tUp #[]) ::
 (nat_lit 94,tUp #[.str "_law_cell" 305,.str "_law_many" 306,.str "_law_number" 307,.str "_law_found" 308,.str "_law_k" 309]) ::
 (nat_lit 95,tUp #[]) ::
 (nat_lit 97,cOd "_law_mixed" 302 303 304 59 2 92 93 94 95 96 310 311) ::
 (nat_lit 98,fUn "_law_mixed" 14 "law_usewarden_k15_a_row_apart" 292 97) ::
 (nat_lit 99,tUp #[]) ::
 (nat_lit 101,tUp #[.str "_law_cell" 316,.str "_law_many" 317,.str "_law_sides" 318,.str "_law_letters" 319,.str "_law_xs" 320,.str "_law_size" 321,.str "_law_at" 322,.str "_law_words_here" 323,.str "_law_k" 324,.str "_law_word" 325,.str "_law_j" 326]) ::
 (nat_lit 102,tUp #[]) ::
 (nat_lit 104,cOd "_law_words" 313 314 315 66 3 99 100 101 102 103 327 328) ::
 (nat_lit 105,fUn "_law_words" 15 "law_usewarden_k15_a_row_apart" 292 104) ::
 (nat_lit 106,tUp #[]) ::
 (nat_lit 108,tUp #[.str "_law_number" 333,.str "_law_share" 334,.str "_law_many" 335]) ::
 (nat_lit 109,tUp #[]) ::
 (nat_lit 111,cOd "_law_way" 330 331 332 82 3 106 107 108 109 110 336 337) ::
 (nat_lit 112,fUn "_law_way" 16 "law_usewarden_k15_a_row_apart" 292 111) ::
 (nat_lit 113,tUp #[]) ::
 (nat_lit 116,⟨.type "code", none,.fields #[.str "_law_rooms" 339,.str "_law_rooms" 340,.str "/claim/cut.py" 341,.int 86 0,.int 4 0,.int 0 0,.int 0 0,.int 3 0,.ref 113,.bool true,.int 181 0,.ref 114,.none,.none,.none,.ref 115,.int 342 0,.int 86 0,.str "/claim/cut.py" 343],#[]⟩) ::
 (nat_lit 117,fUn "_law_rooms" 17 "law_usewarden_k15_a_row_apart" 292 116) ::
 (nat_lit 118,tUp #[]) ::
 (nat_lit 121,⟨.type "code", none,.fields #[.str "_law_two" 345,.str "_law_two" 346,.str "/claim/cut.py" 347,.int 92 0,.int 1 0,.int 0 0,.int 0 0,.int 3 0,.ref 118,.bool true,.int 181 0,.ref 119,.none,.none,.none,.ref 120,.int 348 0,.int 92 0,.str "/claim/cut.py" 349],#[]⟩) ::
 (nat_lit 122,fUn "_law_two" 18 "law_usewarden_k15_a_row_apart" 292 121) ::
 (nat_lit 123,tUp #[]) ::
 (nat_lit 125,tUp #[.str "_law_rule" 354,.str "_law_room" 355,.str "_law_word" 356]) ::
 (nat_lit 126,tUp #[]) ::
 (nat_lit 128,cOd "_law_to" 351 352 353 114 3 123 124 125 126 127 357 358) ::
 (nat_lit 129,fUn "_law_to" 19 "law_usewarden_k15_a_row_apart" 292 128) ::
 (nat_lit 130,tUp #[]) ::
 (nat_lit 132,tUp #[.str "_law_one" 363,.str "_law_other" 364,.str "_law_words_here" 365,.str "_law_pairs_here" 366,.str "_law_todo" 367,.str "_law_pair" 368,.str "_law_word" 369,.str "_law_to_here" 370]) ::
 (nat_lit 133,tUp #[]) ::
 (nat_lit 135,cOd "_law_pairs" 360 361 362 118 3 130 131 132 133 134 371 372) ::
 (nat_lit 136,fUn "_law_pairs" 20 "law_usewarden_k15_a_row_apart" 292 135) ::
 (nat_lit 137,tUp #[]) ::
 (nat_lit 139,tUp #[.str "_law_one" 377,.str "_law_other" 378,.str "_law_words_here" 379,.str "_law_pairs_here" 380,.str "_law_left_here" 381,.str "_law_few" 382,.str "_law_more" 383,.str "_law_pair" 384,.str "_law_word" 385,.str "_law_to_here" 386,.str "_law_ends" 387]) ::
 (nat_lit 140,tUp #[]) ::
 (nat_lit 142,cOd "_law_left" 374 375 376 129 3 137 138 139 140 141 388 389) ::
 (nat_lit 143,fUn "_law_left" 21 "law_usewarden_k15_a_row_apart" 292 142) ::
 (nat_lit 144,tUp #[]) ::
 (nat_lit 146,tUp #[.str "_law_found" 394,.str "_law_one" 395,.str "_law_other" 396,.str "_law_words_here" 397,.str "_law_left_here" 398,.str "_law_pair" 399,.str "_law_k" 400,.str "_law_due" 401,.str "_law_word" 402,.str "_law_to_here" 403]) ::
 (nat_lit 147,tUp #[]) ::
 (nat_lit 149,cOd "_law_told" 391 392 393 146 5 144 145 146 147 148 404 405) ::
 (nat_lit 150,fUn "_law_told" 22 "law_usewarden_k15_a_row_apart" 292 149) ::
 (nat_lit 151,tUp #[]) ::
 (nat_lit 154,⟨.type "code", none,.fields #[.str "_law_ring" 407,.str "_law_ring" 408,.str "/claim/cut.py" 409,.int 166 0,.int 4 0,.int 0 0,.int 0 0,.int 3 0,.ref 151,.bool true,.int 181 0,.ref 152,.none,.none,.none,.ref 153,.int 410 0,.int 166 0,.str "/claim/cut.py" 411],#[]⟩) ::
 (nat_lit 155,fUn "_law_ring" 23 "law_usewarden_k15_a_row_apart" 292 154) ::
 (nat_lit 156,tUp #[]) ::
 (nat_lit 158,tUp #[.str "_law_script" 416,.str "_law_sides" 417,.str "_law_a" 418,.str "_law_b" 419,.str "_law_letters" 420,.str "_law_words_here" 421,.str "_law_one" 422,.str "_law_other" 423,.str "_law_at" 424,.str "_law_left_here" 425,.str "_law_right" 426,.str "_law_dues" 427,.str "_law_n" 428,.str "_law_found" 429,.str "_law_due" 430]) ::
 (nat_lit 159,tUp #[]) ::
 (nat_lit 161,cOd "_law_rings_told" 413 414 415 174 2 156 157 158 159 160 431 432) ::
 (nat_lit 162,fUn "_law_rings_told" 24 "law_usewarden_k15_a_row_apart" 292 161) ::
 (nat_lit 163,tUp #[]) ::
 (nat_lit 166,⟨.type "code", none,.fields #[.str "_law_copy" 434,.str "_law_copy" 435,.str "/claim/cut.py" 436,.int 198 0,.int 1 0,.int 0 0,.int 0 0,.int 3 0,.ref 163,.bool true,.int 181 0,.ref 164,.none,.none,.none,.ref 165,.int 437 0,.int 198 0,.str "/claim/cut.py" 438],#[]⟩) ::
 (nat_lit 167,fUn "_law_copy" 25 "law_usewarden_k15_a_row_apart" 292 166) ::
 (nat_lit 168,tUp #[]) ::
 (nat_lit 170,tUp #[.str "_law_script" 443,.str "_law_one" 444,.str "_law_other" 445,.str "_law_words_here" 446,.str "_law_left_here" 447,.str "_law_right" 448,.str "_law_handed" 449,.str "_law_found" 450,.str "_law_back" 451]) ::
 (nat_lit 171,tUp #[]) ::
 (nat_lit 173,cOd "law" 440 441 442 200 1 168 169 170 171 172 452 453) ::
 (nat_lit 174,fUn "law" 26 "law_usewarden_k15_a_row_apart" 292 173)::[]
def kk:List Addr:=[2,3,15,22,23,24,25,28,35,36,37,40,42,43,45,46,47,49,50,52,53,54,57,58,59,62,63,64,66,67,69,70,71,73,74,76,77,78,80,81,83,84,85,87,88,90,91,92,94,95,97,98,99,101,102,104,105,106,108,109,111,112,113,116,117,118,121,122,123,125,126,128,129,130,132,133,135,136,137,139,140,142,143,144,146,147,149,150,151,154,155,156,158,159,161,162,163,166,167,168,170,171,173,174]
theorem kk_eq:∀ P,kk=(KK P).map (·.1):=fun _=>by kernel_rfl
noncomputable abbrev HH:Hook:=kHook KK kk kk_eq
def qq:Program:=view PySem.Challenge.pw_usewarden_k15_a_row_apart [1,2,4,5,6,7,8,10,11,13,14,15,16,17,18,19,20,21,22,23,24,25,26]
def loo:List Str:=[]
noncomputable def xt(s:Shared):Bool:=xlAt qq [] s&&recOk (RowW.records (OpenRow.toRowW (OpenLaw.row PySem.Challenge.rw_usewarden_k15_a_row_apart))) s
def yt(w:World):Prop:=(openEnds treeTable PySem.Challenge.pw_usewarden_k15_a_row_apart w 2348).map (fun s=>openSeen qq loo (importedModules (Program.main PySem.Challenge.pw_usewarden_k15_a_row_apart).body) xt true s)=some (openGood qq loo)
def yq(w:World):Prop:=(openEnds treeTable PySem.Challenge.pw_usewarden_k15_a_row_apart w 2348).map (fun s=>Hook.obs HH s)=some (Hook.val HH w)
set_option maxRecDepth 1000000 in
theorem Af(w:World):yt w:=by unfold yt; kernel_rfl
set_option maxRecDepth 1000000 in
theorem zm(w:World):yq w:=by unfold yq; kernel_rfl
theorem q9{α β γ : Type}{o:Option α}{f:α→β}{g:α→γ}{a:β}{b:γ}(h1:o.map f=some a)(h2:o.map g=some b):o.map (fun s=>(f s,g s))=some (a,b):=by
 cases o with
 | none=>cases h1
 | some s=>cases h1; cases h2; rfl
theorem hl(w:World):(openEnds treeTable PySem.Challenge.pw_usewarden_k15_a_row_apart w 2348).map (fun s=>(openSeen qq loo (importedModules (Program.main PySem.Challenge.pw_usewarden_k15_a_row_apart).body) xt true s,Hook.obs HH s))=some (openGood qq loo,Hook.val HH w):=q9 (Af w) (zm w)
end K15
-- CHANGE: your row's module here, as the last of these rows
namespace L2
open PySem PySem.Spec PyProof.Rows
abbrev aU:=Sum Int Str
def iI:aU→Value→Bool
 | .inl k,v=>Value.isInt k v
 | .inr x,v=>Value.isStrOf x v
def zy(w:World):aU→Int
 | .inl k=>hashInt k
 | .inr x=>hashStr w x
theorem bM:∀ {k:aU} {v:Value},iI k v=true→(∃ i t,k=Sum.inl i∧v=Value.int i t)∨(∃ x t,k=Sum.inr x∧v=Value.str x t)
 | .inl i,v,h=>by
  obtain⟨t,e⟩:=Value.isInt_shape (k:=i) (v:=v) h
  exact .inl ⟨i,t,rfl,e⟩
 | .inr x,v,h=>by
  obtain⟨t,e⟩:=Value.isStrOf_shape (x:=x) (v:=v) h
  exact .inr ⟨x,t,rfl,e⟩
theorem pT(i:Int)(t:Tok):iI (.inl i) (.int i t)=true:=by simp[iI,Value.isInt]
theorem pc(x:Str)(t:Tok):iI (.inr x) (.str x t)=true:=by simp[iI,Value.isStrOf]
theorem wj(a b:Int):decide ((Sum.inl a:aU)=Sum.inl b)=(a == b):=by
 by_cases e:a=b
 ·subst e; simp
 ·have h:¬ (Sum.inl a:aU)=Sum.inl b:=fun q=>e (Sum.inl.inj q)
  rw[decide_eq_false h];exact(beq_eq_false_iff_ne.mpr e).symm
theorem xS(a b:Str):decide ((Sum.inr a:aU)=Sum.inr b)=decide (a=b):=by
 by_cases e:a=b
 ·subst e; simp
 ·have h:¬ (Sum.inr a:aU)=Sum.inr b:=fun q=>e (Sum.inr.inj q)
  rw[decide_eq_false h,decide_eq_false e]
theorem vD(a:Int)(b:Str):decide ((Sum.inl a:aU)=Sum.inr b)=false:=decide_eq_false (fun q=>nomatch q)
theorem wo(a:Str)(b:Int):decide ((Sum.inr a:aU)=Sum.inl b)=false:=decide_eq_false (fun q=>nomatch q)
def bK(prog:Program)(w:World):PySem.KeyKind prog w aU where
 is:=iI
 hash:=zy w
 inj:=fun v a b ha hb=>by
  rcases bM ha with ⟨i,t,rfl,rfl⟩ | ⟨x,t,rfl,rfl⟩
  ·rcases bM hb with ⟨j,u,rfl,e⟩ | ⟨y,u,rfl,e⟩
   ·injection e with e1 _; rw[e1]
   ·exact nomatch e
  ·rcases bM hb with ⟨j,u,rfl,e⟩ | ⟨y,u,rfl,e⟩
   ·exact nomatch e
   ·injection e with e1 _; rw[e1]
 byValue:=fun k v h=>by
  rcases bM h with ⟨i,t,rfl,rfl⟩ | ⟨x,t,rfl,rfl⟩ <;> rfl
 pyHash:=fun hv h=>by
  rcases bM hv with ⟨i,t,rfl,rfl⟩ | ⟨x,t,rfl,rfl⟩
  ·exact wpAny_pyHash_int h
  ·exact wpAny_pyHash_str h
 eqBool:=fun hu hv h=>by
  rcases bM hu with ⟨i,t,rfl,rfl⟩ | ⟨x,t,rfl,rfl⟩
  ·rcases bM hv with ⟨j,u,rfl,rfl⟩ | ⟨y,u,rfl,rfl⟩
   ·rw[wj]at h; exact wpAny_eqBool_int h
   ·rw[vD]at h; exact SeqAt.EqAt.int_str i t y u _ _ _ _ h
  ·rcases bM hv with ⟨j,u,rfl,rfl⟩ | ⟨y,u,rfl,rfl⟩
   ·rw[wo]at h; exact SeqAt.EqAt.str_int x t j u _ _ _ _ h
   ·rw[xS]at h; exact wpAny_eqBool_str h
 «strs»:=fun k x t v h=>by
  rcases bM h with ⟨i,u,rfl,e⟩ | ⟨y,u,rfl,e⟩
  ·exact nomatch e
  ·injection e with e1 _
   subst e1
   cases v <;> rfl
theorem my(prog:Program)(w:World)(i:Int)(t:Tok):(bK prog w).is (.inl i) (.int i t)=true:=pT i t
theorem mE(prog:Program)(w:World)(x:Str)(t:Tok):(bK prog w).is (.inr x) (.str x t)=true:=pc x t
end L2
namespace L2
open PySem PySem.Spec PyProof.Rows
set_option genSizeOf false in
inductive V where
 | non | bl (b:Bool) | int (i:Int) | str (x:Str) | byt (b:Array UInt8) | flt (b:UInt64) | ref (a:Addr) | ty (n:String)
 deriving DecidableEq
def RelV:V→Value→Prop
 | .non,u=>u=Value.none
 | .bl b,u=>u=Value.bool b
 | .int i,u=>∃ t,u=Value.int i t
 | .str x,u=>∃ t,u=Value.str x t
 | .byt b,u=>∃ t,u=Value.bytes b t
 | .flt b,u=>∃ t,u=Value.float b t
 | .ref a,u=>u=Value.ref a
 | .ty n,u=>u=Value.type n
abbrev Vals:List V→List Value→Prop:=Paired RelV
theorem Vals.length{xs:List V}{us:List Value}(r:Vals xs us):xs.length=us.length:=Paired.length r
theorem Vals.get:∀ {xs:List V} {us:List Value} {i:Nat} {x:V},Vals xs us→xs[i]? = some x→∃ u,us[i]? = some u∧RelV x u
 | _,_,_,_,.nil,e=>by simp at e
 | _,_,0,_,.cons r _,e=>by simp at e; subst e; exact⟨_,rfl,r⟩
 | _,_,i+1,x,.cons _ t,e=>by
  obtain⟨u,h1,h2⟩:=Vals.get (i:=i) (x:=x) t (by simpa using e)
  exact⟨u,by simpa using h1,h2⟩
theorem Vals.set{x:V}{u:Value}(r:RelV x u):∀ {xs:List V} {us:List Value} (i:Nat),Vals xs us→Vals (xs.set i x) (us.set i u)
 | _,_,_,.nil=>.nil
 | _,_,0,.cons _ t=>.cons r t
 | _,_,i+1,.cons q t=>.cons q (Vals.set r i t)
theorem Vals.append:∀ {xs ys:List V} {us ws:List Value},Vals xs us→Vals ys ws→Vals (xs++ys) (us++ws)
 | _,_,_,_,.nil,s=>s
 | _,_,_,_,.cons r t,s=>.cons r (Vals.append t s)
theorem Vals.take:∀ {xs:List V} {us:List Value} (n:Nat),Vals xs us→Vals (xs.take n) (us.take n)
 | _,_,0,_=>.nil
 | _,_,_+1,.nil=>.nil
 | _,_,n+1,.cons r t=>.cons r (Vals.take n t)
theorem Vals.drop:∀ {xs:List V} {us:List Value} (n:Nat),Vals xs us→Vals (xs.drop n) (us.drop n)
 | _,_,0,r=>r
 | _,_,_+1,.nil=>.nil
 | _,_,n+1,.cons _ t=>Vals.drop n t
theorem Vals.none_of:∀ {xs:List V} {us:List Value} {i:Nat},Vals xs us→xs[i]? = none→us[i]? = none:=fun {xs us i} r e=>by
 have h1:=r.length;have h2:xs.length≤i:=List.getElem?_eq_none_iff.mp e
 exact List.getElem?_eq_none_iff.mpr (by omega)
def RelO:Option V→Option Value→Prop
 | some v,some u=>RelV v u
 | none,none=>True
 | _,_=>False
def KV{κ : Type}:List (κ × V)→List (κ × Value)→Prop:=Paired fun (p:κ × V) (q:κ × Value)=>p.1=q.1∧RelV p.2 q.2
def kV:aU→V
 | .inl i=>.int i
 | .inr x=>.str x
set_option genSizeOf false in
inductive HO where
 /-- a list -/
 | lst (xs:List V)
 /-- a tuple (never changes) -/
 | tup (xs:List V)
 /-- a dict whose keys are ints and texts; one whose keys are tuples of ints and texts (the empty one is both) -/
 | dK (kvs:List (aU × V)) | dT (kvs:List (List aU × V))
 /-- a set of ints: its members, its size -/
 | set (S:Int→Bool) (n:Nat)
 /-- an instance of the class at C, its dict at dx, its attributes -/
 | ins (C dx:Addr) (fs:List (Str × V))
 /-- the dict of the instance at x -/
 | own (x:Addr)
 /-- the dict of an exception -/
 | xd (fs:List (Str × V))
 /-- a bound method, f of x -/
 | met (f x:Addr)
 /-- a range object lo, lo+1, .. below hi -/
 | rng (lo hi:Int)
 /-- a thing that is known to the object (the script; a dict while a loop walks it): read, never written while it is so -/
 | frz (o:Obj) (u:HO)
 /-- a code object's table -/
 | tbl (ps:Array Value)
 /-- any other thing, by what is true of its one object (a def of one's own: SetO a S n := HO.ext fun h => ..) -/
 | ext (φ : Heap→Prop)
abbrev Hp:=Addr→Option HO
def upd(H:Hp)(a:Addr)(o:HO):Hp:=fun b=>if b=a then some o else H b
theorem ae{H:Hp}{a:Addr}{o:HO}:upd H a o a=some o:=by unfold upd; rw[if_pos rfl]
theorem al{H:Hp}{a b:Addr}{o:HO}(h:b≠a):upd H a o b=H b:=by unfold upd; rw[if_neg h]
theorem kH{H:Hp}{a b:Addr}{o u:HO}(h:H a=some o)(h':H b=some u)(d:o≠u):a≠b:=by
 intro e; subst e; rw[h]at h'; exact d (Option.some.inj h')
theorem aE{H:Hp}{a b:Addr}{o:HO}(h:H a=some o)(h':H b=none):a≠b:=by
 intro e; subst e; rw[h]at h'; cases h'
def IsTupN(h:Heap)(a:Addr)(items:Array Value):Prop:=∃ o,h.get? a=some o∧o.cls = .type "tuple" ∧ o.dict=none∧∃ n,o.data = .seq items n
theorem IsTupN.tup{h:Heap}{a:Addr}{items:Array Value}(x:IsTupN h a items):IsTup h a items:=let ⟨o,e,c,_,d⟩:=x; ⟨o,e,c,d⟩
theorem IsTupN.lt{h:Heap}{a:Addr}{items:Array Value}(x:IsTupN h a items):a<h.objs.size:=let ⟨_,e,_⟩:=x; Heap.lt_size e
section
variable(P:Program)(w:World)
def ObjOk(H:Hp)(h:Heap)(a:Addr):HO→Prop
 | .lst xs=>xs.length≤sizeLine∧∃ (its:List Value) (n:Nat),Vals xs its∧h.get? a=some { cls:=.type "list", data:=.seq its.toArray n }
 | .tup xs=>xs.length≤sizeLine∧∃ its:List Value,Vals xs its∧IsTupN h a its.toArray
 | .dK kvs=>kvs.length≤sizeLine∧(a == sysModules)=false∧∃ vs,KV kvs vs∧h.DictOf (bK P w) a vs
 | .dT kvs=>kvs.length≤sizeLine∧(a == sysModules)=false∧∃ xs:List (List aU × Addr × Value),
   Paired (fun (p:List aU × V) (q:List aU × Addr × Value)=>p.1=q.1∧H q.2.1=some (.tup (p.1.map kV))∧RelV p.2 q.2.2) kvs xs∧
   ∃ o es ep,h.get? a=some o∧o.ExactDict∧o.data = .dict es ep∧es.toList=xs.map (entryOfKey (tupleKind (bK P w)))∧(xs.map (·.1)).Nodup
 | .set S n=>h.SetOf (intKind P w) a S n
 | .ins C dx fs=>H dx=some (.own a)∧fs.length≤1000∧dx≠a∧h.get? a=some (PySem.W.instObj C dx)∧
   ∃ mA,h.Ns1 dx mA∧(∀ f,RelO (fs.lookup f) (mA f))∧PySem.Within mA (fs.map (·.1))
 | .own _=>∃ o,h.get? a=some o
 | .xd fs=>∃ mA,h.Ns1 a mA∧∀ f,RelO (fs.lookup f) (mA f)
 | .rng lo hi=>∃ t u v,h.get? a=some { cls:=.type "range", data:=.fields #[.int lo t,.int hi u,.int 1 v] }
 | .frz o u=>h.get? a=some o∧ObjOk H h a u
 | .tbl ps=>h.get? a=some { cls:=.none,data:=.fields ps }
 | .met f x=>h.get? a=some (PySem.W.methodObj (.ref f) (.ref x))
 | .ext φ=>φ h∧(∃ o,h.get? a=some o)∧∀ h1 h2:Heap,φ h1→(∀ o,h1.get? a=some o→h2.get? a=some o)→φ h2
def HOk(H:Hp)(h:Heap):Prop:=∀ a o,H a=some o→ObjOk P w H h a o
end
section
variable{P:Program}{w:World}{H H':Hp}{h h':Heap}{a:Addr}{o:HO}
theorem ObjOk.lt(x:ObjOk P w H h a o):a<h.objs.size:=by
 cases o with
 | lst xs=>obtain⟨_,_,_,_,e⟩:=x; exact Heap.lt_size e
 | tup xs=>obtain⟨_,_,_,p⟩:=x; exact p.lt
 | dK kvs=>obtain⟨_,_,_,_,o,_,_,e,_⟩:=x; exact Heap.lt_size e
 | dT kvs=>obtain⟨_,_,_,_,o,_,_,e,_⟩:=x; exact Heap.lt_size e
 | set S n=>obtain⟨o,_,_,_,e,_⟩:=x; exact Heap.lt_size e
 | ins C dx fs=>obtain⟨_,_,_,e,_⟩:=x; exact Heap.lt_size e
 | own y=>obtain⟨_,e⟩:=x; exact Heap.lt_size e
 | xd fs=>obtain⟨_,⟨_,_,_,e,_⟩,_⟩:=x; exact Heap.lt_size e
 | rng lo hi=>obtain⟨_,_,_,e⟩:=x; exact Heap.lt_size e
 | frz ob u=>obtain⟨e,_⟩:=x; exact Heap.lt_size e
 | tbl ps=>exact Heap.lt_size (show h.get? a=some _ from x)
 | met f y=>exact Heap.lt_size (show h.get? a=some _ from x)
 | ext φ=>obtain⟨_,⟨_,e⟩,_⟩:=x; exact Heap.lt_size e
theorem Paired.mapP{α β : Type}{F G:α→β→Prop}:∀ {l₁:List α} {l₂:List β},Paired F l₁ l₂→(∀ a b,F a b→G a b)→Paired G l₁ l₂
 | _,_,.nil,_=>.nil
 | _,_,.cons r t,f=>.cons (f _ _ r) (Paired.mapP t f)
theorem Paired.imp'{α β : Type}{F G:α→β→Prop}(f:∀ a b,F a b→G a b){l₁:List α}{l₂:List β}(r:Paired F l₁ l₂):Paired G l₁ l₂:=Paired.mapP r f
theorem ObjOk.stay(x:ObjOk P w H h a o)(k:∀ b u,(b=a∨H b=some (.own a))→h.get? b=some u→h'.get? b=some u)
  (ho:∀ b,H b=some (.own a)→H' b=some (.own a)) (ht:∀ b xs,H b=some (.tup xs)→H' b=some (.tup xs)):ObjOk P w H' h' a o:=by
 induction o with
 | lst xs=>obtain⟨z,its,n,r,e⟩:=x; exact⟨z,its,n,r,k _ _ (.inl rfl) e⟩
 | tup xs=>obtain⟨z,its,r,ob,e,c⟩:=x; exact⟨z,its,r,ob,k _ _ (.inl rfl) e,c⟩
 | dK kvs=>obtain⟨z,y,vs,r,ob,es,ep,e,c⟩:=x; exact⟨z,y,vs,r,ob,es,ep,k _ _ (.inl rfl) e,c⟩
 | dT kvs=>
  obtain⟨z,y,xs,r,ob,es,ep,e,c⟩:=x
  exact⟨z,y,xs,Paired.mapP r fun p q z=>⟨z.1,ht _ _ z.2.1,z.2.2⟩,ob,es,ep,k _ _ (.inl rfl) e,c⟩
 | set S n=>obtain⟨ob,es,ep,t,e,c⟩:=x; exact⟨ob,es,ep,t,k _ _ (.inl rfl) e,c⟩
 | ins C dx fs=>
  obtain⟨d,z,ne,e,mA,⟨od,es,ep,e2,c⟩,r⟩:=x
  exact⟨ho _ d,z,ne,k _ _ (.inl rfl) e,mA,⟨od,es,ep,k _ _ (.inr d) e2,c⟩,r⟩
 | own y=>obtain⟨ob,e⟩:=x; exact⟨ob,k _ _ (.inl rfl) e⟩
 | xd fs=>obtain⟨mA,⟨od,es,ep,e,c⟩,r⟩:=x; exact⟨mA,⟨od,es,ep,k _ _ (.inl rfl) e,c⟩,r⟩
 | rng lo hi=>obtain⟨t,u,v,e⟩:=x; exact⟨t,u,v,k _ _ (.inl rfl) e⟩
 | frz ob u ih=>obtain⟨e,q⟩:=x; exact⟨k _ _ (.inl rfl) e,ih q⟩
 | tbl ps=>
  have e:h.get? a=some { cls:=.none,data:=.fields ps }:=x
  show h'.get? a=some { cls:=.none,data:=.fields ps }
  exact k a _ (.inl rfl) e
 | met f y=>
  have e:h.get? a=some (PySem.W.methodObj (.ref f) (.ref y)):=x
  show h'.get? a=some (PySem.W.methodObj (.ref f) (.ref y))
  exact k a _ (.inl rfl) e
 | ext φ=>obtain⟨p,⟨o,e⟩,st⟩:=x; exact⟨st _ _ p fun o q=>k _ _ (.inl rfl) q,⟨o,k _ _ (.inl rfl) e⟩,st⟩
theorem HOk.lt(x:HOk P w H h)(e:H a=some o):a<h.objs.size:=(x a o e).lt
theorem HOk.fresh(x:HOk P w H h)(e:h.objs.size≤a):H a=none:=by
 cases q:H a with
 | none=>rfl
 | some u=>exact absurd (Nat.lt_of_lt_of_le (x.lt q) e) (Nat.lt_irrefl _)
theorem HOk.kept(x:HOk P w H h)(k:∀ b u,h.get? b=some u→h'.get? b=some u):HOk P w H h':=fun a o e=>
 (x a o e).stay (fun b u _ q=>k b u q) (fun _ q=>q) fun _ _ q=>q
theorem HOk.laid(x:HOk P w H h)(k:∀ b u,h.get? b=some u→h'.get? b=some u)(hp:h.objs.size≤a)(new:ObjOk P w (upd H a o) h' a o):HOk P w (upd H a o) h':=fun b u e=>by
 have hn:=x.fresh hp
 by_cases hb:b=a
 ·subst hb; rw[ae]at e; cases e; exact new
 ·rw[al hb]at e
  exact(x b u e).stay (fun c v _ q=>k c v q) (fun c q=>by rw[al (aE q hn)]; exact q) fun c xs q=>by rw[al (aE q hn)]; exact q
end
def Rd(H:Hp)(a:Addr)(u:HO):Prop:=H a=some u∨∃ o,H a=some (.frz o u)
theorem Rd.ok{P:Program}{w:World}{H:Hp}{h:Heap}{a:Addr}{u:HO}(r:Rd H a u)(x:HOk P w H h):ObjOk P w H h a u:=by
 rcases r with r | ⟨o,r⟩
 ·exact x a u r
 ·obtain⟨_,q⟩:=x a _ r
  exact q
def qF:Option HO→Prop
 | some (.lst _)=>True
 | some (.dK _)=>True
 | some (.dT _)=>True
 | some (.set _ _)=>True
 | some (.ins _ _ _)=>True
 | some (.ext _)=>True
 | _=>False
section
variable{P:Program}{w:World}{H:Hp}{h h':Heap}{x e:Addr}{o':HO}
theorem HOk.write(ok:HOk P w H h)(mu:qF (H x))(he:e=x∨H e=some (.own x))(k:∀ b u,b≠e→h.get? b=some u→h'.get? b=some u)(heo:∃ u,h'.get? e=some u)
  (new:ObjOk P w (upd H x o') h' x o'):HOk P w (upd H x o') h':=fun b u q=>by
 have nown:∀ c y,H c=some (.own y)→c≠x:=fun c y r z=>by subst z; rw[r]at mu; exact mu
 have ntup:∀ c xs,H c=some (.tup xs)→c≠x:=fun c xs r z=>by subst z; rw[r]at mu; exact mu
 by_cases hb:b=x
 ·subst hb; rw[ae]at q; cases q; exact new
 ·rw[al hb]at q
  by_cases hbe:b=e
  ·have q':H b=some (.own x):=by
    rcases he with z | z
    ·exact absurd (hbe.trans z) hb
    ·rw[hbe]; exact z
   rw[q]at q'; cases q'
   obtain⟨v,hv⟩:=heo
   exact⟨v,by rw[hbe]; exact hv⟩
  ·refine(ok b u q).stay (fun c v hc r=>k c v ?_ r) (fun c r=>by rw[al (nown c b r)]; exact r) fun c xs r=>by rw[al (ntup c xs r)]; exact r
   rcases hc with rfl | hc
   ·exact hbe
   ·rintro rfl
    rcases he with z | z
    ·exact nown c b hc z
    ·rw[hc]at z; cases z; exact hb rfl
end
structure Un (fs ex:List Addr) (H H':Hp) (h h':Heap):Prop where
 keep:∀ b o,h.get? b=some o→H b=none→b∉fs→b∉ex→h'.get? b=some o
 slot:∀ b o,h.get? b=some o→H b=none→b∈fs→b∉ex→∃ sl,h'.get? b=some { o with slots:=sl }
 free:∀ b o,h.get? b=some o→H b=none→b∉ex→H' b=none
 there:∀ b o,h.get? b=some o→b∉ex→∃ o',h'.get? b=some o'
 tups:∀ b xs,H b=some (.tup xs)→H' b=some (.tup xs)
 frzs:∀ b o u,H b=some (.frz o u)→H' b=some (.frz o u)
 tbls:∀ b ps,H b=some (.tbl ps)→∃ more,H' b=some (.tbl (ps++more))
section
variable{fs fs' ex ex':List Addr}{H H1 H2:Hp}{h h1 h2 h':Heap}{a x e:Addr}{o:HO}
theorem Un.any(u:Un fs ex H H1 h h1){b:Addr}{ob:Obj}(q:h.get? b=some ob)(n:H b=none)(hx:b∉ex):∃ sl,h1.get? b=some { ob with slots:=sl }:=by
 by_cases hb:b∈fs
 ·exact u.slot b ob q n hb hx
 ·exact⟨ob.slots,u.keep b ob q n hb hx⟩
theorem Un.kept(k:∀ b u,h.get? b=some u→h'.get? b=some u):Un fs ex H H h h':=
 ⟨fun b ob q _ _ _=>k b ob q,fun b ob q _ _ _=>⟨ob.slots,k b ob q⟩,fun _ _ _ n _=>n,fun b ob q _=>⟨ob,k b ob q⟩,fun _ _ q=>q,fun _ _ _ q=>q,fun _ ps q=>⟨#[],by rw[q]; simp⟩⟩
theorem Un.refl:Un fs ex H H h h:=Un.kept fun _ _ q=>q
theorem Un.laid(k:∀ b u,h.get? b=some u→h'.get? b=some u)(hp:h.objs.size≤a)(hn:H a=none):Un fs ex H (upd H a o) h h' where
 keep:=fun b u q _ _ _=>k b u q
 slot:=fun b u q _ _ _=>⟨u.slots,k b u q⟩
 free:=fun b u q n _=>by rw[al (Nat.ne_of_lt (Nat.lt_of_lt_of_le (Heap.lt_size q) hp))]; exact n
 there:=fun b u q _=>⟨u,k b u q⟩
 tups:=fun b xs q=>by rw[al (aE q hn)]; exact q
 frzs:=fun b u xs q=>by rw[al (aE q hn)]; exact q
 tbls:=fun b ps q=>⟨#[],by rw[al (aE q hn),q]; simp⟩
theorem Un.write(mu:qF (H x))(he:e=x∨H e=some (.own x))(k:∀ b u,b≠e→h.get? b=some u→h'.get? b=some u)(heo:∃ u,h'.get? e=some u):Un fs ex H (upd H x o) h h':=by
 have hx:∀ b,H b=none→b≠x:=fun b n z=>by subst z; rw[n]at mu; exact mu
 have hb:∀ b,H b=none→b≠e:=fun b n z=>by
  subst z;rcases he with r | r
  ·exact hx b n r
  ·rw[n]at r; cases r
 have hm:∀ b u,H b=some u→¬ qF (some u)→b≠x:=fun b u q nm z=>by subst z; rw[q]at mu; exact nm mu
 refine⟨fun b u q n _ _=>k b u (hb b n) q,fun b u q n _ _=>⟨u.slots,k b u (hb b n) q⟩,fun b u q n _=>by rw[al (hx b n)]; exact n,fun b u q _=>?_,
  fun b xs q=>by rw[al (hm b _ q fun z=>z)]; exact q,fun b u xs q=>by rw[al (hm b _ q fun z=>z)]; exact q,fun b ps q=>⟨#[],by rw[al (hm b _ q fun z=>z),q]; simp⟩⟩
 by_cases hbe:b=e
 ·subst hbe; exact heo
 ·exact⟨u,k b u hbe q⟩
end
def trk(h:Heap)(H:Hp):List Addr:=(List.range h.objs.size).filter fun a=>(H a).isSome
def h6(h:Heap)(H:Hp):Heap:=PySem.W.hideAll h (trk h H)
theorem qg(h:Heap)(H:Hp):(h6 h H).objs.size=h.objs.size:=PySem.W.hideAll_size _ _
theorem sg{h:Heap}{H:Hp}{b:Addr}{o:Obj}(e:h.get? b=some o)(n:H b=none):(h6 h H).get? b=some o:=
 PySem.W.hideAll_get _ e fun hm=>by
  have q:(H b).isSome=true:=(List.mem_filter.mp hm).2
  rw[n]at q; simp at q
theorem uX{h:Heap}{H:Hp}{b:Addr}{o:Obj}(e:(h6 h H).get? b=some o):h.get? b=some o∧H b=none:=by
 have e':h.get? b=some o:=PySem.W.of_hideAll (trk h H) e
 refine⟨e',?_⟩
 cases q:H b with
 | none=>rfl
 | some x=>
  have hm:b∈trk h H:=List.mem_filter.mpr ⟨List.mem_range.mpr (Heap.lt_size e'),by simp[q]⟩
  have z:(h6 h H).get? b=none:=PySem.W.hideAll_none (trk h H) hm
  rw[z]at e; cases e
def uI(g h:Heap)(L:Addr):List (Addr × Obj):=(List.range h.objs.size).filterMap fun a=>if a=L∨(g.get? a).isSome=true then none else (h.get? a).map fun o=>(a,o)
def rest(g h:Heap)(L d:Addr):List (Addr × Obj):=(uI g h L).filter fun p=>decide (p.1≠d)
end L2
namespace L2
open PySem PySem.Spec PyProof.Rows
structure Mod (K:PySem.W.Frag) (mg:Str→Option Value) (base:Heap):Prop where
 kin:K.In base
 glob:base.Ns mainGlobals mg
 blt:∃ mb,base.Ns builtinsNs mb∧∀ x:Str,x ≠ "__name__" → mb x=bootBuiltins x
 nolimit:base.NoLimit
set_option genInjectivity false in
set_option genSizeOf false in
structure Cx where
 prog:Program
 w:World
 K:PySem.W.Frag
 mg:Str→Option Value
 base:Heap
 A:Around
 N:List Str
 s₀ : Shared
 H₀ : Hp
 env:Env
 outer:List Env
 stack:List Env
 ex:List Addr
 fn:Str→Bool
 calm:Bool
 pn:List (Addr × Obj)
 xe:Value→Shared→Prop
def gJ(l:List Env):List Addr:=l.filterMap (·.frame)
abbrev Cx.fs (X:Cx):List Addr:=gJ X.outer
def aq(sc:Scope)(x:Str):Prop:=sc.names.lookup x=some .local∨sc.names.lookup x=some .cell∨sc.names.lookup x=some .free
def aJ(sc:Scope)(x:Str):Prop:=sc.names.lookup x=some .local∨sc.names.lookup x=some .cell
def Ay(env:Env)(h:Heap)(m:Str→Option Value)(x:Str)(u:Value):Prop:=
 (env.kindOf x=some .local∧m x=some u)∨((env.kindOf x=some .cell∨env.kindOf x=some .free)∧∃ c,env.cells.lookup x=some c∧h.IsCell c (some u))
structure Cx.Ok (X:Cx):Prop where
 mod:Mod X.K X.mg X.base
 kind:X.env.scope.kind = .function
 glob:X.env.globals=mainGlobals
 blt:X.env.builtins=builtinsNs
 above:X.s₀.heap.objs.size≤X.env.locals
 inj:∀ x y c,X.env.cells.lookup x=some c→X.env.cells.lookup y=some c→x=y
 has:∀ x,(X.env.kindOf x=some .cell∨X.env.kindOf x=some .free)→∃ c,X.env.cells.lookup x=some c
 cab:∀ x c,X.fn x=true→X.env.cells.lookup x=some c→X.s₀.heap.objs.size≤c
 hd:X.calm=true→X.A.handled=none
 frames:X.A.frames=some X.stack
 stk:X.stack=X.outer∨(X.stack=X.env::X.outer∧X.env.frame=some X.env.locals)
 exf:∀ b∈X.ex,b≠X.env.locals∧∀ x c,X.env.cells.lookup x=some c→c≠b
 bs:∀ b o,X.base.get? b=some o→X.s₀.heap.get? b=some o∧X.H₀ b=none
 bsz:X.base.objs.size≤X.s₀.heap.objs.size
 noex:∀ b o,X.base.get? b=some o→b∉X.ex
 exfs:∀ b∈X.ex,b∉X.fs
 funs:X.s₀.heap.FunFrames X.base X.outer
 frf:∀ b∈X.fs,X.H₀ b=none
structure Inv (X:Cx) (pins:List (Addr × Obj)) (σ : List (Option V)) (H:Hp) (s:Shared):Prop where
 ok:X.Ok
 os:s.os=X.s₀.os
 bare:AllBare s.gens
 base:Un X.fs X.ex X.H₀ H X.s₀.heap s.heap
 loc:∃ m,s.heap.Ns X.env.locals m∧∀ (i:Nat) (x:Str) (v:V),X.N[i]? = some x→σ[i]? = some (some v)→aq X.env.scope x→∃ u,RelV v u∧Ay X.env s.heap m x u
 cell:∀ x c,X.env.cells.lookup x=some c→∃ v,s.heap.IsCell c v
 free:H X.env.locals=none
 freeC:∀ x c,X.env.cells.lookup x=some c→H c=none
 pin:∀ p∈X.pn++pins,s.heap.get? p.1=some p.2∧H p.1=none∧p.1≠X.env.locals∧p.1∉X.fs∧∀ v,p.2.data ≠ .cell v
 hok:HOk X.prog X.w H s.heap
 len:σ.length=X.N.length
section
variable{X:Cx}{pins:List (Addr × Obj)}{σ : List (Option V)}{H H':Hp}{s:Shared}{h':Heap}
theorem Cx.Ok.nofr(ok:X.Ok){b:Addr}{o:Obj}(e:X.base.get? b=some o):b∉X.fs:=fun hb=>by
 have:=(ok.funs.mem hb).1
 rw[e]at this; cases this
theorem Inv.bs(I:Inv X pins σ H s):∀ b o,X.base.get? b=some o→s.heap.get? b=some o∧H b=none:=fun b o e=>
 ⟨I.base.keep b o (I.ok.bs b o e).1 (I.ok.bs b o e).2 (I.ok.nofr e) (I.ok.noex b o e),I.base.free b o (I.ok.bs b o e).1 (I.ok.bs b o e).2 (I.ok.noex b o e)⟩
theorem Inv.bk(I:Inv X pins σ H s):∀ b o,X.base.get? b=some o→s.heap.get? b=some o:=fun b o e=>(I.bs b o e).1
theorem Inv.mod(I:Inv X pins σ H s):Mod X.K X.mg X.base:=I.ok.mod
theorem Inv.kIn(I:Inv X pins σ H s):X.K.In s.heap:=I.ok.mod.kin.keeps I.bk
theorem Inv.lt(I:Inv X pins σ H s):X.env.locals<s.heap.objs.size:=let ⟨_,hn,_⟩:=I.loc; hn.lt
theorem Inv.sz(I:Inv X pins σ H s):X.s₀.heap.objs.size≤s.heap.objs.size:=Nat.le_trans I.ok.above (Nat.le_of_lt I.lt)
theorem Inv.nofs(I:Inv X pins σ H s){a:Addr}(h:s.heap.objs.size≤a):a∉X.fs:=fun hb=>by
 obtain⟨_,o,ho,_⟩:=I.ok.funs.mem hb
 exact absurd (Nat.lt_of_lt_of_le (Heap.lt_size ho) (Nat.le_trans I.sz h)) (Nat.lt_irrefl _)
theorem Inv.cne(I:Inv X pins σ H s):∀ x c,X.env.cells.lookup x=some c→c≠X.env.locals:=fun x c e z=>by
 obtain⟨v,o,ho,hd⟩:=I.cell x c e
 obtain⟨m,⟨o',es,ep,ho',hd',_⟩,_⟩:=I.loc
 rw[z,ho']at ho; cases ho; rw[hd']at hd; cases hd
theorem Inv.funs(I:Inv X pins σ H s):s.heap.FunFrames X.base X.outer:=by
 have all:∀ (l:List Env),(∀ b∈gJ l,b∈X.fs)→X.s₀.heap.FunFrames X.base l→s.heap.FunFrames X.base l:=by
  intro l
  induction l with
  | nil=>intro _ _; trivial
  | cons env r ih=>
   intro hs hl
   obtain⟨hk,⟨L,o,hf,hn,ho,hd⟩,hr⟩:=hl
   have hL:L∈X.fs:=hs L (by unfold gJ; rw[List.filterMap_cons,hf]; exact List.mem_cons_self)
   obtain⟨sl,e⟩:=I.base.slot L o ho (I.ok.frf L hL) hL fun z=>I.ok.exfs L z hL
   exact⟨hk,⟨L,_,hf,hn,e,hd⟩,ih (fun b hb=>hs b (by unfold gJ; rw[List.filterMap_cons,hf]; exact List.mem_cons_of_mem _ hb)) hr⟩
 exact all X.outer (fun _ hb=>hb) I.ok.funs
theorem Inv.stack(I:Inv X pins σ H s):s.heap.FunFrames X.base X.stack:=by
 rcases I.ok.stk with e | ⟨e,hf⟩
 ·rw[e]; exact I.funs
 ·rw[e]
  obtain⟨m,hn,_⟩:=I.loc
  refine .cons (by rw[I.ok.kind]; decide) hf hn ?_ I.funs
  exact Heap.get?_none_of_le (Nat.le_trans I.ok.bsz I.ok.above)
theorem Inv.stkSub(I:Inv X pins σ H s):∀ b∈gJ X.stack,b∈X.env.locals::X.fs:=fun b hb=>by
 rcases I.ok.stk with e | ⟨e,hf⟩
 ·rw[e]at hb; exact List.mem_cons_of_mem _ hb
 ·rw[e]at hb
  unfold gJ at hb;rw[List.filterMap_cons,hf]at hb
  exact hb
theorem Inv.stkFree(I:Inv X pins σ H s):∀ b∈gJ X.stack,H b=none:=fun b hb=>by
 rcases List.mem_cons.mp (I.stkSub b hb) with e | hb
 ·rw[e]; exact I.free
 ·obtain⟨_,o,ho,_⟩:=I.ok.funs.mem hb
  exact I.base.free b o ho (I.ok.frf b hb) fun z=>I.ok.exfs b z hb
theorem Inv.step{g':Array GenState}{t':Nat}{d':Drawn}{ch:List Addr}(I:Inv X pins σ H s)
  (hch:∀ b∈ch,(b∈X.ex∨X.s₀.heap.objs.size≤b)∧b≠X.env.locals∧(∀ x c,X.env.cells.lookup x=some c→c≠b)∧∀ p∈X.pn++pins,p.1≠b)
  (keep:∀ b o,b≠X.env.locals→b∉X.fs→b∉ch→s.heap.get? b=some o→H b=none→h'.get? b=some o)
  (slot:∀ b o,b≠X.env.locals→b∈X.fs→b∉ch→s.heap.get? b=some o→H b=none→∃ sl,h'.get? b=some { o with slots:=sl }) (free:∀ b o,b∉ch→s.heap.get? b=some o→H b=none→H' b=none)
  (there:∀ b o,b∉ch→s.heap.get? b=some o→∃ o',h'.get? b=some o')
  (tups:∀ b xs,H b=some (.tup xs)→H' b=some (.tup xs)) (frzs:∀ b o u,H b=some (.frz o u)→H' b=some (.frz o u)) (tbls:∀ b ps,H b=some (.tbl ps)→∃ more,H' b=some (.tbl (ps++more)))
  (ns:∀ m,s.heap.Ns X.env.locals m→h'.Ns X.env.locals m) (hok:HOk X.prog X.w H' h') (hg:AllBare g') :
  Inv X pins σ H' { s with heap:=h',gens:=g',drawn:=d',toks:=t' }:=by
 have neL:∀ b o,X.s₀.heap.get? b=some o→b≠X.env.locals:=fun b o e=>Nat.ne_of_lt (Nat.lt_of_lt_of_le (Heap.lt_size e) I.ok.above)
 have neC:∀ b o,X.s₀.heap.get? b=some o→b∉X.ex→b∉ch:=fun b o e hx hb=>by
  rcases(hch b hb).1 with z | z
  ·exact hx z
  ·exact absurd (Nat.lt_of_lt_of_le (Heap.lt_size e) z) (Nat.lt_irrefl _)
 have cellK:∀ x c,X.env.cells.lookup x=some c→∀ v,s.heap.IsCell c v→h'.IsCell c v:=fun x c e v ⟨o,ho,hd⟩=>by
  have nch:c∉ch:=fun z=>(hch c z).2.2.1 x c e rfl
  by_cases hc:c∈X.fs
  ·obtain⟨sl,q⟩:=slot c o (I.cne x c e) hc nch ho (I.freeC x c e)
   exact⟨_,q,hd⟩
  ·exact⟨o,keep c o (I.cne x c e) hc nch ho (I.freeC x c e),hd⟩
 refine⟨I.ok,I.os,hg,⟨fun b o e n hb hx=>?_,fun b o e n hb hx=>?_,fun b o e n hx=>?_,fun b o e hx=>?_,fun b xs e=>tups b xs (I.base.tups b xs e),fun b o xs e=>frzs b o xs (I.base.frzs b o xs e),fun b ps e=>?_⟩,?_,fun x c e=>?_,?_,fun x c e=>?_,fun p hp=>?_,hok,I.len⟩
 ·exact keep b o (neL b o e) hb (neC b o e hx) (I.base.keep b o e n hb hx) (I.base.free b o e n hx)
 ·obtain⟨sl,e1⟩:=I.base.slot b o e n hb hx
  obtain⟨sl',e2⟩:=slot b _ (neL b o e) hb (neC b o e hx) e1 (I.base.free b o e n hx)
  exact⟨sl',e2⟩
 ·obtain⟨o',e1⟩:=I.base.there b o e hx
  exact free b o' (neC b o e hx) e1 (I.base.free b o e n hx)
 ·obtain⟨o',e1⟩:=I.base.there b o e hx
  exact there b o' (neC b o e hx) e1
 ·obtain⟨m1,e1⟩:=I.base.tbls b ps e
  obtain⟨m2,e2⟩:=tbls b _ e1
  exact⟨m1++m2,by rw[e2,Array.append_assoc]⟩
 ·obtain⟨m,hn,hl⟩:=I.loc
  refine⟨m,ns m hn,fun i x v e1 e2 e3=>?_⟩
  obtain⟨u,r,l⟩:=hl i x v e1 e2 e3
  refine⟨u,r,?_⟩
  rcases l with l | ⟨k,c,e,z⟩
  ·exact .inl l
  ·exact .inr ⟨k,c,e,cellK x c e _ z⟩
 ·obtain⟨v,z⟩:=I.cell x c e
  exact⟨v,cellK x c e v z⟩
 ·obtain⟨m,⟨o,_,_,ho,_⟩,_⟩:=I.loc
  exact free _ o (fun z=>(hch _ z).2.1 rfl) ho I.free
 ·obtain⟨v,o,ho,hd⟩:=I.cell x c e
  exact free c o (fun z=>(hch c z).2.2.1 x c e rfl) ho (I.freeC x c e)
 ·obtain⟨e,n,ne,nf,d⟩:=I.pin p hp
  have nch:p.1∉ch:=fun z=>(hch p.1 z).2.2.2 p hp rfl
  exact⟨keep p.1 p.2 ne nf nch e n,free p.1 p.2 nch e n,ne,nf,d⟩
theorem Inv.un{t':Nat}(I:Inv X pins σ H s)(u:Un X.fs [] H H' s.heap h')(hok:HOk X.prog X.w H' h'):Inv X pins σ H' { s with heap:=h',toks:=t' }:=by
 obtain⟨m,⟨o,es,ep,ho,r⟩,_⟩:=id I.loc
 obtain⟨sl,hL⟩:=u.any ho I.free (by simp)
 exact I.step (g':=s.gens) (d':=s.drawn) (ch:=[]) (fun _ z=>nomatch z) (fun b o _ hb _ e n=>u.keep b o e n hb (by simp)) (fun b o _ hb _ e n=>u.slot b o e n hb (by simp)) (fun b o _ e n=>u.free b o e n (by simp)) (fun b o _ e=>u.there b o e (by simp)) u.tups u.frzs u.tbls (fun m' hm=>by
  obtain⟨o',es',ep',ho',r'⟩:=hm
  rw[ho]at ho'; cases ho'
  exact⟨_,es',ep',hL,r'⟩) hok I.bare
theorem Inv.call{g':Array GenState}{t':Nat}{d':Drawn}{ch:List Addr}(I:Inv X pins σ H s)(u:Un (gJ X.stack) ch H H' s.heap h')(hok:HOk X.prog X.w H' h')(hg:AllBare g')
  (hch:∀ b∈ch,(b∈X.ex∨X.s₀.heap.objs.size≤b)∧b≠X.env.locals∧(∀ x c,X.env.cells.lookup x=some c→c≠b)∧∀ p∈X.pn++pins,p.1≠b) :
  Inv X pins σ H' { s with heap:=h',gens:=g',drawn:=d',toks:=t' }:=by
 obtain⟨m,⟨o,es,ep,ho,r⟩,_⟩:=id I.loc
 obtain⟨sl,hL⟩:=u.any ho I.free fun z=>(hch _ z).2.1 rfl
 exact I.step (ch:=ch) hch (fun b o hL hb hc e n=>u.keep b o e n (fun z=>(List.mem_cons.mp (I.stkSub b z)).elim hL hb) hc) (fun b o _ _ hc e n=>u.any e n hc) (fun b o hc e n=>u.free b o e n hc) (fun b o hc e=>u.there b o e hc) u.tups u.frzs u.tbls (fun m' hm=>by
  obtain⟨o',es',ep',ho',r'⟩:=hm
  rw[ho]at ho'; cases ho'
  exact⟨_,es',ep',hL,r'⟩) hok hg
theorem Inv.turned{t':Nat}{it:Addr}(I:Inv X pins σ H s)(k:∀ b o,b≠it→s.heap.get? b=some o→h'.get? b=some o)(hn:H it=none)(hL:it≠X.env.locals)
  (h1:it∈X.ex∨X.s₀.heap.objs.size≤it) (h2:∀ x c,X.env.cells.lookup x=some c→c≠it) (h3:∀ p∈X.pn++pins,p.1≠it):Inv X pins σ H { s with heap:=h',toks:=t' }:=by
 have nit:∀ b u,H b=some u→b≠it:=fun b u e z=>by rw[z,hn]at e; cases e
 refine I.step (g':=s.gens) (d':=s.drawn) (ch:=[it]) (fun b hb=>?_) (fun b o _ _ hc e _=>k b o (fun z=>hc (by simp[z])) e) (fun b o _ _ hc e _=>⟨o.slots,k b o (fun z=>hc (by simp[z])) e⟩) (fun _ _ _ _ n=>n)
  (fun b o hc e=>⟨o,k b o (fun z=>hc (by simp[z])) e⟩) (fun _ _ e=>e) (fun _ _ _ e=>e) (fun b ps e=>⟨#[],by rw[e]; simp⟩) (fun m hm=>?_) (fun b u e=>?_) I.bare
 ·have e:b=it:=by simpa using hb
  subst e;exact⟨h1,hL,h2,h3⟩
 ·obtain⟨o,es,ep,ho,r⟩:=hm
  exact⟨o,es,ep,k _ o (Ne.symm hL) ho,r⟩
 ·refine(I.hok b u e).stay (fun c v hc q=>k c v ?_ q) (fun _ q=>q) fun _ _ q=>q
  rcases hc with z | z
  ·rw[z]; exact nit b u e
  ·exact nit c _ z
theorem Inv.tok(I:Inv X pins σ H s)(t:Nat):Inv X pins σ H { s with toks:=t }:=I.un (h':=s.heap) (t':=t) Un.refl I.hok
theorem Inv.kept{t':Nat}(I:Inv X pins σ H s)(k:∀ b u,s.heap.get? b=some u→h'.get? b=some u):Inv X pins σ H { s with heap:=h',toks:=t' }:=I.un (Un.kept k) (I.hok.kept k)
theorem Inv.laid{a:Addr}{o:HO}{t':Nat}(I:Inv X pins σ H s)(k:∀ b u,s.heap.get? b=some u→h'.get? b=some u)(hp:s.heap.objs.size≤a)(new:ObjOk X.prog X.w (upd H a o) h' a o) :
  Inv X pins σ (upd H a o) { s with heap:=h',toks:=t' }:=I.un (Un.laid k hp (I.hok.fresh hp)) (I.hok.laid k hp new)
theorem Inv.write{x e:Addr}{o:HO}{t':Nat}(I:Inv X pins σ H s)(mu:qF (H x))(he:e=x∨H e=some (.own x))(k:∀ b u,b≠e→s.heap.get? b=some u→h'.get? b=some u)(heo:∃ u,h'.get? e=some u)
  (new:ObjOk X.prog X.w (upd H x o) h' x o):Inv X pins σ (upd H x o) { s with heap:=h',toks:=t' }:=I.un (Un.write mu he k heo) (I.hok.write mu he k heo new)
theorem Inv.weak{σ':List (Option V)}(I:Inv X pins σ H s)(hl:σ'.length=σ.length)(w:∀ (i:Nat) v,σ'[i]? = some (some v)→σ[i]? = some (some v)):Inv X pins σ' H s:=
 ⟨I.ok,I.os,I.bare,I.base,let ⟨m,hn,hl'⟩:=I.loc; ⟨m,hn,fun i x v e1 e2 e3=>hl' i x v e1 (w i v e2) e3⟩,I.cell,I.free,I.freeC,I.pin,I.hok,hl.trans I.len⟩
theorem Inv.pins_of{pins':List (Addr × Obj)}(I:Inv X pins σ H s)(h:∀ p∈pins',s.heap.get? p.1=some p.2∧H p.1=none∧p.1≠X.env.locals∧p.1∉X.fs∧∀ v,p.2.data ≠ .cell v):Inv X pins' σ H s:=
 ⟨I.ok,I.os,I.bare,I.base,I.loc,I.cell,I.free,I.freeC,fun p hp=>(List.mem_append.mp hp).elim (fun z=>I.pin p (List.mem_append_left _ z)) (h p),I.hok,I.len⟩
theorem lD{N:List Str}(hN:N.Nodup){i j:Nat}{x:Str}(a:N[i]? = some x)(b:N[j]? = some x):i=j:=by
 obtain⟨h1,e1⟩:=List.getElem?_eq_some_iff.mp a
 obtain⟨h2,e2⟩:=List.getElem?_eq_some_iff.mp b
 exact(List.getElem_inj hN).mp (e1.trans e2.symm)
theorem j3{M:Model}{A:Around}{E:Value→Shared→Prop}{i:Nat}{x:Str}{v:V}{u:Value}{Q:Unit→Shared→Prop}(I:Inv X pins σ H s)(hN:X.N.Nodup)(hi:X.N[i]? = some x)(hx:aJ X.env.scope x)(r:RelV v u)
  (h:∀ s',Inv X pins (σ.set i (some v)) H s'→(∃ a,Heap.SameBut a s.heap s'.heap∧(a=X.env.locals∨X.env.cells.lookup x=some a))→Q () s') (hf:X.fn x=true∨X.env.scope.names.lookup x=some .local:=by first | exact .inl rfl | exact .inr rfl | assumption):wpAny M A (storeName X.env x u) Q E s:=by
 obtain⟨m,hn,hl⟩:=id I.loc
 have hcls:(X.env.scope.kind == .class||(X.env.scope.kind == .module&&X.env.locals != X.env.globals))=false:=by rw[I.ok.kind]; rfl
 have hiσ : i<σ.length:=by rw[I.len]; exact(List.getElem?_eq_some_iff.mp hi).1
 have cne:=I.cne
 have tracked:∀ {a:Addr} {h':Heap},(∃ o,s.heap.get? a=some o∧H a=none)→Heap.SameBut a s.heap h'→HOk X.prog X.w H h':=fun {a h'} ha hs b ob e=>by
  obtain⟨_,_,hfree⟩:=ha
  refine(I.hok b ob e).stay (fun c w' hc q=>(hs.2 c ?_).trans q) (fun _ q=>q) fun _ _ q=>q
  rintro rfl
  rcases hc with rfl | hc
  ·rw[hfree]at e; cases e
  ·rw[hfree]at hc; cases hc
 rcases hx with hk | hk
 ·refine wpAny_storeName_local hk hn (fun h' hn' hs=>?_) hcls
  obtain⟨oL,_,_,hoL,_⟩:=id hn
  refine h _ ⟨I.ok,I.os,I.bare,⟨fun b o e n hb hx=>?_,fun b o e n hb hx=>?_,I.base.free,fun b o e hx=>?_,I.base.tups,I.base.frzs,I.base.tbls⟩,⟨_,hn',fun j y v' e1 e2 e3=>?_⟩,fun y c e=>?_,I.free,I.freeC,fun p hp=>?_,tracked ⟨oL,hoL,I.free⟩ hs,by simpa using I.len⟩ ⟨_,hs,.inl rfl⟩
  ·exact(hs.2 b (Nat.ne_of_lt (Nat.lt_of_lt_of_le (Heap.lt_size e) I.ok.above))).trans (I.base.keep b o e n hb hx)
  ·obtain⟨sl,e1⟩:=I.base.slot b o e n hb hx
   exact⟨sl,(hs.2 b (Nat.ne_of_lt (Nat.lt_of_lt_of_le (Heap.lt_size e) I.ok.above))).trans e1⟩
  ·obtain⟨o',e1⟩:=I.base.there b o e hx
   exact⟨o',(hs.2 b (Nat.ne_of_lt (Nat.lt_of_lt_of_le (Heap.lt_size e) I.ok.above))).trans e1⟩
  ·by_cases hj:j=i
   ·subst hj
    rw[hi]at e1; cases e1
    rw[List.getElem?_set_self hiσ]at e2
    cases e2;exact⟨u,r,.inl ⟨hk,by simp⟩⟩
   ·rw[List.getElem?_set_ne (Ne.symm hj)]at e2
    obtain⟨u',r',q⟩:=hl j y v' e1 e2 e3
    refine⟨u',r',?_⟩
    rcases q with ⟨k,e⟩ | ⟨k,c,e,z⟩
    ·refine .inl ⟨k,?_⟩
     have:y≠x:=fun e=>hj (lD hN e1 (e ▸ hi))
     simp[this,e]
    ·exact .inr ⟨k,c,e,z.sameBut hs (cne y c e)⟩
  ·obtain⟨w',z⟩:=I.cell y c e
   exact⟨w',z.sameBut hs (cne y c e)⟩
  ·obtain⟨e,n,ne,nf,d⟩:=I.pin p hp
   exact⟨(hs.2 p.1 ne).trans e,n,ne,nf,d⟩
 ·have hfn:X.fn x=true:=by
   rcases hf with z | z
   ·exact z
   ·rw[z]at hk; cases hk
  obtain⟨c,hc⟩:=I.ok.has x (.inl hk)
  obtain⟨w',z⟩:=I.cell x c hc
  refine wpAny_storeName_cell I.ok.kind hk hc z (fun h' hc' hs=>?_)
  obtain⟨oc,hoc,hocd⟩:=id z
  refine h { s with heap:=h' } ⟨I.ok,I.os,I.bare,⟨fun b o e n hb hx=>?_,fun b o e n hb hx=>?_,I.base.free,fun b o e hx=>?_,I.base.tups,I.base.frzs,I.base.tbls⟩,⟨m,hn.sameBut hs (Ne.symm (cne x c hc)),fun j y v' e1 e2 e3=>?_⟩,fun y c' e=>?_,I.free,I.freeC,fun p hp=>?_,tracked ⟨oc,hoc,I.freeC x c hc⟩ hs,by simpa using I.len⟩ ⟨c,hs,.inr hc⟩
  ·exact(hs.2 b (Nat.ne_of_lt (Nat.lt_of_lt_of_le (Heap.lt_size e) (I.ok.cab x c hfn hc)))).trans (I.base.keep b o e n hb hx)
  ·obtain⟨sl,e1⟩:=I.base.slot b o e n hb hx
   exact⟨sl,(hs.2 b (Nat.ne_of_lt (Nat.lt_of_lt_of_le (Heap.lt_size e) (I.ok.cab x c hfn hc)))).trans e1⟩
  ·obtain⟨o',e1⟩:=I.base.there b o e hx
   exact⟨o',(hs.2 b (Nat.ne_of_lt (Nat.lt_of_lt_of_le (Heap.lt_size e) (I.ok.cab x c hfn hc)))).trans e1⟩
  ·by_cases hj:j=i
   ·subst hj
    rw[hi]at e1; cases e1
    rw[List.getElem?_set_self hiσ]at e2
    cases e2;exact⟨u,r,.inr ⟨.inl hk,c,hc,hc'⟩⟩
   ·rw[List.getElem?_set_ne (Ne.symm hj)]at e2
    obtain⟨u',r',q⟩:=hl j y v' e1 e2 e3
    refine⟨u',r',?_⟩
    rcases q with q | ⟨k,c',e,z'⟩
    ·exact .inl q
    ·refine .inr ⟨k,c',e,z'.sameBut hs ?_⟩
     rintro rfl
     exact hj (lD hN e1 (I.ok.inj _ _ _ e hc ▸ hi))
  ·by_cases hcc:c'=c
   ·subst hcc; exact⟨_,hc'⟩
   ·obtain⟨w2,z2⟩:=I.cell y c' e
    exact⟨w2,z2.sameBut hs hcc⟩
  ·obtain⟨e,n,ne,nf,d⟩:=I.pin p hp
   refine⟨(hs.2 p.1 ?_).trans e,n,ne,nf,d⟩
   intro q
   rw[q,hoc]at e
   have q':oc=p.2:=Option.some.inj e
   exact d w' (by rw[← q']; exact hocd)
theorem l_{M:Model}{A:Around}{E:Value→Shared→Prop}{i:Nat}{x:Str}{v:V}{u:Value}{Q:Unit→Shared→Prop}(I:Inv X pins σ H s)(hN:X.N.Nodup)(hi:X.N[i]? = some x)(hx:aJ X.env.scope x)(r:RelV v u)
  (h:∀ s',Inv X pins (σ.set i (some v)) H s'→Q () s') (hf:X.fn x=true∨X.env.scope.names.lookup x=some .local:=by first | exact .inl rfl | exact .inr rfl | assumption):wpAny M A (storeName X.env x u) Q E s:=
 j3 I hN hi hx r (fun s' I' _=>h s' I') hf
theorem Inv.call'{s':Shared}{ch:List Addr}(I:Inv X pins σ H s)(ho:s'.os=s.os)(u:Un (gJ X.stack) ch H H' s.heap s'.heap)(hok:HOk X.prog X.w H' s'.heap)(hg:AllBare s'.gens)
  (hch:∀ b∈ch,(b∈X.ex∨X.s₀.heap.objs.size≤b)∧b≠X.env.locals∧(∀ x c,X.env.cells.lookup x=some c→c≠b)∧∀ p∈X.pn++pins,p.1≠b):Inv X pins σ H' s':=by
 obtain⟨h',g',d',t',o'⟩:=s'
 have e:o'=s.os:=ho
 subst e;exact I.call (g':=g') (t':=t') (d':=d') u hok hg hch
end
abbrev XK:=Value→Option Addr→Hp→Prop
abbrev St:=List (Option V)
abbrev VK:=V→Hp→Prop
abbrev TE:=St→Hp→VK→Prop
abbrev TT:=St→Hp→(Bool→Hp→Prop)→Prop
abbrev TA:=St→Hp→(List V→Hp→Prop)→Prop
set_option genInjectivity false in
set_option genSizeOf false in
structure cB where
 nx:St→Hp→Prop
 rt:VK
 bk:St→Hp→Prop:=fun _ _=>False
 ct:St→Hp→Prop:=fun _ _=>False
abbrev TS:=cB→St→Hp→Prop
def EP(X:Cx)(pins:List (Addr × Obj))(σ : St)(Q:VK)(u:Value)(s':Shared):Prop:=∃ v H',Inv X pins σ H' s'∧RelV v u∧Q v H'
def TP(X:Cx)(pins:List (Addr × Obj))(σ : St)(Q:Bool→Hp→Prop)(b:Bool)(s':Shared):Prop:=∃ H',Inv X pins σ H' s'∧Q b H'
def AP(X:Cx)(pins:List (Addr × Obj))(σ : St)(Q:List V→Hp→Prop)(us:List Value)(s':Shared):Prop:=∃ vs H',Inv X pins σ H' s'∧Vals vs us∧Q vs H'
def SP(X:Cx)(pins:List (Addr × Obj))(D:cB)(f:Flow)(s':Shared):Prop:=
 match f with
 | .next=>∃ σ' H',Inv X pins σ' H' s'∧D.nx σ' H'
 | .brk=>∃ σ' H',Inv X pins σ' H' s'∧D.bk σ' H'
 | .cont=>∃ σ' H',Inv X pins σ' H' s'∧D.ct σ' H'
 | .ret u=>∃ v σ' H',Inv X pins σ' H' s'∧RelV v u∧D.rt v H'
def PE(X:Cx)(e:Expr)(t:TE):Prop:=
 ∀ (pins:List (Addr × Obj)) (s:Shared) (σ : St) (H:Hp) (Q:VK),Inv X pins σ H s→t σ H Q→wpAny (model X.prog X.w) X.A (eval e X.env) (EP X pins σ Q) X.xe s
def PT(X:Cx)(e:Expr)(t:TT):Prop:=
 ∀ (pins:List (Addr × Obj)) (s:Shared) (σ : St) (H:Hp) (Q:Bool→Hp→Prop),Inv X pins σ H s→t σ H Q→wpAny (model X.prog X.w) X.A (isTrue e X.env (eval e X.env)) (TP X pins σ Q) X.xe s
def PW(X:Cx)(e:Expr)(t:TT):Prop:=
 ∀ (whole:Sem Value) (pins:List (Addr × Obj)) (s:Shared) (σ : St) (H:Hp) (Q:Bool→Hp→Prop),Inv X pins σ H s→t σ H Q→wpAny (model X.prog X.w) X.A (isTrue e X.env whole) (TP X pins σ Q) X.xe s
theorem PW.pt{X:Cx}{e:Expr}{t:TT}(h:PW X e t):PT X e t:=h _
def PA(X:Cx)(es:List Expr)(t:TA):Prop:=
 ∀ (pos:Pos) (pins:List (Addr × Obj)) (s:Shared) (σ : St) (H:Hp) (Q:List V→Hp→Prop),Inv X pins σ H s→t σ H Q→wpAny (model X.prog X.w) X.A (spliced (backTo pos (starEach es X.env))) (AP X pins σ Q) X.xe s
def PS(X:Cx)(st:Stmt)(t:TS):Prop:=
 ∀ (pins:List (Addr × Obj)) (s:Shared) (σ : St) (H:Hp) (D:cB),Inv X pins σ H s→t D σ H→wpAny (model X.prog X.w) X.A (exec st X.env) (SP X pins D) X.xe s
def PSs(X:Cx)(st:List Stmt)(t:TS):Prop:=
 ∀ (pins:List (Addr × Obj)) (s:Shared) (σ : St) (H:Hp) (D:cB),Inv X pins σ H s→t D σ H→wpAny (model X.prog X.w) X.A (execs st X.env) (SP X pins D) X.xe s
theorem aL{α : Type}{t:Sem α}{Q Q':α→Shared→Prop}{M:Model}{A:Around}{E:Value→Shared→Prop}{s:Shared}(h:wpAny M A t Q E s)(hQ:∀ a s,Q a s→Q' a s):wpAny M A t Q' E s:=wpAny_mono h hQ fun _ _ x=>x
end L2
namespace L2
open PySem PySem.Spec PyProof.Rows
section
variable{X:Cx}
def s_(i:Nat):TE:=fun σ H Q=>∃ v,σ[i]? = some (some v)∧Q v H
def tC(v:V):TE:=fun _ H Q=>Q v H
theorem wN{i:Nat}{x:Str}{pos:Pos}(hN:X.N[i]? = some x)(hv:aq X.env.scope x)(hd:(x == ("__debug__" : Str))=false:=by decide) (hcd:(x == ("__classdict__" : Str))=false:=by decide):PE X (.Name x pos) (s_ i):=by
 intro pins s σ H Q I h
 obtain⟨v,e,h⟩:=h
 obtain⟨m,hn,hl⟩:=I.loc
 obtain⟨u,r,l⟩:=hl i x v hN e hv
 have fin:EP X pins σ Q u s:=⟨v,H,I,r,h⟩
 rcases l with ⟨hk,hm⟩ | ⟨hk,c,hc,hcell⟩
 ·exact wpAny_Name (wpAny_loadName_local I.ok.kind hk hn hm fin) hd
 ·rcases hk with hk | hk
  ·exact wpAny_Name (wpAny_loadName_cell I.ok.kind hk hc hcell fin) hd
  ·exact wpAny_Name (wpAny_loadName_free I.ok.kind hk hc hcell fin hcd) hd
theorem ab{i j pos}:PE X (.Constant (.int i) j pos) (tC (.int i)):=fun _ _ _ H _ I h=>wpAny_Constant_int ⟨.int i,H,I.tok _,⟨_,rfl⟩,h⟩
theorem cD{b j pos}:PE X (.Constant (.bool b) j pos) (tC (.bl b)):=fun _ _ _ H _ I h=>Constant_bool ⟨.bl b,H,I,rfl,h⟩
theorem aZ{j pos}:PE X (.Constant .none j pos) (tC .non):=fun _ _ _ H _ I h=>Constant_none ⟨.non,H,I,rfl,h⟩
theorem eF{x j pos}:PE X (.Constant (.str x) j pos) (tC (.str x)):=fun _ _ _ H _ I h=>Calls.Constant_str ⟨.str x,H,I.tok _,⟨_,rfl⟩,h⟩
def Gl(X:Cx)(x:Str):Prop:=X.env.kindOf x=some .globalImplicit
theorem vSs{s:Stmt}{x:Str}(h:(L2.defScope s).names.lookup x=some .local):aq (L2.defScope s) x:=Or.inl h
theorem vLl{s:Stmt}{x:Str}(h:(L2.defScope s).names.lookup x=some .local):aJ (L2.defScope s) x:=Or.inl h
theorem vGg{s:Stmt}{x:Str}(h:(L2.defScope s).names.lookup x=some .globalImplicit):(L2.defScope s).names.lookup x=some .globalImplicit:=h
theorem u5{E:Value→Shared→Prop}{pins:List (Addr × Obj)}{s:Shared}{σ : St}{H:Hp}{x:Str}{u:Value}{pos:Pos}{Q:Value→Shared→Prop}(I:Inv X pins σ H s)(hg:Gl X x)(hm:X.mg x=some u)(h:Q u s)
  (hd:(x == ("__debug__" : Str))=false:=by decide):wpAny (model X.prog X.w) X.A (eval (.Name x pos) X.env) Q E s:=
 Calls.Name_function_global I.ok.kind hg (Calls.loadGlobal_global (by rw[I.ok.glob]; exact I.mod.glob.keeps I.bk) hm h) hd
theorem cr{E:Value→Shared→Prop}{pins:List (Addr × Obj)}{s:Shared}{σ : St}{H:Hp}{x:Str}{u:Value}{pos:Pos}{Q:Value→Shared→Prop}(I:Inv X pins σ H s)(hg:Gl X x)(hm:X.mg x=none)(hv:bootBuiltins x=some u)(h:Q u s)
  (hn:x ≠ "__name__" := by decide) (hd:(x == ("__debug__" : Str))=false:=by decide):wpAny (model X.prog X.w) X.A (eval (.Name x pos) X.env) Q E s:=by
 obtain⟨mb,h1,h2⟩:=I.mod.blt
 exact Calls.Name_function_global I.ok.kind hg (Calls.loadGlobal_builtin (by rw[I.ok.glob]; exact I.mod.glob.keeps I.bk) hm (by rw[I.ok.blt]; exact h1.keeps I.bk) ((h2 x hn).trans hv) h) hd
theorem uJ{x:Str}{v:V}{u:Value}{pos:Pos}(hg:Gl X x)(hm:X.mg x=none)(hv:bootBuiltins x=some u)(r:RelV v u)(hn:x ≠ "__name__" := by decide) (hd:(x == ("__debug__" : Str))=false:=by decide):PE X (.Name x pos) (tC v):=
 fun _ _ _ H _ I h=>cr I hg hm hv ⟨v,H,I,r,h⟩ hn hd
variable{a b:Expr}{ta tb:TE}{pos:Pos}
def tB(t:TE):TT:=fun σ H Q=>t σ H fun x H1=>∃ c,x = .bl c∧Q c H1
theorem fR{e:Expr}{t:TE}(h:PE X e t)(he:∀ whole,isTrue e X.env whole=(do let v ← whole; standAt e.pos; holding [v] (truthy v)):=by intro _; rfl):PT X e (tB t):=by
 intro pins s σ H Q I hw
 refine isTrue_plain (aL (h pins s σ H _ I hw) fun v s1 ⟨x,H1,I1,r1,q1⟩=>?_) (he _)
 obtain⟨d,rfl,q⟩:=q1
 cases r1;exact wpAny_truthy_bool ⟨H1,I1,q⟩
variable{tA tB':TT}{rest:List Expr}
def xG(t u:TT):TT:=fun σ H Q=>t σ H fun c H1=>if c=true then u σ H1 Q else Q false H1
def yo(t u:TT):TT:=fun σ H Q=>t σ H fun c H1=>if c=true then Q true H1 else u σ H1 Q
def vm(t:TT):TT:=fun σ H Q=>t σ H fun c H1=>Q (!c) H1
theorem cz(ha:PT X a tA):PW X (.BoolOp .And [a] pos) tA:=by
 intro wh pins s σ H Q I h
 refine isTrue_and (aL (ha pins s σ H Q I h) fun c s1 e=>?_)
 cases c with
 | true=>exact isTrue_and_nil e
 | false=>exact e
theorem fX(ha:PT X a tA):PW X (.BoolOp .Or [a] pos) tA:=by
 intro wh pins s σ H Q I h
 refine isTrue_or (aL (ha pins s σ H Q I h) fun c s1 e=>?_)
 cases c with
 | false=>exact isTrue_or_nil e
 | true=>exact e
theorem b6(ha:PT X a tA)(hb:PW X (.BoolOp .And (b::rest) pos) tB'):PW X (.BoolOp .And (a::b::rest) pos) (xG tA tB'):=by
 intro wh pins s σ H Q I h
 refine isTrue_and (aL (ha pins s σ H _ I h) fun c s1 ⟨H1,I1,q1⟩=>?_)
 cases c with
 | true=>exact hb wh pins s1 σ H1 Q I1 q1
 | false=>exact⟨H1,I1,q1⟩
theorem ga(ha:PT X a tA)(hb:PW X (.BoolOp .Or (b::rest) pos) tB'):PW X (.BoolOp .Or (a::b::rest) pos) (yo tA tB'):=by
 intro wh pins s σ H Q I h
 refine isTrue_or (aL (ha pins s σ H _ I h) fun c s1 ⟨H1,I1,q1⟩=>?_)
 cases c with
 | true=>exact⟨H1,I1,q1⟩
 | false=>exact hb wh pins s1 σ H1 Q I1 q1
theorem gF(ha:PT X a tA):PT X (.UnaryOp .Not a pos) (vm tA):=by
 intro pins s σ H Q I h
 exact isTrue_not (ha pins s σ H (fun c H1=>Q (!c) H1) I h)
def tG(ta tb:TE):TE:=fun σ H Q=>ta σ H fun x H1=>∃ c,x = .bl c∧if c=true then tb σ H1 Q else Q (.bl false) H1
theorem wU{op}{t:TE}(h:PE X a t):PE X (.BoolOp op [a] pos) t:=fun pins s σ H Q I hw=>BoolOp_one (h pins s σ H Q I hw)
theorem pQ(ha:PE X a ta)(hb:PE X (.BoolOp .And (b::rest) pos) tb):PE X (.BoolOp .And (a::b::rest) pos) (tG ta tb):=by
 intro pins s σ H Q I h
 refine BoolOp_and (aL (ha pins s σ H _ I h) fun v s1 ⟨x,H1,I1,r1,q1⟩=>?_)
 obtain⟨c,rfl,q1⟩:=q1
 cases r1;refine wpAny_truthy_bool ?_
 cases c with
 | true=>exact hb pins s1 σ H1 Q I1 q1
 | false=>exact⟨.bl false,H1,I1,rfl,q1⟩
def ym(t:TT)(ta tb:TE):TE:=fun σ H Q=>t σ H fun c H1=>if c=true then ta σ H1 Q else tb σ H1 Q
theorem rP{c:Expr}(hc:PT X c tA)(ha:PE X a ta)(hb:PE X b tb):PE X (.IfExp c a b pos) (ym tA ta tb):=by
 intro pins s σ H Q I h
 refine wpAny_IfExp (aL (hc pins s σ H _ I h) fun d s1 ⟨H1,I1,q1⟩=>?_)
 cases d with
 | true=>exact ha pins s1 σ H1 Q I1 q1
 | false=>exact hb pins s1 σ H1 Q I1 q1
end
end L2
namespace L2
open PySem PySem.Spec PyProof.Rows
def SqL(K:PySem.W.Frag)(H:Hp)(a:Addr)(xs:List V):Prop:=
 Rd H a (.lst xs)∨
  ∃ (o:Obj) (its:Array Value) (n:Nat),K.lookup a=some o∧o.cls = .type "list" ∧ o.dict=none∧o.data = .seq its n∧its.size≤sizeLine∧Vals xs its.toList
def SqT(K:PySem.W.Frag)(H:Hp)(a:Addr)(xs:List V):Prop:=
 Rd H a (.tup xs)∨
  ∃ (o:Obj) (its:Array Value) (n:Nat),K.lookup a=some o∧o.cls = .type "tuple" ∧ o.data = .seq its n∧its.size≤sizeLine∧Vals xs its.toList
def zX:Value→Option V
 | .none=>some .non
 | .bool b=>some (.bl b)
 | .int i _=>some (.int i)
 | .str x _=>some (.str x)
 | .bytes b _=>some (.byt b)
 | .float b _=>some (.flt b)
 | .ref a=>some (.ref a)
 | .type n=>some (.ty n)
 | _=>none
theorem RelV.abs{x:V}{u:Value}(r:RelV x u):zX u=some x:=by
 cases x with
 | non=>cases r; rfl
 | bl _=>cases r; rfl
 | int _=>obtain⟨t,rfl⟩:=r; rfl
 | str _=>obtain⟨t,rfl⟩:=r; rfl
 | byt _=>obtain⟨t,rfl⟩:=r; rfl
 | flt _=>obtain⟨t,rfl⟩:=r; rfl
 | ref _=>cases r; rfl
 | ty _=>cases r; rfl
theorem RelV.inj{x y:V}{u:Value}(r:RelV x u)(q:RelV y u):x=y:=Option.some.inj (r.abs.symm.trans q.abs)
theorem Vals.inj:∀ {xs ys:List V} {us:List Value},Vals xs us→Vals ys us→xs=ys
 | _,_,_,.nil,.nil=>rfl
 | _,_,_,.cons r t,.cons r' t'=>by rw[r.inj r',Vals.inj t t']
section
variable{X:Cx}{pins:List (Addr × Obj)}{σ : St}{H:Hp}{s:Shared}{a:Addr}{xs ys:List V}
theorem SqL.of{K:PySem.W.Frag}(h:H a=some (.lst xs)):SqL K H a xs:=.inl (.inl h)
theorem SqT.of{K:PySem.W.Frag}(h:H a=some (.tup xs)):SqT K H a xs:=.inl (.inl h)
theorem Inv.list(I:Inv X pins σ H s)(h:SqL X.K H a xs):∃ its:List Value,Vals xs its∧PlainL s.heap a its.toArray∧xs.length≤sizeLine:=by
 rcases h with h | ⟨o,its,n,hk,hc,hd,hs,hz,r⟩
 ·obtain⟨z,its,n,r,e⟩:=h.ok I.hok
  exact⟨its,r,⟨_,n,e,rfl,rfl,rfl⟩,z⟩
 ·refine⟨its.toList,r,⟨o,n,I.kIn a o hk,hc,hd,by simpa using hs⟩,?_⟩
  have e:=r.length;simp only[Array.length_toList]at e
  omega
theorem Inv.tuple(I:Inv X pins σ H s)(h:SqT X.K H a xs):∃ its:List Value,Vals xs its∧IsTup s.heap a its.toArray∧xs.length≤sizeLine:=by
 rcases h with h | ⟨o,its,n,hk,hc,hs,hz,r⟩
 ·obtain⟨z,its,r,p⟩:=h.ok I.hok
  exact⟨its,r,p.tup,z⟩
 ·refine⟨its.toList,r,⟨o,I.kIn a o hk,hc,n,by simpa using hs⟩,?_⟩
  have e:=r.length;simp only[Array.length_toList]at e
  omega
theorem Inv.list_inj(I:Inv X pins σ H s)(h:SqL X.K H a xs)(h':SqL X.K H a ys):xs=ys:=by
 obtain⟨its,r,⟨o,n,e,_,_,d⟩,_⟩:=I.list h
 obtain⟨its',r',⟨o',n',e',_,_,d'⟩,_⟩:=I.list h'
 rw[e]at e'; cases e'
 rw[d]at d'
 injection d' with d1 _
 have:its=its':=by simpa using congrArg Array.toList d1
 subst this;exact r.inj r'
theorem Inv.tuple_inj(I:Inv X pins σ H s)(h:SqT X.K H a xs)(h':SqT X.K H a ys):xs=ys:=by
 obtain⟨its,r,⟨o,e,_,n,d⟩,_⟩:=I.tuple h
 obtain⟨its',r',⟨o',e',_,n',d'⟩,_⟩:=I.tuple h'
 rw[e]at e'; cases e'
 rw[d]at d'
 injection d' with d1 _
 have:its=its':=by simpa using congrArg Array.toList d1
 subst this;exact r.inj r'
end
abbrev Cx.wish (X:Cx) (E:Value→Shared→Prop):Cx:={ X with xe:=E }
abbrev Cx.nox (X:Cx):Cx:=X.wish fun _ _=>False
theorem Cx.Ok.wish{X:Cx}(ok:X.Ok)(E:Value→Shared→Prop):(X.wish E).Ok:=
 ⟨ok.mod,ok.kind,ok.glob,ok.blt,ok.above,ok.inj,ok.has,ok.cab,ok.hd,ok.frames,ok.stk,ok.exf,ok.bs,ok.bsz,ok.noex,ok.exfs,ok.funs,ok.frf⟩
theorem Cx.Ok.unwish{X:Cx}{E:Value→Shared→Prop}(ok:(X.wish E).Ok):X.Ok:=
 ⟨ok.mod,ok.kind,ok.glob,ok.blt,ok.above,ok.inj,ok.has,ok.cab,ok.hd,ok.frames,ok.stk,ok.exf,ok.bs,ok.bsz,ok.noex,ok.exfs,ok.funs,ok.frf⟩
section
variable{X:Cx}{pins:List (Addr × Obj)}{σ : St}{H:Hp}{s:Shared}{E:Value→Shared→Prop}
theorem Inv.wish(I:Inv X pins σ H s)(E:Value→Shared→Prop):Inv (X.wish E) pins σ H s:=⟨I.ok.wish E,I.os,I.bare,I.base,I.loc,I.cell,I.free,I.freeC,I.pin,I.hok,I.len⟩
theorem Inv.unwish(I:Inv (X.wish E) pins σ H s):Inv X pins σ H s:=⟨I.ok.unwish,I.os,I.bare,I.base,I.loc,I.cell,I.free,I.freeC,I.pin,I.hok,I.len⟩
theorem SP.unwish{D:cB}{f:Flow}{s':Shared}(h:SP (X.wish E) pins D f s'):SP X pins D f s':=by
 cases f with
 | next=>obtain⟨σ',H',I,q⟩:=h; exact⟨σ',H',I.unwish,q⟩
 | brk=>obtain⟨σ',H',I,q⟩:=h; exact⟨σ',H',I.unwish,q⟩
 | cont=>obtain⟨σ',H',I,q⟩:=h; exact⟨σ',H',I.unwish,q⟩
 | ret u=>obtain⟨v,σ',H',I,r,q⟩:=h; exact⟨v,σ',H',I.unwish,r,q⟩
theorem PSs.nox{st:List Stmt}{t:TS}(h:PSs X.nox st t):PSs X st t:=fun pins s σ H D I hw=>
 wpAny_mono (h pins s σ H D (I.wish _) hw) (fun _ _ q=>q.unwish) fun _ _ z=>False.elim z
end
section
variable{X:Cx}{st:Stmt}{rest:List Stmt}{t u:TS}{e:Expr}{te:TE}{pos:Pos}
def tN:TS:=fun D σ H=>D.nx σ H
def sO(t u:TS):TS:=fun D σ H=>t { D with nx:=u D } σ H
theorem aP:PSs X [] tN:=fun _ _ σ H _ I h=>wpAny_execs_nil ⟨σ,H,I,h⟩
theorem af(h1:PS X st t)(h2:PSs X rest u):PSs X (st::rest) (sO t u):=by
 intro pins s σ H D I h
 refine wpAny_execs_cons (aL (h1 pins s σ H { D with nx:=u D } I h) fun f s1 q=>?_)
 cases f with
 | next=>
  obtain⟨σ',H',I',q⟩:=q
  exact h2 pins s1 σ' H' D I' q
 | ret v=>exact q
 | brk=>exact q
 | cont=>exact q
theorem ak(h1:PS X st t):PSs X [st] t:=by
 intro pins s σ H D I h
 refine wpAny_execs_cons (aL (h1 pins s σ H D I h) fun f s1 q=>?_)
 cases f with
 | next=>exact wpAny_execs_nil q
 | ret v=>exact q
 | brk=>exact q
 | cont=>exact q
def tF:TS:=fun D σ H=>D.ct σ H
theorem mH:PS X (.Continue pos) tF:=fun _ _ σ H _ I h=>wpAny_Continue ⟨σ,H,I,h⟩
theorem Inv.quiet{pins:List (Addr × Obj)}{σ : St}{H:Hp}{s:Shared}(I:Inv X pins σ H s):interactive X.env=false:=by simp[interactive,I.ok.kind]
def tL(te:TE):TS:=fun D σ H=>te σ H fun _ H1=>D.nx σ H1
theorem ce(he:PE X e te)(hs:swapsWith e none pos.line X.env=pure false:=by rfl):PS X (.Expr e pos) (tL te):=by
 intro pins s σ H D I h
 exact wpAny_Expr_any (aL (he pins s σ H _ I h) fun v s1 ⟨x,H1,I1,r1,q1⟩=>⟨σ,H1,I1,q1⟩) I.quiet hs
def vG(te:TE):TS:=fun D σ H=>te σ H D.rt
theorem aR(he:PE X e te):PS X (.Return (some e) pos) (vG te):=by
 intro pins s σ H D I h
 exact wpAny_Return_some (aL (he pins s σ H _ I h) fun v s1 ⟨x,H1,I1,r1,q1⟩=>⟨x,σ,H1,I1,r1,q1⟩)
def vi(c:TT)(t u:TS):TS:=fun D σ H=>c σ H fun b H1=>if b=true then t D σ H1 else u D σ H1
theorem bd{c:Expr}{a b:List Stmt}{tc:TT}(hc:PT X c tc)(ha:PSs X a t)(hb:PSs X b u):PS X (.If c a b pos) (vi tc t u):=by
 intro pins s σ H D I h
 refine wpAny_If (aL (hc pins s σ H _ I h) fun d s1 ⟨H1,I1,q1⟩=>?_)
 cases d with
 | true=>exact ha pins s1 σ H1 D I1 q1
 | false=>exact hb pins s1 σ H1 D I1 q1
def xL:TS:=fun _ _ _=>False
theorem sq:PS X st xL:=fun _ _ _ _ _ _ h=>h.elim
end
abbrev TG:=V→St→Hp→(St→Hp→Prop)→Prop
abbrev iR:=List V→St→Hp→(St→Hp→Prop)→Prop
def PG(X:Cx)(target:Expr)(t:TG):Prop:=
 ∀ (pins:List (Addr × Obj)) (s:Shared) (σ : St) (H:Hp) (v:V) (u:Value) (Q:St→Hp→Prop),Inv X pins σ H s→RelV v u→t v σ H Q→
  wpAny (model X.prog X.w) X.A (assign target X.env u) (fun _ s'=>∃ σ' H',Inv X pins σ' H' s'∧Q σ' H') X.xe s
def PGs(X:Cx)(ts:List Expr)(t:iR):Prop:=
 ∀ (pins:List (Addr × Obj)) (s:Shared) (σ : St) (H:Hp) (vs:List V) (us:List Value) (Q:St→Hp→Prop),Inv X pins σ H s→Vals vs us→t vs σ H Q→
  wpAny (model X.prog X.w) X.A (assignInOrder ((assignEach ts X.env).map (·.2)) us) (fun _ s'=>∃ σ' H',Inv X pins σ' H' s'∧Q σ' H') X.xe s
abbrev ij:=V→V→V→Hp→(Hp→Prop)→Prop
def PSet(X:Cx)(t:ij):Prop:=
 ∀ (pins:List (Addr × Obj)) (s:Shared) (σ : St) (H:Hp) (o i v:V) (ov iv u:Value) (Q:Hp→Prop),Inv X pins σ H s→RelV o ov→RelV i iv→RelV v u→t o i v H Q→
  wpAny (model X.prog X.w) X.A (setItem ov iv u) (fun _ s'=>∃ H',Inv X pins σ H' s'∧Q H') X.xe s
section
variable{X:Cx}{pos:Pos}
def hX(i:Nat):TG:=fun v σ H Q=>Q (σ.set i (some v)) H
theorem uW{i:Nat}{x:Str}(hN:X.N.Nodup)(hi:X.N[i]? = some x)(hx:aJ X.env.scope x)(hf:X.fn x=true∨X.env.scope.names.lookup x=some .local:=by first | exact .inl rfl | exact .inr rfl | assumption):PG X (.Name x pos) (hX i):=by
 intro pins s σ H v u Q I r h
 exact wpAny_assign_Name (l_ I hN hi hx r (fun s' I'=>⟨_,H,I',h⟩) hf)
def xN:iR:=fun vs σ H Q=>vs=[]∧Q σ H
def tE(t:TG)(u:iR):iR:=fun vs σ H Q=>∃ v r,vs=v::r∧t v σ H fun σ' H'=>u r σ' H' Q
theorem gR:PGs X [] xN:=by
 intro pins s σ H vs us Q I r h
 obtain⟨e,h⟩:=h
 subst e
 cases r;exact assignInOrder_nil ⟨σ,H,I,h⟩
theorem b8{e:Expr}{es:List Expr}{t:TG}{u:iR}(h1:PG X e t)(h2:PGs X es u)
  (hs:(assignEach (e::es) X.env).map (·.2)=assign e X.env::(assignEach es X.env).map (·.2):=by rfl):PGs X (e::es) (tE t u):=by
 intro pins s σ H vs us Q I r h
 obtain⟨v,vr,e1,h⟩:=h
 subst e1
 cases r with
 | cons r rr=>
  rw[hs];refine assignInOrder_cons (aL (h1 pins s σ H _ _ _ I r h) fun _ s1 ⟨σ1,H1,I1,q1⟩=>?_)
  exact h2 pins s1 σ1 H1 _ _ Q I1 rr q1
def rF(K:PySem.W.Frag)(n:Nat)(t:iR):TG:=fun v σ H Q=>∃ a xs,v = .ref a∧SqT K H a xs∧xs.length=n∧t xs σ H Q
theorem w9{es:List Expr}{k:Nat}{t:iR}{n:Nat}(hc:X.calm=true)(h:PGs X es t)
  (hn:(assignEach es X.env).length=n:=by rfl) (hst:(assignEach es X.env).findIdx? (·.1)=none:=by rfl):PG X (.Tuple es k pos) (rF X.K n t):=by
 intro pins s σ H v u Q I r hw
 obtain⟨a,xs,e1,hq,hl,hw⟩:=hw
 subst e1
 cases r;obtain⟨its,rv,ht,hz⟩:=I.tuple hq
 refine assign_Tuple_tuple (I.ok.hd hc) ht (by simp[hn,← hl,rv.length]) hst fun h' hx=>?_
 have I1:Inv X pins σ H { s with heap:=h' }:=I.kept (t':=s.toks) fun b o e=>hx b o (Nat.ne_of_lt (Heap.lt_size e)) e
 exact h pins _ σ H xs _ Q I1 (by simpa using rv) hw
def xg(to ti:TE)(t:ij):TG:=fun v σ H Q=>to σ H fun o H1=>ti σ H1 fun i H2=>t o i v H2 fun H3=>Q σ H3
theorem cu{o i:Expr}{to ti:TE}{t:ij}(ho:PE X o to)(hi:PE X i ti)(hs:PSet X t)
  (ha:∀ v,assign (.Subscript o i pos) X.env v=(do
   let ov ← holding [v] (eval o X.env)
   let iv ← holding [v,ov] (eval i X.env)
   standAt pos
   holding [v,ov,iv] (setItem ov iv v)
   release [v,ov,iv] []):=by intro _; rfl):PG X (.Subscript o i pos) (xg to ti t):=by
 intro pins s σ H v u Q I r h
 rw[ha];refine wpAny_bind (wpAny_holding (aL (ho pins s σ H _ I h) fun ov s1 ⟨x,H1,I1,r1,q1⟩=>?_))
 refine wpAny_bind (wpAny_holding (aL (hi pins s1 σ H1 _ I1 q1) fun iv s2 ⟨y,H2,I2,r2,q2⟩=>?_))
 refine wpAny_bind (wpAny_standAt (wpAny_bind (wpAny_holding (aL (hs pins s2 σ H2 x y v ov iv u _ I2 r1 r2 r q2) fun _ s3 ⟨H3,I3,q3⟩=>?_))))
 exact wpAny_release ⟨σ,H3,I3,q3⟩
def kN(te:TE)(g:TG):TS:=fun D σ H=>te σ H fun x H1=>g x σ H1 D.nx
theorem cg{tg e:Expr}{te:TE}{g:TG}(he:PE X e te)(hg:PG X tg g)(hs:swapsWithSole [tg] e pos.line X.env=pure false:=by rfl)(hw:swappedStores [tg] e X.env=pure none:=by rfl)
  (h1:(assignEach [tg] X.env).map (·.2)=[assign tg X.env]:=by rfl):PS X (.Assign [tg] e pos) (kN te g):=by
 intro pins s σ H D I h
 refine wpAny_Assign_stores (aL (he pins s σ H _ I h) fun v s1 ⟨x,H1,I1,r1,q1⟩=>?_) hs hw
 rw[h1];exact aL (hg pins s1 σ H1 x v _ I1 r1 q1) fun _ s2 q=>q
theorem xH{i:Nat}{x:Str}{e:Expr}{te:TE}{pos':Pos}(hN:X.N.Nodup)(hi:X.N[i]? = some x)(hx:aJ X.env.scope x)(he:PE X e te)(hs:swapsWith e (some (.Name x pos')) pos.line X.env=pure false:=by rfl)(hf:X.fn x=true∨X.env.scope.names.lookup x=some .local:=by first | exact .inl rfl | exact .inr rfl | assumption) :
  PS X (.Assign [.Name x pos'] e pos) (kN te (hX i)):=by
 intro pins s σ H D I h
 refine wpAny_Assign_Name (aL (he pins s σ H _ I h) fun v s1 ⟨y,H1,I1,r1,q1⟩=>?_) hs
 exact l_ I1 hN hi hx r1 (fun s2 I2=>⟨_,H1,I2,q1⟩) hf
end
section
variable{X:Cx}{pos:Pos}
def wv(c:TT)(tb:TS):TS:=fun D σ H=>∃ W:Nat→St→Hp→Prop,(∃ m,W m σ H)∧∀ m σ H,W m σ H→
 c σ H fun b H1=>if b=true then ∃ N:St→Hp→Prop,(∀ σ' H',N σ' H'→∃ m',m'<m∧W m' σ' H')∧tb { D with nx:=N,ct:=N,bk:=D.nx } σ H1 else D.nx σ H1
theorem i6{c:Expr}{body:List Stmt}{tc:TT}{tb:TS}(hp:PassesOwn (model X.prog X.w) X.A X.env X.xe)(hc:PT X c tc)(hb:PSs X body tb):PS X (.While c body [] pos) (wv tc tb):=by
 intro pins s σ H D I h
 obtain⟨W,⟨m0,w0⟩,turn⟩:=h
 refine wpAny_While (codeAny_whileLoop (fun n s'=>∃ σ' H',Inv X pins σ' H' s'∧W n σ' H') ?_ m0 ⟨σ,H,I,w0⟩)
 rintro n s1 ⟨σ1,H1,I1,w1⟩
 refine wpAny_passesOwn hp (aL (hc pins s1 σ1 H1 _ I1 (turn n σ1 H1 w1)) fun b s2 ⟨H2,I2,q2⟩=>?_)
 cases b with
 | true=>
  obtain⟨N,hN,q2⟩:=q2
  rw[if_pos rfl];refine wpAny_passesOwn hp (aL (hb pins s2 σ1 H2 _ I2 q2) fun f s3 q3=>?_)
  cases f with
  | next=>
   obtain⟨σ3,H3,I3,n3⟩:=q3
   obtain⟨m',hm,w3⟩:=hN σ3 H3 n3
   exact⟨m',hm,σ3,H3,I3,w3⟩
  | cont=>
   obtain⟨σ3,H3,I3,n3⟩:=q3
   obtain⟨m',hm,w3⟩:=hN σ3 H3 n3
   exact⟨m',hm,σ3,H3,I3,w3⟩
  | brk=>exact q3
  | ret v=>exact q3
 | false=>
  rw[if_neg Bool.false_ne_true];exact wpAny_execs_nil ⟨σ1,H2,I2,q2⟩
end
set_option genInjectivity false in
set_option genSizeOf false in
structure It where
 go:Nat→Hp→Prop
 yld:Nat→Hp→V→Hp→Prop
 stop:Nat→Hp→Prop
def eQ(X:Cx)(pins:List (Addr × Obj))(H:Hp)(b:Addr):Prop:=
 H b=none∧b≠X.env.locals∧b∉X.fs∧(b∈X.ex∨X.s₀.heap.objs.size≤b)∧(∀ x c,X.env.cells.lookup x=some c→c≠b)∧∀ p∈X.pn++pins,p.1≠b
theorem Inv.fpOk{X:Cx}{pins:List (Addr × Obj)}{σ : St}{H H':Hp}{s:Shared}{b:Addr}(I:Inv X pins σ H s)(hb:s.heap.objs.size≤b)(hn:H' b=none):eQ X pins H' b:=by
 refine⟨hn,Nat.ne_of_gt (Nat.lt_of_lt_of_le I.lt hb),I.nofs hb,.inr (Nat.le_trans I.sz hb),fun x c e z=>?_,fun p hp z=>?_⟩
 ·obtain⟨v,q⟩:=I.cell x c e
  exact absurd (Nat.lt_of_lt_of_le q.lt (by rw[z]; exact hb)) (Nat.lt_irrefl _)
 ·exact absurd (Nat.lt_of_lt_of_le (Heap.lt_size (I.pin p hp).1) (by rw[z]; exact hb)) (Nat.lt_irrefl _)
structure iy (P:Program) (w:World) (K:PySem.W.Frag) (tg:Expr) (J:It) (fp:List Addr) (it:Addr) (tn:Nat→Heap→Prop):Prop where
 mem:it∈fp
 obj:∀ i h,tn i h→∀ b∈fp,∃ o,h.get? b=some o∧∀ v,o.data ≠ .cell v
 keep:∀ i h h',tn i h→(∀ b∈fp,∀ o,h.get? b=some o→h'.get? b=some o)→tn i h'
 item:∀ (X:Cx),X.prog=P→X.w=w→X.K=K→X.calm=true→∀ (i:Nat) (pins:List (Addr × Obj)) (s:Shared) (σ : St) (H:Hp) (E:Value→Shared→Prop),Inv X pins σ H s→(∀ b∈fp,eQ X pins H b)→tn i s.heap→J.go i H→
  wpAny (model P w) X.A (pyNext (.ref it)) (fun r s1=>∃ u,r=some u∧
   wpAny (model P w) X.A (letOwnedTupleGo tg (.ref it) u) (fun _ s2=>∃ x H',Inv X pins σ H' s2∧RelV x u∧J.yld i H x H'∧tn (i+1) s2.heap∧∀ b∈fp,H' b=none) E s1) E s
 done:∀ (X:Cx),X.prog=P→X.w=w→X.K=K→X.calm=true→∀ (i:Nat) (pins:List (Addr × Obj)) (s:Shared) (σ : St) (H:Hp) (E:Value→Shared→Prop),Inv X pins σ H s→(∀ b∈fp,eQ X pins H b)→tn i s.heap→J.stop i H→
  wpAny (model P w) X.A (pyNext (.ref it)) (fun r s1=>r=none∧Inv X pins σ H s1) E s
 self:∀ (A:Around) (i:Nat) (s:Shared) (Q:Value→Shared→Prop) (E:Value→Shared→Prop),tn i s.heap→Q (.ref it) s→wpAny (model P w) A (pyIter (.ref it)) Q E s
abbrev TI:=St→Hp→(It→Hp→Prop)→Prop
def yF(X:Cx)(pins:List (Addr × Obj))(σ : St)(tg:Expr)(R:It→Hp→Prop)(itv:Value)(s2:Shared):Prop:=
 ∃ (it:Addr) (fp:List Addr) (tn:Nat→Heap→Prop) (J:It) (H':Hp),itv = .ref it∧Inv X pins σ H' s2∧iy X.prog X.w X.K tg J fp it tn∧tn 0 s2.heap∧(∀ b∈fp,eQ X pins H' b)∧R J H'
def PI(X:Cx)(tg iter:Expr)(wi:TI):Prop:=
 ∀ (pins:List (Addr × Obj)) (s:Shared) (σ : St) (H:Hp) (R:It→Hp→Prop),Inv X pins σ H s→wi σ H R→
  wpAny (model X.prog X.w) X.A (eval iter X.env) (fun v s1=>wpAny (model X.prog X.w) X.A (pyIter v) (yF X pins σ tg R) X.xe s1) X.xe s
theorem ox{M:Model}{A:Around}{E:Value→Shared→Prop}{s:Shared}{tg:Expr}{it:Addr}{u:Value}{o:Obj}{n:String}{vs:Array Value}{Q:Unit→Shared→Prop}(ho:s.heap.get? it=some o)(hc:o.cls = .type n)(hd:o.data = .fields vs)
    (hn:["enumerate", "zip", "dict_itemiterator", "dict_reverseitemiterator", "odict_iterator", "itertools.zip_longest", "itertools.pairwise"].contains n=false) (hQ:Q () s):wpAny M A (letOwnedTupleGo tg (.ref it) u) Q E s:=by
  unfold letOwnedTupleGo
  cases tg <;> first
    | exact wpAny_pure hQ
    | (cases u <;> first
        | exact wpAny_pure hQ
        | (refine wpAny_bind (wpAny_load ho ?_)
           rw[hc,hd];show wpAny M A (if (["enumerate", "zip", "dict_itemiterator", "dict_reverseitemiterator", "odict_iterator", "itertools.zip_longest", "itertools.pairwise"].contains n&&vs[0]? == some (rawInt _))=true then _ else _) Q E s
           rw[if_neg (by intro h; rw[hn,Bool.false_and]at h; cases h)]
           exact wpAny_pure hQ))
def jp(K:PySem.W.Frag)(a:Addr):It:=
 ⟨fun i H=>∃ xs x,SqL K H a xs∧xs[i]? = some x,fun i H x H'=>H'=H∧∀ xs,SqL K H a xs→xs[i]? = some x,fun i H=>∃ xs,SqL K H a xs∧xs.length≤i⟩
def ik(lo:Int)(n:Nat):It:=⟨fun i _=>i<n,fun i H x H'=>H'=H∧x = .int (lo+i),fun i _=>n≤i⟩
theorem pC{P:Program}{w:World}{K:PySem.W.Frag}{tg:Expr}(a it:Addr):iy P w K tg (jp K a) [it] it (fun i h=>h.IsListIter it a i) where
 mem:=by simp
 obj:=fun i h st b hb=>by
  have e:b=it:=by simpa using hb
  subst e;obtain⟨o,e,c,d⟩:=st
  exact⟨o,e,fun v z=>by rw[d]at z; cases z⟩
 keep:=fun i h h' st k=>st.at fun o e=>k it (by simp) o e
 item:=by
  intro X hP hw hK hc i pins s σ H E I hf st hg
  subst hP hw hK;obtain⟨xs,x,hq,hx⟩:=hg
  obtain⟨its,rv,p,hz⟩:=I.list hq
  obtain⟨u,hu,ru⟩:=rv.get hx
  obtain⟨f0,f1,f2,f3,f4,f5⟩:=hf it (by simp)
  refine wpAny_pyNext_list_item st p.isList (x:=u) (by simpa using hu) fun h' st' sb=>?_
  have I1:Inv X pins σ H { s with heap:=h' }:=I.turned (t':=s.toks) (fun b o hb e=>(sb.2 b hb).trans e) f0 f1 f3 f4 f5
  obtain⟨o,e,c,d⟩:=id st'
  exact⟨u,rfl,ox (s:={ s with heap:=h' }) e c d (by decide) ⟨x,H,I1,ru,⟨rfl,fun ys hy=>by rw[I.list_inj hy hq]; exact hx⟩,st',fun b hb=>(hf b hb).1⟩⟩
 done:=by
  intro X hP hw hK hc i pins s σ H E I hf st hg
  subst hP hw hK;obtain⟨xs,hq,hx⟩:=hg
  obtain⟨its,rv,p,hz⟩:=I.list hq
  obtain⟨f0,f1,f2,f3,f4,f5⟩:=hf it (by simp)
  have hl:=rv.length;exact wpAny_pyNext_list_end (I.ok.hd hc) st p.isList (by simp; omega) fun h' eb=>⟨rfl,I.turned (t':=s.toks) (fun b o hb e=>eb b o hb e) f0 f1 f3 f4 f5⟩
 self:=fun _ _ _ _ _ st h=>wpAny_pyIter_listiter st h
theorem oo{P:Program}{w:World}{K:PySem.W.Frag}{tg:Expr}(it:Addr)(lo:Int)(n:Nat):iy P w K tg (ik lo n) [it] it (fun i h=>IsRangeIter h it (lo+(i:Nat) * 1) ((n:Int) - (i:Nat)) 1) where
 mem:=by simp
 obj:=fun i h st b hb=>by
  have e:b=it:=by simpa using hb
  subst e
  exact⟨_,st,fun v z=>by
   have z':Data.fields _=Data.cell v:=z
   cases z'⟩
 keep:=fun i h h' st k=>k it (by simp) _ st
 item:=by
  intro X hP hw hK hc i pins s σ H E I hf st hg
  subst hP hw hK;obtain⟨f0,f1,f2,f3,f4,f5⟩:=hf it (by simp)
  have W:=Walks.range (prog:=X.prog) (w:=X.w) (I.ok.hd hc) it lo 1 n;refine W.item i s _ _ hg st fun v h' tk hv st' kk=>?_
  obtain⟨t,rfl⟩:=hv
  have I1:Inv X pins σ H { s with heap:=h',toks:=tk }:=I.turned (fun b o hb e=>kk b o (by simpa using hb) e) f0 f1 f3 f4 f5
  refine⟨_,rfl,ox (s:={ s with heap:=h',toks:=tk }) (n := "range_iterator") st' rfl rfl (by decide) ⟨.int (lo+i),H,I1,⟨t,?_⟩,⟨rfl,rfl⟩,st',fun b hb=>(hf b hb).1⟩⟩
  rw[Int.mul_one]
 done:=by
  intro X hP hw hK hc i pins s σ H E I hf st hg
  subst hP hw hK;obtain⟨f0,f1,f2,f3,f4,f5⟩:=hf it (by simp)
  exact wpAny_pyNext_range_end (I.ok.hd hc) st (by have:n≤i:=hg; omega) fun h' eb=>⟨rfl,I.turned (t':=s.toks) (fun b o hb e=>eb b o hb e) f0 f1 f3 f4 f5⟩
 self:=fun _ _ _ _ _ st h=>wpAny_pyIter_rangeiter st h
end L2
namespace L2
open PySem PySem.Spec PyProof.Rows
section
variable{X:Cx}{tg:Expr}
def n8(K:PySem.W.Frag)(tl:TE):TI:=fun σ H R=>tl σ H fun x H1=>∃ a,x = .ref a∧(∃ xs,SqL K H1 a xs)∧R (jp K a) H1
theorem uC{l:Expr}{tl:TE}(hl:PE X l tl):PI X tg l (n8 X.K tl):=by
 intro pins s σ H R I h
 refine aL (hl pins s σ H _ I h) fun v s1 ⟨x,H1,I1,r1,q1⟩=>?_
 obtain⟨a,e,⟨xs,hq⟩,q⟩:=q1
 subst e
 cases r1;obtain⟨its,rv,p,hz⟩:=I1.list hq
 refine wpAny_pyIter_list p.isList ?_
 refine⟨s1.heap.objs.size,[s1.heap.objs.size],_,_,H1,rfl,I1.kept (t':=s1.toks) fun b o e=>Heap.get?_push_of_some _ e,pC a _,⟨_,Heap.get?_push_size _ rfl,rfl,rfl⟩,fun b hb=>?_,q⟩
 have e:b=s1.heap.objs.size:=by simpa using hb
 subst e;exact I1.fpOk (Nat.le_refl _) (I1.hok.fresh (Nat.le_refl _))
theorem md{pins:List (Addr × Obj)}{σ : St}{H:Hp}{s:Shared}{R:It→Hp→Prop}{E:Value→Shared→Prop}{lo hi:Int}{t u v:Tok}{tk:Nat}(I:Inv X pins σ H s)(h1:-(2 ^ 62)≤lo)(h2:lo<2 ^ 62)(h3:-(2 ^ 62)≤hi)(h4:hi<2 ^ 62)
  (q:R (ik lo (hi - lo).toNat) H):wpAny (model X.prog X.w) X.A (pyIter (.ref s.heap.objs.size)) (yF X pins σ tg R) E { s with heap:=s.heap.push { cls:=.type "range", data:=.fields #[.int lo t,.int hi u,.int 1 v] },toks:=tk }:=by
 refine wpAny_pyIter_range (IsRange.new ..) (small_one h1 h2 h3 h4) ?_
 have I1:Inv X pins σ H { s with heap:=s.heap.push { cls:=.type "range", data:=.fields #[.int lo t,.int hi u,.int 1 v] },toks:=tk }:=I.kept fun b o e=>Heap.get?_push_of_some _ e
 refine⟨(s.heap.push { cls:=.type "range", data:=.fields #[.int lo t,.int hi u,.int 1 v] }).objs.size,[(s.heap.push { cls:=.type "range", data:=.fields #[.int lo t,.int hi u,.int 1 v] }).objs.size],_,_,H,rfl,
  I1.kept (t':=tk) fun b o e=>Heap.get?_push_of_some _ e,oo _ lo (hi - lo).toNat,?_,fun b hb=>?_,q⟩
 ·have e1:lo+((0:Nat):Int) * 1=lo:=by simp
  have e2:(((hi - lo).toNat:Nat):Int) - ((0:Nat):Int)=Builtin.Range.rangeSize lo hi 1:=by rw[rangeSize_one]; split <;> omega
  show IsRangeIter _ _ (lo+((0:Nat):Int) * 1) ((((hi - lo).toNat:Nat):Int) - ((0:Nat):Int)) 1
  rw[e1,e2];exact Heap.get?_push_size _ rfl
 ·have e:b=(s.heap.push { cls:=.type "range", data:=.fields #[.int lo t,.int hi u,.int 1 v] }).objs.size:=by simpa using hb
  subst e;exact I1.fpOk (Nat.le_refl _) (I1.hok.fresh (Nat.le_refl _))
def tR(ta:TA):TI:=fun σ H R=>ta σ H fun vs H1=>∃ j:Int,vs=[.int j]∧-(2 ^ 62)≤j∧j<2 ^ 62∧R (ik 0 j.toNat) H1
def tI(ta:TA):TI:=fun σ H R=>ta σ H fun vs H1=>∃ i j:Int,vs=[.int i,.int j]∧(-(2 ^ 62)≤i∧i<2 ^ 62∧-(2 ^ 62)≤j∧j<2 ^ 62)∧R (ik i (j - i).toNat) H1
theorem bW{a:Expr}{ta:TA}{p pos:Pos}(hg:Gl X "range") (hm:X.mg "range" = none) (ha:PA X [a] ta) (hs:starEach [a] X.env=[(false,eval a X.env)]:=by rfl):PI X tg (.Call (.Name "range" p) [a] [] pos) (tR ta):=by
 intro pins s σ H R I h
 refine Call_ (cr I hg hm boot_range (PyProof.Rows.callWith_type1 (aL (ha pos pins s σ H _ I h) fun us s1 ⟨vs,H1,I1,r1,q1⟩=>?_) hs rfl))
 obtain⟨j,e,q1,q2,q⟩:=q1
 subst e
 cases r1 with
 | cons r rr=>
  cases rr;obtain⟨t,rfl⟩:=r
  exact call_range_1 (md I1 (by omega) (by omega) q1 q2 (by simpa using q))
theorem pL{a b:Expr}{ta:TA}{p pos:Pos}(hg:Gl X "range") (hm:X.mg "range" = none) (ha:PA X [a,b] ta) (hs:starEach [a,b] X.env=[(false,eval a X.env),(false,eval b X.env)]:=by rfl) (hs2:starEach [b] X.env=[(false,eval b X.env)]:=by rfl) :
  PI X tg (.Call (.Name "range" p) [a,b] [] pos) (tI ta):=by
 intro pins s σ H R I h
 refine Call_ (cr I hg hm boot_range (PyProof.Rows.callWith_type1 (aL (ha pos pins s σ H _ I h) fun us s1 ⟨vs,H1,I1,r1,q1⟩=>?_) (by rw[hs,hs2]) (by rw[hs2]; rfl)))
 obtain⟨i,j,e,⟨q1,q2,q3,q4⟩,q⟩:=q1
 subst e
 cases r1 with
 | cons r rr=>
  cases rr with
  | cons r' rr=>
   cases rr;obtain⟨t,rfl⟩:=r
   obtain⟨t',rfl⟩:=r'
   exact call_range_2 (md I1 q1 q2 q3 q4 q)
def xf(wi:TI)(g:TG)(tb:TS):TS:=fun D σ H=>wi σ H fun J H1=>∃ W:Nat→Nat→St→Hp→Prop,(∃ m,W 0 m σ H1)∧∀ i m σ H,W i m σ H→
 (J.stop i H∧D.nx σ H)∨(J.go i H∧∃ N:St→Hp→Prop,(∀ σ' H',N σ' H'→∃ m',m'<m∧W (i+1) m' σ' H')∧∀ x H',J.yld i H x H'→g x σ H' fun σ2 H2=>tb { D with nx:=N,ct:=N,bk:=D.nx } σ2 H2)
def gQ(fp:List Addr)(h:Heap):List (Addr × Obj):=fp.filterMap fun b=>(h.get? b).map fun o=>(b,o)
theorem cL{fp:List Addr}{h:Heap}{b:Addr}{o:Obj}(hb:b∈fp)(e:h.get? b=some o):(b,o)∈gQ fp h:=List.mem_filterMap.mpr ⟨b,hb,by rw[e]; rfl⟩
theorem qv{fp:List Addr}{h:Heap}{p:Addr × Obj}(hp:p∈gQ fp h):p.1∈fp∧h.get? p.1=some p.2:=by
 obtain⟨b,hb,e⟩:=List.mem_filterMap.mp hp
 cases q:h.get? b with
 | none=>rw[q]at e; cases e
 | some o=>
  rw[q]at e
  have e':(b,o)=p:=Option.some.inj e
  subst e';exact⟨hb,q⟩
theorem Inv.pinned{pins:List (Addr × Obj)}{σ : St}{H:Hp}{s:Shared}{fp:List Addr}(I:Inv X pins σ H s)(hf:∀ b∈fp,eQ X pins H b)(ho:∀ b∈fp,∃ o,s.heap.get? b=some o∧∀ v,o.data ≠ .cell v):Inv X (pins++gQ fp s.heap) σ H s:=
 I.pins_of fun p hp=>(List.mem_append.mp hp).elim (fun z=>I.pin p (List.mem_append_right _ z)) fun z=>by
  obtain⟨hb,e⟩:=qv z
  obtain⟨f0,f1,f2,_⟩:=hf p.1 hb
  obtain⟨o,e',d⟩:=ho p.1 hb
  rw[e]at e'; cases e'
  exact⟨e,f0,f1,f2,d⟩
theorem Inv.unpinned{pins pl:List (Addr × Obj)}{σ : St}{H:Hp}{s:Shared}(I:Inv X (pins++pl) σ H s):Inv X pins σ H s:=I.pins_of fun p hp=>I.pin p (List.mem_append_right _ (List.mem_append_left _ hp))
theorem bJ{iter:Expr}{body:List Stmt}{wi:TI}{g:TG}{tb:TS}{pos:Pos}(hp:PassesOwn (model X.prog X.w) X.A X.env X.xe)(hc:X.calm=true)(hi:PI X tg iter wi)(hg:PG X tg g)(hb:PSs X body tb)
  (hs:∀ x,foldedSetIterable iter X.env x=pure x:=by intro _; rfl):PS X (.For tg iter body [] pos) (xf wi g tb):=by
 intro pins s σ H D I h
 refine wpAny_For (aL (hi pins s σ H _ I h) fun v s1 h1=>aL h1 fun itv s2 h2=>?_) hs
 obtain⟨it,fp,tn,J,H2,e,I2,T,st2,f2,W,⟨m0,w0⟩,turn⟩:=h2
 subst e
 -- what stays true of the iterator's objects through the loop
 have stat:∀ {H':Hp},(∀ b∈fp,H' b=none)→∀ b∈fp,eQ X pins H' b:=fun hn b hb=>⟨hn b hb,(f2 b hb).2⟩
 refine codeAny_forLoop_any (fun n s'=>∃ i σ' H',Inv X pins σ' H' s'∧tn i s'.heap∧(∀ b∈fp,H' b=none)∧W i n σ' H') ?_ m0 ⟨0,σ,H2,I2,st2,fun b hb=>(f2 b hb).1,w0⟩
 rintro n s3 ⟨i,σ3,H3,I3,st3,fr3,w3⟩
 rcases turn i n σ3 H3 w3 with ⟨stop,qn⟩ | ⟨go,N,hN,step⟩
 ·refine wpAny_passesOwn hp (aL (T.done X rfl rfl rfl hc i pins s3 σ3 H3 X.xe I3 (stat fr3) st3 stop) fun r s4 ⟨hr,I4⟩=>?_)
  subst hr;exact wpAny_execs_nil ⟨σ3,H3,I4,qn⟩
 ·refine wpAny_passesOwn hp (aL (T.item X rfl rfl rfl hc i pins s3 σ3 H3 X.xe I3 (stat fr3) st3 go) fun r s4 ⟨u,hr,h4⟩=>?_)
  subst hr;refine wpAny_passesOwn hp (aL h4 fun _ s5 ⟨x,H5,I5,r5,y5,st5,fr5⟩=>?_)
  have I5':=I5.pinned (stat fr5) (T.obj _ _ st5);refine wpAny_passesOwn hp (aL (hg _ s5 σ3 H5 x u _ I5' r5 (step x H5 y5)) fun _ s6 ⟨σ6,H6,I6,q6⟩=>?_)
  refine wpAny_passesOwn hp (aL (hb _ s6 σ6 H6 _ I6 q6) fun f s7 q7=>?_)
  have again:∀ {σ7:St} {H7:Hp},Inv X (pins++gQ fp s5.heap) σ7 H7 s7→N σ7 H7→∃ m,m<n∧∃ i σ' H',Inv X pins σ' H' s7∧tn i s7.heap∧(∀ b∈fp,H' b=none)∧W i m σ' H':=fun {σ7 H7} I7 n7=>by
   obtain⟨m',hm,w7⟩:=hN σ7 H7 n7
   refine⟨m',hm,i+1,σ7,H7,I7.unpinned,T.keep _ _ _ st5 fun b hb o e=>(I7.pin (b,o) (List.mem_append_right _ (List.mem_append_right _ (cL hb e)))).1,fun b hb=>?_,w7⟩
   obtain⟨o,e,d⟩:=T.obj _ _ st5 b hb
   exact(I7.pin (b,o) (List.mem_append_right _ (List.mem_append_right _ (cL hb e)))).2.1
  cases f with
  | next=>obtain⟨σ7,H7,I7,n7⟩:=q7; exact again I7 n7
  | cont=>obtain⟨σ7,H7,I7,n7⟩:=q7; exact again I7 n7
  | brk=>obtain⟨σ7,H7,I7,q7⟩:=q7; exact⟨σ7,H7,I7.unpinned,q7⟩
  | ret v=>obtain⟨x7,σ7,H7,I7,r7,q7⟩:=q7; exact⟨x7,σ7,H7,I7.unpinned,r7,q7⟩
end
theorem tq{K:PySem.W.Frag}{a:Addr}{xs:List V}{g:TG}{tb:TS}{D:cB}{σ : St}{H:Hp}(Pv:Nat→St→Hp→Prop)(h0:Pv 0 σ H)(hl:∀ i σ H,i≤xs.length→Pv i σ H→SqL K H a xs)
  (hs:∀ i x σ H,xs[i]? = some x→Pv i σ H→g x σ H fun σ2 H2=>tb { D with nx:=Pv (i+1),ct:=Pv (i+1),bk:=D.nx } σ2 H2) (hd:∀ σ H,Pv xs.length σ H→D.nx σ H) :
  ∃ W:Nat→Nat→St→Hp→Prop,(∃ m,W 0 m σ H)∧∀ i m σ H,W i m σ H→
   ((jp K a).stop i H∧D.nx σ H)∨((jp K a).go i H∧∃ N:St→Hp→Prop,(∀ σ' H',N σ' H'→∃ m',m'<m∧W (i+1) m' σ' H')∧∀ x H',(jp K a).yld i H x H'→g x σ H' fun σ2 H2=>tb { D with nx:=N,ct:=N,bk:=D.nx } σ2 H2):=by
 refine⟨fun i m σ H=>m=xs.length - i∧i≤xs.length∧Pv i σ H,⟨xs.length,by simp,Nat.zero_le _,h0⟩,?_⟩
 rintro i m σ H ⟨rfl,hi,p⟩
 have q:=hl i σ H hi p
 by_cases hlt:i<xs.length
 ·refine .inr ⟨⟨xs,xs[i],q,by simp[hlt]⟩,Pv (i+1),fun σ' H' p'=>⟨xs.length - (i+1),by omega,rfl,hlt,p'⟩,fun x H' y=>?_⟩
  obtain⟨e,y⟩:=y
  subst e;exact hs i x σ _ (y xs q) p
 ·have e:i=xs.length:=by omega
  subst e;exact .inl ⟨⟨xs,q,Nat.le_refl _⟩,hd σ H p⟩
theorem qK{lo:Int}{n:Nat}{g:TG}{tb:TS}{D:cB}{σ : St}{H:Hp}(Pv:Nat→St→Hp→Prop)(h0:Pv 0 σ H)
  (hs:∀ i σ H,i<n→Pv i σ H→g (.int (lo+i)) σ H fun σ2 H2=>tb { D with nx:=Pv (i+1),ct:=Pv (i+1),bk:=D.nx } σ2 H2) (hd:∀ σ H,Pv n σ H→D.nx σ H) :
  ∃ W:Nat→Nat→St→Hp→Prop,(∃ m,W 0 m σ H)∧∀ i m σ H,W i m σ H→
   ((ik lo n).stop i H∧D.nx σ H)∨((ik lo n).go i H∧∃ N:St→Hp→Prop,(∀ σ' H',N σ' H'→∃ m',m'<m∧W (i+1) m' σ' H')∧∀ x H',(ik lo n).yld i H x H'→g x σ H' fun σ2 H2=>tb { D with nx:=N,ct:=N,bk:=D.nx } σ2 H2):=by
 refine⟨fun i m σ H=>m=n - i∧i≤n∧Pv i σ H,⟨n,by simp,Nat.zero_le _,h0⟩,?_⟩
 rintro i m σ H ⟨rfl,hi,p⟩
 by_cases hlt:i<n
 ·refine .inr ⟨hlt,Pv (i+1),fun σ' H' p'=>⟨n - (i+1),by omega,rfl,hlt,p'⟩,fun x H' y=>?_⟩
  obtain⟨e,y⟩:=y
  subst e y;exact hs i σ _ hlt p
 ·have e:i=n:=by omega
  subst e;exact .inl ⟨Nat.le_refl _,hd σ H p⟩
end L2
namespace L2
open PySem PySem.Spec PyProof.Rows
abbrev R2:=V→V→Hp→VK→Prop
def OpR(X:Cx)(f:Value→Value→Sem Value)(r:R2):Prop:=
 ∀ (pins:List (Addr × Obj)) (s:Shared) (σ : St) (H:Hp) (x y:V) (v u:Value) (Q:VK),Inv X pins σ H s→RelV x v→RelV y u→r x y H Q→
  wpAny (model X.prog X.w) X.A (f v u) (EP X pins σ Q) X.xe s
def UnR(X:Cx)(f:Value→Sem Value)(r:V→Hp→VK→Prop):Prop:=
 ∀ (pins:List (Addr × Obj)) (s:Shared) (σ : St) (H:Hp) (x:V) (v:Value) (Q:VK),Inv X pins σ H s→RelV x v→r x H Q→
  wpAny (model X.prog X.w) X.A (f v) (EP X pins σ Q) X.xe s
def CallR(X:Cx)(f:Value)(r:List V→Hp→VK→Prop):Prop:=
 ∀ (pins:List (Addr × Obj)) (s:Shared) (σ : St) (H:Hp) (xs:List V) (us:List Value) (Q:VK),Inv X pins σ H s→Vals xs us→r xs H Q→
  wpAny (model X.prog X.w) X.A (call f us) (EP X pins σ Q) X.xe s
def pk(r:R2)(ta tb:TE):TE:=fun σ H Q=>ta σ H fun x H1=>tb σ H1 fun y H2=>r x y H2 Q
def rI(C:Int→Int→Prop)(g:Int→Int→V):R2:=fun x y H Q=>∃ i j,x = .int i∧y = .int j∧C i j∧Q (g i j) H
def lx(g:Int→Int→V):R2:=fun x y H Q=>∃ i j,x = .int i∧y = .int j∧Q (g i j) H
section
variable{X:Cx}{a b c:Expr}{ta tb tc:TE}{pos:Pos}
theorem rj(ha:PE X a ta)(hb:PE X b tb){pins:List (Addr × Obj)}{s:Shared}{σ : St}{H:Hp}{R:V→V→Hp→Prop}(I:Inv X pins σ H s)
  (h:ta σ H fun x H1=>tb σ H1 fun y H2=>R x y H2) {Q:Value→Shared→Prop} {f:Value→Value→Sem Value}
  (hf:∀ v u s2 x y H2,Inv X pins σ H2 s2→RelV x v→RelV y u→R x y H2→wpAny (model X.prog X.w) X.A (f v u) Q X.xe s2) :
  wpAny (model X.prog X.w) X.A (eval a X.env) (fun v s₁=>wpAny (model X.prog X.w) X.A (eval b X.env) (fun u s₂=>wpAny (model X.prog X.w) X.A (f v u) Q X.xe s₂) X.xe s₁) X.xe s:=by
 refine aL (ha pins s σ H _ I h) fun v s1 ⟨x,H1,I1,r1,q1⟩=>?_
 refine aL (hb pins s1 σ H1 _ I1 q1) fun u s2 ⟨y,H2,I2,r2,q2⟩=>?_
 exact hf v u s2 x y H2 I2 r1 r2 q2
theorem aj{op:Operator}{r:R2}(ho:OpR X (binaryOp op) r)(ha:PE X a ta)(hb:PE X b tb):PE X (.BinOp a op b pos) (pk r ta tb):=by
 intro pins s σ H Q I h
 exact wpAny_BinOp (rj ha hb I h fun v u s2 x y H2 I2 rx ry q=>ho pins s2 σ H2 x y v u Q I2 rx ry q)
theorem xl{f:Value→Value→Sem Value}{C:Int→Int→Prop}{g:Int→Int→Int}
  (rule:∀ (i j:Int) (t u:Tok) (s:Shared) (Q:Value→Shared→Prop) (E:Value→Shared→Prop),C i j→Q (.int (g i j) s.toks) { s with toks:=s.toks+1 }→wpAny (model X.prog X.w) X.A (f (.int i t) (.int j u)) Q E s) :
  OpR X f (rI C fun i j=>.int (g i j)):=by
 intro pins s σ H x y v u Q I rx ry h
 obtain⟨i,j,rfl,rfl,hc,q⟩:=h
 obtain⟨t,rfl⟩:=rx
 obtain⟨t',rfl⟩:=ry
 exact rule i j t t' s _ _ hc ⟨.int (g i j),H,I.tok _,⟨_,rfl⟩,q⟩
theorem xF{f:Value→Value→Sem Value}{g:Int→Int→Int}
  (rule:∀ (i j:Int) (t u:Tok) (s:Shared) (Q:Value→Shared→Prop) (E:Value→Shared→Prop),Q (.int (g i j) s.toks) { s with toks:=s.toks+1 }→wpAny (model X.prog X.w) X.A (f (.int i t) (.int j u)) Q E s) :
  OpR X f (lx fun i j=>.int (g i j)):=by
 intro pins s σ H x y v u Q I rx ry h
 obtain⟨i,j,rfl,rfl,q⟩:=h
 obtain⟨t,rfl⟩:=rx
 obtain⟨t',rfl⟩:=ry
 exact rule i j t t' s _ _ ⟨.int (g i j),H,I.tok _,⟨_,rfl⟩,q⟩
theorem xh{f:Value→Value→Sem Value}{g:Int→Int→Bool}
  (rule:∀ (i j:Int) (t u:Tok) (s:Shared) (Q:Value→Shared→Prop) (E:Value→Shared→Prop),Q (.bool (g i j)) s→wpAny (model X.prog X.w) X.A (f (.int i t) (.int j u)) Q E s) :
  OpR X f (lx fun i j=>.bl (g i j)):=by
 intro pins s σ H x y v u Q I rx ry h
 obtain⟨i,j,rfl,rfl,q⟩:=h
 obtain⟨t,rfl⟩:=rx
 obtain⟨t',rfl⟩:=ry
 exact rule i j t t' s _ _ ⟨.bl (g i j),H,I,rfl,q⟩
def Ad(i j:Int):Prop:=0<j∧j<1073741824
def CMul(i j:Int):Prop:=(-(2 ^ 64)<i∧i<2 ^ 64)∨(-(2 ^ 64)<j∧j<2 ^ 64)
theorem CMul.ok{i j:Int}(h:CMul i j):IntMulOk i j:=by
 rcases h with ⟨h1,h2⟩ | ⟨h1,h2⟩
 ·exact .of_left (intBits_le_64 h1 h2)
 ·exact .of_right (intBits_le_64 h1 h2)
theorem vB:OpR X (binaryOp .Add) (lx fun i j=>.int (i+j)):=xF fun _ _ _ _ _ _ _ q=>add_int q
theorem lC:OpR X (binaryOp .Sub) (lx fun i j=>.int (i - j)):=xF fun _ _ _ _ _ _ _ q=>sub_int q
theorem wk:OpR X (binaryOp .Mult) (rI CMul fun i j=>.int (i * j)):=xl fun _ _ _ _ _ _ _ hc q=>mul_int q hc.ok
theorem bL:OpR X (binaryOp .FloorDiv) (rI Ad fun i j=>.int (i / j)):=xl fun i j _ _ _ _ _ hc q=>by
 have h1:(0:Int)<j:=hc.1
 have h2:j<1073741824:=hc.2
 exact floordiv_int (by omega) (by rw[Int.fdiv_eq_ediv_of_nonneg i (by omega)]; exact q) (.inl (PyProof.noPylong_small (by omega)))
theorem aM:OpR X (binaryOp .Mod) (rI (fun _ j=>0<j) fun i j=>.int (i % j)):=xl fun i j _ _ _ _ _ hc q=>by
 have h1:(0:Int)<j:=hc
 exact mod_int' (by omega) (by rw[Int.fmod_eq_emod_of_nonneg i (by omega)]; exact q)
end
def lF:V→V→Bool
 | .non,.non=>true | .non,.int _=>true | .int _,.non=>true | .non,.bl _=>true | .bl _,.non=>true | .non,.str _=>true | .str _,.non=>true
 | .int _,.int _=>true | .bl _,.bl _=>true | .str _,.str _=>true | .byt _,.byt _=>true
 | .int _,.str _=>true | .str _,.int _=>true | .bl _,.str _=>true | .str _,.bl _=>true
 | _,_=>false
def yp:R2:=fun x y H Q=>lF x y=true∧Q (.bl (decide (x=y))) H
def yM:R2:=fun x y H Q=>lF x y=true∧Q (.bl (!decide (x=y))) H
theorem nc{i j:Int}:decide (V.int i=V.int j)=(i == j):=by
 rw[Bool.eq_iff_iff];simp
theorem qx{i j:Bool}:decide (V.bl i=V.bl j)=(i == j):=by
 rw[Bool.eq_iff_iff];simp
theorem mX{i j:Str}:decide (V.str i=V.str j)=(i == j):=by
 rw[Bool.eq_iff_iff];simp
theorem nn{i j:Array UInt8}:decide (V.byt i=V.byt j)=(i.toList == j.toList):=by
 rw[Bool.eq_iff_iff]
 cases i
 cases j;simp
section
variable{X:Cx}{a b c:Expr}{ta tb tc:TE}{pos:Pos}
theorem aS{pins:List (Addr × Obj)}{σ : St}{H:Hp}{s:Shared}{Q:VK}{k k':Bool}(I:Inv X pins σ H s)(q:Q (.bl k) H)(e:k=k'):EP X pins σ Q (.bool k') s:=by
 subst e;exact⟨.bl k,H,I,rfl,q⟩
theorem yc:OpR X (compareOp .Eq) yp:=by
 intro pins s σ H x y v u Q I rx ry h
 obtain⟨hs,q⟩:=h
 cases x with
 | non=>
  cases rx
  cases y with
  | non=>cases ry; exact PySem.EqNone.eq_none_none (aS I q (by simp))
  | bl j=>cases ry; exact PySem.EqNone.eq_none_bool (aS I q (by simp))
  | int j=>obtain⟨t',rfl⟩:=ry; exact PySem.EqNone.eq_none_int (aS I q (by simp))
  | str j=>obtain⟨t',rfl⟩:=ry; exact PySem.EqNone.eq_none_str (aS I q (by simp))
  | _=>exact absurd (show false=true from hs) Bool.false_ne_true
 | bl i=>
  cases rx
  cases y with
  | non=>cases ry; exact PySem.EqNone.eq_bool_none (aS I q (by simp))
  | bl j=>cases ry; exact eq_bool (aS I q qx)
  | str j=>obtain⟨t',rfl⟩:=ry; exact PySem.EqMixed.eq_bool_str (aS I q (by simp))
  | _=>exact absurd (show false=true from hs) Bool.false_ne_true
 | int i=>
  obtain⟨t,rfl⟩:=rx
  cases y with
  | non=>cases ry; exact PySem.EqNone.eq_int_none (aS I q (by simp))
  | int j=>obtain⟨t',rfl⟩:=ry; exact eq_int (aS I q nc)
  | str j=>obtain⟨t',rfl⟩:=ry; exact PySem.EqMixed.eq_int_str (aS I q (by simp))
  | _=>exact absurd (show false=true from hs) Bool.false_ne_true
 | str i=>
  obtain⟨t,rfl⟩:=rx
  cases y with
  | non=>cases ry; exact PySem.EqNone.eq_str_none (aS I q (by simp))
  | bl j=>cases ry; exact PySem.EqMixed.eq_str_bool (aS I q (by simp))
  | int j=>obtain⟨t',rfl⟩:=ry; exact PySem.EqMixed.eq_str_int (aS I q (by simp))
  | str j=>obtain⟨t',rfl⟩:=ry; exact eq_str (aS I q mX)
  | _=>exact absurd (show false=true from hs) Bool.false_ne_true
 | byt i=>
  obtain⟨t,rfl⟩:=rx
  cases y with
  | byt j=>obtain⟨t',rfl⟩:=ry; exact PySem.W.eq_bytes (aS I q nn)
  | _=>exact absurd (show false=true from hs) Bool.false_ne_true
 | _=>cases y <;> exact absurd (show false=true from hs) Bool.false_ne_true
theorem xY:OpR X (compareOp .NotEq) yM:=by
 intro pins s σ H x y v u Q I rx ry h
 obtain⟨hs,q⟩:=h
 cases x with
 | non=>
  cases rx
  cases y with
  | non=>cases ry; exact PySem.EqNone.ne_none_none (aS I q (by simp))
  | bl j=>cases ry; exact PySem.EqNone.ne_none_bool (aS I q (by simp))
  | int j=>obtain⟨t',rfl⟩:=ry; exact PySem.EqNone.ne_none_int (aS I q (by simp))
  | str j=>obtain⟨t',rfl⟩:=ry; exact PySem.EqNone.ne_none_str (aS I q (by simp))
  | _=>exact absurd (show false=true from hs) Bool.false_ne_true
 | bl i=>
  cases rx
  cases y with
  | non=>cases ry; exact PySem.EqNone.ne_bool_none (aS I q (by simp))
  | bl j=>cases ry; exact ne_bool (aS I q (congrArg not qx))
  | str j=>obtain⟨t',rfl⟩:=ry; exact PySem.EqMixed.ne_bool_str (aS I q (by simp))
  | _=>exact absurd (show false=true from hs) Bool.false_ne_true
 | int i=>
  obtain⟨t,rfl⟩:=rx
  cases y with
  | non=>cases ry; exact PySem.EqNone.ne_int_none (aS I q (by simp))
  | int j=>obtain⟨t',rfl⟩:=ry; exact ne_int (aS I q (congrArg not nc))
  | str j=>obtain⟨t',rfl⟩:=ry; exact PySem.EqMixed.ne_int_str (aS I q (by simp))
  | _=>exact absurd (show false=true from hs) Bool.false_ne_true
 | str i=>
  obtain⟨t,rfl⟩:=rx
  cases y with
  | non=>cases ry; exact PySem.EqNone.ne_str_none (aS I q (by simp))
  | bl j=>cases ry; exact PySem.EqMixed.ne_str_bool (aS I q (by simp))
  | int j=>obtain⟨t',rfl⟩:=ry; exact PySem.EqMixed.ne_str_int (aS I q (by simp))
  | str j=>obtain⟨t',rfl⟩:=ry; exact ne_str (aS I q (congrArg not mX))
  | _=>exact absurd (show false=true from hs) Bool.false_ne_true
 | byt i=>
  obtain⟨t,rfl⟩:=rx
  cases y with
  | byt j=>obtain⟨t',rfl⟩:=ry; exact PySem.W.ne_bytes (aS I q (congrArg not nn))
  | _=>exact absurd (show false=true from hs) Bool.false_ne_true
 | _=>cases y <;> exact absurd (show false=true from hs) Bool.false_ne_true
theorem x4:OpR X (compareOp .Lt) (lx fun i j=>.bl (decide (i<j))):=xh fun _ _ _ _ _ _ _ q=>lt_int q
theorem ye:OpR X (compareOp .Gt) (lx fun i j=>.bl (decide (j<i))):=xh fun _ _ _ _ _ _ _ q=>gt_int q
theorem qH:OpR X (compareOp .Lt) (fun x y H Q=>∃ i j,x = .str i∧y = .str j∧Q (.bl (decide (i.cps.toList<j.cps.toList))) H):=by
 intro pins s σ H x y v u Q I rx ry h
 obtain⟨i,j,rfl,rfl,q⟩:=h
 obtain⟨t,rfl⟩:=rx
 obtain⟨t',rfl⟩:=ry
 exact lt_str (aS I q rfl)
theorem pJ:OpR X (compareOp .In) (fun x y H Q=>∃ i j,x = .str i∧y = .str j∧Q (.bl (!(Builtin.Str.occurrences j i 0 j.length 1).isEmpty)) H):=by
 intro pins s σ H x y v u Q I rx ry h
 obtain⟨i,j,rfl,rfl,q⟩:=h
 obtain⟨t,rfl⟩:=rx
 obtain⟨t',rfl⟩:=ry
 exact in_str (aS I q rfl)
theorem wg:OpR X (compareOp .Is) (fun x y H Q=>y = .non∧Q (.bl (decide (x = .non))) H):=by
 intro pins s σ H x y v u Q I rx ry h
 obtain⟨rfl,q⟩:=h
 cases ry;refine is_none_gen (aS I q ?_)
 cases x <;> first
  | (cases rx; rfl)
  | (obtain⟨t,rfl⟩:=rx; rfl)
theorem ux:OpR X (compareOp .IsNot) (fun x y H Q=>y = .non∧Q (.bl (!decide (x = .non))) H):=by
 intro pins s σ H x y v u Q I rx ry h
 obtain⟨rfl,q⟩:=h
 cases ry;refine isnot_none_gen (aS I q ?_)
 cases x <;> first
  | (cases rx; rfl)
  | (obtain⟨t,rfl⟩:=rx; rfl)
theorem k_:OpR X (compareOp .NotIn) (fun x y H Q=>∃ i j,x = .str i∧y = .str j∧Q (.bl (!(!(Builtin.Str.occurrences j i 0 j.length 1).isEmpty))) H):=by
 intro pins s σ H x y v u Q I rx ry h
 obtain⟨i,j,rfl,rfl,q⟩:=h
 obtain⟨t,rfl⟩:=rx
 obtain⟨t',rfl⟩:=ry
 exact notIn_str (aS I q rfl)
theorem aH(b:Expr){op:CmpOp}(h:op ≠ .In:=by decide)(h2:op ≠ .NotIn:=by decide):behindInMarks op b=false:=by
 have e1:(op == CmpOp.In)=false:=by cases op <;> first | rfl | exact absurd rfl h
 have e2:(op == CmpOp.NotIn)=false:=by cases op <;> first | rfl | exact absurd rfl h2
 cases b <;> simp[behindInMarks,e1,e2]
theorem gG{op:CmpOp}{r:R2}(ho:OpR X (compareOp op) r)(ha:PE X a ta)(hb:PE X b tb)(hm:behindInMarks op b=false):PE X (.Compare a [op] [b] pos) (pk r ta tb):=by
 intro pins s σ H Q I h
 exact wpAny_Compare1 (rj ha hb I h fun v u s2 x y H2 I2 rx ry q=>ho pins s2 σ H2 x y v u Q I2 rx ry q) hm
def tS(t:TE):TT:=fun σ H Q=>t σ H fun x H'=>∃ k,x = .bl k∧Q k H'
theorem ax{op:CmpOp}{r:R2}(ho:OpR X (compareOp op) r)(ha:PE X a ta)(hb:PE X b tb)(hm:behindInMarks op b=false):PT X (.Compare a [op] [b] pos) (tS (pk r ta tb)):=by
 intro pins s σ H Q I h
 refine wpAny_isTrue_Compare1 (aL (ha pins s σ H _ I h) fun v s1 ⟨x,H1,I1,r1,q1⟩=>aL (hb pins s1 σ H1 _ I1 q1) fun u s2 ⟨y,H2,I2,r2,q2⟩=>
  aL (ho pins s2 σ H2 x y v u _ I2 r1 r2 q2) fun c s3 ⟨z,H3,I3,r3,k,e,q3⟩=>?_) hm
 subst e
 cases r3;exact wpAny_truthy_bool ⟨H3,I3,q3⟩
theorem gD:(sizeLine:Nat)<2 ^ 63:=by rw[sizeLine_eq]; decide
theorem oe:OpR X (binaryOp .Add) (fun x y H Q=>∃ i j,x = .str i∧y = .str j∧i.length+j.length≤sizeLine∧Q (.str (i++j)) H):=by
 intro pins s σ H x y v u Q I rx ry h
 obtain⟨i,j,rfl,rfl,hz,q⟩:=h
 obtain⟨t,rfl⟩:=rx
 obtain⟨t',rfl⟩:=ry
 exact add_str (fun t' tk=>⟨.str (i++j),H,I.tok _,⟨_,rfl⟩,q⟩) hz
theorem b0{x:V}{us:List Value}(r:Vals [x] us):∃ u,us=[u]∧RelV x u:=by
 cases r with
 | cons r1 r2=>cases r2; exact⟨_,rfl,r1⟩
theorem jm{x y:V}{us:List Value}(r:Vals [x,y] us):∃ u w',us=[u,w']∧RelV x u∧RelV y w':=by
 cases r with
 | cons r1 r2=>
  cases r2 with
  | cons r3 r4=>cases r4; exact⟨_,_,rfl,r1,r3⟩
theorem o_(hc:X.calm=true):CallR X (.builtin "min") (fun xs H Q=>∃ i j,xs=[.int i,.int j]∧Q (.int (if j<i then j else i)) H):=by
 intro pins s σ H xs us Q I r h
 obtain⟨i,j,rfl,q⟩:=h
 obtain⟨u,w',rfl,⟨t,rfl⟩,⟨t',rfl⟩⟩:=jm r
 refine min_two_ints (I.ok.hd hc) fun h' tk k=>⟨_,H,I.kept k,?_,q⟩
 by_cases hj:j<i
 ·rw[if_pos hj,if_pos hj]; exact⟨_,rfl⟩
 ·rw[if_neg hj,if_neg hj]; exact⟨_,rfl⟩
theorem pU:CallR X (.type "int") (fun xs H Q=>(∃ i,xs=[.int i]∧Q (.int i) H)∨∃ k,xs=[.bl k]∧Q (.int (if k then 1 else 0)) H):=by
 intro pins s σ H xs us Q I r h
 rcases h with ⟨i,rfl,q⟩ | ⟨k,rfl,q⟩
 ·obtain⟨u,rfl,t,rfl⟩:=b0 r
  exact call_int_int ⟨.int i,H,I,⟨_,rfl⟩,q⟩
 ·obtain⟨u,rfl,r1⟩:=b0 r
  cases r1;exact call_int_bool ⟨.int (if k then 1 else 0),H,I.tok _,⟨_,rfl⟩,q⟩
theorem la:CallR X (.type "str") (fun xs H Q=>∃ i,xs=[.int i]∧i.natAbs.log2<1920∧Q (.str (toString i)) H):=by
 intro pins s σ H xs us Q I r h
 obtain⟨i,rfl,hz,q⟩:=h
 obtain⟨u,rfl,t,rfl⟩:=b0 r
 exact PySem.P.str_of_int hz ⟨.str _,H,I.tok _,⟨_,rfl⟩,q⟩
end
end L2
namespace L2
open PySem PySem.Spec PyProof.Rows
structure ObjM (h:Heap) (x dx C:Addr) (mA:Str→Option Value):Prop where
 obj:h.get? x=some (PySem.W.instObj C dx)
 ns:h.Ns1 dx mA
 ne:dx≠x
theorem pD{h:Heap}{dx:Addr}{mA:Str→Option Value}(n:h.Ns1 dx mA):∃ od,h.get? dx=some od∧∀ name,PySem.W.lookIn name od=some (mA name):=by
 obtain⟨o,es,ep,ho,hd,hk,_,hm⟩:=n
 refine⟨o,ho,fun name=>?_⟩
 have e:=hm name;unfold nsFind findBy at e;rw[← Array.find?_toList]at e
 unfold PySem.W.lookIn;rw[hd]
 dsimp only
 split
 ·rename_i y q
  rw[q]at e
  exact congrArg some e
 ·rename_i q
  rw[q]at e
  have a:es.toList.any (·.refKey)=false:=by
   rw[List.any_eq_false];intro y hy
   obtain⟨z,t,hkey⟩:=hk y (Array.mem_toList_iff.mp hy)
   simp[DictEntry.refKey,hkey]
  have a':¬ es.toList.any (·.refKey)=true:=by rw[a]; exact Bool.false_ne_true
  rw[if_neg a'];exact congrArg some e
theorem ObjM.look{h:Heap}{x dx C:Addr}{mA:Str→Option Value}(I:ObjM h x dx C mA):∃ od,PySem.W.InstAt h x (PySem.W.instObj C dx) C (some od)∧∀ name,PySem.W.lookIn name od=some (mA name):=
 let ⟨od,ho,hl⟩:=pD I.ns
 ⟨od,⟨I.obj,rfl,rfl,ho⟩,hl⟩
section
variable{prog:Program}{w:World}{A:Around}{E:Value→Shared→Prop}{s:Shared}{K:PySem.W.Frag}{x dx C f:Addr}{mA:Str→Option Value}{name:Str}{v:Value}
end
def vt(f:Str)(v:V):List (Str × V)→List (Str × V)
 | []=>[(f,v)]
 | (g,x)::r=>if g=f then (g,v)::r else (g,x)::vt f v r
theorem RelO.some_of{v:V}{o:Option Value}(r:RelO (some v) o):∃ u,o=some u∧RelV v u:=by
 cases o with
 | none=>exact(show False from r).elim
 | some u=>exact⟨u,rfl,r⟩
section
variable{P:Program}{w:World}{H H':Hp}{h h':Heap}{a C dx:Addr}{fs fs':List (Str × V)}
theorem uN(hok:HOk P w H h)(e:H a=some (.ins C dx fs)):∃ mA,ObjM h a dx C mA∧(∀ f,RelO (fs.lookup f) (mA f))∧PySem.Within mA (fs.map (·.1))∧fs.length≤1000∧H dx=some (.own a):=by
 obtain⟨d,z,ne,ob,mA,n,r,q⟩:=(show ObjOk P w H h a (.ins C dx fs) from hok a _ e)
 exact⟨mA,⟨ob,n,ne⟩,r,q,z,d⟩
end
structure Cls (K:PySem.W.Frag) (C:Addr):Prop where
 pg:PySem.W.plainGet K C Str.empty=true
 hd:PySem.W.hasDictIn K C=true
 po:PySem.W.plainOver K C=true
 sa:PySem.W.findIn K (.ref C) "__setattr__" = some (some (.builtin "object.__setattr__"))
theorem Cls.get{K:PySem.W.Frag}{C:Addr}(c:Cls K C)(f:Str):PySem.W.plainGet K C f=true:=c.pg
section
variable{X:Cx}{pins:List (Addr × Obj)}{σ : St}{H:Hp}{s:Shared}{a C dx:Addr}{fs:List (Str × V)}{f:Str}{v:V}{A:Around}{E:Value→Shared→Prop}
end
section
variable{X:Cx}{o e value:Expr}{f:Str}{pos pos' tpos:Pos}{ta tv:TE}
end
section
variable{X:Cx}{pins:List (Addr × Obj)}{σ : St}{H:Hp}{s:Shared}{A:Around}{E:Value→Shared→Prop}{Q:Value→Shared→Prop}{c:Value}{b:Bool}
inductive dY (K:PySem.W.Frag) (H:Hp):V→Value→Prop where
 | non:dY K H .non (.type "NoneType")
 | bl (x:Bool):dY K H (.bl x) (.type "bool")
 | int (i:Int):dY K H (.int i) (.type "int")
 | str (x:Str):dY K H (.str x) (.type "str")
 | flt (x:UInt64):dY K H (.flt x) (.type "float")
 | lst {a:Addr} {xs:List V} (e:H a=some (.lst xs)):dY K H (.ref a) (.type "list")
 | frz {a:Addr} {o:Obj} {xs:List V} (e:H a=some (.frz o (.lst xs))):dY K H (.ref a) (.type "list")
 | tup {a:Addr} {xs:List V} (e:H a=some (.tup xs)):dY K H (.ref a) (.type "tuple")
 | dK {a:Addr} {kvs:List (aU × V)} (e:H a=some (.dK kvs)):dY K H (.ref a) (.type "dict")
 | dT {a:Addr} {kvs:List (List aU × V)} (e:H a=some (.dT kvs)):dY K H (.ref a) (.type "dict")
 | ins {a C dx:Addr} {fs:List (Str × V)} (e:H a=some (.ins C dx fs)) (cl:Cls K C) (ha:PySem.W.findIn K (.ref C) "__class__" = some (some (.builtin "object.__class__")))
   (hn:PySem.W.specialIn K (.builtin "object.__class__") "__get__" = some (some (.builtin "getset_descriptor.__get__"))) (htk:PySem.W.takesIn K (.builtin "object.__class__")=some true)
   (hm:PySem.W.mroIn K C (.type "object")=some true):dY K H (.ref a) (.ref C)
theorem qA{x:V}{u t:Value}(I:Inv X pins σ H s)(rx:RelV x u)(ty:dY X.K H x t)(e:PySem.W.kitOne X.K t c=some b)(h:∀ tk,Q (.bool b) { s with toks:=tk }) :
  wpAny (model X.prog X.w) A (call (.builtin "isinstance") [u,c]) Q E s:=by
 cases ty with
 | non=>cases (show u=Value.none from rx); exact PySem.W.kia_one PySem.W.kitx_none I.kIn True.intro e (fun z=>nomatch z) h
 | bl y=>cases (show u=Value.bool y from rx); exact PySem.W.kia_one PySem.W.kitx_bool I.kIn True.intro e (fun z=>nomatch z) h
 | int i=>obtain⟨t,q⟩:=(show ∃ t,u=Value.int i t from rx); cases q; exact PySem.W.kia_one PySem.W.kitx_int I.kIn True.intro e (fun z=>nomatch z) h
 | str y=>obtain⟨t,q⟩:=(show ∃ t,u=Value.str y t from rx); cases q; exact PySem.W.kia_one PySem.W.kitx_str I.kIn True.intro e (fun z=>nomatch z) h
 | flt y=>obtain⟨t,q⟩:=(show ∃ t,u=Value.float y t from rx); cases q; exact PySem.W.kia_one PySem.W.kitx_float I.kIn True.intro e (fun z=>nomatch z) h
 | @lst a xs ea=>
  cases (show u=Value.ref a from rx)
  obtain⟨_,_,n,_,h1⟩:=(show ObjOk X.prog X.w H s.heap a (.lst xs) from I.hok a _ ea)
  exact PySem.W.kia_one PySem.W.kitx_list I.kIn ⟨_,h1,rfl⟩ e (fun z=>nomatch z) h
 | @frz a ob xs ea=>
  cases (show u=Value.ref a from rx)
  obtain⟨_,_,_,n,_,h1⟩:=(show ObjOk X.prog X.w H s.heap a (.frz ob (.lst xs)) from I.hok a _ ea)
  exact PySem.W.kia_one PySem.W.kitx_list I.kIn ⟨_,h1,rfl⟩ e (fun z=>nomatch z) h
 | @tup a xs ea=>
  cases (show u=Value.ref a from rx)
  obtain⟨_,_,_,p⟩:=(show ObjOk X.prog X.w H s.heap a (.tup xs) from I.hok a _ ea)
  obtain⟨o,h1,h2,_⟩:=p
  exact PySem.W.kia_one PySem.W.kitx_tuple I.kIn ⟨o,h1,h2⟩ e (fun z=>nomatch z) h
 | @dK a kvs ea=>
  cases (show u=Value.ref a from rx)
  obtain⟨_,_,vs,_,p⟩:=(show ObjOk X.prog X.w H s.heap a (.dK kvs) from I.hok a _ ea)
  obtain⟨o,es,ep,h1,h2,_⟩:=p
  exact PySem.W.kia_one PySem.W.kitx_dict I.kIn ⟨o,h1,h2.1⟩ e (fun z=>nomatch z) h
 | @dT a kvs ea=>
  cases (show u=Value.ref a from rx)
  obtain⟨_,_,xs,_,o,es,ep,h1,h2,_⟩:=(show ObjOk X.prog X.w H s.heap a (.dT kvs) from I.hok a _ ea)
  exact PySem.W.kia_one PySem.W.kitx_dict I.kIn ⟨o,h1,h2.1⟩ e (fun z=>nomatch z) h
 | @ins a C dx fs ea cl ha hn htk hm=>
  cases (show u=Value.ref a from rx)
  obtain⟨mA,O,_⟩:=uN I.hok ea
  obtain⟨od,J,_⟩:=O.look
  exact PySem.W.kia_one (PySem.W.kitx_own (cl.get _) cl.hd ha hn htk hm) I.kIn J e (fun z=>nomatch z) h
end
end L2
namespace L2
open PySem PySem.Spec PyProof.Rows
structure Room (k:Nat) (A:Around):Prop where
 hd:A.handled=none
 dp:A.depth+3 * k+5<recursionLimit
 un:A.units+16 * k+200<cLine
theorem Room.mono{j k:Nat}{A:Around}(r:Room k A)(h:j≤k):Room j A:=⟨r.hd,by have:=r.dp; omega,by have:=r.un; omega⟩
theorem Room.deeper{k:Nat}{A:Around}(r:Room (k+1) A)(env:Env):Room k (A.deeper env):=
 ⟨r.hd,by have:=r.dp; show A.depth+1+3 * k+5<_; omega,by have:=r.un; show A.units+3+16 * k+200<_; omega⟩
theorem Room.depth{k:Nat}{A:Around}(r:Room k A):A.depth<recursionLimit:=by have:=r.dp; omega
def wa:TA:=fun _ H Q=>Q [] H
def ui(ta:TE)(tr:TA):TA:=fun σ H Q=>ta σ H fun x H1=>tr σ H1 fun xs H2=>Q (x::xs) H2
section
variable{X:Cx}{e:Expr}{es:List Expr}{te:TE}{t:TA}{pos:Pos}
theorem ac:PA X [] wa:=fun _ _ _ _ H Q I h=>Calls.spliced_nil ⟨[],H,I,.nil,h⟩
theorem aa(ha:PE X e te)(hr:PA X es t)(hs:starEach (e::es) X.env=(false,eval e X.env)::starEach es X.env:=by rfl):PA X (e::es) (ui te t):=by
 intro pos pins s σ H Q I h
 rw[hs];show wpAny _ _ (spliced ((false,eval e X.env)::backTo pos (starEach es X.env))) _ _ s
 refine Calls.spliced_cons (aL (ha pins s σ H _ I h) fun u s1 ⟨x,H1,I1,r1,q1⟩=>?_)
 exact aL (hr pos pins s1 σ H1 _ I1 q1) fun us s2 ⟨xs,H2,I2,r2,q2⟩=>⟨x::xs,H2,I2,.cons r1 r2,q2⟩
def wC(t:TA):TE:=fun σ H Q=>t σ H fun xs H1=>xs.length≤sizeLine∧∀ p,H1 p=none→Q (.ref p) (upd H1 p (.tup xs))
def vP(t:TA):TE:=fun σ H Q=>t σ H fun xs H1=>xs.length≤sizeLine∧∀ p,H1 p=none→Q (.ref p) (upd H1 p (.lst xs))
theorem bF{x1}(h:PA X es t):PE X (.Tuple es x1 pos) (wC t):=by
 intro pins s σ H Q I hq
 refine wpAny_Tuple_spliced (aL (h pos pins s σ H _ I hq) fun us s1 ⟨xs,H1,I1,r,z,q⟩=>⟨by rw[← r.length]; exact z,?_⟩)
 have hf:H1 s1.heap.objs.size=none:=I1.hok.fresh (Nat.le_refl _)
 refine⟨.ref s1.heap.objs.size,upd H1 s1.heap.objs.size (.tup xs),I1.laid (t':=s1.toks) (fun b u e=>Heap.get?_push_of_some _ e) (Nat.le_refl _) ?_,rfl,q _ hf⟩
 exact⟨z,us,r,⟨_,Heap.get?_push_size _ rfl,rfl,rfl,_,rfl⟩⟩
theorem br(h:PA X es t):PE X (.List es pos) (vP t):=by
 intro pins s σ H Q I hq
 refine wpAny_List_spliced (aL (h pos pins s σ H _ I hq) fun us s1 ⟨xs,H1,I1,r,z,q⟩=>⟨by rw[← r.length]; exact z,?_⟩)
 have hf:H1 s1.heap.objs.size=none:=I1.hok.fresh (Nat.le_refl _)
 refine⟨.ref s1.heap.objs.size,upd H1 s1.heap.objs.size (.lst xs),I1.laid (t':=s1.toks) (fun b u e=>Heap.get?_push_of_some _ e) (Nat.le_refl _) ?_,rfl,q _ hf⟩
 exact⟨z,us,0,r,Heap.get?_push_size _ rfl⟩
end
abbrev Sp:=List V→Hp→VK→XK→Prop
abbrev iz:=List Env→Hp→Shared→XK→Value→Shared→Prop
structure oA (P:Program) (w:World) (K:PySem.W.Frag) (mg:Str→Option Value) (base:Heap) (A:Around) (outer:List Env) (s:Shared) (H:Hp):Prop where
 frames:A.frames=some outer
 mod:Mod K mg base
 bs:∀ b o,base.get? b=some o→s.heap.get? b=some o∧H b=none
 bsz:base.objs.size≤s.heap.objs.size
 funs:s.heap.FunFrames base outer
 frf:∀ b∈gJ outer,H b=none
 hok:HOk P w H s.heap
 bare:AllBare s.gens
def CE(outer:List Env)(P:Program)(w:World)(H:Hp)(s:Shared)(Q:VK)(u:Value)(s':Shared):Prop:=
 ∃ v H',s'.os=s.os∧AllBare s'.gens∧Un (gJ outer) [] H H' s.heap s'.heap∧HOk P w H' s'.heap∧RelV v u∧Q v H'
def CR(CX:iz)(outer:List Env)(P:Program)(w:World)(H:Hp)(s:Shared)(Q:VK)(E:XK)(r:Result)(s':Shared):Prop:=
 match r with
 | .ok (.ret u)=>CE outer P w H s Q u s'
 | .ok _=>False
 | .error e=>CX outer H s E e s'
structure gn (P:Program) (w:World) (K:PySem.W.Frag) (mg:Str→Option Value) (base:Heap) (CX:iz) (k:Nat) (f:Addr) (fd:FuncData) (ps:List Str) (sp:Sp):Prop where
 len:∀ vs H Q E,sp vs H Q E→vs.length=ps.length
 run:∀ (A:Around) (outer:List Env) (s:Shared) (H:Hp) (args:Args) (us:List Value) (vs:List V) (Q:VK) (E:XK),Room k A→oA P w K mg base A outer s H→BindsTo s fd args (ps.zip us)→Vals vs us→sp vs H Q E→
  codeAny (model P w) A (.call (.ref f) args) (CR CX outer P w H s Q E) s
section
variable{X:Cx}{pins:List (Addr × Obj)}{σ : St}{H:Hp}{s s':Shared}
theorem Inv.env0(I:Inv X pins σ H s):oA X.prog X.w X.K X.mg X.base X.A X.stack s H:=
 ⟨I.ok.frames,I.ok.mod,I.bs,Nat.le_trans I.ok.bsz I.sz,I.stack,I.stkFree,I.hok,I.bare⟩
theorem Inv.after{Q:VK}{u:Value}(I:Inv X pins σ H s)(h:CE X.stack X.prog X.w H s Q u s'):EP X pins σ Q u s':=by
 obtain⟨v,H',os,bare,un,hok,r,q⟩:=h
 obtain⟨hh,g,d,t,os'⟩:=s'
 obtain rfl:os'=s.os:=os
 exact⟨v,H',I.call (h':=hh) (g':=g) (d':=d) (t':=t) (ch:=[]) un hok bare (fun b z=>absurd z (by simp)),r,q⟩
end
def nN(sp:Sp)(dvs:List V)(E:XK)(t:TA):TE:=fun σ H Q=>t σ H fun vs H1=>sp (vs++dvs) H1 Q E
def Binds(K:PySem.W.Frag)(fd:FuncData)(ps:List Str)(ds:List Value):Prop:=
 ∀ (s:Shared) (us:List Value),K.In s.heap→(us++ds).length=ps.length→BindsTo s fd ⟨us,[]⟩ (ps.zip (us++ds))
theorem Binds.all{K:PySem.W.Frag}{fd:FuncData}{ps:List Str}(h:∀ us:List Value,us.length=ps.length→bindArgs fd ⟨us,[]⟩=pure (ps.zip us)):Binds K fd ps []:=fun s us _ hl=>by
 rw[List.append_nil]at hl ⊢
 exact .of_eq (h us hl)
def me(CX:iz)(X:Cx)(E:XK):Prop:=∀ (pins:List (Addr × Obj)) (σ : St) (H:Hp) (s:Shared) (e:Value) (s':Shared),Inv X pins σ H s→CX X.stack H s E e s'→X.xe e s'
section
variable{X:Cx}{CX:iz}{k:Nat}{f C:Addr}{fd:FuncData}{ps:List Str}{sp:Sp}{dvs:List V}{ds:List Value}{E:XK}{x m:Str}{p pos apos:Pos}{e o:Expr}{es:List Expr}{ta:TE}{t:TA}
theorem xD{pins:List (Addr × Obj)}{σ : St}{H:Hp}{s:Shared}{Q:VK}{us:List Value}{vs:List V}(F:gn X.prog X.w X.K X.mg X.base CX k f fd ps sp)(hr:Room k X.A)(hb:Binds X.K fd ps ds)(hd:Vals dvs ds)(hx:me CX X E)
  (I:Inv X pins σ H s) (r:Vals vs us) (h:sp (vs++dvs) H Q E):wpAny (model X.prog X.w) X.A (call (.ref f) us) (EP X pins σ Q) X.xe s:=by
 have r2:Vals (vs++dvs) (us++ds):=r.append hd
 have hl:(us++ds).length=ps.length:=by rw[← r2.length]; exact F.len _ _ _ _ h
 refine wpAny_call (codeAny_mono (F.run X.A X.stack s H ⟨us,[]⟩ (us++ds) (vs++dvs) Q E hr I.env0 (hb s us I.kIn hl) r2 h) fun r s' hq=>?_)
 cases r with
 | error e=>exact hx pins σ H s e s' I hq
 | ok fl=>
  cases fl with
  | ret u=>exact I.after hq
  | next=>exact False.elim hq
  | brk=>exact False.elim hq
  | cont=>exact False.elim hq
theorem u7(F:gn X.prog X.w X.K X.mg X.base CX k f fd ps sp)(hr:Room k X.A)(hg:Gl X x)(hm:X.mg x=some (.ref f))(hk:PySem.W.keepIn X.K (.ref f)=true)(hb:Binds X.K fd ps ds)(hd:Vals dvs ds)(hx:me CX X E)
  (ha:PA X (e::es) t) (hdb:(x == ("__debug__" : Str))=false:=by decide) (he:starEach (e::es) X.env=(false,eval e X.env)::starEach es X.env:=by rfl) (hpl:(backTo pos (starEach es X.env)).any (·.1)=false:=by rfl) :
  PE X (.Call (.Name x p) (e::es) [] pos) (nN sp dvs E t):=by
 intro pins s σ H Q I h
 refine wpAny_Call_Name_kw (u5 I hg hm ?_ hdb)
 refine PySem.W.callWith_K (h₀:=X.base) I.ok.mod.kin hk (aL (ha pos pins s σ H _ I h) fun us s1 ⟨vs,H1,I1,r,q⟩=>⟨I1.kIn,?_⟩) he hpl
 exact xD F hr hb hd hx I1 r q
end
section
variable{X:Cx}{CX:iz}{k:Nat}{f C:Addr}{fd:FuncData}{ps ks:List Str}{sp:Sp}{E:XK}{x m:Str}{p pos apos kpos:Pos}{e o:Expr}{es:List Expr}{kws:List Keyword}{te ta:TE}{t tk:TA}{nm:Option Str}
variable{g:List Value→List Value→List Value}{gV:List V→List V→List V}
end
structure aY (N P:List Str) (sc:Scope):Prop where
 kind:sc.kind = .function
 co:sc.isCoroutine=false
 gen:sc.isGenerator=false
 nd:N.Nodup
 pre:N.take P.length=P
 par:∀ x∈P,sc.names.lookup x=some .local∨sc.names.lookup x=some .cell
 nofree:∀ y∈sc.names,y.2 ≠ .free
theorem mKk{N P:List Str}{s:Stmt}(h1:(L2.defScope s).kind = .function:=by rfl)(h2:(L2.defScope s).isCoroutine=false:=by rfl)(h3:(L2.defScope s).isGenerator=false:=by rfl)(h4:N.Nodup:=by decide +kernel)(h5:N.take P.length=P:=by rfl)(h6:∀ x∈P,(L2.defScope s).names.lookup x=some .local∨(L2.defScope s).names.lookup x=some .cell:=by decide +kernel)(h7:∀ y∈(L2.defScope s).names,y.2 ≠ .free:=by decide +kernel):aY N P (L2.defScope s):=⟨h1,h2,h3,h4,h5,h6,h7⟩
theorem kq{kindOf:Str→Option NameKind}{x:Str}:∀ {binds:List (Str × Value)} {m:Str→Option Value},(∀ v,(x,v)∉binds)→bindL kindOf binds m x=m x
 | [],_,_=>rfl
 | (n,v)::r,m,h=>by
  unfold bindL;rw[kq fun w hw=>h w (List.mem_cons_of_mem _ hw)]
  split
  ·have:x≠n:=by rintro rfl; exact h v List.mem_cons_self
   simp[this]
  ·rfl
theorem j0{kindOf:Str→Option NameKind}{x:Str}:∀ {binds:List (Str × Value)} {m:Str→Option Value},(∀ v,(x,v)∉binds)→bindC kindOf binds m x=m x
 | [],_,_=>rfl
 | (n,v)::r,m,h=>by
  unfold bindC;rw[j0 fun w hw=>h w (List.mem_cons_of_mem _ hw)]
  split
  ·rfl
  ·have:x≠n:=by rintro rfl; exact h v List.mem_cons_self
   simp[this]
theorem kg{kindOf:Str→Option NameKind}{x:Str}{v:Value}:∀ {P:List Str} {vs:List Value} {i:Nat} {m:Str→Option Value},P.Nodup→P[i]? = some x→vs[i]? = some v→kindOf x=some .local→
  bindL kindOf (P.zip vs) m x=some v
 | [],_,_,_,_,h,_,_=>by simp at h
 | _::_,[],_,_,_,_,h,_=>by simp at h
 | p::P,w::vs,0,m,nd,h1,h2,hk=>by
  simp at h1 h2; subst h1; subst h2
  show bindL kindOf ((p,w)::P.zip vs) m p=_
  unfold bindL;rw[kq fun v hv=>(List.nodup_cons.mp nd).1 (List.of_mem_zip hv).1,if_pos hk]
  simp
 | p::P,w::vs,i+1,m,nd,h1,h2,hk=>by
  show bindL kindOf ((p,w)::P.zip vs) m x=_
  unfold bindL;exact kg (i:=i) (List.nodup_cons.mp nd).2 (by simpa using h1) (by simpa using h2) hk
theorem j1{kindOf:Str→Option NameKind}{x:Str}{v:Value}:∀ {P:List Str} {vs:List Value} {i:Nat} {m:Str→Option Value},P.Nodup→P[i]? = some x→vs[i]? = some v→kindOf x≠some .local→
  bindC kindOf (P.zip vs) m x=some v
 | [],_,_,_,_,h,_,_=>by simp at h
 | _::_,[],_,_,_,_,h,_=>by simp at h
 | p::P,w::vs,0,m,nd,h1,h2,hk=>by
  simp at h1 h2; subst h1; subst h2
  show bindC kindOf ((p,w)::P.zip vs) m p=_
  unfold bindC;rw[j0 fun v hv=>(List.nodup_cons.mp nd).1 (List.of_mem_zip hv).1,if_neg hk]
  simp
 | p::P,w::vs,i+1,m,nd,h1,h2,hk=>by
  show bindC kindOf ((p,w)::P.zip vs) m x=_
  unfold bindC;exact j1 (i:=i) (List.nodup_cons.mp nd).2 (by simpa using h1) (by simpa using h2) hk
def start(N:List Str)(vs:List V):St:=vs.map some++List.replicate (N.length - vs.length) none
def iU(CX:iz)(P:Program)(w:World)(K:PySem.W.Frag)(mg:Str→Option Value)(base:Heap)(N:List Str)(qual:Str)(scope:Scope)(f:Addr)(cd:Value)(A:Around)(outer:List Env)(s:Shared)(H:Hp)(E:XK):Cx where
 prog:=P
 w:=w
 K:=K
 mg:=mg
 base:=base
 A:=A.deeper (envOfC qual scope s.heap.objs.size f cd)
 N:=N
 s₀:=s
 H₀:=H
 env:=envOfC qual scope s.heap.objs.size f cd
 outer:=outer
 stack:=envOfC qual scope s.heap.objs.size f cd::outer
 ex:=[]
 calm:=true
 fn:=fun _=>true
 pn:=[]
 xe:=fun e s'=>wpAny (model P w) (A.deeper (envOfC qual scope s.heap.objs.size f cd)) (leaving (envOfC qual scope s.heap.objs.size f cd) e) (fun _ s''=>CX outer H s E e s'') (fun e' s''=>CX outer H s E e' s'') s'
theorem lj{sc:Scope}{n:Nat}{x:Str}(h:sc.names.lookup x=some .cell):∃ c,(cellsFrom n sc.names []).lookup x=some c:=by
 have q:=PySem.W.cellsFrom_some sc.names n [] (.inl h);exact Option.isSome_iff_exists.mp q
theorem pq{CX:iz}{P:Program}{w:World}{K:PySem.W.Frag}{mg:Str→Option Value}{base:Heap}{N ps:List Str}{qual:Str}{scope:Scope}{f:Addr}{cd:Value}{A:Around}{outer:List Env}{s s1:Shared}{H:Hp}{E:XK}{us:List Value}{vs:List V}
  (S:aY N ps scope) (hd:A.handled=none) (e0:oA P w K mg base A outer s H) (hl:vs.length=ps.length) (r:Vals vs us)
  (x:InCallC s s.heap.objs.size (bindL (envOfC qual scope s.heap.objs.size f cd).kindOf (ps.zip us) fun _=>none) (cellsFrom (s.heap.objs.size+1) scope.names []) (bindC (envOfC qual scope s.heap.objs.size f cd).kindOf (ps.zip us) fun _=>none) s1) :
  Inv (iU CX P w K mg base N qual scope f cd A outer s H E) [] (start N vs) H s1:=by
 have hpl:ps.length≤N.length:=by have:=congrArg List.length S.pre; rw[List.length_take]at this; omega
 obtain⟨h1,tk,rfl,hk⟩:=x.done
 have noA:∀ b:Addr,b∉(iU CX P w K mg base N qual scope f cd A outer s H E).ex:=fun b z=>absurd (show b∈([]:List Addr) from z) (by simp)
 refine⟨⟨e0.mod,S.kind,rfl,rfl,Nat.le_refl _,fun y z c h1 h2=>?_,fun y hy=>?_,fun y c _ h=>?_,fun _=>hd,Around.frames_deeper e0.frames,.inr ⟨rfl,rfl⟩,fun b z=>absurd z (noA b),e0.bs,e0.bsz,fun b _ _=>noA b,fun b z=>absurd z (noA b),e0.funs,e0.frf⟩,
  rfl,e0.bare,Un.kept hk,⟨_,x.toInCall.ns,fun i y v h1 h2 h3=>?_⟩,fun y c h=>⟨_,x.cell y c h⟩,e0.hok.fresh (Nat.le_refl _),fun y c h=>?_,fun p hp=>absurd (show p∈([]:List (Addr × Obj)) from hp) (by simp),e0.hok.kept hk,?_⟩
 ·exact name_of_addr x.apart (PySem.mem_of_lookup h1) (PySem.mem_of_lookup h2)
 ·have hy:scope.names.lookup y=some .cell∨scope.names.lookup y=some .free:=hy
  rcases hy with hy | hy
  ·exact lj hy
  ·exact absurd rfl (S.nofree _ (PySem.mem_of_lookup hy))
 ·exact Nat.le_of_lt (x.above y c (PySem.mem_of_lookup h))
 ·have hi:i<vs.length:=by
   unfold start at h2
   by_cases hi:i<vs.length
   ·exact hi
   ·rw[List.getElem?_append_right (by simpa using hi)]at h2
    rw[List.getElem?_replicate]at h2
    split at h2 <;> cases h2
  have ha:vs[i]? = some v:=by
   unfold start at h2;rw[List.getElem?_append_left (by simpa using hi),List.getElem?_map]at h2
   cases e:vs[i]? with
   | none=>rw[e]at h2; cases h2
   | some a=>rw[e]at h2; cases h2; rfl
  obtain⟨u,hu,rv⟩:=r.get ha
  have hp:ps[i]? = some y:=by
   rw[← S.pre,List.getElem?_take_of_lt (by omega)]; exact h1
  have ndP:ps.Nodup:=by rw[← S.pre]; exact S.nd.sublist (List.take_sublist _ _)
  refine⟨u,rv,?_⟩
  rcases S.par y (List.mem_of_getElem? hp) with k | k
  ·exact .inl ⟨k,kg ndP hp hu k⟩
  ·obtain⟨c,e⟩:=lj (n:=s.heap.objs.size+1) k
   refine .inr ⟨.inl k,c,e,?_⟩
   have q:=x.cell y c e;rw[j1 ndP hp hu (by show scope.names.lookup y≠_; rw[k]; decide)]at q
   exact q
 ·exact e0.hok.fresh (Nat.le_of_lt (x.above y c (PySem.mem_of_lookup h)))
 ·unfold start
  show _=N.length
  rw[List.length_append,List.length_map,List.length_replicate];omega
theorem xV{CX:iz}{P:Program}{w:World}{K:PySem.W.Frag}{mg:Str→Option Value}{base:Heap}{k:Nat}{f:Addr}{name qual:Str}{params:Arguments}{body:List Stmt}{scope:Scope}{dV kV doc pm cdv ct oc:Value}{an od:Option Addr}
  {osl:Array (Option Value)} {N ps:List Str} {sp:Sp} (lk:K.lookup f=some ⟨oc,od,.func (PySem.W.fnOf name qual params body scope dV kV doc pm an cdv ct),osl⟩) (hcd:PySem.W.codeIn K cdv qual=true) (S:aY N ps scope)
  (len:∀ vs H Q E,sp vs H Q E→vs.length=ps.length)
  (hbody:∀ (A:Around) (outer:List Env) (s:Shared) (H:Hp) (vs:List V) (Q:VK) (E:XK),Room k (A.deeper (envOfC qual scope s.heap.objs.size f cdv))→sp vs H Q E→
   ∃ t,PSs (iU CX P w K mg base N qual scope f cdv A outer s H E) body t∧t { nx:=fun _ H'=>Q .non H',rt:=Q } (start N vs) H) :
  gn P w K mg base CX (k+1) f (PySem.W.fnOf name qual params body scope dV kV doc pm an cdv ct) ps sp:=by
 refine⟨len,fun A outer s H args us vs Q E hr e0 hb r hsp=>?_⟩
 have hl:=len _ _ _ _ hsp;have KX:K.In s.heap:=e0.mod.kin.keeps fun b o e=>(e0.bs b o e).1
 have lim:s.heap.NoLimit:=e0.mod.nolimit.keeps fun b o e=>(e0.bs b o e).1
 have hkind:∀ y∈ps.zip us,scope.names.lookup y.1=some .local∨(scope.names.lookup y.1=some .cell∧((cellsFrom (s.heap.objs.size+1) scope.names []).lookup y.1).isSome=true):=fun ⟨n,v⟩ hy=>by
  rcases S.par n (List.of_mem_zip hy).1 with q | q
  ·exact .inl q
  ·exact .inr ⟨q,PySem.W.cellsFrom_some _ _ _ (.inl q)⟩
 refine codeAny_call_function hr.depth (KX _ _ lk) rfl S.co S.gen rfl (PySem.W.codeRec_of KX hcd) (hb _ _ _ _ ?_)
 refine wpAny_newFunctionEnv_cells S.kind hkind fun env he s1 x=>?_
 subst he;refine⟨lim.keeps x.toInCall.keep,codeAny_func ?_⟩
 obtain⟨t,ht,hq⟩:=hbody A outer s H vs Q E (hr.deeper _) hsp
 have I:Inv (iU CX P w K mg base N qual scope f cdv A outer s H E) [] (start N vs) H s1:=pq S hr.hd e0 hl r x
 refine wpAny_mono (ht [] s1 (start N vs) H _ I hq) (fun fl s' hs=>?_) fun e s' hs=>hs
 have fin:∀ {σ':St} {H':Hp} {v:V} {u:Value},Inv (iU CX P w K mg base N qual scope f cdv A outer s H E) [] σ' H' s'→RelV v u→Q v H'→CE outer P w H s Q u s':=
  fun {σ' H' v u} J rv q=>⟨v,H',J.os,J.bare,J.base,J.hok,rv,q⟩
 cases fl with
 | ret u=>
  obtain⟨v,σ',H',J,rv,q⟩:=hs
  exact fin J rv q
 | next=>
  obtain⟨σ',H',J,q⟩:=hs
  exact fin (v:=V.non) (u:=Value.none) J rfl q
 | brk=>
  obtain⟨_,_,_,q⟩:=hs
  exact False.elim q
 | cont=>
  obtain⟨_,_,_,q⟩:=hs
  exact False.elim q
end L2
namespace L2
open PySem PySem.Spec PyProof.Rows
section
variable{X:Cx}{x:Str}{p pos:Pos}{e:Expr}{es:List Expr}{t:TA}{id T:String}{r:List V→Hp→VK→Prop}
def pP(r:List V→Hp→VK→Prop)(t:TA):TE:=fun σ H Q=>t σ H fun vs H1=>r vs H1 Q
theorem rS(hc:CallR X (.builtin id) r)(hg:Gl X x)(hm:X.mg x=none)(hv:bootBuiltins x=some (.builtin id))(ha:PA X (e::es) t)(hn:x ≠ "__name__" := by decide) (hdb:(x == ("__debug__" : Str))=false:=by decide)
  (he:starEach (e::es) X.env=(false,eval e X.env)::starEach es X.env:=by rfl) (hpl:(backTo pos (starEach es X.env)).any (·.1)=false:=by rfl):PE X (.Call (.Name x p) (e::es) [] pos) (pP r t):=by
 intro pins s σ H Q I h
 refine wpAny_Call_Name_kw (cr I hg hm hv ?_ hn hdb)
 exact PyProof.Rows.callWith_builtin1 (aL (ha pos pins s σ H _ I h) fun us s1 ⟨vs,H1,I1,r1,q1⟩=>hc pins s1 σ H1 vs us Q I1 r1 q1) he hpl
theorem pX(hc:CallR X (.type T) r)(hg:Gl X x)(hm:X.mg x=none)(hv:bootBuiltins x=some (.type T))(ha:PA X (e::es) t)(hn:x ≠ "__name__" := by decide) (hdb:(x == ("__debug__" : Str))=false:=by decide)
  (he:starEach (e::es) X.env=(false,eval e X.env)::starEach es X.env:=by rfl) (hpl:(backTo pos (starEach es X.env)).any (·.1)=false:=by rfl):PE X (.Call (.Name x p) (e::es) [] pos) (pP r t):=by
 intro pins s σ H Q I h
 refine wpAny_Call_Name_kw (cr I hg hm hv ?_ hn hdb)
 exact PyProof.Rows.callWith_type1 (aL (ha pos pins s σ H _ I h) fun us s1 ⟨vs,H1,I1,r1,q1⟩=>hc pins s1 σ H1 vs us Q I1 r1 q1) he hpl
end
end L2
namespace HT
open PySem PyProof.Rows
section
open PySem.SeqAt
open PySem.AutoSeq1 (wpAny_loadPart')
open PySem.MeetsSeq PySem.MeetsSeq2 PySem.MeetsSeq3
end
section
variable{prog:Program}{w:World}{A:Around}{E:Value→Shared→Prop}{s:Shared}
def sIx(n d:Nat):Option Int→Nat
 | none=>d
 | some v=>if v<0 then (v+(n:Int)).toNat else min v.toNat n
theorem sIx_none(n d:Nat):sIx n d none=d:=rfl
theorem sIx_nat(n d k:Nat):sIx n d (some (k:Int))=min k n:=by
 show (if (k:Int)<0 then ((k:Int)+(n:Int)).toNat else min (k:Int).toNat n)=min k n
 rw[if_neg (by omega),Int.toNat_natCast]
theorem sIx_le(n d:Nat)(hd:d≤n)(o:Option Int):sIx n d o≤n:=by
 cases o with
 | none=>exact hd
 | some v=>
  show (if v<0 then (v+(n:Int)).toNat else min v.toNat n)≤n
  by_cases hv:v<0
  ·rw[if_pos hv]; omega
  ·rw[if_neg hv]; exact Nat.min_le_right _ _
end
end HT
namespace L2
open PySem PySem.Spec PyProof.Rows
abbrev TO:=St→Hp→(Option Int→Hp→Prop)→Prop
def PO(X:Cx)(e:Option Expr)(t:TO):Prop:=
 ∀ (pins:List (Addr × Obj)) (s:Shared) (σ : St) (H:Hp) (Q:Option Int→Hp→Prop),Inv X pins σ H s→t σ H Q→
  wpAny (model X.prog X.w) X.A (evalPart e X.env) (fun u s'=>∃ o H',Inv X pins σ H' s'∧IsPart u o∧Q o H') X.xe s
def mT:TO:=fun _ H Q=>Q none H
def t6(t:TE):TO:=fun σ H Q=>t σ H fun x H1=>∃ i,x = .int i∧Q (some i) H1
section
variable{X:Cx}{e:Expr}{te:TE}{lo hi:Option Expr}{tl th:TO}{pos p2:Pos}
theorem gP:PO X none mT:=by
 intro pins s σ H Q I h
 rw[evalPart_none];exact wpAny_pure ⟨none,H,I,.none,h⟩
theorem cH(h:PE X e te):PO X (some e) (t6 te):=by
 intro pins s σ H Q I hw
 rw[evalPart_some];refine aL (h pins s σ H _ I hw) fun u s1 ⟨x,H1,I1,r1,q1⟩=>?_
 obtain⟨i,rfl,q⟩:=q1
 obtain⟨t,rfl⟩:=r1
 exact⟨some i,H1,I1,.int i t,q⟩
def SlR(X:Cx)(r:V→Option Int→Option Int→Hp→VK→Prop):Prop:=
 ∀ (pins:List (Addr × Obj)) (s:Shared) (σ : St) (H:Hp) (x:V) (v vl vu:Value) (lo hi:Option Int) (sl:Addr) (Q:VK),Inv X pins σ H s→RelV x v→s.heap.IsSliceOf sl vl vu .none→IsPart vl lo→IsPart vu hi→r x lo hi H Q→
  ∃ T id,typeLookup (.type T) "__getitem__" = pure (some (.builtin id))∧s.TypeIs v T∧wpAny (model X.prog X.w) X.A (getItem v (.ref sl)) (EP X pins σ Q) X.xe s
def yH(r:V→Option Int→Option Int→Hp→VK→Prop)(te:TE)(tl th:TO):TE:=fun σ H Q=>te σ H fun x H1=>tl σ H1 fun l H2=>th σ H2 fun u H3=>r x l u H3 Q
theorem hU{r:V→Option Int→Option Int→Hp→VK→Prop}(hr:SlR X r)(he:PE X e te)(hl:PO X lo tl)(hu:PO X hi th):PE X (.Subscript e (.Slice lo hi none p2) pos) (yH r te tl th):=by
 intro pins s σ H Q I h
 refine Subscript_ (aL (he pins s σ H _ I h) fun v s1 ⟨x,H1,I1,r1,q1⟩=>?_)
 refine wpAny_Slice (aL (hl pins s1 σ H1 _ I1 q1) fun vl s2 ⟨l,H2,I2,pl,q2⟩=>aL (hu pins s2 σ H2 _ I2 q2) fun vu s3 ⟨u,H3,I3,pu,q3⟩=>?_)
 rw[evalPart_none];refine wpAny_pure ?_
 have I4:Inv X pins σ H3 { s3 with heap:=s3.heap.push { cls:=.type "slice", data:=.fields #[vl,vu,.none] } }:=I3.kept (t':=s3.toks) fun b ob q=>Heap.get?_push_of_some _ q
 obtain⟨T,id,hT,ht,hg⟩:=hr pins { s3 with heap:=s3.heap.push { cls:=.type "slice", data:=.fields #[vl,vu,.none] } } σ H3 x v vl vu l u s3.heap.objs.size Q I4 r1 (Heap.IsSliceOf.new ..) pl pu q3
 show wpAny (model X.prog X.w) X.A (subscriptTail e (.Slice lo hi none p2) v (.ref s3.heap.objs.size)) (EP X pins σ Q) X.xe { s3 with heap:=s3.heap.push { cls:=.type "slice", data:=.fields #[vl,vu,.none] } }
 exact tail_any (ops:=[.ref s3.heap.objs.size,v]) ht hT hg (by with_unfolding_all rfl)
def g8(xs:List V)(lo hi:Option Int):List V:=(xs.drop (HT.sIx xs.length 0 lo)).take (HT.sIx xs.length xs.length hi - HT.sIx xs.length 0 lo)
theorem mC(xs:List V)(lo hi:Option Int):(g8 xs lo hi).length≤xs.length:=by
 unfold g8;rw[List.length_take,List.length_drop];omega
end
end L2
namespace L2
open PySem PySem.Spec PyProof.Rows
def ix(n:Nat)(i:Int):Option Nat:=if 0≤i then (if i<n then some i.toNat else none) else if -(n:Int)≤i then some (i+n).toNat else none
def ck{α : Type}(xs:List α)(i:Int):Option α:=(ix xs.length i).bind fun j=>xs[j]?
theorem mV{n:Nat}{i:Int}{j:Nat}(h:ix n i=some j):seqIndex? i n=some j∧j<n∧-(n:Int)≤i∧i<n:=by
 unfold ix at h
 by_cases h0:0≤i
 ·rw[if_pos h0]at h
  by_cases h1:i<n
  ·rw[if_pos h1]at h
   have e:i.toNat=j:=Option.some.inj h
   exact⟨by rw[seqIndex_of h0 h1,e],by omega,by omega,h1⟩
  ·rw[if_neg h1]at h; cases h
 ·rw[if_neg h0]at h
  by_cases h1:-(n:Int)≤i
  ·rw[if_pos h1]at h
   have e:(i+n).toNat=j:=Option.some.inj h
   exact⟨by rw[seqIndex_neg (by omega) h1,e],by omega,h1,by omega⟩
  ·rw[if_neg h1]at h; cases h
theorem jC{α : Type}{xs:List α}{i:Int}{v:α}(h:ck xs i=some v):∃ j,seqIndex? i xs.length=some j∧xs[j]? = some v∧j<xs.length∧-(xs.length:Int)≤i∧i<xs.length:=by
 unfold ck at h
 cases e:ix xs.length i with
 | none=>rw[e]at h; cases h
 | some j=>
  rw[e]at h
  obtain⟨h1,h2,h3,h4⟩:=mV e
  exact⟨j,h1,h,h2,h3,h4⟩
theorem aB{α : Type}{xs:List α}{j:Nat}{v:α}(h:xs[j]? = some v):ck xs (j:Int)=some v:=by
 have hj:j<xs.length:=(List.getElem?_eq_some_iff.mp h).1
 have e:ix xs.length (j:Int)=some j:=by
  unfold ix;rw[if_pos (by omega),if_pos (by omega)]; simp
 unfold ck; rw[e]; exact h
def uF(b:Expr):Prop:=∀ o i,subscripted b false o i=operate [o,i] (getItem o i)
def IxR(X:Cx)(r:R2):Prop:=
 ∀ (value slice:Expr) (pins:List (Addr × Obj)) (s:Shared) (σ : St) (H:Hp) (x y:V) (v u:Value) (Q:VK),Inv X pins σ H s→RelV x v→RelV y u→r x y H Q→
  subscripted slice false v u=operate [v,u] (getItem v u)→wpAny (model X.prog X.w) X.A (subscriptTail value slice v u) (EP X pins σ Q) X.xe s
def MtR(X:Cx)(id:String)(r:V→List V→Hp→VK→Prop):Prop:=
 ∀ (pins:List (Addr × Obj)) (s:Shared) (σ : St) (H:Hp) (x:V) (xs:List V) (v:Value) (us:List Value) (Q:VK),Inv X pins σ H s→RelV x v→Vals xs us→r x xs H Q→
  wpAny (model X.prog X.w) X.A (call (.builtin id) (v::us)) (EP X pins σ Q) X.xe s
section
variable{X:Cx}{a b:Expr}{ta tb:TE}{pos:Pos}
theorem IxR.or{r r':R2}(h:IxR X r)(h':IxR X r'):IxR X (fun x y H Q=>r x y H Q∨r' x y H Q):=by
 intro value slice pins s σ H x y v u Q I rx ry q hs
 rcases q with q | q
 ·exact h value slice pins s σ H x y v u Q I rx ry q hs
 ·exact h' value slice pins s σ H x y v u Q I rx ry q hs
theorem am{r:R2}(hr:IxR X r)(ha:PE X a ta)(hb:PE X b tb)(hs:uF b):PE X (.Subscript a b pos) (pk r ta tb):=by
 intro pins s σ H Q I h
 exact Subscript_ (rj ha hb I h fun v u s2 x y H2 I2 rx ry q=>hr a b pins s2 σ H2 x y v u Q I2 rx ry q (hs _ _))
def va(K:PySem.W.Frag):R2:=fun x y H Q=>∃ p xs i v,x = .ref p∧y = .int i∧SqL K H p xs∧ck xs i=some v∧Q v H
def vp(K:PySem.W.Frag):R2:=fun x y H Q=>∃ p xs i v,x = .ref p∧y = .int i∧SqT K H p xs∧ck xs i=some v∧Q v H
def xo:R2:=fun x y H Q=>∃ z i c,x = .str z∧y = .int i∧z.length≤sizeLine∧ck z.cps.toList i=some c∧Q (.str ⟨#[c]⟩) H
theorem ix_list:IxR X (va X.K):=by
 intro value slice pins s σ H x y v u Q I rx ry h hs
 obtain⟨p,xs,i,z,rfl,rfl,hq,he,q⟩:=h
 cases rx;obtain⟨t,rfl⟩:=ry
 obtain⟨its,r,pl,hz⟩:=I.list hq
 obtain⟨j,h1,h2,h3,h4,h5⟩:=jC he
 obtain⟨w,ew,rw'⟩:=r.get h2
 have hl:=r.length;have hn:=gD;have fin:EP X pins σ Q w s:=⟨z,H,I,rw',q⟩
 by_cases h0:0≤i
 ·have hj:i.toNat=j:=by
   rw[seqIndex_of h0 h5]at h1
   exact Option.some.inj h1
  exact item_listR pl.isList h0 (by omega) (by rw[hj]; simpa using ew) fin hs
 ·have hj:(i+(its.toArray.size:Int)).toNat=j:=by
   rw[seqIndex_neg (by omega) h4]at h1
   rw[List.size_toArray,← hl];exact Option.some.inj h1
  exact subscriptTail_builtinR (x:=w) pl.isList.typeIs slot_list_getitem.lookup
   (wpAny_getItem_list_neg (Q:=fun r s'=>r=w∧EP X pins σ Q r s') pl.isList (by omega) (by rw[List.size_toArray] <;> omega) (by omega) (by rw[hj]; simpa using ew) ⟨rfl,fin⟩) hs
theorem ix_tup:IxR X (vp X.K):=by
 intro value slice pins s σ H x y v u Q I rx ry h hs
 obtain⟨p,xs,i,z,rfl,rfl,hq,he,q⟩:=h
 cases rx;obtain⟨t,rfl⟩:=ry
 obtain⟨its,r,pl,hz⟩:=I.tuple hq
 obtain⟨j,h1,h2,h3,h4,h5⟩:=jC he
 obtain⟨w,ew,rw'⟩:=r.get h2
 have hl:=r.length;have hn:=gD;have fin:EP X pins σ Q w s:=⟨z,H,I,rw',q⟩
 exact subscriptTail_builtinR (x:=w) pl.typeIs slot_tuple_getitem.lookup
  (getItem_tuple (j:=j) (Q:=fun r s'=>r=w∧EP X pins σ Q r s') pl (by omega) (by omega) (by rw[List.size_toArray,← hl]; exact h1) (by simpa using ew) ⟨rfl,fin⟩) hs
theorem vY:IxR X xo:=by
 intro value slice pins s σ H x y v u Q I rx ry h hs
 obtain⟨z,i,c,rfl,rfl,hz,he,q⟩:=h
 obtain⟨t,rfl⟩:=rx
 obtain⟨t',rfl⟩:=ry
 obtain⟨j,h1,h2,h3,h4,h5⟩:=jC he
 have hl:z.cps.toList.length=z.length:=by simp[Str.length]
 rw[hl]at h1 h4 h5
 have hn:=gD
 exact tail_any (typeIs_str s z t) slot_str_getitem.lookup (getItem_str (c:=c) (by
  have e1:decide (i < -(2 ^ 63:Int))=false:=decide_eq_false (by omega)
  have e2:decide (i≥2 ^ 63)=false:=decide_eq_false (by omega)
  rw[e1,e2,Bool.or_false]) (by rw[h1]; simpa using h2) ⟨.str ⟨#[c]⟩,H,I.tok _,⟨_,rfl⟩,q⟩) hs
def AM(K:PySem.W.Frag):R2:=fun x y H Q=>va K x y H Q∨vp K x y H Q∨xo x y H Q
theorem v_:IxR X (AM X.K):=ix_list.or (ix_tup.or vY)
theorem nB(its:List Value)(n j:Nat)(u:Value):Obj.mapSeq (·.setIfInBounds j u) { cls:=.type "list", data:=.seq its.toArray n }={ cls:=.type "list", data:=.seq (its.set j u).toArray n }:=by
 simp[Obj.mapSeq]
theorem Inv.lst{pins:List (Addr × Obj)}{σ : St}{H:Hp}{s:Shared}{p:Addr}{xs:List V}(I:Inv X pins σ H s)(h:H p=some (.lst xs)) :
  ∃ (its:List Value) (n:Nat),Vals xs its∧s.heap.get? p=some { cls:=.type "list", data:=.seq its.toArray n }∧xs.length≤sizeLine:=by
 obtain⟨z,its,n,r,e⟩:=I.hok p _ h
 exact⟨its,n,r,e,z⟩
theorem Inv.lstUpd{pins:List (Addr × Obj)}{σ : St}{H:Hp}{s:Shared}{p:Addr}{xs ys:List V}{its its':List Value}{n n':Nat}{f:Obj→Obj}(I:Inv X pins σ H s)(h:H p=some (.lst xs))
  (ho:s.heap.get? p=some { cls:=.type "list", data:=.seq its.toArray n }) (hf:f { cls:=.type "list", data:=.seq its.toArray n }={ cls:=.type "list", data:=.seq its'.toArray n' }) (r:Vals ys its') (hz:ys.length≤sizeLine) (t:Nat) :
  Inv X pins σ (upd H p (.lst ys)) { s with heap:=s.heap.update p f,toks:=t }:=by
 have e:(s.heap.update p f).get? p=some { cls:=.type "list", data:=.seq its'.toArray n' }:=by
  rw[Heap.get?_update_self f ho (by rw[hf] <;> rfl),hf]
 refine I.write (x:=p) (e:=p) (by rw[h]; trivial) (.inl rfl) (fun b u hb q=>(Heap.get?_update_other _ _ (Ne.symm hb)).trans q) ⟨_,e⟩ ?_
 exact⟨hz,its',n',r,e⟩
def oH:V→V→V→Hp→(Hp→Prop)→Prop:=fun o i v H Q=>∃ p xs k j,o = .ref p∧i = .int k∧H p=some (.lst xs)∧ix xs.length k=some j∧Q (upd H p (.lst (xs.set j v)))
theorem sN:PSet X oH:=by
 intro pins s σ H o i v ov iv u Q I ro ri rv h
 obtain⟨p,xs,k,j,rfl,rfl,hp,hj,q⟩:=h
 cases ro;obtain⟨t,rfl⟩:=ri
 obtain⟨its,n,r,ho,hz⟩:=I.lst hp
 obtain⟨h1,h2,h3,h4⟩:=mV hj
 have hl:=r.length;have hn:=gD
 have I':Inv X pins σ (upd H p (.lst (xs.set j v))) { s with heap:=s.heap.update p (Obj.mapSeq (·.setIfInBounds j u)) }:=
  I.lstUpd hp ho (nB its n j u) (r.set rv j) (by rw[List.length_set]; exact hz) s.toks
 by_cases h0:0≤k
 ·have hk:k.toNat=j:=by
   rw[seqIndex_of h0 h4]at h1
   exact Option.some.inj h1
  exact PySem.W.ki_setAt ho h0 (by omega) (by rw[List.size_toArray,← hl]; exact h4) (by rw[hk]; exact⟨_,I',q⟩)
 ·have hk:(k+(its.toArray.size:Int)).toNat=j:=by
   rw[seqIndex_neg (by omega) h3]at h1
   rw[List.size_toArray,← hl];exact Option.some.inj h1
  exact PySem.W.ki_setBack ho (by omega) (by rw[List.size_toArray,← hl]; exact h3) (by omega) (by rw[hk]; exact⟨_,I',q⟩)
theorem ig(lo hi:Option Int)(n:Nat):(sliceBounds lo hi none n).1=((HT.sIx n 0 lo:Nat):Int)∧(sliceBounds lo hi none n).2.1=((HT.sIx n n hi:Nat):Int)∧(sliceBounds lo hi none n).2.2=1:=by
 refine⟨?_,?_,rfl⟩
 ·cases lo with
  | none=>simp[sliceBounds,HT.sIx]
  | some i=>
   simp only[sliceBounds,HT.sIx,Option.getD_none,show (1:Int)>0 by decide,if_true]
   by_cases h:i<0
   ·simp only[h,if_true] <;> omega
   ·simp only[h,if_false] <;> omega
 ·cases hi with
  | none=>simp[sliceBounds,HT.sIx]
  | some i=>
   simp only[sliceBounds,HT.sIx,Option.getD_none,show (1:Int)>0 by decide,if_true]
   by_cases h:i<0
   ·simp only[h,if_true] <;> omega
   ·simp only[h,if_false] <;> omega
theorem ky(its:List Value)(lo hi:Option Int):slicePick its.toArray lo hi none=((its.drop (HT.sIx its.length 0 lo)).take (HT.sIx its.length its.length hi - HT.sIx its.length 0 lo)).toArray:=by
 obtain⟨h1,h2,h3⟩:=ig lo hi its.toArray.size
 unfold slicePick;rw[h1,h2,h3];simp only[sliceRange_one,pick_run,List.size_toArray] <;> rfl
def qQ(K:PySem.W.Frag):V→Option Int→Option Int→Hp→VK→Prop:=fun x lo hi H Q=>∃ a xs,x = .ref a∧SqL K H a xs∧∀ p,H p=none→Q (.ref p) (upd H p (.lst (g8 xs lo hi)))
theorem ur:SlR X (qQ X.K):=by
 intro pins s σ H x v vl vu lo hi sl Q I rx hs pl pu h
 obtain⟨a,xs,rfl,hx,q⟩:=h
 cases rx;obtain⟨its,r,ht,hz⟩:=I.list hx
 have hlen:=r.length;refine⟨"list", _,slot_list_getitem.lookup,ht.isList.typeIs,?_⟩
 refine wpAny_getItem_list_slice ht.isList hs pl pu .none (by simp) ?_ (by rw[List.size_toArray] <;> omega)
 rw[ky,← hlen];refine⟨.ref s.heap.objs.size,_,I.laid (t':=s.toks) (o:=.lst (g8 xs lo hi)) (fun b ob q=>Heap.get?_push_of_some _ q) (Nat.le_refl _) ?_,rfl,q _ (I.hok.fresh (Nat.le_refl _))⟩
 exact⟨Nat.le_trans (mC xs lo hi) hz,_,0,(r.drop (HT.sIx xs.length 0 lo)).take (HT.sIx xs.length xs.length hi - HT.sIx xs.length 0 lo),Heap.get?_push_size _ rfl⟩
def bf:V→Bool
 | .non=>true
 | .bl _=>true
 | .int _=>true
 | .str _=>true
 | _=>false
def eI:V→V→Bool
 | .non,.non=>true
 | .bl a,.bl b=>a == b
 | .bl a,.int b=>(if a then 1 else 0) == b
 | .int a,.bl b=>a == (if b then 1 else 0)
 | .int a,.int b=>a == b
 | .str a,.str b=>a == b
 | _,_=>false
theorem gS{A:Around}{s:Shared}{y x:V}{u v:Value}(ry:RelV y u)(rx:RelV x v)(fy:bf y=true)(fx:bf x=true):SeqAt.EqAt A s u v (eI y x):=by
 cases y with
 | non=>
  cases ry
  cases x with
  | non=>cases rx; exact SeqAt.EqAt.same _
  | bl b=>cases rx; exact SeqAt.EqAt.none_bool b
  | int b=>obtain⟨t,rfl⟩:=rx; exact SeqAt.EqAt.none_int b t
  | str b=>obtain⟨t,rfl⟩:=rx; exact SeqAt.EqAt.none_str b t
  | _=>exact absurd (show false=true from fx) Bool.false_ne_true
 | bl a=>
  cases ry
  cases x with
  | non=>cases rx; exact SeqAt.EqAt.bool_none a
  | bl b=>cases rx; exact SeqAt.EqAt.bool_bool a b
  | int b=>obtain⟨t,rfl⟩:=rx; exact SeqAt.EqAt.bool_int a b t
  | str b=>obtain⟨t,rfl⟩:=rx; exact SeqAt.EqAt.bool_str a b t
  | _=>exact absurd (show false=true from fx) Bool.false_ne_true
 | int a=>
  obtain⟨t',rfl⟩:=ry
  cases x with
  | non=>cases rx; exact SeqAt.EqAt.int_none a t'
  | bl b=>cases rx; exact SeqAt.EqAt.int_bool a t' b
  | int b=>obtain⟨t,rfl⟩:=rx; exact SeqAt.EqAt.int_int a t' b t
  | str b=>obtain⟨t,rfl⟩:=rx; exact SeqAt.EqAt.int_str a t' b t
  | _=>exact absurd (show false=true from fx) Bool.false_ne_true
 | str a=>
  obtain⟨t',rfl⟩:=ry
  cases x with
  | non=>cases rx; exact SeqAt.EqAt.str_none a t'
  | bl b=>cases rx; exact SeqAt.EqAt.str_bool a t' b
  | int b=>obtain⟨t,rfl⟩:=rx; exact SeqAt.EqAt.str_int a t' b t
  | str b=>obtain⟨t,rfl⟩:=rx; exact SeqAt.EqAt.str_str a t' b t
  | _=>exact absurd (show false=true from fx) Bool.false_ne_true
 | _=>exact absurd (show false=true from fy) Bool.false_ne_true
def dw(x:V)(u:Value):Bool:=match u with
 | .none=>eI .non x
 | .bool b=>eI (.bl b) x
 | .int i _=>eI (.int i) x
 | .str z _=>eI (.str z) x
 | _=>false
theorem pO{x y:V}{u:Value}(r:RelV y u)(f:bf y=true):dw x u=eI y x:=by
 cases y with
 | non=>cases r; rfl
 | bl b=>cases r; rfl
 | int i=>obtain⟨t,rfl⟩:=r; rfl
 | str z=>obtain⟨t,rfl⟩:=r; rfl
 | _=>exact absurd (show false=true from f) Bool.false_ne_true
theorem gw{x:V}:∀ {xs:List V} {us:List Value},Vals xs us→xs.all bf=true→us.any (dw x)=xs.any fun y=>eI y x
 | _,_,.nil,_=>rfl
 | y::xs,u::us,.cons r t,f=>by
  rw[List.all_cons,Bool.and_eq_true]at f
  rw[List.any_cons,List.any_cons,pO r f.1,gw t f.2]
theorem fW{A:Around}{s:Shared}{x:V}{v:Value}(rx:RelV x v)(fx:bf x=true):∀ {xs:List V} {us:List Value},Vals xs us→xs.all bf=true→∀ u∈us,SeqAt.EqAt A s u v (dw x u)
 | _,_,.nil,_=>fun u hu=>by cases hu
 | y::xs,u::us,.cons r t,f=>fun u' hu=>by
  rw[List.all_cons,Bool.and_eq_true]at f
  rcases List.mem_cons.mp hu with rfl | hu
  ·rw[pO r f.1]; exact gS r rx f.1 fx
  ·exact fW rx fx t f.2 u' hu
def ib(x:V)(xs:List V):Bool:=xs.any fun y=>eI y x
def yr(K:PySem.W.Frag)(neg:Bool):R2:=fun x y H Q=>∃ p xs,y = .ref p∧(SqL K H p xs∨SqT K H p xs)∧bf x=true∧xs.all bf=true∧Q (.bl (if neg then !ib x xs else ib x xs)) H
theorem pG:OpR X (compareOp .In) (yr X.K false):=by
 intro pins s σ H x y v u Q I rx ry h
 obtain⟨p,xs,rfl,hq,fx,fs,q⟩:=h
 cases ry;rcases hq with hq | hq
 ·obtain⟨its,r,pl,hz⟩:=I.list hq
  refine SeqAt.in_listAt (dw x) pl.isList (fun w hw=>fW rx fx r fs w (by simpa using hw)) ⟨.bl _,H,I,rfl,?_⟩
  rw[show its.toArray.any (dw x)=its.any (dw x) by simp,gw r fs]
  exact q
 ·obtain⟨its,r,pl,hz⟩:=I.tuple hq
  refine SeqAt.in_tupleAt (dw x) pl (fun w hw=>fW rx fx r fs w (by simpa using hw)) ⟨.bl _,H,I,rfl,?_⟩
  rw[show its.toArray.any (dw x)=its.any (dw x) by simp,gw r fs]
  exact q
theorem kK:OpR X (compareOp .NotIn) (yr X.K true):=by
 intro pins s σ H x y v u Q I rx ry h
 obtain⟨p,xs,rfl,hq,fx,fs,q⟩:=h
 cases ry;rcases hq with hq | hq
 ·obtain⟨its,r,pl,hz⟩:=I.list hq
  refine SeqAt.notIn_listAt (dw x) pl.isList (fun w hw=>fW rx fx r fs w (by simpa using hw)) ⟨.bl _,H,I,rfl,?_⟩
  rw[show its.toArray.any (dw x)=its.any (dw x) by simp,gw r fs]
  exact q
 ·obtain⟨its,r,pl,hz⟩:=I.tuple hq
  refine SeqAt.notIn_tupleAt (dw x) pl (fun w hw=>fW rx fx r fs w (by simpa using hw)) ⟨.bl _,H,I,rfl,?_⟩
  rw[show its.toArray.any (dw x)=its.any (dw x) by simp,gw r fs]
  exact q
theorem lL:CallR X (.builtin "len") (fun xs H Q=>∃ p ys,xs=[.ref p]∧(SqL X.K H p ys∨SqT X.K H p ys)∧Q (.int ys.length) H):=by
 intro pins s σ H xs us Q I r h
 obtain⟨p,ys,rfl,hq,q⟩:=h
 obtain⟨u,rfl,rx⟩:=b0 r
 cases rx;have hn:=gD;rcases hq with hq | hq
 ·obtain⟨its,r',pl,hz⟩:=I.list hq
  have hlen:=r'.length;exact Calls.call_len_list pl.isList (by simp only[List.size_toArray] <;> omega) ⟨.int ys.length,H,I.tok _,⟨s.toks+1,by rw[List.size_toArray,hlen]⟩,q⟩
 ·obtain⟨its,r',pl,hz⟩:=I.tuple hq
  have hlen:=r'.length;exact len_tuple pl (by simp only[List.size_toArray] <;> omega) ⟨.int ys.length,H,I.tok _,⟨s.toks+1,by rw[List.size_toArray,hlen]⟩,q⟩
theorem lJ:CallR X (.builtin "len") (fun xs H Q=>∃ z,xs=[.str z]∧z.length≤sizeLine∧Q (.int z.length) H):=by
 intro pins s σ H xs us Q I r h
 obtain⟨z,rfl,hz,q⟩:=h
 obtain⟨u,rfl,t,rfl⟩:=b0 r
 have hn:=gD;exact len_str (by omega) ⟨.int z.length,H,I.tok _,⟨_,rfl⟩,q⟩
theorem mf:CallR X (.type "list") (fun xs H Q=>∃ p ys,xs=[.ref p]∧(SqL X.K H p ys∨SqT X.K H p ys)∧∀ l,H l=none→Q (.ref l) (upd H l (.lst ys))):=by
 intro pins s σ H xs us Q I r h
 obtain⟨p,ys,rfl,hq,q⟩:=h
 obtain⟨u,rfl,rx⟩:=b0 r
 cases rx
 have fin:∀ (its:List Value),Vals ys its→ys.length≤sizeLine→∀ (h':Heap) (c':Nat),(∀ b o',s.heap.get? b=some o'→h'.get? b=some o')→
   h'.get? s.heap.objs.size=some { cls:=.type "list", dict:=none,data:=.seq its.toArray c',slots:=#[] }→EP X pins σ Q (.ref s.heap.objs.size) { s with heap:=h' }:=fun its r' hz h' c' kp e=>
  ⟨.ref s.heap.objs.size,_,I.laid (t':=s.toks) kp (Nat.le_refl _) (show ObjOk X.prog X.w _ h' _ (.lst ys) from ⟨hz,its,c',r',e⟩),rfl,q _ (I.hok.fresh (Nat.le_refl _))⟩
 rcases hq with hq | hq
 ·obtain⟨its,r',pl,hz⟩:=I.list hq
  have hlen:=r'.length;obtain⟨o,ho,hc,n,hd⟩:=pl.isList
  exact call_list_seq p (.inl rfl) ho hc hd (fun h' c' kp e=>fin its r' hz h' c' kp e) (by simp only[List.size_toArray] <;> omega)
 ·obtain⟨its,r',pl,hz⟩:=I.tuple hq
  have hlen:=r'.length;obtain⟨o,ho,hc,n,hd⟩:=pl
  exact call_list_seq p (.inr rfl) ho hc hd (fun h' c' kp e=>fin its r' hz h' c' kp e) (by simp only[List.size_toArray] <;> omega)
def lG(K:PySem.W.Frag)(T:String)(x:V)(H:Hp):Prop:=match x with
 | .str _=>T = "str"
 | .int _=>T = "int"
 | .ref p=>(T = "list" ∧ ∃ xs,SqL K H p xs)∨(T = "tuple" ∧ ∃ o,K.lookup p=some o∧o.cls = .type "tuple" ∧ o.dict=none)∨
   (T = "dict" ∧ ((∃ kvs,H p=some (.dK kvs))∨∃ kvs,H p=some (.dT kvs)))∨(T = "set" ∧ ∃ S n,H p=some (.set S n))
 | _=>False
theorem p5{pins:List (Addr × Obj)}{σ : St}{H:Hp}{s:Shared}{T:String}{x:V}{v:Value}(I:Inv X pins σ H s)(r:RelV x v)(ty:lG X.K T x H) :
  s.TypeIs v T∧∀ a,v = .ref a→∃ ob,s.heap.get? a=some ob∧ob.dict=none:=by
 cases x with
 | str z=>
  obtain⟨t,rfl⟩:=r
  cases (show T = "str" from ty)
  exact⟨typeIs_str s z t,fun _ e=>nomatch e⟩
 | int i=>
  obtain⟨t,rfl⟩:=r
  cases (show T = "int" from ty)
  exact⟨typeIs_int s i t,fun _ e=>nomatch e⟩
 | ref p=>
  cases r;rcases ty with ⟨rfl,xs,hq⟩ | ⟨rfl,o,hk,hc,hd⟩ | ⟨rfl,hk⟩ | ⟨rfl,S,n,hk⟩
  ·obtain⟨its,_,pl,_⟩:=I.list hq
   refine⟨pl.isList.typeIs,fun a e=>?_⟩
   cases e;obtain⟨o,n,e,c,hd,_⟩:=pl
   exact⟨o,e,hd⟩
  ·refine⟨⟨o,I.kIn p o hk,hc⟩,fun a e=>?_⟩
   cases e;exact⟨o,I.kIn _ o hk,hd⟩
  ·have z:∃ o,s.heap.get? p=some o∧o.ExactDict:=by
    rcases hk with ⟨kvs,hk⟩ | ⟨kvs,hk⟩
    ·obtain⟨_,_,_,_,o,_,_,e,ex,_⟩:=I.hok p _ hk
     exact⟨o,e,ex⟩
    ·obtain⟨_,_,_,_,o,_,_,e,ex,_⟩:=I.hok p _ hk
     exact⟨o,e,ex⟩
   obtain⟨o,e,ex⟩:=z
   refine⟨⟨o,e,ex.1⟩,fun a e2=>?_⟩
   cases e2;exact⟨o,e,ex.2.1⟩
  ·obtain⟨o,_,_,_,e,ex,_⟩:=I.hok p _ hk
   refine⟨⟨o,e,ex.1⟩,fun a e2=>?_⟩
   cases e2;exact⟨o,e,ex.2.1⟩
 | _=>exact False.elim ty
def rJ(K:PySem.W.Frag)(T:String)(r:V→List V→Hp→VK→Prop)(to:TE):TE:=fun σ H Q=>to σ H fun x H1=>lG K T x H1∧r x [] H1 Q
def wH(K:PySem.W.Frag)(T:String)(r:V→List V→Hp→VK→Prop)(to:TE)(t:TA):TE:=fun σ H Q=>to σ H fun x H1=>lG K T x H1∧t σ H1 fun xs H2=>r x xs H2 Q
variable{o e:Expr}{es:List Expr}{to:TE}{t:TA}{name:Str}{apos cpos:Pos}{T id:String}{r:V→List V→Hp→VK→Prop}
theorem wI(pa:PlainAttrs T)(slot:Slot T name id)(hty:typeOf (.builtin id)=pure (.type "method_descriptor")) (hm:MtR X id r) (ho:PE X o to)
  (hbase:attributeBase o name X.env (eval o X.env)=eval o X.env:=by rfl) (hline:(apos.endLine == cpos.line)=true:=by rfl):PE X (.Call (.Attribute o name apos) [] [] cpos) (rJ X.K T r to):=by
 intro pins s σ H Q I h
 refine wpAny_Call_method0_late hbase hline (aL (ho pins s σ H _ I h) fun v s1 ⟨x,H1,I1,r1,ty,q1⟩=>?_)
 obtain⟨h1,h2⟩:=p5 I1 r1 ty
 exact⟨T,id,pa,slot,hty,h1,h2,Calls.callWith_builtin rfl (PySem.evalArgs_none (hm pins s1 σ H1 x [] v [] Q I1 r1 .nil q1))⟩
theorem x3(pa:PlainAttrs T)(slot:Slot T name id)(hty:typeOf (.builtin id)=pure (.type "method_descriptor")) (hm:MtR X id r) (ho:PE X o to) (ha:PA X (e::es) t)
  (hbase:attributeBase o name X.env (eval o X.env)=eval o X.env:=by rfl)
  (hfew:((backTo cpos (starEach (e::es) X.env)).all (fun x=>!x.1)&&(backToKw cpos (keywordEach [] X.env)).all (fun x=>x.1.isSome)
   && decide ((e::es).length+([]:List Keyword).length+(if ([]:List Keyword).isEmpty then 0 else 1)<30))=true:=by rfl)
  (hline:(apos.endLine == cpos.line)=true:=by rfl) (hs:starEach (e::es) X.env=(false,eval e X.env)::starEach es X.env:=by rfl) (hplain:(backTo cpos (starEach es X.env)).any (·.1)=false:=by rfl) :
  PE X (.Call (.Attribute o name apos) (e::es) [] cpos) (wH X.K T r to t):=by
 intro pins s σ H Q I h
 refine wpAny_Call_method_late hbase hfew hline rfl (aL (ho pins s σ H _ I h) fun v s1 ⟨x,H1,I1,r1,ty,q1⟩=>?_)
 obtain⟨h1,h2⟩:=p5 I1 r1 ty
 refine⟨T,id,pa,slot,hty,h1,h2,?_⟩
 have hA:=ha cpos pins s1 σ H1 _ I1 q1;rw[hs]at hA ⊢
 refine Calls.callWith_builtin (by show (false||(backTo cpos (starEach es X.env)).any (·.1))=false; rw[hplain] <;> rfl) (Calls.evalArgs_plain ?_)
 exact aL hA fun us s2 ⟨vs,H2,I2,r2,q2⟩=>hm pins s2 σ H2 x vs v us Q I2 r1 r2 q2
/- xs.append(e), list.index on a module's tuple .. are MtR facts of 06m -/
end
end L2
namespace L2
open PySem PySem.Spec PyProof.Rows
def vL(X:Cx)(id:String)(r:V→List V→Hp→VK→Prop):Prop:=
 ∀ (pins:List (Addr × Obj)) (s:Shared) (σ : St) (H:Hp) (x:V) (xs:List V) (v:Value) (us:List Value) (Q:VK),Inv X pins σ H s→RelV x v→Vals xs us→r x xs H Q→
  wpAny (model X.prog X.w) X.A (call (.builtin id) (v::us)) (EP X pins σ Q) X.xe s
theorem Vals.one:∀ {x:V} {us:List Value},Vals [x] us→∃ u,us=[u]∧RelV x u
 | _,_,.cons r .nil=>⟨_,rfl,r⟩
theorem Vals.zero:∀ {us:List Value},Vals [] us→us=[]
 | _,.nil=>rfl
theorem Vals.dropLast{xs:List V}{us:List Value}(h:Vals xs us):Vals xs.dropLast us.dropLast:=by
 induction h with
 | nil=>exact .nil
 | cons r t ih=>
  cases t with
  | nil=>exact .nil
  | cons q t'=>exact .cons r ih
theorem Vals.rep{xs:List V}{us:List Value}(h:Vals xs us):∀ k:Nat,Vals (List.replicate k xs).flatten (List.replicate k us).flatten
 | 0=>.nil
 | k+1=>by
  rw[List.replicate_succ,List.replicate_succ,List.flatten_cons,List.flatten_cons];exact Vals.append h (Vals.rep h k)
theorem oD{α : Type}(l:List α):l.eraseIdx (l.length - 1)=l.dropLast:=by
 induction l with
 | nil=>rfl
 | cons a r ih=>
  cases r with
  | nil=>rfl
  | cons b r=>
   have e:(a::b::r).length - 1=((b::r).length - 1)+1:=by
    have h1:(a::b::r).length=r.length+2:=rfl
    have h2:(b::r).length=r.length+1:=rfl
    omega
   rw[e,List.eraseIdx_cons_succ,ih]
   all_goals rfl
theorem jX(its:List Value):∀ (k:Nat) (acc:List Value),
  List.foldl (fun x1 x2=>x1++x2) acc.toArray (List.replicate k its.toArray)=(acc++(List.replicate k its).flatten).toArray
 | 0,acc=>by simp
 | k+1,acc=>by
  have e:acc.toArray++its.toArray=(acc++its).toArray:=by simp
  have e2:(acc++its)++(List.replicate k its).flatten=acc++(List.replicate (k+1) its).flatten:=by
   rw[List.replicate_succ,List.flatten_cons,List.append_assoc]
  rw[← e2,← jX its k (acc++its),← e,List.replicate_succ,List.foldl_cons]
section
variable{X:Cx}{pins:List (Addr × Obj)}{σ : St}{H:Hp}{s:Shared}{l b:Addr}{xs ys zs:List V}
theorem Inv.lset{its its':List Value}{n:Nat}{f:Array Value→Array Value}{t':Nat}(I:Inv X pins σ H s)(hH:H l=some (.lst xs))
  (e:s.heap.get? l=some { cls:=.type "list", data:=.seq its.toArray n }) (hf:f its.toArray=its'.toArray) (hv:Vals ys its') (hz:ys.length≤sizeLine) :
  Inv X pins σ (upd H l (.lst ys)) { s with heap:=s.heap.update l (Obj.mapSeq f),toks:=t' }:=by
 have q:=PySem.IsL.update e f;rw[hf]at q
 refine I.write (x:=l) (e:=l) (by rw[hH]; exact trivial) (.inl rfl) (fun b' u hb hu=>(Heap.get?_update_other s.heap (Obj.mapSeq f) (Ne.symm hb)).trans hu) ⟨_,q⟩ ?_
 exact⟨hz,its',_,hv,q⟩
theorem Inv.lnew{its:List Value}{t':Nat}(I:Inv X pins σ H s)(hv:Vals ys its)(hz:ys.length≤sizeLine) :
  Inv X pins σ (upd H s.heap.objs.size (.lst ys)) { s with heap:=s.heap.push { cls:=.type "list", data:=.seq its.toArray },toks:=t' }:=
 I.laid (fun _ _ q=>Heap.get?_push_of_some _ q) (Nat.le_refl _) ⟨hz,its,0,hv,Heap.get?_push_size _ rfl⟩
theorem Inv.fresh(I:Inv X pins σ H s):H s.heap.objs.size=none:=I.hok.fresh (Nat.le_refl _)
theorem Inv.lstM(I:Inv X pins σ H s)(hH:H l=some (.lst xs)):xs.length≤sizeLine∧∃ (its:List Value) (n:Nat),Vals xs its∧xs.length=its.length∧s.heap.get? l=some { cls:=.type "list", data:=.seq its.toArray n }:=by
 obtain⟨z,its,n,r,e⟩:=I.hok l _ hH
 exact⟨z,its,n,r,r.length,e⟩
theorem qU{n:Nat}(h:n≤sizeLine):Builtin.List.listTooLong n=false:=by
 unfold Builtin.List.listTooLong;exact decide_eq_false (by omega)
end
section
variable{X:Cx}
def jy:V→List V→Hp→VK→Prop:=fun x vs H Q=>∃ l xs y,x = .ref l∧vs=[y]∧H l=some (.lst xs)∧xs.length<sizeLine∧Q .non (upd H l (.lst (xs++[y])))
theorem ir:vL X "list.append" jy:=by
 intro pins s σ H x vs v us Q I rx rv h
 obtain⟨l,xs,y,rfl,rfl,hH,hz,q⟩:=h
 cases rx;obtain⟨u,rfl,ru⟩:=rv.one
 obtain⟨z,its,n,r,hl,e⟩:=I.lstM hH
 refine call_meets F.slot_list_append ⟨_,e,rfl⟩ F.entry_list_append (F.args_list_append_2 _ _) (PySem.list_append l its.toArray n u (by rw[List.size_toArray]; omega)) ⟨e,?_⟩
 refine⟨.non,_,I.lset (its':=its++[u]) hH e (by simp) (r.append (.cons ru .nil)) ?_,rfl,q⟩
 rw[List.length_append,List.length_singleton];omega
def rE:V→List V→Hp→VK→Prop:=fun x vs H Q=>∃ l xs y,x = .ref l∧vs=[]∧H l=some (.lst xs)∧xs[xs.length - 1]? = some y∧Q y (upd H l (.lst xs.dropLast))
theorem xJ:vL X "list.pop" rE:=by
 intro pins s σ H x vs v us Q I rx rv h
 obtain⟨l,xs,y,rfl,rfl,hH,hy,q⟩:=h
 cases rx;have hus:=rv.zero;subst hus;obtain⟨z,its,n,r,hl,e⟩:=I.lstM hH
 obtain⟨u,hu,ru⟩:=r.get hy
 have hy':its.toArray[its.toArray.size - 1]? = some u:=by
  show its.toArray[its.length - 1]? = some u
  rw[← Array.getElem?_toList,← hl];exact hu
 refine call_meets F.slot_list_pop ⟨_,e,rfl⟩ F.entry_list_pop (F.args_list_pop_1 _) (MeetsSeq.list_pop_last l its.toArray n u hy' (by rw[List.size_toArray]; omega)) ⟨e,?_⟩
 refine⟨y,_,I.lset (its':=its.dropLast) hH e ?_ r.dropLast ?_,ru,q⟩
 ·show its.toArray.eraseIdxIfInBounds (its.toArray.size - 1)=its.dropLast.toArray
  rw[List.size_toArray,List.eraseIdxIfInBounds_toArray,oD]
 ·rw[List.length_dropLast]
  omega
def qz:V→List V→Hp→VK→Prop:=fun x vs H Q=>∃ l xs,x = .ref l∧vs=[]∧H l=some (.lst xs)∧Q .non (upd H l (.lst []))
theorem se:vL X "list.clear" qz:=by
 intro pins s σ H x vs v us Q I rx rv h
 obtain⟨l,xs,rfl,rfl,hH,q⟩:=h
 cases rx;have hus:=rv.zero;subst hus;obtain⟨z,its,n,r,hl,e⟩:=I.lstM hH
 refine call_meets F.slot_list_clear ⟨_,e,rfl⟩ F.entry_list_clear (F.args_list_clear_1 _) (AutoSeq1.list_clear_list_0 l its.toArray n (by rw[List.size_toArray]; omega)) ⟨e,?_⟩
 exact⟨.non,_,I.lset (its':=[]) (ys:=[]) hH e rfl .nil (Nat.zero_le _),rfl,q⟩
def zc:R2:=fun x y H Q=>∃ l b xs zs,x = .ref l∧y = .ref b∧H l=some (.lst xs)∧H b=some (.lst zs)∧xs.length+zs.length≤sizeLine∧∀ p,H p=none→Q (.ref p) (upd H p (.lst (xs++zs)))
theorem wJ:OpR X (binaryOp .Add) zc:=by
 intro pins s σ H x y v u Q I rx ry h
 obtain⟨l,b,xs,zs,rfl,rfl,hH,hB,hz,q⟩:=h
 cases rx
 cases ry;obtain⟨z,its,n,r,hl,e⟩:=I.lstM hH
 obtain⟨z2,its2,n2,r2,hl2,e2⟩:=I.lstM hB
 refine PySem.P.add_list e e2 ?_ (by rw[List.size_toArray,List.size_toArray]; omega)
 have ea:its.toArray++its2.toArray=(its++its2).toArray:=by simp
 rw[ea];exact⟨.ref _,_,I.lnew (t':=s.toks) (r.append r2) (by rw[List.length_append]; omega),rfl,q _ I.fresh⟩
def zF:R2:=fun x y H Q=>∃ l k xs,x = .ref l∧y = .int k∧H l=some (.lst xs)∧-(2 ^ 63)≤k∧k<2 ^ 63∧xs.length * k.toNat≤sizeLine∧
 ∀ p,H p=none→Q (.ref p) (upd H p (.lst (List.replicate k.toNat xs).flatten))
theorem uL{α : Type}(xs:List α)(k:Nat):(List.replicate k xs).flatten.length=k * xs.length:=by
 induction k with
 | zero=>simp
 | succ k ih=>rw[List.replicate_succ,List.flatten_cons,List.length_append,ih,Nat.succ_mul,Nat.add_comm]
theorem oZ:OpR X (binaryOp .Mult) zF:=by
 intro pins s σ H x y v u Q I rx ry h
 obtain⟨l,k,xs,rfl,rfl,hH,h1,h2,hz,q⟩:=h
 cases rx;obtain⟨t,rfl⟩:=ry
 obtain⟨z,its,n,r,hl,e⟩:=I.lstM hH
 have hlen:its.toArray.size * k.toNat≤sizeLine:=by rw[List.size_toArray,← hl]; exact hz
 have hcap:¬ its.toArray.size * k.toNat>(2 ^ 63 - 1) / 8:=by
  have:(sizeLine:Nat)≤(2 ^ 63 - 1) / 8:=by decide
  omega
 have hfit:¬ (!Builtin.List.listFitsIndex k)=true:=by
  rw[fitsIndex_both h1 h2];exact Bool.false_ne_true
 have hlong:¬ Builtin.List.listTooLong (its.toArray.size * k.toNat)=true:=by
  rw[qU hlen];exact Bool.false_ne_true
 have hnew:List.foldl (fun x1 x2=>x1++x2) #[] (List.replicate (if its.toArray.isEmpty=true then 0 else k.toNat) its.toArray)=(List.replicate k.toNat its).flatten.toArray:=by
  have f0:∀ m:Nat,List.foldl (fun x1 x2=>x1++x2) #[] (List.replicate m its.toArray)=(List.replicate m its).flatten.toArray:=fun m=>by
   have:=jX its m []
   rw[List.nil_append]at this
   exact this
  rw[f0]
  cases its with
  | nil=>simp
  | cons a r'=>rw[if_neg (by simp)]
 refine wpAny_binaryOp_repeat_ref (T := "list") (U := "int") (by decide) ⟨_,e,rfl⟩ (fun s'=>typeIs_int s' k t) noFill_list_mul F.fills_int_mul F.slot_int_rmul repeat_list F.slot_int_index.lookup
  (call_meets F.slot_int_rmul (typeIs_int s k t) F.entry_int_rmul (F.args_int_rmul_2 _ _) (int___rmul___int_list k t l its.toArray n)
   ⟨e,rfl,⟨_,e,rfl⟩,call_meets F.slot_list_mul ⟨_,e,rfl⟩ F.entry_list_mul (F.args_list_mul_2 _ _) (AutoListH.list___mul___list_int_3 l its.toArray n k t hfit hcap hlong) ⟨e,?_⟩⟩)
 rw[hnew];exact⟨.ref _,_,I.lnew (t':=s.toks) (r.rep k.toNat) (by rw[uL,Nat.mul_comm]; exact hz),rfl,q _ I.fresh⟩
end
section
variable{prog:Program}{w:World}{A:Around}{E:Value→Shared→Prop}{s:Shared}
end
section
variable{X:Cx}
end
end L2
namespace L2
open PySem PySem.Spec PyProof.Rows
section
variable{κ : Type}[DecidableEq κ]
def aF(kvs:List (κ × V))(k:κ):Option V:=(kvs.find? fun kv=>decide (kv.1=k)).map (·.2)
def bQ(kvs:List (κ × V))(k:κ)(v:V):List (κ × V):=
 if (kvs.any fun kv=>decide (kv.1=k))=true then kvs.map (fun kv=>if kv.1=k then (kv.1,v) else kv) else kvs++[(k,v)]
theorem sn{k:κ}:aF ([]:List (κ × V)) k=none:=rfl
theorem bi{p:κ × V}{r:List (κ × V)}{k:κ}(e:p.1=k):aF (p::r) k=some p.2:=by simp[aF,List.find?_cons,e]
theorem bo{p:κ × V}{r:List (κ × V)}{k:κ}(e:¬ p.1=k):aF (p::r) k=aF r k:=by simp[aF,List.find?_cons,e]
theorem g_(k:κ):∀ kvs:List (κ × V),(kvs.any fun kv=>decide (kv.1=k))=(aF kvs k).isSome
 | []=>rfl
 | p::r=>by
  rw[List.any_cons]
  by_cases e:p.1=k
  ·simp only[bi e,decide_eq_true e,Bool.true_or,Option.isSome_some]
  ·rw[bo e,decide_eq_false e,Bool.false_or]; exact g_ k r
theorem lr(k j:κ)(y:V):∀ kvs:List (κ × V),aF (kvs.map fun kv=>if kv.1=k then (kv.1,y) else kv) j=(aF kvs j).map fun x=>if j=k then y else x
 | []=>rfl
 | p::r=>by
  have ih:=lr k j y r;rw[List.map_cons]
  by_cases h:p.1=k
  ·rw[if_pos h]
   by_cases e:p.1=j
   ·rw[bi (p:=(p.1,y)) e,bi e,Option.map_some,if_pos (e.symm.trans h)]
   ·rw[bo (p:=(p.1,y)) e,bo e,ih]
  ·rw[if_neg h]
   by_cases e:p.1=j
   ·rw[bi (p:=p) e,bi e,Option.map_some,if_neg (fun z=>h (e.trans z))]
   ·rw[bo (p:=p) e,bo e,ih]
theorem kf(k j:κ)(y:V):∀ kvs:List (κ × V),aF kvs k=none→aF (kvs++[(k,y)]) j=if j=k then some y else aF kvs j
 | [],_=>by
  by_cases e:k=j
  ·rw[if_pos e.symm]; exact bi (p:=(k,y)) e
  ·rw[if_neg (fun z=>e z.symm)]; exact bo (p:=(k,y)) e
 | p::r,hn=>by
  rw[List.cons_append];have hk:¬ p.1=k:=fun z=>by rw[bi z]at hn; cases hn
  rw[bo hk]at hn
  have ih:=kf k j y r hn
  by_cases e:p.1=j
  ·rw[bi e,bi e,if_neg (fun z=>hk (e.trans z))]
  ·rw[bo e,bo e,ih]
theorem hV(kvs:List (κ × V))(k j:κ)(y:V):aF (bQ kvs k y) j=if j=k then some y else aF kvs j:=by
 unfold bQ
 by_cases a:(kvs.any fun kv=>decide (kv.1=k))=true
 ·rw[if_pos a,lr]
  rw[g_]at a
  by_cases e:j=k
  ·obtain⟨x,hx⟩:=Option.isSome_iff_exists.mp a
   rw[if_pos e,e,hx,Option.map_some,if_pos rfl]
  ·rw[if_neg e]
   cases aF kvs j with
   | none=>rfl
   | some x=>rw[Option.map_some,if_neg e]
 ·rw[if_neg a]
  refine kf k j y kvs ?_
  rw[g_]at a
  cases q:aF kvs k with
  | none=>rfl
  | some x=>rw[q]at a; exact(a rfl).elim
theorem cv(kvs:List (κ × V))(k:κ)(v:V):(bQ kvs k v).length≤kvs.length+1:=by
 unfold bQ;split
 ·rw[List.length_map]; omega
 ·rw[List.length_append,List.length_cons,List.length_nil]; omega
theorem RelO.isSome_eq{o:Option V}{u:Option Value}(r:RelO o u):o.isSome=u.isSome:=by
 cases o with
 | none=>cases u with
  | none=>rfl
  | some _=>exact(show False from r).elim
 | some _=>cases u with
  | none=>exact(show False from r).elim
  | some _=>rfl
theorem RelO.getD{o:Option V}{u:Option Value}{d:V}{d':Value}(r:RelO o u)(rd:RelV d d'):RelV (o.getD d) (u.getD d'):=by
 cases o with
 | none=>cases u with
  | none=>exact rd
  | some _=>exact(show False from r).elim
 | some _=>cases u with
  | none=>exact(show False from r).elim
  | some _=>exact r
theorem KV.val{kvs:List (κ × V)}{vs:List (κ × Value)}(r:KV kvs vs)(k:κ):RelO (aF kvs k) (valueAt vs k):=by
 unfold KV at r
 induction r with
 | nil=>exact True.intro
 | @cons p q ps qs h t ih=>
  obtain⟨h1,h2⟩:=h
  by_cases e:p.1=k
  ·have e':q.1=k:=h1.symm.trans e
   have b:valueAt (q::qs) k=some q.2:=by simp[valueAt,List.find?_cons,e']
   rw[bi e,b]; exact h2
  ·have e':¬ q.1=k:=fun z=>e (h1.trans z)
   have b:valueAt (q::qs) k=valueAt qs k:=by simp[valueAt,List.find?_cons,e']
   rw[bo e,b]; exact ih
theorem KV.any{kvs:List (κ × V)}{vs:List (κ × Value)}(r:KV kvs vs)(k:κ):(kvs.any fun kv=>decide (kv.1=k))=vs.any fun kv=>decide (kv.1=k):=by
 unfold KV at r
 induction r with
 | nil=>rfl
 | cons h t ih=>rw[List.any_cons,List.any_cons,ih,h.1]
theorem KV.repl{kvs:List (κ × V)}{vs:List (κ × Value)}(r:KV kvs vs)(k:κ){y:V}{u:Value}(ry:RelV y u) :
  KV (kvs.map fun kv=>if kv.1=k then (kv.1,y) else kv) (vs.map fun kv=>if kv.1=k then (kv.1,u) else kv):=by
 unfold KV at r ⊢
 induction r with
 | nil=>exact .nil
 | @cons p q ps qs h t ih=>
  rw[List.map_cons,List.map_cons];refine .cons ?_ ih
  obtain⟨h1,h2⟩:=h
  by_cases e:p.1=k
  ·rw[if_pos e,if_pos (h1.symm.trans e)]; exact⟨h1,ry⟩
  ·rw[if_neg e,if_neg (fun z=>e (h1.trans z))]; exact⟨h1,h2⟩
theorem KV.put{kvs:List (κ × V)}{vs:List (κ × Value)}(r:KV kvs vs)(k:κ){y:V}{u:Value}(ry:RelV y u):KV (bQ kvs k y) (stored vs k u):=by
 unfold bQ stored;rw[r.any k]
 by_cases e:(vs.any fun kv=>decide (kv.1=k))=true
 ·rw[if_pos e,if_pos e]; exact r.repl k ry
 ·rw[if_neg e,if_neg e]; exact Paired.snoc r ⟨rfl,ry⟩
theorem KV.length{kvs:List (κ × V)}{vs:List (κ × Value)}(r:KV kvs vs):kvs.length=vs.length:=Paired.length r
end
theorem jv{P:Program}{w:World}{k:aU}{u:Value}(r:RelV (kV k) u):(bK P w).is k u=true:=by
 cases k with
 | inl i=>obtain⟨t,e⟩:=(show ∃ t,u=Value.int i t from r); subst e; exact my P w i t
 | inr x=>obtain⟨t,e⟩:=(show ∃ t,u=Value.str x t from r); subst e; exact mE P w x t
theorem j9{P:Program}{w:World}:∀ {ks:List aU} {us:List Value},Vals (ks.map kV) us→ItemsAre (bK P w) ks us
 | [],_,r=>by rw[List.map_nil]at r; cases r; exact .nil
 | k::ks,_,r=>by
  rw[List.map_cons]at r
  cases r with
  | cons h t=>exact .cons (jv h) (j9 t)
abbrev KT (H:Hp):List (List aU × V)→List (List aU × Addr × Value)→Prop:=Paired fun p q=>p.1=q.1∧H q.2.1=some (.tup (p.1.map kV))∧RelV p.2 q.2.2
theorem KT.val{H:Hp}{kvs:List (List aU × V)}{xs:List (List aU × Addr × Value)}(r:KT H kvs xs)(k:List aU):RelO (aF kvs k) ((atKey xs k).map (·.2)):=by
 induction r with
 | nil=>exact True.intro
 | @cons p q ps qs h t ih=>
  obtain⟨h1,_,h2⟩:=h
  by_cases e:p.1=k
  ·have e':q.1=k:=h1.symm.trans e
   have b:atKey (q::qs) k=some q.2:=by simp[atKey,List.find?_cons,e']
   rw[bi e,b]; exact h2
  ·have e':¬ q.1=k:=fun z=>e (h1.trans z)
   have b:atKey (q::qs) k=atKey qs k:=by simp[atKey,List.find?_cons,e']
   rw[bo e,b]; exact ih
theorem KT.repl{H:Hp}{kvs:List (List aU × V)}{xs:List (List aU × Addr × Value)}(r:KT H kvs xs)(k:List aU){y:V}{u:Value}(ry:RelV y u) :
  KT H (kvs.map fun kv=>if kv.1=k then (kv.1,y) else kv) (xs.map (putAt k u)):=by
 induction r with
 | nil=>exact .nil
 | @cons p q ps qs h t ih=>
  rw[List.map_cons,List.map_cons];refine .cons ?_ ih
  obtain⟨h1,h2,h3⟩:=h
  unfold putAt
  by_cases e:p.1=k
  ·rw[if_pos e,if_pos (h1.symm.trans e)]; exact⟨h1,h2,ry⟩
  ·rw[if_neg e,if_neg (fun z=>e (h1.trans z))]; exact⟨h1,h2,h3⟩
theorem KT.put{H:Hp}{kvs:List (List aU × V)}{xs:List (List aU × Addr × Value)}(r:KT H kvs xs)(k:List aU){b:Addr}{y:V}{u:Value}(hb:H b=some (.tup (k.map kV)))(ry:RelV y u) :
  KT H (bQ kvs k y) (storedH xs k b u):=by
 have e:(kvs.any fun kv=>decide (kv.1=k))=(atKey xs k).isSome:=by
  rw[g_,(r.val k).isSome_eq,Option.isSome_map]
 unfold bQ storedH;rw[e]
 by_cases q:(atKey xs k).isSome=true
 ·rw[if_pos q,if_pos q]; exact r.repl k ry
 ·rw[if_neg q,if_neg q]; exact Paired.snoc r ⟨rfl,hb,ry⟩
theorem KT.keeps{H H':Hp}{kvs:List (List aU × V)}{xs:List (List aU × Addr × Value)}(r:KT H kvs xs)(ht:∀ b ys,H b=some (.tup ys)→H' b=some (.tup ys)):KT H' kvs xs:=
 Paired.mapP r fun _ _ z=>⟨z.1,ht _ _ z.2.1,z.2.2⟩
section
variable{P:Program}{w:World}{H:Hp}{h:Heap}{a:Addr}
theorem tP{u:HO}(ok:HOk P w H h)(e:Rd H a u):ObjOk P w H h a u:=e.ok ok
theorem n9{kvs:List (aU × V)}(ok:HOk P w H h)(e:Rd H a (.dK kvs)):kvs.length≤sizeLine∧(a == sysModules)=false∧∃ vs,KV kvs vs∧h.DictOf (bK P w) a vs:=
 show ObjOk P w H h a (.dK kvs) from tP ok e
theorem tD{kvs:List (aU × V)}(ok:HOk P w H h)(e:H a=some (.dK kvs)):kvs.length≤sizeLine∧(a == sysModules)=false∧∃ vs,KV kvs vs∧h.DictOf (bK P w) a vs:=n9 ok (.inl e)
theorem lV{ks:List aU}(ok:HOk P w H h)(e:H a=some (.tup (ks.map kV))):(tupleKind (bK P w)).is h ks a:=by
 obtain⟨_,its,r,o,h1,h2,_,n,h3⟩:=(show ObjOk P w H h a (.tup (ks.map kV)) from ok a _ e)
 exact⟨o,its.toArray,n,h1,h2,h3,by simpa using j9 r⟩
theorem ul{kvs:List (List aU × V)}(ok:HOk P w H h)(e:Rd H a (.dT kvs)):kvs.length≤sizeLine∧(a == sysModules)=false∧
  ∃ xs,KT H kvs xs∧h.DictOfH (tupleKind (bK P w)) a xs:=by
 obtain⟨z,y,xs,r,o,es,ep,h1,h2,h3,h4,h5⟩:=(show ObjOk P w H h a (.dT kvs) from tP ok e)
 refine⟨z,y,xs,r,o,es,ep,h1,h2,h3,h4,fun x hx=>?_,h5⟩
 have all:∀ {l:List (List aU × V)} {m:List (List aU × Addr × Value)},KT H l m→∀ x∈m,(tupleKind (bK P w)).is h x.1 x.2.1:=by
  intro l m q
  induction q with
  | nil=>intro x hx; exact nomatch hx
  | @cons p q ps qs hq t ih=>
   intro x hx
   rcases List.mem_cons.mp hx with e | hx
   ·subst e
    exact lV ok (by rw[← hq.1]; exact hq.2.1)
   ·exact ih x hx
 exact all r x hx
theorem x_{kvs:List (List aU × V)}(ok:HOk P w H h)(e:H a=some (.dT kvs)):kvs.length≤sizeLine∧(a == sysModules)=false∧
  ∃ xs,KT H kvs xs∧h.DictOfH (tupleKind (bK P w)) a xs:=ul ok (.inl e)
end
def DGet(H:Hp)(a:Addr)(y:V)(r:Option V):Prop:=
 (∃ kvs k,Rd H a (.dK kvs)∧y=kV k∧r=aF kvs k)∨∃ kvs k b,Rd H a (.dT kvs)∧y = .ref b∧H b=some (.tup (k.map kV))∧r=aF kvs k
def DPut(H:Hp)(a:Addr)(y v:V)(H':Hp):Prop:=
 (∃ kvs k,H a=some (.dK kvs)∧y=kV k∧kvs.length<sizeLine∧H'=upd H a (.dK (bQ kvs k v)))∨
 ∃ kvs k b,H a=some (.dT kvs)∧y = .ref b∧H b=some (.tup (k.map kV))∧kvs.length<sizeLine∧H'=upd H a (.dT (bQ kvs k v))
theorem DGet.k{H:Hp}{a:Addr}{kvs:List (aU × V)}{k:aU}(e:H a=some (.dK kvs)):DGet H a (kV k) (aF kvs k):=.inl ⟨kvs,k,.inl e,rfl,rfl⟩
theorem DPut.k{H:Hp}{a:Addr}{kvs:List (aU × V)}{k:aU}{v:V}(e:H a=some (.dK kvs))(hl:kvs.length<sizeLine):DPut H a (kV k) v (upd H a (.dK (bQ kvs k v))):=.inl ⟨kvs,k,e,rfl,hl,rfl⟩
section
variable{X:Cx}{pins:List (Addr × Obj)}{σ : St}{H:Hp}{s:Shared}{a:Addr}{y v:V}{u r:Value}{o:Option V}{A:Around}{E:Value→Shared→Prop}
theorem Inv.big(I:Inv X pins σ H s):sysModules<s.heap.objs.size:=by
 have h:mainGlobals<s.heap.objs.size:=(I.mod.glob.keeps I.bk).lt
 exact Nat.lt_trans (by decide) h
theorem Aj{Q:Value→Shared→Prop}(hu:A.units+1<cLine)(I:Inv X pins σ H s)(g:DGet H a y o)(ry:RelV y u)(h:∀ s',Inv X pins σ H s'→Q (.bool o.isSome) s') :
  wpAny (model X.prog X.w) A (compareOp .In u (.ref a)) Q E s:=by
 rcases g with ⟨kvs,k,e,ey,l⟩ | ⟨kvs,k,b,e,ey,eb,l⟩
 ·subst ey
  obtain⟨z,hd,vs,rel,dd⟩:=n9 I.hok e
  refine wpAny_in_of (jv ry) hd dd.mapOf ?_
  rw[← (rel.val k).isSome_eq,← l];exact h _ (I.tok _)
 ·subst ey
  cases (show u=Value.ref b from ry)
  obtain⟨z,hd,xs,rel,dd⟩:=ul I.hok e
  refine wpAny_in_heap (tupleKind_room_in1 hu) (lV I.hok eb) hd dd ?_
  have q:=(rel.val k).isSome_eq;rw[Option.isSome_map]at q
  rw[← q,← l];exact h _ (I.tok _)
theorem dC{h':Heap}{t':Nat}{ob:HO}(I:Inv X pins σ H s)(mu:qF (H a))(hs:Heap.SameBut a s.heap h')(he:∃ q,h'.get? a=some q)(new:ObjOk X.prog X.w (upd H a ob) h' a ob) :
  Inv X pins σ (upd H a ob) { s with heap:=h',toks:=t' }:=
 I.write (x:=a) (e:=a) mu (.inl rfl) (fun b q hb z=>(hs.2 b hb).trans z) he new
theorem oV{P:Program}{w:World}{H':Hp}{h':Heap}{kvs:List (aU × V)}{vs:List (aU × Value)}(z:kvs.length≤sizeLine)(hd:(a == sysModules)=false)(rel:KV kvs vs)(dd:h'.DictOf (bK P w) a vs) :
  ObjOk P w H' h' a (.dK kvs):=⟨z,hd,vs,rel,dd⟩
theorem qu{H':Hp}{Q:Unit→Shared→Prop}(hu:A.units+1<cLine)(I:Inv X pins σ H s)(g:DPut H a y v H')(ry:RelV y u)(rv:RelV v r)(h:∀ s',Inv X pins σ H' s'→Q () s') :
  wpAny (model X.prog X.w) A (setItem (.ref a) u r) Q E s:=by
 rcases g with ⟨kvs,k,e,ey,l,eH⟩ | ⟨kvs,k,b,e,ey,eb,l,eH⟩
 ·subst ey eH
  obtain⟨z,hd,vs,rel,dd⟩:=tD I.hok e
  have hz:vs.length≤sizeLine:=by rw[← rel.length]; exact z
  have hl:(bQ kvs k v).length≤sizeLine:=by have:=cv kvs k v; omega
  refine wpAny_setItem_pairs (hsz:=hz) (jv ry) dd fun h' dd' hs=>h _ ?_
  have he:∃ q,h'.get? a=some q:=let ⟨q,_,_,hq,_⟩:=dd'; ⟨q,hq⟩
  exact dC I (by rw[e]; exact True.intro) hs he (oV hl hd (rel.put k rv) dd')
 ·subst ey eH
  cases (show u=Value.ref b from ry)
  obtain⟨z,hd,xs,rel,dd⟩:=x_ I.hok e
  have hz:xs.length≤sizeLine:=by rw[← Paired.length rel]; exact z
  have hl:(bQ kvs k v).length≤sizeLine:=by have:=cv kvs k v; omega
  refine wpAny_setItem_heap (hsz:=hz) (tupleKind_room_in1 hu) (lV I.hok eb) dd fun h' dd' hs=>h _ ?_
  obtain⟨q,es,ep,hq,h2,h3,h4,_,h5⟩:=dd'
  refine dC I (by rw[e]; exact True.intro) hs ⟨q,hq⟩ ⟨hl,hd,_,(rel.put k eb rv).keeps fun c ys ec=>?_,q,es,ep,hq,h2,h3,h4,h5⟩
  rw[al (kH ec e (fun z=>nomatch z))]
  exact ec
end
section
variable{X:Cx}{pins:List (Addr × Obj)}{σ : St}{H:Hp}{s:Shared}{a:Addr}{kvs:List (aU × V)}{k:aU}{u:Value}{A:Around}{E:Value→Shared→Prop}
end
section
variable{X:Cx}{o i e value:Expr}{pos pos' tpos:Pos}{td ty tv:TE}
end
theorem lB{P:Program}{w:World}{H:Hp}(h:Heap)(hb:sysModules<h.objs.size):ObjOk P w H (h.push { cls:=.type "dict", data:=.dict #[] }) h.objs.size (.dK []):=
 ⟨Nat.zero_le _,beq_eq_false_iff_ne.mpr (Ne.symm (Nat.ne_of_lt hb)),[],.nil,Heap.DictOf.new h⟩
def wz:TE:=fun _ H Q=>∀ p,H p=none→Q (.ref p) (upd H p (.dK []))
section
variable{X:Cx}{pos:Pos}
theorem rW:PE X (.Dict [] [] pos) wz:=fun pins s σ H Q I h=>
 wpAny_Dict_empty ⟨.ref s.heap.objs.size,_,I.laid (a:=s.heap.objs.size) (o:=.dK []) (t':=s.toks) (fun _ _ q=>Heap.get?_push_of_some _ q) (Nat.le_refl _) (lB s.heap I.big),rfl,h _ (I.hok.fresh (Nat.le_refl _))⟩
end
def fQ:List (TE × TE)→St→Hp→(List (V × V)→Hp→Prop)→Prop
 | [],_,H,Q=>Q [] H
 | (tk,tv)::r,σ,H,Q=>tk σ H fun x H1=>tv σ H1 fun y H2=>fQ r σ H2 fun ps H3=>Q ((x,y)::ps) H3
abbrev VV:List (V × V)→List (Value × Value)→Prop:=Paired fun p q=>RelV p.1 q.1∧RelV p.2 q.2
def PPs(X:Cx)(pos:Pos)(keys:List (Option Expr))(values:List Expr)(trs:List (TE × TE)):Prop:=
 ∀ (pins:List (Addr × Obj)) (s:Shared) (σ : St) (H:Hp) (Q:List (V × V)→Hp→Prop),Inv X pins σ H s→fQ trs σ H Q→
  wpAny (model X.prog X.w) X.A (evalPairs (pairTrees keys values X.env pos)) (fun vs s'=>∃ ps H',Inv X pins σ H' s'∧VV ps vs∧Q ps H') X.xe s
theorem uE{X:Cx}{pos:Pos}:PPs X pos [] [] []:=fun pins s σ H Q I h=>pairTrees_nil_walk ⟨[],H,I,.nil,h⟩
theorem ly{X:Cx}{pos:Pos}{k v:Expr}{ks:List (Option Expr)}{vs:List Expr}{tk tv:TE}{trs:List (TE × TE)}(hk:PE X k tk)(hv:PE X v tv)(hr:PPs X pos ks vs trs) :
  PPs X pos (some k::ks) (v::vs) ((tk,tv)::trs):=fun pins s σ H Q I h=>
 pairTrees_cons_walk (aL (hk pins s σ H _ I h) fun u s1 ⟨x,H1,I1,rx,q1⟩=>aL (hv pins s1 σ H1 _ I1 q1) fun w2 s2 ⟨y,H2,I2,ry,q2⟩=>
  aL (hr pins s2 σ H2 _ I2 q2) fun ws s3 ⟨ps,H3,I3,rel,q3⟩=>⟨(x,y)::ps,H3,I3,.cons ⟨rx,ry⟩ rel,q3⟩)
def eJ(kvs more:List (aU × V)):List (aU × V):=more.foldl (fun acc kv=>bQ acc kv.1 kv.2) kvs
theorem KV.merge:∀ {more:List (aU × V)} {rs:List (aU × Value)} {kvs:List (aU × V)} {vs:List (aU × Value)},KV more rs→KV kvs vs→KV (eJ kvs more) (merged vs rs):=by
 intro more rs kvs vs r
 unfold KV at r
 induction r generalizing kvs vs with
 | nil=>intro q; exact q
 | @cons p q ps qs h t ih=>
  intro r0
  have e:KV (bQ kvs p.1 p.2) (stored vs q.1 q.2):=by
   have:=r0.put p.1 h.2
   rw[← h.1]; exact this
  exact ih e
theorem h8:∀ (more kvs:List (aU × V)),(eJ kvs more).length≤kvs.length+more.length
 | [],kvs=>by show kvs.length≤kvs.length+0; omega
 | p::r,kvs=>by
  have h1:=h8 r (bQ kvs p.1 p.2);have h2:=cv kvs p.1 p.2;show (eJ (bQ kvs p.1 p.2) r).length≤_
  rw[List.length_cons]; omega
theorem jb{P:Program}{w:World}:∀ {kvs:List (aU × V)} {ws:List (Value × Value)},VV (kvs.map fun kv=>(kV kv.1,kv.2)) ws→∃ rs,Carries (bK P w) ws rs∧KV kvs rs
 | [],_,r=>by rw[List.map_nil]at r; cases r; exact⟨[],True.intro,.nil⟩
 | p::kvs,_,r=>by
  rw[List.map_cons]at r
  cases r with
  | @cons a b as bs h t=>
   obtain⟨rs,c,q⟩:=jb (P:=P) (w:=w) t
   obtain⟨b1,b2⟩:=b
   exact⟨(p.1,b2)::rs,⟨jv h.1,rfl,c⟩,.cons ⟨rfl,h.2⟩ q⟩
def t8(trs:List (TE × TE)):TE:=fun σ H Q=>∀ p,H p=none→fQ trs σ (upd H p (.dK [])) fun ps H2=>H2 p=some (.dK [])∧∃ kvs:List (aU × V),ps=kvs.map (fun kv=>(kV kv.1,kv.2))∧kvs.length≤15∧Q (.ref p) (upd H2 p (.dK (eJ [] kvs)))
theorem uw{X:Cx}{pos:Pos}{keys:List (Option Expr)}{values:List Expr}{trs:List (TE × TE)}(h:PPs X pos keys values trs)(hall:keys.all (·.isSome)=true)(hl:keys.length=values.length)(h0:keys≠[])
  (h15:keys.length≤15):PE X (.Dict keys values pos) (t8 trs):=by
 intro pins s σ H Q I q
 have hn:=I.hok.fresh (Nat.le_refl s.heap.objs.size);have I1:=I.laid (a:=s.heap.objs.size) (o:=.dK []) (h':=s.heap.push { cls:=.type "dict", data:=.dict #[] }) (t':=s.toks) (fun _ _ q=>Heap.get?_push_of_some _ q) (Nat.le_refl _) (lB s.heap I.big)
 refine wpAny_Dict_walk (knd:=bK X.prog X.w) hall hl h0 h15 (aL (h pins _ σ _ _ I1 (q _ hn)) fun ws s2 ⟨ps,H2,I2,rel,e,kvs,ep,lk,q2⟩=>?_)
 subst ep;obtain⟨rs,c,rk⟩:=jb (P:=X.prog) (w:=X.w) rel
 obtain⟨z,hd,vs0,r0,dd⟩:=tD I2.hok e
 cases r0;refine⟨rs,c,dd,fun h' dd' hs=>⟨.ref s.heap.objs.size,_,?_,rfl,q2⟩⟩
 have hz:(eJ [] kvs).length≤sizeLine:=by
  have h1:=h8 kvs [];rw[List.length_nil]at h1
  rw[sizeLine_eq]; omega
 have he:∃ q,h'.get? s.heap.objs.size=some q:=let ⟨q,_,_,hq,_⟩:=dd'; ⟨q,hq⟩
 exact dC I2 (by rw[e]; exact True.intro) hs he (oV hz hd (rk.merge .nil) dd')
structure M2 (X:Cx) (o:Expr) (m:Str) (apos:Pos) (e f:Expr) (cpos:Pos):Prop where
 base:attributeBase o m X.env (eval o X.env)=eval o X.env
 few:((backTo cpos (starEach [e,f] X.env)).all (fun x=>!x.1)&&(backToKw cpos (keywordEach [] X.env)).all (fun x=>x.1.isSome)
  && decide (([e,f]:List Expr).length+([]:List Keyword).length+(if ([]:List Keyword).isEmpty then 0 else 1)<30))=true
 line:(apos.endLine == cpos.line)=true
 trees:backTo cpos (starEach [e,f] X.env)=[(false,eval e X.env),(false,eval f X.env)]
section
variable{X:Cx}{pins:List (Addr × Obj)}{σ : St}{H:Hp}{s:Shared}{a:Addr}{y d:V}{u r:Value}{o:Option V}{A:Around}{E:Value→Shared→Prop}
end
section
variable{X:Cx}{o e f:Expr}{apos cpos:Pos}{td ty tx:TE}
end
section
variable{X:Cx}{pins:List (Addr × Obj)}{σ : St}{H:Hp}{s:Shared}{a:Addr}{kvs:List (aU × V)}{A:Around}{E:Value→Shared→Prop}
end
section
variable{X:Cx}{pins:List (Addr × Obj)}{σ : St}{H:Hp}{s:Shared}{a:Addr}{y:V}{u:Value}{A:Around}{E:Value→Shared→Prop}
end
end L2
namespace Att
open PySem PySem.W PySem.Calls PyProof.Rows
theorem jq{P:Params}{h:Heap}:∀ (ns:List Int) (vs:List Value),WellAll P h vs (ns.map WData.int)→IntsAre vs ns:=by
 intro ns
 induction ns with
 | nil=>
  intro vs w
  rw[List.map_nil]at w
  cases w;exact .nil
 | cons n ns ih=>
  intro vs w
  rw[List.map_cons]at w
  cases w with
  | cons a b=>
   cases a;exact .cons _ _ (ih _ b)
theorem qm{l:OpenLaw}{n:Nat}(hn:l.most=some n){P:Params}{h:Heap}{args:List WData}{vals:List Value}
  (hpre:l.row.toRowW.claim.pre args=true) (hwl:WellAll P h vals args) :
  ∃ a vs ns,vals=[Value.ref a]∧args=[WData.list (ns.map WData.int)]∧h.get? a=some { cls:=.type "list", data:=.seq vs.toArray }∧IntsAre vs ns∧ns.length≤n:=by
 have hsh:WShape.hasAll [] args [.list .int]=true:=(pre_splitW hpre).1
 have hc:l.pre.holds [] { args:=args }=true:=(pre_splitW hpre).2
 obtain⟨d,r,rfl,h1,h2⟩:=hasAllW_cons hsh
 obtain rfl:=hasAllW_nil h2
 obtain⟨xs,rfl,h3⟩:=hasW_list h1
 obtain⟨ns,rfl⟩:=items_int h3
 have hlen:ns.length≤n:=by
  unfold OpenLaw.pre at hc
  have h4:(WTm.not (.lt (.lit (.int (n:Int))) (.len (.arg 0)))).holds [] { args:=[.list (ns.map .int)] }=true:=by
   have h4:=(holds_andW hc).1;rw[hn]at h4
   exact h4
  have h5:=condW_of h4 (w_not (w_lt w_lit (w_len_list (w_arg rfl))));rw[List.length_map]at h5
  refine Nat.le_of_not_lt fun q=>?_
  have q':(n:Int)<((ns.length:Nat):Int):=by omega
  first
   | (rw[decide_eq_true q']at h5; exact absurd h5 (by decide))
   | (simp at h5; omega)
 cases hwl with
 | cons w1 w2=>
  cases w2
  cases w1 with
  | list ho hall=>exact⟨_,_,ns,rfl,rfl,ho,jq ns _ hall,hlen⟩
theorem qh(l:OpenLaw)(args:List WData):l.row.toRowW.claim.post args (.bool true) args=true:=
 postW_of (r:=l.row.toRowW) (X:=(true == true))
  (show WShape.has [] (.bool true) .bool=true by first | rfl | decide | simp[WShape.has,WShape.arms,WShape.armsAll])
  (show (WTm.eq .res (.lit (.bool true))).value [] { args:=args,res:=some (.bool true),after:=args }=some (.bool (true == true)) from w_eq_bool (w_res rfl) w_lit) rfl
theorem attach_call{l:OpenLaw}{n:Nat}{q:Program}{loose:List Str}{XP:(Str→Option Value)→Heap→Prop}{YP:World→Heap→Prop}{d:DefRec}
  (hn:l.most=some n) (hdf:d.params.defaults=[])
  (call:∀ (w:World) (s₀ s₁:Shared) (mg mb:Str→Option Value) (fa:Addr) (o:Obj) (pm cd doc:Value) (a:Addr) (vs:List Value) (ns:List Int),
   Ground q loose [] XP w s₀ mg mb s₁.heap→YP w s₁.heap→
   s₁.heap.get? fa=some o→o.data = .func (docDef d.name d.params d.body d.scope pm cd doc)→s₁.heap.CodeRec cd d.name→mg d.name=some (.ref fa)→
   s₁.heap.get? a=some { cls:=.type "list", data:=.seq vs.toArray }→IntsAre vs ns→ns.length≤n→s₁.gens = #[]→
   codeAny (model l.prog w) callerA (.call (.ref fa) ⟨[.ref a],[]⟩) (fun r s'=>r = .ok (.ret (.bool true))∧OldK s₁.heap s'.heap∧s'.os=s₁.os∧AllBare s'.gens) s₁) :
  WalkO q loose XP YP l.row.toRowW d [] (fun f vs=>PySem.call f vs):=by
 intro w s₀ s₁ mg mb G Y fa o pm cd doc dV kV ho hd hcd hD hmg hg args vals as hpre hlay hrd hwl hlo
 obtain rfl:dV = .none:=Dflts.none hD hdf
 obtain rfl:kV = .none:=Dflts.noKw hD
 obtain⟨a,vs,ns,rfl,rfl,hobj,hints,hlen⟩:=qm hn hpre hwl
 refine enter_call (codeAny_mono (call w s₀ s₁ mg mb fa o pm cd doc a vs ns G Y ho (fd_plain hd) hcd hmg hobj hints hlen hg) fun r s' hq=>?_)
 obtain⟨rfl,h2,h3,h4⟩:=hq
 exact⟨.inl ⟨.bool true,.bool true,[],rfl,fun _=>rfl,.bool true,qh l _,fun _=>⟨List.Pairwise.nil,fun _ hm=>(nomatch hm)⟩⟩,h2,h3,h4⟩
section
variable{prog:Program}{w:World}{A:Around}{E:Value→Shared→Prop}{s:Shared}{K:Frag}
end
end Att
namespace L2
open PySem PySem.Spec PyProof.Rows
theorem jV:∀ {vs:List Value} {ns:List Int},IntsAre vs ns→Vals (ns.map V.int) vs
 | _,_,.nil=>.nil
 | _,_,.cons n t h=>.cons ⟨t,rfl⟩ (jV h)
def rT(H:Hp):Prop:=∀ b,H b=none∨∃ o xs,H b=some (.frz o (.lst xs))
theorem rD{P:Program}{w:World}{K:PySem.W.Frag}{mg mb:Str→Option Value}{CX:iz}{k:Nat}{fa a:Addr}{fd:FuncData}{x:Str}{sp:Sp}{s₁:Shared}{vs:List Value}{ns:List Int}
  (KX:K.In s₁.heap) (hns:s₁.heap.Ns mainGlobals mg) (hb:s₁.heap.Ns builtinsNs mb) (hbb:∀ x:Str,x ≠ "__name__" → mb x=bootBuiltins x) (hlim:s₁.heap.NoLimit) (hg:s₁.gens = #[])
  (ha:s₁.heap.get? a=some { cls:=.type "list", data:=.seq vs.toArray }) (hi:IntsAre vs ns) (hl:ns.length≤sizeLine) (hr:Room k callerA)
  (F:∀ base:Heap,K.In base→base.Ns mainGlobals mg→gn P w K mg base CX k fa fd [x] sp) (hbind:∀ (s:Shared) (u:Value),BindsTo s fd ⟨[u],[]⟩ [(x,u)])
  (hsp:∀ H:Hp,rT H→SqL K H a (ns.map V.int)→sp [.ref a] H (fun v _=>v = .bl true) fun _ _ _=>False)
  (hCX:∀ H e s',CX [] H s₁ (fun _ _ _=>False) e s'→False) :
  codeAny (model P w) callerA (.call (.ref fa) ⟨[.ref a],[]⟩) (fun r s'=>r = .ok (.ret (.bool true))∧OldK s₁.heap s'.heap∧s'.os=s₁.os∧AllBare s'.gens) s₁:=by
 have rv:=jV hi;have lenV:=hi.length
 -- from an abstract heap in which nothing but the script may be tracked
 have core:∀ H:Hp,rT H→SqL K H a (ns.map V.int)→HOk P w H s₁.heap→(∀ b,H b≠none→b=a)→(H a≠none→K.lookup a=none)→
   codeAny (model P w) callerA (.call (.ref fa) ⟨[.ref a],[]⟩) (fun r s'=>r = .ok (.ret (.bool true))∧OldK s₁.heap s'.heap∧s'.os=s₁.os∧AllBare s'.gens) s₁:=by
  intro H hO hS hok hA hK
  have base_of:∀ {b:Addr} {o:Obj},s₁.heap.get? b=some o→H b=none→(h6 s₁.heap H).get? b=some o:=fun e n=>sg e n
  have noA:∀ {b:Addr} {o:Obj} {es:Array DictEntry} {ep:Nat},s₁.heap.get? b=some o→o.data = .dict es ep→H b=none:=fun {b o es ep} e d=>by
   cases q:H b with
   | none=>rfl
   | some u=>
    have e':b=a:=hA b (by rw[q]; simp)
    subst e';rw[ha]at e; cases e
    have d':Data.seq vs.toArray _=Data.dict es ep:=d
    cases d'
  have nsK:∀ {b:Addr} {m:Str→Option Value},s₁.heap.Ns b m→(h6 s₁.heap H).Ns b m:=fun {b m} ⟨o,es,ep,e,d,r⟩=>⟨o,es,ep,base_of e (noA e d),d,r⟩
  have hKb:K.In (h6 s₁.heap H):=fun b o e=>base_of (KX b o e) (by
   cases q:H b with
   | none=>rfl
   | some u=>
    have e':b=a:=hA b (by rw[q]; simp)
    subst e';rw[hK (by rw[q]; simp)]at e; cases e)
  have hM:Mod K mg (h6 s₁.heap H):=⟨hKb,nsK hns,⟨mb,nsK hb,hbb⟩,let ⟨mc,h1,h2⟩:=hlim; ⟨mc,nsK h1,h2⟩⟩
  have e0:oA P w K mg (h6 s₁.heap H) callerA [] s₁ H:=⟨rfl,hM,fun b o e=>uX e,Nat.le_of_eq (qg _ _),trivial,fun b hb=>absurd (show b∈([]:List Addr) from hb) (by simp),hok,.of_eq hg⟩
  refine codeAny_mono ((F _ hKb (nsK hns)).run callerA [] s₁ H ⟨[.ref a],[]⟩ [.ref a] [.ref a] _ _ hr e0 (hbind s₁ (.ref a)) (.cons rfl .nil) (hsp H hO hS)) fun r s' h=>?_
  cases r with
  | error e=>exact(hCX H e s' h).elim
  | ok fl=>
   cases fl with
   | next=>exact False.elim h
   | brk=>exact False.elim h
   | cont=>exact False.elim h
   | ret u=>
    obtain⟨v,H',os,bare,un,hok',r',q⟩:=h
    have q':v = .bl true:=q
    subst q';obtain rfl:u=Value.bool true:=r'
    refine⟨rfl,OldK.of_keep fun b o e=>?_,os,bare⟩
    cases q:H b with
    | none=>exact un.keep b o e q (by intro z; exact absurd (show b∈([]:List Addr) from z) (by simp)) (by simp)
    | some u=>
     rcases hO b with z | ⟨ob,xs,z⟩
     ·rw[q]at z; cases z
     ·have z2:=un.frzs b ob _ z
      obtain⟨e1,_⟩:=hok b _ z
      obtain⟨e2,_⟩:=hok' b _ z2
      rw[e]at e1; cases e1
      exact e2
 cases hk:K.lookup a with
 | some o=>
  -- the script is one of the module's own objects
  have e:=KX a o hk;rw[ha]at e
  cases e;refine core (fun _=>none) (fun _=>.inl rfl) (.inr ⟨_,vs.toArray,_,hk,rfl,rfl,rfl,by rw[List.size_toArray,lenV]; exact hl,by simpa using rv⟩) (fun b u z=>by have z':(none:Option HO)=some u:=z; cases z') (fun b z=>absurd rfl z) fun z=>absurd rfl z
 | none=>
  refine core (fun b=>if b=a then some (.frz { cls:=.type "list", data:=.seq vs.toArray } (.lst (ns.map V.int))) else none) (fun b=>?_) (.inl (.inr ⟨{ cls:=.type "list", data:=.seq vs.toArray },if_pos rfl⟩)) (fun b u z=>?_) (fun b z=>?_) fun _=>hk
  ·by_cases hb:b=a
   ·exact .inr ⟨_,_,if_pos hb⟩
   ·exact .inl (if_neg hb)
  ·by_cases hb:b=a
   ·have z':=(if_pos hb).symm.trans z
    cases z';subst hb;exact⟨ha,by rw[List.length_map]; exact hl,vs,_,rv,ha⟩
   ·have z':=(if_neg hb).symm.trans z
    cases z'
  ·by_cases hb:b=a
   ·exact hb
   ·exact absurd (if_neg hb) z
end L2
namespace L2
open PySem PySem.Spec PyProof.Rows
abbrev KOf {K:PySem.W.Frag} {h:Heap} (_:K.In h):PySem.W.Frag:=K
theorem walk_of{l:PySem.W.OpenLaw}{n k:Nat}{q:Program}{loose:List Str}{XP:(Str→Option Value)→Heap→Prop}{YP:World→Heap→Prop}{d:DefRec}{K:Params→PySem.W.Frag}{CX:World→iz}{sp:World→Sp}{x:Str}
  (hn:l.most=some n) (hn2:n≤sizeLine) (hdf:d.params.defaults=[]) (hr:Room k callerA)
  (hY:∀ (w:World) (h:Heap),YP w h→(K w.params).In h)
  (F:∀ (w:World) (mg:Str→Option Value) (fa:Addr) (h:Heap),(K w.params).In h→h.Ns mainGlobals mg→mg d.name=some (.ref fa)→
   ∃ fd:FuncData,(∀ (s:Shared) (u:Value),BindsTo s fd ⟨[u],[]⟩ [(x,u)])∧
    ∀ base:Heap,(K w.params).In base→base.Ns mainGlobals mg→gn l.prog w (K w.params) mg base (CX w) k fa fd [x] (sp w))
  (hsp:∀ (w:World) (H:Hp) (a:Addr) (ns:List Int),ns.length≤n→rT H→SqL (K w.params) H a (ns.map V.int)→sp w [.ref a] H (fun v _=>v = .bl true) fun _ _ _=>False)
  (hCX:∀ (w:World) (H:Hp) (s:Shared) (e:Value) (s':Shared),CX w [] H s (fun _ _ _=>False) e s'→False) :
  PySem.W.WalkO q loose XP YP l.row.toRowW d [] (fun f vs=>PySem.call f vs):=by
 refine Att.attach_call hn hdf fun w s₀ s₁ mg mb fa o pm cd doc a vs ns G Y ho hd hcd hmg hobj hints hlen hg=>?_
 have KX:=hY w _ Y;obtain⟨fd,hb,hF⟩:=F w mg fa _ KX G.T.g hmg
 exact rD KX G.T.g G.T.b G.T.builtins G.T.nolimit hg hobj hints (Nat.le_trans hlen hn2) hr hF hb (fun H hO hS=>hsp w H a ns hlen hO hS) fun H e s'=>hCX w H s₁ e s'
end L2
/- THE LAST THEOREM (shape; LID, My.* are yours):
   My.Adr: a structure of the addresses that your layer names (classes,functions); My.Txt K t: a structure (Prop) of the equations over K;
   My.txt_mk:{K} {implicit addresses ..} (e1:nsIn K mainGlobals "law" = some (some (.ref f))) (e2:K.lookup f=some ⟨oc,od,.func (fnOf "law" "law" params body scope dV kV doc pm an cdv ct),sl⟩) (e3:codeIn K cdv "law" = true) .. : ∃ t,My.Txt K t
set_option maxRecDepth 100000 in
set_option maxHeartbeats 0 in
theorem PySem.Challenge.cw_LID_holds : PySem.Challenge.rw_LID.Holds := by
 w_on; o_law; k_head; (case hw=>w_witness2)
 k_fill
 refine L2.walk_of (l:=PySem.Challenge.rw_LID) (n:=63) (k:=40) (x := "script") (CX:=fun w=>..) (sp:=fun _=>My.sp_law) rfl (by decide) rfl ⟨rfl,by decide,by decide⟩ (fun w h Y=>PySem.W.kIn_of Y) ?F ?S ?C
 case F=>
  intro w mg fa h KX G hmg
  have T:∃ t,My.Txt (L2.KOf KX) t:=by
   dsimp only[L2.KOf]                          -- K must stand as «<heap const> w.params» for k_is
   refine' My.txt_mk ?e1 ?e2 ?e3 ..
   (case e1=>PySem.W.k_is)                    -- in the order: a name -> its address -> its object -> its parts
   (case e2=>PySem.W.k_is)
   ..
  obtain⟨t,T⟩:=T
  have e0:=hmg.symm.trans (PySem.W.mg_of KX G T.law)
  cases e0                                       -- fa is the law's own address
  exact⟨_,fun s u=>.of_eq rfl,fun base kb nb=>My.law_fn T kb nb⟩     -- if «.of_eq rfl» comes too early: refine' ⟨_,?b,fun base kb nb=>My.law_fn T kb nb⟩; exact fun s u=>.of_eq rfl
 case S=>exact fun w H a ns hl hO hS=>..
 case C=>exact ..
(the tactic k_is has no namespace: write k_is) -/
namespace L2
open PySem PySem.Spec PyProof.Rows
abbrev i8:iz:=fun _ _ _ _ _ _=>False
abbrev E0:XK:=fun _ _ _=>False
theorem x8{X:Cx}:me i8 X E0:=fun _ _ _ _ _ _ _ h=>h.elim
structure Fun (K:PySem.W.Frag) (x qual:Str) (st:Stmt) (f:Addr) (fd:FuncData):Prop where
 ex:∃ (oc:Value) (od:Option Addr) (kV doc pm:Value) (an:Option Addr) (cdv ct:Value) (osl:Array (Option Value)),
  fd=PySem.W.fnOf x qual (defArgs st) (defBody st) (defScope st) .none kV doc pm an cdv ct∧K.lookup f=some ⟨oc,od,.func fd,osl⟩∧PySem.W.codeIn K cdv qual=true
 kp:PySem.W.keepIn K (.ref f)=true
section
variable{P:Program}{w:World}{K:PySem.W.Frag}{mg:Str→Option Value}{base:Heap}
theorem Fun.ok{x qual:Str}{st:Stmt}{f:Addr}{fd:FuncData}{N ps:List Str}{k:Nat}{sp:Sp}(F:Fun K x qual st f fd)(S:aY N ps (defScope st))(len:∀ vs H Q E,sp vs H Q E→vs.length=ps.length)
  (hbody:∀ (cdv:Value) (A:Around) (outer:List Env) (s:Shared) (H:Hp) (vs:List V) (Q:VK) (E:XK),Room k (A.deeper (envOfC qual (defScope st) s.heap.objs.size f cdv))→sp vs H Q E→
   ∃ t,PSs (iU i8 P w K mg base N qual (defScope st) f cdv A outer s H E).nox (defBody st) t∧t { nx:=fun _ H'=>Q .non H',rt:=Q } (start N vs) H):gn P w K mg base i8 (k+1) f fd ps sp:=by
 obtain⟨oc,od,kV,doc,pm,an,cdv,ct,osl,rfl,lk,hcd⟩:=F.ex
 refine xV lk hcd S len fun A outer s H vs Q E hr hsp=>?_
 obtain⟨t,h,q⟩:=hbody cdv A outer s H vs Q E hr hsp
 exact⟨t,h.nox,q⟩
theorem Fun.binds{x qual:Str}{st:Stmt}{f:Addr}{fd:FuncData}{ps:List Str}(F:Fun K x qual st f fd)
  (h:∀ (kV doc pm:Value) (an:Option Addr) (cdv ct:Value) (us:List Value),us.length=ps.length→bindArgs (PySem.W.fnOf x qual (defArgs st) (defBody st) (defScope st) .none kV doc pm an cdv ct) ⟨us,[]⟩=pure (ps.zip us)):Binds K fd ps []:=by
 obtain⟨oc,od,kV,doc,pm,an,cdv,ct,osl,rfl,lk,hcd⟩:=F.ex
 exact .all (h kV doc pm an cdv ct)
theorem bB{x qual:Str}{st:Stmt}{f:Addr}{oc:Value}{od an:Option Addr}{osl:Array (Option Value)}{kV doc pm cdv ct:Value}(l:K.lookup f=some ⟨oc,od,.func (PySem.W.fnOf x qual (defArgs st) (defBody st) (defScope st) .none kV doc pm an cdv ct),osl⟩)
  (c:PySem.W.codeIn K cdv qual=true) (k:PySem.W.keepIn K (.ref f)=true):Fun K x qual st f (PySem.W.fnOf x qual (defArgs st) (defBody st) (defScope st) .none kV doc pm an cdv ct):=⟨⟨oc,od,kV,doc,pm,an,cdv,ct,osl,rfl,l,c⟩,k⟩
end
section
variable{X:Cx}
theorem pv(i:Nat){x:Str}{pos:Pos}(hN:X.N[i]? = some x:=by rfl)(hv:aq X.env.scope x:=by first | exact vSs (by decide +kernel) | exact Or.inl rfl)(hd:(x == ("__debug__" : Str))=false:=by decide)
  (hcd:(x == ("__classdict__" : Str))=false:=by decide):PE X (.Name x pos) (s_ i):=wN hN hv hd hcd
end
theorem aw{c A B:Prop}[Decidable c](h1:c→A)(h2:¬ c→B):if c then A else B:=by
 by_cases h:c
 ·rw[if_pos h]
  exact h1 h
 ·rw[if_neg h]
  exact h2 h
def Same(H H':Hp):Prop:=∀ b o,H b=some o→H' b=some o
theorem Same.refl(H:Hp):Same H H:=fun _ _ h=>h
theorem Same.trans{H H1 H2:Hp}(a:Same H H1)(b:Same H1 H2):Same H H2:=fun c o h=>b c o (a c o h)
theorem Same.free{H H':Hp}(e:Same H H'){l:Addr}(h:H' l=Option.none):H l=Option.none:=by
 cases q:H l with
 | none=>rfl
 | some o=>
  rw[e l o q]at h
  cases h
theorem Same.seq{K:PySem.W.Frag}{H H':Hp}{a:Addr}{xs:List V}(e:Same H H')(h:SqL K H a xs):SqL K H' a xs:=by
 rcases h with (h | ⟨o,h⟩) | h
 ·exact .inl (.inl (e _ _ h))
 ·exact .inl (.inr ⟨o,e _ _ h⟩)
 ·exact .inr h
section
variable{κ : Type}[DecidableEq κ]
end
end L2
namespace L2
open PySem PySem.Spec PyProof.Rows
def bI(cells:List (Str × Addr)):List (Str × NameKind)→List (Str × Addr)→List (Str × Addr)
 | [],acc=>acc
 | (n,k)::r,acc=>bI cells r (if k == .free then (n,(cells.lookup n).getD 0)::acc else acc)
theorem ll{env:Env}{f:(Str × NameKind)→List (Str × Addr)→Sem (ForInStep (List (Str × Addr)))}
  (hf:∀ n k cs,f (n,k) cs=if (k == NameKind.free)=true then (cellOf env n >>= fun c=>pure (ForInStep.yield ((n,c)::cs))) else pure (ForInStep.yield cs)) :
  ∀ (names:List (Str × NameKind)) (acc:List (Str × Addr)),(∀ x∈names,x.2 = .free→∃ c,env.cells.lookup x.1=some c)→
  forIn names acc f=(pure (bI env.cells names acc):Sem _)
 | [],acc,_=>rfl
 | (n,k)::r,acc,h=>by
  rw[List.forIn_cons,hf];have ih:=fun acc=>ll hf r acc fun x hx=>h x (List.mem_cons_of_mem _ hx)
  by_cases hk:(k == NameKind.free)=true
  ·rw[if_pos hk]
   obtain⟨c,hc⟩:=h (n,k) List.mem_cons_self (by simpa using hk)
   have e:cellOf env n=pure c:=by unfold cellOf; rw[hc]
   rw[e,pure_bind,pure_bind];show forIn r ((n,c)::acc) f=_
   rw[ih];show _=pure (bI env.cells r (if (k == NameKind.free)=true then (n,(env.cells.lookup n).getD 0)::acc else acc))
   rw[if_pos hk,hc]; rfl
  ·rw[if_neg hk,pure_bind]
   show forIn r acc f=_
   rw[ih];show _=pure (bI env.cells r (if (k == NameKind.free)=true then (n,(env.cells.lookup n).getD 0)::acc else acc))
   rw[if_neg hk]
theorem eP{env:Env}{scope:Scope}(h:∀ x∈scope.names,x.2 = .free→∃ c,env.cells.lookup x.1=some c):closureFor scope env=pure (bI env.cells scope.names []):=by
 unfold closureFor;show (forIn scope.names ([]:List (Str × Addr)) _ >>= fun cs=>pure cs)=_
 rw[ll (env:=env) (fun n k cs=>?_) _ _ h]
 ·rfl
 ·rfl
theorem gk{cells:List (Str × Addr)}:∀ {names:List (Str × NameKind)} {acc:List (Str × Addr)} {x:Str} {c:Addr},(∀ y∈names,y.2 = .free→∃ c,cells.lookup y.1=some c)→
  (∀ y c,acc.lookup y=some c→cells.lookup y=some c)→(bI cells names acc).lookup x=some c→cells.lookup x=some c
 | [],acc,x,c,_,ha,h=>ha x c h
 | (n,k)::r,acc,x,c,hn,ha,h=>by
  refine gk (names:=r) (fun y hy=>hn y (List.mem_cons_of_mem _ hy)) ?_ h
  intro y d hy
  by_cases hk:(k == NameKind.free)=true
  ·rw[if_pos hk]at hy
   obtain⟨e,he⟩:=hn (n,k) List.mem_cons_self (by simpa using hk)
   have he':cells.lookup n=some e:=he
   rw[List.lookup_cons]at hy
   by_cases hyn:(y == n)=true
   ·rw[hyn]at hy
    have hy':(cells.lookup n).getD 0=d:=Option.some.inj hy
    rw[he']at hy'
    have e1:y=n:=by simpa using hyn
    rw[e1,he',← hy']; rfl
   ·have hf:(y == n)=false:=by simpa using hyn
    rw[hf]at hy
    exact ha y d hy
  ·rw[if_neg hk]at hy
   exact ha y d hy
theorem jf{cells:List (Str × Addr)}:∀ {names:List (Str × NameKind)} {acc:List (Str × Addr)} {x:Str},(∃ c,acc.lookup x=some c)→∃ c,(bI cells names acc).lookup x=some c
 | [],_,_,h=>h
 | (n,k)::r,acc,x,h=>by
  refine jf (names:=r) ?_
  by_cases hk:(k == NameKind.free)=true
  ·rw[if_pos hk,List.lookup_cons]
   cases hx:(x == n) with
   | true=>exact⟨_,rfl⟩
   | false=>exact h
  ·rw[if_neg hk]; exact h
theorem dv{cells:List (Str × Addr)}:∀ {names:List (Str × NameKind)} {acc:List (Str × Addr)} {x:Str},(x,NameKind.free)∈names→∃ c,(bI cells names acc).lookup x=some c
 | (n,k)::r,acc,x,h=>by
  rcases List.mem_cons.mp h with e | h
  ·have e1:x=n:=congrArg (·.1) e
   have e2:NameKind.free=k:=congrArg (·.2) e
   subst e1 e2;refine jf (names:=r) ?_
   rw[if_pos (by rfl),List.lookup_cons]
   rw[beq_self_eq_true];exact⟨_,rfl⟩
  ·exact dv (names:=r) h
theorem cE{env:Env}:∀ {names:List (Str × NameKind)} {x:Str} {k:NameKind},(∀ y∈names,y.2 ≠ .cell)→
  (names.map fun (n,k)=>if (k == NameKind.free&&env.scope.kind == .function&&env.kindOf n == some .cell) then (n,NameKind.cell) else (n,k)).lookup x=some k→(k = .cell∨k = .free)→(x,NameKind.free)∈names
 | [],_,_,_,h,_=>by simp at h
 | (n,k0)::r,x,k,hc,h,hk=>by
  have ih:=@cE env r x k (fun y hy=>hc y (List.mem_cons_of_mem _ hy))
  rw[List.map_cons]at h
  by_cases hf:(k0 == NameKind.free&&env.scope.kind == .function&&env.kindOf n == some .cell)=true
  ·have hk0:k0 = .free:=by
    have:(k0 == NameKind.free)=true:=by
     rw[Bool.and_eq_true,Bool.and_eq_true]at hf; exact hf.1.1
    simpa using this
   dsimp only at h
   rw[if_pos hf,List.lookup_cons]at h
   cases hx:(x == n) with
   | true=>
    have:x=n:=by simpa using hx
    rw[this,hk0]; exact List.mem_cons_self
   | false=>rw[hx]at h; exact List.mem_cons_of_mem _ (ih h hk)
  ·dsimp only at h
   rw[if_neg hf,List.lookup_cons]at h
   cases hx:(x == n) with
   | true=>
    rw[hx]at h
    have e:k0=k:=Option.some.inj h
    have:x=n:=by simpa using hx
    rcases hk with z | z
    ·exact absurd (e.trans z) (hc (n,k0) List.mem_cons_self)
    ·rw[this,e,z]; exact List.mem_cons_self
   | false=>rw[hx]at h; exact List.mem_cons_of_mem _ (ih h hk)
def bp(X:Cx)(N0 T:List Str)(scope:Scope)(C:Addr)(fp:List Addr)(s:Shared)(H:Hp):Cx:=
 { X with N:=N0++T,s₀:=s,H₀:=H,env:=compEnvC scope (bI X.env.cells scope.names []) C X.env,outer:=X.stack,stack:=X.stack,ex:=fp,fn:=fun _=>false,pn:=[],xe:=fun _ _=>False }
structure gh (X:Cx) (N0 T:List Str) (scope:Scope):Prop where
 kind:scope.kind = .function
 nocell:∀ y∈scope.names,y.2 ≠ .cell
 names:∀ y∈scope.names,y.2 = .local→scope.names.lookup y.1=some .local
 free:∀ y∈scope.names,y.2 = .free→X.env.kindOf y.1=some .cell∨X.env.kindOf y.1=some .free
 apart:∀ y∈scope.names,y.2 = .local→y.1∉N0
 len0:N0.length=X.N.length
 same:∀ (i:Nat) (x:Str) (k:NameKind),N0[i]? = some x→(x,k)∈scope.names→X.N[i]? = some x
theorem dy{prog:Program}{w:World}{A:Around}{R:Result→Shared→Prop}{s:Shared}{elt target iter:Expr}{ifs:List Expr}{scope:Scope}{pos:Pos}{it acc:Value}{env:Env}(I:Nat→Shared→Prop)
  (turn:∀ n s,I n s→wpAny (model prog w) A (pyNext it) (fun r s₁=>match r with
   | none=>R (.ok .next) s₁
   | some v=>wpAny (model prog w) A (letOwnedTupleGo target it v) (fun _ s₀=>wpAny (model prog w) A (assign target env v) (fun _ s₂=>
     wpAny (model prog w) A (forIn ifs true fun c r=>if r=true then do let ok ← isTrue c env (eval c env); pure (ForInStep.yield ok) else pure (ForInStep.yield r)) (fun ok s₃=>
      if ok=true then wpAny (model prog w) A (eval elt env) (fun x s₄=>
       wpAny (model prog w) A (call (.builtin "list.append") [acc,x]) (fun _ s₅=>∃ m,m<n∧I m s₅) (fun _ _=>False) s₄) (fun _ _=>False) s₃
      else ∃ m,m<n∧I m s₃) (fun _ _=>False) s₂) (fun _ _=>False) s₀) (fun _ _=>False) s₁) (fun _ _=>False) s)
  (n:Nat) (h:I n s) :
  codeAny (model prog w) A (.compLoop (.ListComp elt [⟨target,iter,ifs,0⟩] scope pos) 0 it acc env) R s:=by
 refine codeAny_loop rfl I (fun n s hI=>?_) n h
 show wpAny _ A ((compTurn (.ListComp elt [⟨target,iter,ifs,0⟩] scope pos) 0 it acc env).onRaise (fun x=>do noteFrame x env; theTreesLotGoes x)) _ _ s
 refine wpAny_noted ?_
 rw[compTurn_list];refine wpAny_bind (wpAny_standAt (wpAny_bind (wpAny_mono (turn n s hI) (fun r s₁ h₁=>?_) fun _ _ h'=>h'.elim)))
 cases r with
 | none=>exact wpAny_pure h₁
 | some v=>
  refine wpAny_bind (wpAny_mono h₁ (fun _ s₀ h₀=>?_) fun _ _ h'=>h'.elim)
  refine wpAny_bind (wpAny_mono h₀ (fun _ s₂ h₂=>wpAny_bind (wpAny_mono h₂ (fun ok s₃ h₃=>?_) fun _ _ h'=>h'.elim)) fun _ _ h'=>h'.elim)
  cases ok with
  | false=>exact wpAny_pure ⟨rfl,h₃⟩
  | true=>
   exact wpAny_bind (wpAny_bind (wpAny_mono h₃ (fun x s₄ h₄=>wpAny_bind (wpAny_mono h₄ (fun _ s₅ h₅=>wpAny_pure (wpAny_pure ⟨rfl,h₅⟩)) fun _ _ h'=>h'.elim)) fun _ _ h'=>h'.elim))
def PIfs(X:Cx)(ifs:List Expr)(tc:TT):Prop:=
 ∀ (pins:List (Addr × Obj)) (s:Shared) (σ : St) (H:Hp) (Q:Bool→Hp→Prop),Inv X pins σ H s→tc σ H Q→
  wpAny (model X.prog X.w) X.A (forIn ifs true fun c r=>if r=true then do let ok ← isTrue c X.env (eval c X.env); pure (ForInStep.yield ok) else pure (ForInStep.yield r)) (TP X pins σ Q) X.xe s
def jM:TT:=fun _ H Q=>Q true H
theorem cV{X:Cx}:PIfs X [] jM:=fun _ _ _ H _ I h=>wpAny_tests_nil ⟨H,I,h⟩
def mI(g:TG)(n:Nat):Prop:=∀ x σ H Q,g x σ H Q→g x σ H fun σ' H'=>Q σ' H'∧σ'.length=σ.length∧∀ k,k<n→σ'[k]? = σ[k]?
theorem cX{i n:Nat}(h:n≤i):mI (hX i) n:=fun x σ H Q q=>⟨q,by simp,fun k hk=>by rw[List.getElem?_set_ne (by omega)]⟩
def gf(J:It)(g:TG)(tc:TT)(te:TE)(nT:Nat)(σ : St)(D:Addr)(Q:VK)(H:Hp):Prop:=
 ∃ W:Nat→Nat→List V→Hp→Prop,(∃ m,W 0 m [] H)∧∀ i m ys H2,W i m ys H2→
  (J.stop i H2∧Q (.ref D) H2)∨(J.go i H2∧∀ x H',J.yld i H2 x H'→g x (σ++List.replicate nT none) H' fun σ2 H3=>tc σ2 H3 fun b H4=>
   if b=true then te σ2 H4 fun y H5=>H5 D=some (.lst ys)∧ys.length<sizeLine∧∃ m',m'<m∧W (i+1) m' (ys++[y]) (upd H5 D (.lst (ys++[y]))) else ∃ m',m'<m∧W (i+1) m' ys H4)
def kG(wi:TI)(g:TG)(tc:TT)(te:TE)(nT:Nat):TE:=fun σ H Q=>wi σ H fun J H1=>∀ D,H1 D=none→gf J g tc te nT σ D Q (upd H1 D (.lst []))
theorem HOk.sameBut{P:Program}{w:World}{H:Hp}{h h':Heap}{C:Addr}(x:HOk P w H h)(hs:Heap.SameBut C h h')(hC:H C=none):HOk P w H h':=fun a o e=>
 (x a o e).stay (fun b u hb q=>(hs.2 b (by
  rintro rfl
  rcases hb with z | z
  ·rw[z]at hC; rw[hC]at e; cases e
  ·rw[hC]at z; cases z)).trans q) (fun _ q=>q) fun _ _ q=>q
section
variable{X:Cx}{N0 T:List Str}{scope:Scope}{tg elt iter:Expr}{ifs:List Expr}{pos:Pos}{wi:TI}{g:TG}{tc:TT}{te:TE}
theorem kr{pins:List (Addr × Obj)}{σ : St}{H:Hp}{s:Shared}{E:Value→Shared→Prop}{it:Addr}{fp:List Addr}{tn:Nat→Heap→Prop}{J:It}{Q:VK}{RR:Value→Addr→Result→Shared→Prop}
  (S:gh X N0 T scope) (hc:X.calm=true)
  (hg:∀ C fp s H,PG (bp X N0 T scope C fp s H) tg g) (hfr:mI g X.N.length) (hi:∀ C fp s H,PIfs (bp X N0 T scope C fp s H) ifs tc) (he:∀ C fp s H,PE (bp X N0 T scope C fp s H) elt te)
  (I:Inv X pins σ H s) (Tn:iy X.prog X.w X.K tg J fp it tn) (st:tn 0 s.heap) (hf:∀ b∈fp,eQ X pins H b)
  (h:∀ D,H D=none→gf J g tc te T.length σ D Q (upd H D (.lst [])))
  (hRR:∀ D C s' H' m,s'.heap.Ns C m→H' C=none→C≠X.env.locals→(∀ x c,X.env.cells.lookup x=some c→c≠C)→(∀ p∈X.pn++pins,p.1≠C)→X.s₀.heap.objs.size≤C→Inv X pins σ H' s'→
   (∀ h',Heap.SameBut C s'.heap h'→Inv X pins σ H' { s' with heap:=h' })→Q (.ref D) H'→RR (.ref D) C (.ok .next) s') :
  wpAny (model X.prog X.w) X.A (newList []) (fun acc s₃=>wpAny (model X.prog X.w) X.A (newFunctionEnv scope X.env.globals (bI X.env.cells scope.names []) [] X.env.qual none .none (some X.env)) (fun cenv s₄=>
   codeAny (model X.prog X.w) X.A (.compStart (.ListComp elt [⟨tg,iter,ifs,0⟩] scope pos) 0 (.ref it) acc { cenv with scope:=relabel scope X.env }) (RR acc cenv.locals) s₄) E s₃) E s:=by
 refine wpAny_newObj_type (wpAny_newFunctionEnv S.nocell (by intro y hy; simp at hy) (fun h₁ hns₁ hsb₁=>?_) S.kind)
 dsimp only at hns₁ hsb₁ ⊢
 generalize hH2:s.heap.push { cls:=.type "list", dict:=none,data:=.seq ([]:List Value).toArray }=P2 at hns₁ hsb₁ ⊢;have hC:P2.objs.size=s.heap.objs.size+1:=by rw[← hH2,Heap.size_push]
 -- the new list D, the block's names C
 obtain⟨D,hD⟩ : ∃ D:Nat,D=s.heap.objs.size:=⟨_,rfl⟩
 obtain⟨C,hCC⟩ : ∃ C:Nat,C=P2.objs.size:=⟨_,rfl⟩
 rw[← hCC]at hns₁ hsb₁ hC ⊢
 rw[← hD]at hC ⊢
 have hDC:D≠C:=by omega
 have hDlt:D<C:=by omega
 have neD:∀ b o,s.heap.get? b=some o→b≠D:=fun b o e=>hD ▸ Nat.ne_of_lt (Heap.lt_size e)
 have neC:∀ b o,s.heap.get? b=some o→b≠C:=fun b o e=>Nat.ne_of_lt (Nat.lt_trans (hD ▸ Heap.lt_size e) hDlt)
 have old:∀ b o,s.heap.get? b=some o→h₁.get? b=some o:=fun b o e=>hsb₁.extBut b o (neC b o e) (Heap.get?_push_of_some _ (hH2 ▸ Heap.get?_push_of_some _ e))
 have hHD:H D=none:=I.hok.fresh (by omega)
 have hHC:H C=none:=I.hok.fresh (by omega)
 have dat:h₁.get? D=some { cls:=.type "list", data:=.seq ([]:List Value).toArray 0 }:=by
  refine hsb₁.extBut _ _ hDC (Heap.get?_push_of_some _ ?_)
  rw[← hH2,hD];exact Heap.get?_push_size _ rfl
 -- the block's context stands
 have hcl:∀ x c,(bI X.env.cells scope.names []).lookup x=some c→X.env.cells.lookup x=some c:=fun x c e=>
  gk (fun y hy hk=>I.ok.has y.1 (S.free y hy hk)) (fun y c z=>by simp at z) e
 have okC:(bp X N0 T scope C fp s H).Ok:=by
  refine⟨I.ok.mod,?_,I.ok.glob,I.ok.blt,?_,fun x y c e1 e2=>I.ok.inj x y c (hcl x c e1) (hcl y c e2),fun x hx=>?_,fun x c z _=>(by cases z),I.ok.hd,I.ok.frames,.inl rfl,fun b hb=>⟨?_,fun x c e=>(hf b hb).2.2.2.2.1 x c (hcl x c e)⟩,
   I.bs,?_,fun b o e hb=>?_,fun b hb z=>?_,I.stack,I.stkFree⟩
  ·show (relabel scope X.env).kind = .function
   exact S.kind
  ·show s.heap.objs.size≤C
   omega
  ·have hx':(relabel scope X.env).names.lookup x=some .cell∨(relabel scope X.env).names.lookup x=some .free:=hx
   have m:(x,NameKind.free)∈scope.names:=by
    rcases hx' with z | z
    ·exact cE S.nocell z (.inl rfl)
    ·exact cE S.nocell z (.inr rfl)
   exact dv m
  ·show b≠C
   obtain⟨o,e,_⟩:=Tn.obj 0 _ st b hb
   exact neC b o e
  ·exact Nat.le_trans I.ok.bsz I.sz
  ·obtain⟨_,_,_,z,_⟩:=hf b hb
   rcases z with z | z
   ·exact I.ok.noex b o e z
   ·exact absurd (Nat.lt_of_lt_of_le (Nat.lt_of_lt_of_le (Heap.lt_size e) I.ok.bsz) z) (Nat.lt_irrefl _)
  ·obtain⟨_,z1,z2,_⟩:=hf b hb
   rcases List.mem_cons.mp (I.stkSub b z) with q | q
   ·exact z1 q
   ·exact z2 q
 have I1:Inv (bp X N0 T scope C fp s H) [] (σ++List.replicate T.length none) (upd H D (.lst [])) { s with heap:=h₁,toks:=s.toks+([]:List (Str × Value)).length }:=by
  refine⟨okC,rfl,I.bare,Un.laid (h:=s.heap) old (by omega) hHD,⟨_,hns₁,fun i x v e1 e2 e3=>?_⟩,fun x c e=>?_,?_,fun x c e=>?_,fun p hp=>(by simp[bp]at hp),I.hok.laid old (by omega) ?_,?_⟩
  ·have e1':(N0++T)[i]? = some x:=e1
   have hl:=I.len;have hl0:=S.len0
   have hi:i<σ.length:=by
    rcases Nat.lt_or_ge i σ.length with z | z
    ·exact z
    ·rw[List.getElem?_append_right z]at e2
     rw[List.getElem?_replicate]at e2
     split at e2 <;> cases e2
   rw[List.getElem?_append_left hi]at e2
   rw[List.getElem?_append_left (by omega)]at e1'
   have hxN:x∈N0:=List.mem_of_getElem? e1'
   have e3':(relabel scope X.env).names.lookup x=some .local∨(relabel scope X.env).names.lookup x=some .cell∨(relabel scope X.env).names.lookup x=some .free:=e3
   have fr:(relabel scope X.env).names.lookup x=some .cell∨(relabel scope X.env).names.lookup x=some .free:=by
    rcases e3' with z | z | z
    ·exfalso
     -- a local of the block is no tracked name
     have key:∀ (names:List (Str × NameKind)),(names.map fun (n,k)=>if (k == NameKind.free&&X.env.scope.kind == .function&&X.env.kindOf n == some .cell) then (n,NameKind.cell) else (n,k)).lookup x=some .local→(x,NameKind.local)∈names:=by
      intro names
      induction names with
      | nil=>intro z; simp at z
      | cons y r ih=>
       obtain⟨n,k⟩:=y
       intro z
       rw[List.map_cons]at z
       dsimp only at z
       by_cases hfk:(k == NameKind.free&&X.env.scope.kind == .function&&X.env.kindOf n == some .cell)=true
       ·rw[if_pos hfk,List.lookup_cons]at z
        cases hx:(x == n) with
        | true=>rw[hx]at z; cases z
        | false=>rw[hx]at z; exact List.mem_cons_of_mem _ (ih z)
       ·rw[if_neg hfk,List.lookup_cons]at z
        cases hx:(x == n) with
        | true=>
         rw[hx]at z
         have ek:k = .local:=Option.some.inj z
         have en:x=n:=by simpa using hx
         rw[ek,en]; exact List.mem_cons_self
        | false=>rw[hx]at z; exact List.mem_cons_of_mem _ (ih z)
     exact S.apart (x,.local) (key _ z) rfl hxN
    ·exact .inl z
    ·exact .inr z
   have m:(x,NameKind.free)∈scope.names:=by
    rcases fr with z | z
    ·exact cE S.nocell z (.inl rfl)
    ·exact cE S.nocell z (.inr rfl)
   have kX:=S.free _ m rfl;obtain⟨mm,hn,hl'⟩:=I.loc
   obtain⟨u,r,lk⟩:=hl' i x v (S.same i x _ e1' m) e2 (.inr kX)
   refine⟨u,r,.inr ⟨fr,?_⟩⟩
   rcases lk with ⟨z,_⟩ | ⟨_,c,ec,cc⟩
   ·rcases kX with q | q
    ·rw[q]at z; cases z
    ·rw[q]at z; cases z
   ·obtain⟨c',ec'⟩:=dv (cells:=X.env.cells) (acc:=[]) m
    have:=hcl x c' ec'
    rw[ec]at this; cases this
    exact⟨c,ec',cc.keeps old⟩
  ·obtain⟨v,z⟩:=I.cell x c (hcl x c e)
   exact⟨v,z.keeps old⟩
  ·show upd H D (.lst []) C=none
   rw[al (Ne.symm hDC)]; exact hHC
  ·have q:=I.freeC x c (hcl x c e)
   obtain⟨v,o,z,_⟩:=I.cell x c (hcl x c e)
   rw[al (neD c o z)]; exact q
  ·exact⟨Nat.zero_le _,[],0,.nil,dat⟩
  ·show (σ++List.replicate T.length none).length=(N0++T).length
   rw[List.length_append,List.length_append,List.length_replicate,I.len,S.len0]
 have st1:tn 0 h₁:=Tn.keep _ _ _ st fun b _ o e=>old b o e
 have fp1:∀ {H':Hp},(∀ b∈fp,H' b=none)→∀ b∈fp,eQ (bp X N0 T scope C fp s H) [] H' b:=fun hn b hb=>
  ⟨hn b hb,(okC.exf b hb).1,okC.exfs b hb,.inl hb,(okC.exf b hb).2,fun p hp=>(by simp[bp]at hp)⟩
 have fp0:∀ b∈fp,upd H D (.lst []) b=none:=fun b hb=>by
  obtain⟨o,e,_⟩:=Tn.obj 0 _ st b hb
  rw[al (neD b o e)]; exact(hf b hb).1
 obtain⟨W,⟨m0,w0⟩,turn⟩:=h D hHD
 have loop:∀ s₃ : Shared,s₃={ s with heap:=h₁,toks:=s.toks+([]:List (Str × Value)).length }→
   codeAny (model X.prog X.w) X.A (.compLoop (.ListComp elt [⟨tg,iter,ifs,0⟩] scope pos) 0 (.ref it) (.ref D) (compEnvC scope (bI X.env.cells scope.names []) C X.env)) (RR (.ref D) C) s₃:=by
  rintro s₃ rfl
  refine dy (fun n s'=>∃ i H' ys,Inv (bp X N0 T scope C fp s H) [] (σ++List.replicate T.length none) H' s'∧tn i s'.heap∧(∀ b∈fp,H' b=none)∧W i n ys H') ?_ m0 ⟨0,_,[],I1,st1,fp0,w0⟩
  rintro n s3 ⟨i,H3,ys,I3,st3,fr3,w3⟩
  rcases turn i n ys H3 w3 with ⟨stop,qn⟩ | ⟨go,step⟩
  ·refine aL (Tn.done (bp X N0 T scope C fp s H) rfl rfl rfl hc i [] s3 _ H3 (fun _ _=>False) I3 (fp1 fr3) st3 stop) fun r s4 ⟨hr,I4⟩=>?_
   subst hr;obtain⟨m,hm,_⟩:=I4.loc
   have hch:∀ b∈fp,(b∈X.ex∨X.s₀.heap.objs.size≤b)∧b≠X.env.locals∧(∀ x c,X.env.cells.lookup x=some c→c≠b)∧∀ p∈X.pn++pins,p.1≠b:=fun b hb=>
    ⟨(hf b hb).2.2.2.1,(hf b hb).2.1,(hf b hb).2.2.2.2.1,(hf b hb).2.2.2.2.2⟩
   have u4:Un (gJ X.stack) fp H H3 s.heap s4.heap:=I4.base
   refine hRR D C s4 H3 m hm I4.free (Ne.symm (Nat.ne_of_lt (Nat.lt_trans (hD ▸ I.lt) hDlt))) (fun x c e=>?_) (fun p hp=>?_) (Nat.le_trans (hD ▸ I.sz) (Nat.le_of_lt hDlt)) (I.call' (ch:=fp) I4.os u4 I4.hok I4.bare hch) (fun h' hs'=>?_) qn
   ·obtain⟨v,o,q,_⟩:=I.cell x c e
    exact neC c o q
   ·exact neC _ _ (I.pin p hp).1
   ·refine I.call' (ch:=fp) (s':={ s4 with heap:=h' }) I4.os ⟨fun b o q n' hb hx=>(hs'.2 b (neC b o q)).trans (u4.keep b o q n' hb hx),fun b o q n' hb hx=>?_,u4.free,fun b o q hx=>?_,u4.tups,u4.frzs,u4.tbls⟩ (I4.hok.sameBut hs' I4.free) I4.bare hch
    ·obtain⟨sl,e⟩:=u4.slot b o q n' hb hx
     exact⟨sl,(hs'.2 b (neC b o q)).trans e⟩
    ·obtain⟨o',e⟩:=u4.there b o q hx
     exact⟨o',(hs'.2 b (neC b o q)).trans e⟩
  ·refine aL (Tn.item (bp X N0 T scope C fp s H) rfl rfl rfl hc i [] s3 _ H3 (fun _ _=>False) I3 (fp1 fr3) st3 go) fun r s4 ⟨u,hr,h4⟩=>?_
   subst hr;refine aL h4 fun _ s5 ⟨x,H5,I5,r5,y5,st5,fr5⟩=>?_
   have I5':=I5.pinned (fp1 fr5) (Tn.obj _ _ st5);refine aL (hg C fp s H _ s5 _ H5 x u _ I5' r5 (hfr _ _ _ _ (step x H5 y5))) fun _ s6 ⟨σ6,H6,I6,q6,l6,k6⟩=>?_
   have back:∀ {H7:Hp} {s7:Shared},Inv (bp X N0 T scope C fp s H) ([]++gQ fp s5.heap) σ6 H7 s7→(∀ {m':Nat} {zs:List V},m'<n→W (i+1) m' zs H7→∃ m,m<n∧∃ i H' ys,Inv (bp X N0 T scope C fp s H) [] (σ++List.replicate T.length none) H' s7∧tn i s7.heap∧(∀ b∈fp,H' b=none)∧W i m ys H'):=fun {H7 s7} I7 {m' zs} hm w7=>by
    refine⟨m',hm,i+1,H7,zs,I7.unpinned.weak (by rw[l6]) (fun j v e=>?_),Tn.keep _ _ _ st5 fun b hb o e=>(I7.pin (b,o) (List.mem_append_right _ (List.mem_append_right _ (cL hb e)))).1,fun b hb=>?_,w7⟩
    ·have hj:j<σ.length:=by
      rcases Nat.lt_or_ge j σ.length with z | z
      ·exact z
      ·rw[List.getElem?_append_right z,List.getElem?_replicate]at e
       split at e <;> cases e
     rw[k6 j (by rw[← I.len]; exact hj)]
     exact e
    ·obtain⟨o,e,d⟩:=Tn.obj _ _ st5 b hb
     exact(I7.pin (b,o) (List.mem_append_right _ (List.mem_append_right _ (cL hb e)))).2.1
   refine aL (hi C fp s H _ s6 σ6 H6 _ I6 q6) fun b s7 ⟨H7,I7,q7⟩=>?_
   cases b with
   | false=>
    obtain⟨m',hm,w7⟩:=(show ∃ m',m'<n∧W (i+1) m' ys H7 from by simpa using q7)
    exact back I7 hm w7
   | true=>
    rw[if_pos rfl]at q7
    refine aL (he C fp s H _ s7 σ6 H7 _ I7 q7) fun v s8 ⟨y,H8,I8,r8,hD8,hz,m',hm,w8⟩=>?_
    refine aL (ir (X:=bp X N0 T scope C fp s H) _ s8 σ6 H8 (.ref D) [y] (.ref D) [v] (fun _ H9=>H9=upd H8 D (.lst (ys++[y]))) I8 rfl (.cons r8 .nil) ⟨D,ys,y,rfl,rfl,hD8,hz,rfl⟩) fun v9 s9 ⟨y9,H9,I9,_,e9⟩=>?_
    subst e9;exact back I9 hm w8
 exact codeAny_compStart_list (loop _ rfl) (Tn.self X.A 0 _ _ _ st1 (loop _ rfl))
theorem gO(S:gh X N0 T scope)(hc:X.calm=true)(hI:PI X tg iter wi)
  (hg:∀ C fp s H,PG (bp X N0 T scope C fp s H) tg g) (hfr:mI g X.N.length) (hi:∀ C fp s H,PIfs (bp X N0 T scope C fp s H) ifs tc) (he:∀ C fp s H,PE (bp X N0 T scope C fp s H) elt te)
  (hs:∀ x,foldedSetIterable iter X.env x=pure x:=by intro _; rfl):PE X (.ListComp elt [⟨tg,iter,ifs,0⟩] scope pos) (kG wi g tc te T.length):=by
 intro pins s σ H Q I h
 rw[eval_ListComp];refine wpAny_comprehension_free (use:=none) rfl hs (eP fun x hx hk=>I.ok.has x.1 (S.free x hx hk)) S.kind S.names (aL (hI pins s σ H _ I h) fun v s1 h1=>aL h1 fun itv s2 h2=>?_)
 obtain⟨it,fp,tn,J,H2,e,I2,Tn,st2,f2,q2⟩:=h2
 subst e;refine kr (RR:=fun acc C=>compPost (model X.prog X.w) X.A X.xe none (EP X pins σ Q) acc C) S hc hg hfr hi he I2 Tn st2 f2 q2 ?_
 intro D C s' H' m hn hC hL hcells hpins hfresh I' hI' q
 exact⟨m,hn,fun h' hs'=>⟨.ref D,H',hI' h' hs',rfl,q⟩⟩
theorem nO{i:Nat}{x:Str}{pos' spos:Pos}(S:gh X N0 T scope)(hc:X.calm=true)(hN:X.N.Nodup)(hi':X.N[i]? = some x)(hx:X.env.scope.names.lookup x=some .local)(hI:PI X tg iter wi)
  (hg:∀ C fp s H,PG (bp X N0 T scope C fp s H) tg g) (hfr:mI g X.N.length) (hi:∀ C fp s H,PIfs (bp X N0 T scope C fp s H) ifs tc) (he:∀ C fp s H,PE (bp X N0 T scope C fp s H) elt te)
  (hsw:swapsWith (.ListComp elt [⟨tg,iter,ifs,0⟩] scope pos) (some (.Name x pos')) spos.line X.env=pure true:=by rfl)
  (hs:∀ x,foldedSetIterable iter X.env x=pure x:=by intro _; rfl):PS X (.Assign [.Name x pos'] (.ListComp elt [⟨tg,iter,ifs,0⟩] scope pos) spos) (kN (kG wi g tc te T.length) (hX i)):=by
 intro pins s σ H D I h
 rw[exec_Assign_Name_used _ _ _ _ hsw];refine wpAny_bind (wpAny_standAt (wpAny_bind ?_))
 show wpAny _ X.A (do let _ ← comprehension (.ListComp elt [⟨tg,iter,ifs,0⟩] scope pos) scope X.env _ (newList []) false (eval iter X.env) (some (assign (.Name x pos') X.env))) _ _ s
 refine wpAny_bind (wpAny_mono (wpAny_comprehension_free (use:=some (assign (.Name x pos') X.env)) (Q:=fun _ s'=>SP X pins D .next s') rfl hs (eP fun x hx hk=>I.ok.has x.1 (S.free x hx hk)) S.kind S.names
  (aL (hI pins s σ H _ I h) fun v s1 h1=>aL h1 fun itv s2 h2=>?_)) (fun _ s' hq=>wpAny_pure (wpAny_pure hq)) fun _ _ e=>e)
 obtain⟨it,fp,tn,J,H2,e,I2,Tn,st2,f2,q2⟩:=h2
 subst e;refine kr (RR:=fun acc C=>compPost (model X.prog X.w) X.A X.xe (some (assign (.Name x pos') X.env)) (fun _ s'=>SP X pins D .next s') acc C) S hc hg hfr hi he I2 Tn st2 f2 q2 ?_
 intro L C s' H' m hn hC hL hcells hpins hfresh I' hI' q
 show wpAny _ X.A (assign (.Name x pos') X.env (.ref L)) _ _ _
 refine wpAny_assign_Name (j3 (v:=.ref L) I' hN hi' (.inl hx) rfl (fun s'' I'' ⟨a,hsa,ha⟩=>?_) (.inr hx))
 have hCa:C≠a:=by
  rintro rfl
  rcases ha with z | z
  ·exact hL z
  ·exact hcells x C z rfl
 refine⟨m,hn.sameBut hsa hCa,fun h' hs'=>?_⟩
 exact⟨σ.set i (some (.ref L)),H',I''.turned (t':=s''.toks) (fun b o hb e=>(hs'.2 b hb).trans e) hC hL (.inr hfresh) hcells hpins,q⟩
end
end L2
namespace L2
open PySem PySem.Spec PyProof.Rows
theorem Vals.of:∀ {xs:List V} {us:List Value} {i:Nat} {u:Value},Vals xs us→us[i]? = some u→∃ x,xs[i]? = some x∧RelV x u
 | _,_,0,u,.cons r _,e=>⟨_,rfl,by simp at e; subst e; exact r⟩
 | _,_,i+1,u,.cons _ rr,e=>by
  obtain⟨x,hx,r⟩:=Vals.of (i:=i) rr (by simpa using e)
  exact⟨x,by simpa using hx,r⟩
theorem gb:∀ {ss:List Str} {us:List Value},Vals (ss.map V.str) us→StrsAre us ss
 | [],_,.nil=>.nil
 | s::ss,_,.cons r rr=>by
  obtain⟨t,rfl⟩:=r
  exact .cons s t (gb rr)
theorem gg:∀ {us:List Value} {ss:List Str},StrsAre us ss→Vals (ss.map V.str) us
 | _,_,.nil=>.nil
 | _,_,.cons y t h=>.cons ⟨t,rfl⟩ (gg h)
section
variable{X:Cx}
def bN(H:Hp):V→Option String
 | .non=>some "NoneType"
 | .bl _=>some "bool"
 | .int _=>some "int"
 | .str _=>some "str"
 | .ref a=>match H a with
  | some (.lst _)=>some "list"
  | some (.frz _ (.lst _))=>some "list"
  | some (.tup _)=>some "tuple"
  | some (.dK _)=>some "dict"
  | some (.dT _)=>some "dict"
  | _=>none
 | _=>none
theorem qO{K:PySem.W.Frag}{H:Hp}:∀ {x:V} {T:String},bN H x=some T→dY K H x (.type T)
 | .non,T,h=>by cases h; exact .non
 | .bl b,T,h=>by cases h; exact .bl b
 | .int i,T,h=>by cases h; exact .int i
 | .str y,T,h=>by cases h; exact .str y
 | .byt _,T,h=>by cases h
 | .flt _,T,h=>by cases h
 | .ty _,T,h=>by cases h
 | .ref a,T,h=>by
  cases e:H a with
  | none=>simp[bN,e]at h
  | some o=>
   cases o with
   | lst xs=>simp[bN,e]at h; subst h; exact .lst e
   | tup xs=>simp[bN,e]at h; subst h; exact .tup e
   | dK xs=>simp[bN,e]at h; subst h; exact .dK e
   | dT xs=>simp[bN,e]at h; subst h; exact .dT e
   | frz ob u=>
    cases u with
    | lst xs=>simp[bN,e]at h; subst h; exact .frz e
    | _=>simp[bN,e]at h
   | _=>simp[bN,e]at h
def tM(T C:String):Bool:=T == C||(T == "bool" && C == "int")
theorem sR(K:PySem.W.Frag){T C:String}(hT:T∈["NoneType", "bool", "int", "str", "list", "tuple", "dict"]) (hC:C∈["bool", "int", "str", "list", "tuple"]):PySem.W.kitOne K (.type T) (.type C)=some (tM T C):=by
 simp only[List.mem_cons,List.mem_nil_iff,or_false]at hT hC
 rcases hT with rfl | rfl | rfl | rfl | rfl | rfl | rfl <;> rcases hC with rfl | rfl | rfl | rfl | rfl <;> (with_unfolding_all rfl)
theorem oj{H:Hp}{x:V}{T:String}(h:bN H x=some T):T∈["NoneType", "bool", "int", "str", "list", "tuple", "dict"]:=by
 cases x with
 | ref a=>
  cases e:H a with
  | none=>simp[bN,e]at h
  | some o=>
   cases o with
   | frz ob u=>cases u <;> simp[bN,e]at h <;> subst h <;> decide
   | _=>simp[bN,e]at h <;> subst h <;> decide
 | _=>first | (cases h; decide) | cases h
def vO:List V→Hp→VK→Prop:=fun xs H Q=>∃ (x:V) (T C:String),xs=[x,.ty C]∧bN H x=some T∧C∈["bool", "int", "str", "list", "tuple"]∧Q (.bl (tM T C)) H
theorem fJ{H:Hp}{Q:VK}(x:V)(C:String):vO [x,.ty C] H Q=∃ T,bN H x=some T∧C∈["bool", "int", "str", "list", "tuple"]∧Q (.bl (tM T C)) H:=
 propext ⟨fun ⟨_,T,_,e,q⟩=>by cases e; exact⟨T,q⟩,fun ⟨T,q⟩=>⟨x,T,C,rfl,q⟩⟩
theorem i0:CallR X (.builtin "isinstance") vO:=by
 intro pins s σ H xs us Q I r h
 obtain⟨x,T,C,rfl,hT,hC,q⟩:=h
 obtain⟨u,w',rfl,ru,rw'⟩:=jm r
 cases rw';exact qA I ru (qO hT) (sR X.K (oj hT) hC) fun tk=>⟨.bl (tM T C),H,I.tok tk,rfl,q⟩
end
def i4(J:It)(g:TG)(tb:TS)(D:cB)(σ : St)(H:Hp):Prop:=∃ W:Nat→Nat→St→Hp→Prop,(∃ m,W 0 m σ H)∧∀ i m σ H,W i m σ H→
 (J.stop i H∧D.nx σ H)∨(J.go i H∧∃ N:St→Hp→Prop,(∀ σ' H',N σ' H'→∃ m',m'<m∧W (i+1) m' σ' H')∧∀ x H',J.yld i H x H'→g x σ H' fun σ2 H2=>tb { D with nx:=N,ct:=N,bk:=D.nx } σ2 H2)
theorem fI(wi:TI)(g:TG)(tb:TS)(D:cB)(σ : St)(H:Hp):xf wi g tb D σ H=wi σ H fun J H1=>i4 J g tb D σ H1:=rfl
theorem jE{J:It}{g:TG}{tb:TS}{D:cB}{σ : St}{H:Hp}(n:Nat)(Pv:Nat→St→Hp→Prop)(h0:Pv 0 σ H)(hgo:∀ i σ H,i<n→Pv i σ H→J.go i H)(hst:∀ σ H,Pv n σ H→J.stop n H)
  (hs:∀ i σ H x H',i<n→Pv i σ H→J.yld i H x H'→g x σ H' fun σ2 H2=>tb { D with nx:=Pv (i+1),ct:=Pv (i+1),bk:=D.nx } σ2 H2) (hd:∀ σ H,Pv n σ H→D.nx σ H):i4 J g tb D σ H:=by
 refine⟨fun i m σ H=>m=n - i∧i≤n∧Pv i σ H,⟨n,by simp,Nat.zero_le _,h0⟩,?_⟩
 rintro i m σ H ⟨rfl,hi,p⟩
 by_cases hlt:i<n
 ·exact .inr ⟨hgo i σ H hlt p,Pv (i+1),fun σ' H' p'=>⟨n - (i+1),by omega,rfl,hlt,p'⟩,fun x H' y=>hs i σ H x H' hlt p y⟩
 ·have e:i=n:=by omega
  subst e;exact .inl ⟨hst σ H p,hd σ H p⟩
theorem fZ{K:PySem.W.Frag}{a:Addr}{xs:List V}{g:TG}{tb:TS}{D:cB}{σ : St}{H:Hp}(Pv:Nat→St→Hp→Prop)(h0:Pv 0 σ H)(hl:∀ i σ H,i≤xs.length→Pv i σ H→SqL K H a xs)
  (hs:∀ i x σ H,xs[i]? = some x→Pv i σ H→g x σ H fun σ2 H2=>tb { D with nx:=Pv (i+1),ct:=Pv (i+1),bk:=D.nx } σ2 H2) (hd:∀ σ H,Pv xs.length σ H→D.nx σ H):i4 (jp K a) g tb D σ H:=
 tq Pv h0 hl hs hd
theorem bU{lo:Int}{n:Nat}{g:TG}{tb:TS}{D:cB}{σ : St}{H:Hp}(Pv:Nat→St→Hp→Prop)(h0:Pv 0 σ H)
  (hs:∀ i σ H,i<n→Pv i σ H→g (.int (lo+i)) σ H fun σ2 H2=>tb { D with nx:=Pv (i+1),ct:=Pv (i+1),bk:=D.nx } σ2 H2) (hd:∀ σ H,Pv n σ H→D.nx σ H):i4 (ik lo n) g tb D σ H:=
 qK Pv h0 hs hd
def iA(n i:Nat)(Pv:Nat→List V→Hp→Prop)(D:Addr)(ys:List V)(y:V)(H:Hp):Prop:=
 H D=some (.lst ys)∧ys.length<sizeLine∧∃ m',m'<n - i∧(m'=n - (i+1)∧i+1≤n∧Pv (i+1) (ys++[y]) (upd H D (.lst (ys++[y]))))
theorem iL{n i:Nat}{Pv:Nat→List V→Hp→Prop}{D:Addr}{ys:List V}{y:V}{H:Hp}(hi:i<n)(hlen:ys.length=i)(hz:n≤sizeLine)(h1:H D=some (.lst ys))(h2:Pv (i+1) (ys++[y]) (upd H D (.lst (ys++[y])))):iA n i Pv D ys y H:=
 ⟨h1,by omega,n - (i+1),by omega,rfl,hi,h2⟩
def iH(n i:Nat)(Pv:Nat→List V→Hp→Prop)(D:Addr)(ys:List V)(te:TE)(σ : St)(H:Hp):Prop:=
 if true=true then te σ H (iA n i Pv D ys) else ∃ m',m'<n - i∧(m'=n - (i+1)∧i+1≤n∧Pv (i+1) ys H)
theorem cW{n i:Nat}{Pv:Nat→List V→Hp→Prop}{D:Addr}{ys:List V}{te:TE}{σ : St}{H:Hp}:iH n i Pv D ys te σ H=te σ H (iA n i Pv D ys):=by
 unfold iH; rw[if_pos rfl]
theorem lO{J:It}{g:TG}{te:TE}{nT:Nat}{σ : St}{D:Addr}{Q:VK}{H:Hp}(n:Nat)(Pv:Nat→List V→Hp→Prop)(h0:Pv 0 [] H)(hgo:∀ i ys H,i<n→Pv i ys H→J.go i H)(hst:∀ ys H,Pv n ys H→J.stop n H)
  (hs:∀ i ys H x H',i<n→Pv i ys H→J.yld i H x H'→g x (σ++List.replicate nT none) H' (iH n i Pv D ys te))
  (hd:∀ ys H,Pv n ys H→Q (.ref D) H):gf J g jM te nT σ D Q H:=by
 refine⟨fun i m ys H=>m=n - i∧i≤n∧Pv i ys H,⟨n,by simp,Nat.zero_le _,h0⟩,?_⟩
 rintro i m ys H ⟨rfl,hi,p⟩
 by_cases hlt:i<n
 ·exact .inr ⟨hgo i ys H hlt p,fun x H' y=>hs i ys H x H' hlt p y⟩
 ·have e:i=n:=by omega
  subst e;exact .inl ⟨hst ys H p,hd ys H p⟩
theorem eT{K:PySem.W.Frag}{a:Addr}{xs:List V}{g:TG}{te:TE}{nT:Nat}{σ : St}{D:Addr}{Q:VK}{H:Hp}(Pv:Nat→List V→Hp→Prop)(h0:Pv 0 [] H)(hl:∀ i ys H,i≤xs.length→Pv i ys H→SqL K H a xs)
  (hs:∀ i ys H x,xs[i]? = some x→i<xs.length→Pv i ys H→g x (σ++List.replicate nT none) H (iH xs.length i Pv D ys te))
  (hd:∀ ys H,Pv xs.length ys H→Q (.ref D) H):gf (jp K a) g jM te nT σ D Q H:=by
 refine lO xs.length Pv h0 (fun i ys H hi p=>⟨xs,xs[i],hl i ys H (Nat.le_of_lt hi) p,by simp[hi]⟩) (fun ys H p=>⟨xs,hl _ ys H (Nat.le_refl _) p,Nat.le_refl _⟩) (fun i ys H x H' hi p yl=>?_) hd
 obtain⟨rfl,y⟩:=yl
 exact hs i ys _ x (y xs (hl i ys _ (Nat.le_of_lt hi) p)) hi p
theorem iS{lo:Int}{n:Nat}{g:TG}{te:TE}{nT:Nat}{σ : St}{D:Addr}{Q:VK}{H:Hp}(Pv:Nat→List V→Hp→Prop)(h0:Pv 0 [] H)
  (hs:∀ i ys H,i<n→Pv i ys H→g (.int (lo+i)) (σ++List.replicate nT none) H (iH n i Pv D ys te))
  (hd:∀ ys H,Pv n ys H→Q (.ref D) H):gf (ik lo n) g jM te nT σ D Q H:=by
 refine lO n Pv h0 (fun i ys H hi p=>hi) (fun ys H p=>Nat.le_refl _) (fun i ys H x H' hi p yl=>?_) hd
 obtain⟨rfl,rfl⟩:=yl
 exact hs i ys _ hi p
end L2
namespace L2
open PySem PySem.Spec PyProof.Rows
def nG(u:TS)(D:cB)(σ : St)(H:Hp):Prop:=u D σ H
section
variable{D:cB}{σ : St}{H:Hp}{Q:VK}{B:Bool→Hp→Prop}{L:List V→Hp→Prop}{R:It→Hp→Prop}{G:St→Hp→Prop}
theorem fh(t u:TS):sO t u D σ H=t { D with nx:=nG u D } σ H:=rfl
theorem dB(u:TS):nG u D σ H=u D σ H:=rfl
theorem dX:tN D σ H=D.nx σ H:=rfl
theorem dN:tF D σ H=D.ct σ H:=rfl
theorem fg(c:TT)(t u:TS):vi c t u D σ H=c σ H fun b H1=>if b=true then t D σ H1 else u D σ H1:=rfl
theorem fF(t:TE):vG t D σ H=t σ H D.rt:=rfl
theorem dG(t:TE):tL t D σ H=t σ H fun _ H1=>D.nx σ H1:=rfl
theorem fk(t:TE)(g:TG):kN t g D σ H=t σ H fun x H1=>g x σ H1 D.nx:=rfl
theorem dE(i:Nat)(v:V):hX i v σ H G=G (σ.set i (some v)) H:=rfl
theorem fN(vs:List V):xN vs σ H G=(vs=[]∧G σ H):=rfl
theorem d3(t:TG)(u:iR)(vs:List V):tE t u vs σ H G=∃ v r,vs=v::r∧t v σ H fun σ' H'=>u r σ' H' G:=rfl
theorem fm(K:PySem.W.Frag)(n:Nat)(t:iR)(v:V):rF K n t v σ H G=∃ a xs,v = .ref a∧SqT K H a xs∧xs.length=n∧t xs σ H G:=rfl
theorem fz(to ti:TE)(t:ij)(v:V):xg to ti t v σ H G=to σ H fun o H1=>ti σ H1 fun i H2=>t o i v H2 fun H3=>G σ H3:=rfl
theorem fA(i:Nat):s_ i σ H Q=∃ v,σ[i]? = some (some v)∧Q v H:=rfl
theorem iM(v:V):tC v σ H Q=Q v H:=rfl
theorem gA(r:R2)(ta tb:TE):pk r ta tb σ H Q=ta σ H fun x H1=>tb σ H1 fun y H2=>r x y H2 Q:=rfl
theorem dW(t:TE):tS t σ H B=t σ H fun x H'=>∃ k,x = .bl k∧B k H':=rfl
theorem iK(t:TE):tB t σ H B=t σ H fun x H'=>∃ k,x = .bl k∧B k H':=rfl
theorem fD(t u:TT):xG t u σ H B=t σ H fun c H1=>if c=true then u σ H1 B else B false H1:=rfl
theorem gK(t u:TT):yo t u σ H B=t σ H fun c H1=>if c=true then B true H1 else u σ H1 B:=rfl
theorem fC(t:TT):vm t σ H B=t σ H fun c H1=>B (!c) H1:=rfl
theorem dS(ta tb:TE):tG ta tb σ H Q=ta σ H fun x H1=>∃ c,x = .bl c∧if c=true then tb σ H1 Q else Q (.bl false) H1:=rfl
theorem gy(t:TT)(ta tb:TE):ym t ta tb σ H Q=t σ H fun c H1=>if c=true then ta σ H1 Q else tb σ H1 Q:=rfl
theorem gC(r:List V→Hp→VK→Prop)(t:TA):pP r t σ H Q=t σ H fun vs H1=>r vs H1 Q:=rfl
theorem dA(ta:TE)(tr:TA):ui ta tr σ H L=ta σ H fun x H1=>tr σ H1 fun xs H2=>L (x::xs) H2:=rfl
theorem fO:wa σ H L=L [] H:=rfl
theorem eZ(t:TA):wC t σ H Q=t σ H fun xs H1=>xs.length≤sizeLine∧∀ p,H1 p=none→Q (.ref p) (upd H1 p (.tup xs)):=rfl
theorem fb(t:TA):vP t σ H Q=t σ H fun xs H1=>xs.length≤sizeLine∧∀ p,H1 p=none→Q (.ref p) (upd H1 p (.lst xs)):=rfl
theorem dU(sp:Sp)(dvs:List V)(E:XK)(t:TA):nN sp dvs E t σ H Q=t σ H fun vs H1=>sp (vs++dvs) H1 Q E:=rfl
theorem gB(K:PySem.W.Frag)(T:String)(r:V→List V→Hp→VK→Prop)(to:TE)(t:TA):wH K T r to t σ H Q=to σ H fun x H1=>lG K T x H1∧t σ H1 fun xs H2=>r x xs H2 Q:=rfl
theorem fw(K:PySem.W.Frag)(T:String)(r:V→List V→Hp→VK→Prop)(to:TE):rJ K T r to σ H Q=to σ H fun x H1=>lG K T x H1∧r x [] H1 Q:=rfl
theorem gI(r:V→Option Int→Option Int→Hp→VK→Prop)(te:TE)(tl th:TO):yH r te tl th σ H Q=te σ H fun x H1=>tl σ H1 fun l H2=>th σ H2 fun u H3=>r x l u H3 Q:=rfl
theorem dP(t:TE)(O:Option Int→Hp→Prop):t6 t σ H O=t σ H fun x H1=>∃ i,x = .int i∧O (some i) H1:=rfl
theorem cJ(O:Option Int→Hp→Prop):mT σ H O=O none H:=rfl
theorem dQ(wi:TI)(g:TG)(tc:TT)(te:TE)(nT:Nat):kG wi g tc te nT σ H Q=wi σ H fun J H1=>∀ D,H1 D=none→gf J g tc te nT σ D Q (upd H1 D (.lst [])):=rfl
theorem fB:jM σ H B=B true H:=rfl
theorem dR(K:PySem.W.Frag)(tl:TE):n8 K tl σ H R=tl σ H fun x H1=>∃ a,x = .ref a∧(∃ xs,SqL K H1 a xs)∧R (jp K a) H1:=rfl
theorem d_(ta:TA):tR ta σ H R=ta σ H fun vs H1=>∃ j:Int,vs=[.int j]∧-(2 ^ 62)≤j∧j<2 ^ 62∧R (ik 0 j.toNat) H1:=rfl
theorem eA(ta:TA):tI ta σ H R=ta σ H fun vs H1=>∃ i j:Int,vs=[.int i,.int j]∧(-(2 ^ 62)≤i∧i<2 ^ 62∧-(2 ^ 62)≤j∧j<2 ^ 62)∧R (ik i (j - i).toNat) H1:=rfl
theorem gH(g:Int→Int→V)(i j:Int):lx g (.int i) (.int j) H Q=Q (g i j) H:=propext ⟨fun ⟨_,_,e1,e2,q⟩=>by cases e1; cases e2; exact q,fun q=>⟨i,j,rfl,rfl,q⟩⟩
theorem iF(C:Int→Int→Prop)(g:Int→Int→V)(i j:Int):rI C g (.int i) (.int j) H Q=(C i j∧Q (g i j) H):=propext ⟨fun ⟨_,_,e1,e2,q⟩=>by cases e1; cases e2; exact q,fun q=>⟨i,j,rfl,rfl,q⟩⟩
end
structure DefAt (K:PySem.W.Frag) (mg:Str→Option Value) (x:Str) (st:Stmt):Prop where
 ex:∃ f fd,Fun K x x st f fd∧mg x=some (.ref f)
structure bt (P:Program) (w:World) (K:PySem.W.Frag) (mg:Str→Option Value) (base:Heap) (k:Nat) (x:Str) (ps:List Str) (sp:Sp):Prop where
 ex:∃ f fd,gn P w K mg base i8 k f fd ps sp∧Binds K fd ps []∧PySem.W.keepIn K (.ref f)=true∧mg x=some (.ref f)
section
variable{P:Program}{w:World}{K:PySem.W.Frag}{mg:Str→Option Value}{base:Heap}
theorem DefAt.cal{x:Str}{st:Stmt}{N ps:List Str}{k:Nat}{sp:Sp}(D:DefAt K mg x st)(S:aY N ps (defScope st))
  (hb:∀ (kV doc pm:Value) (an:Option Addr) (cdv ct:Value) (us:List Value),us.length=ps.length→bindArgs (PySem.W.fnOf x x (defArgs st) (defBody st) (defScope st) .none kV doc pm an cdv ct) ⟨us,[]⟩=pure (ps.zip us))
  (len:∀ vs H Q E,sp vs H Q E→vs.length=ps.length)
  (hbody:∀ (f:Addr) (cdv:Value) (A:Around) (outer:List Env) (s:Shared) (H:Hp) (vs:List V) (Q:VK) (E:XK),Room k (A.deeper (envOfC x (defScope st) s.heap.objs.size f cdv))→sp vs H Q E→
   ∃ t,PSs (iU i8 P w K mg base N x (defScope st) f cdv A outer s H E).nox (defBody st) t∧t { nx:=fun _ H'=>Q .non H',rt:=Q } (start N vs) H):bt P w K mg base (k+1) x ps sp:=by
 obtain⟨f,fd,F,m⟩:=D.ex
 exact⟨f,fd,F.ok S len fun cdv A outer s H vs Q E hr h=>hbody f cdv A outer s H vs Q E hr h,F.binds hb,F.kp,m⟩
end
section
variable{X:Cx}
theorem aC{j k:Nat}{x:Str}{ps:List Str}{sp:Sp}{p pos:Pos}{e:Expr}{es:List Expr}{t:TA}(c:bt X.prog X.w X.K X.mg X.base j x ps sp)(hr:Room k X.A)(ha:PA X (e::es) t)(hle:j≤k:=by decide)(hg:Gl X x:=by first | exact vGg (by decide +kernel) | rfl)
  (hdb:(x == ("__debug__" : Str))=false:=by decide) (he:starEach (e::es) X.env=(false,eval e X.env)::starEach es X.env:=by rfl) (hpl:(backTo pos (starEach es X.env)).any (·.1)=false:=by rfl) :
  PE X (.Call (.Name x p) (e::es) [] pos) (nN sp [] E0 t):=by
 obtain⟨f,fd,F,b,kp,m⟩:=c.ex
 exact u7 F (hr.mono hle) hg m kp b .nil x8 ha hdb he hpl
theorem lE{x:Str}{T:String}{pos:Pos}(hm:X.mg x=none)(hv:bootBuiltins x=some (.type T))(hg:Gl X x:=by first | exact vGg (by decide +kernel) | rfl)(hn:x ≠ "__name__" := by decide) (hd:(x == ("__debug__" : Str))=false:=by decide):PE X (.Name x pos) (tC (.ty T)):=
 uJ hg hm hv rfl hn hd
theorem bh{x:Str}{p pos:Pos}{e:Expr}{es:List Expr}{t:TA}{id:String}{r:List V→Hp→VK→Prop}(hc:CallR X (.builtin id) r)(hm:X.mg x=none)(hv:bootBuiltins x=some (.builtin id))(ha:PA X (e::es) t)(hg:Gl X x:=by first | exact vGg (by decide +kernel) | rfl)
  (hn:x ≠ "__name__" := by decide) (hdb:(x == ("__debug__" : Str))=false:=by decide) (he:starEach (e::es) X.env=(false,eval e X.env)::starEach es X.env:=by rfl) (hpl:(backTo pos (starEach es X.env)).any (·.1)=false:=by rfl) :
  PE X (.Call (.Name x p) (e::es) [] pos) (pP r t):=rS hc hg hm hv ha hn hdb he hpl
theorem bR{x:Str}{p pos:Pos}{e:Expr}{es:List Expr}{t:TA}{T:String}{r:List V→Hp→VK→Prop}(hc:CallR X (.type T) r)(hm:X.mg x=none)(hv:bootBuiltins x=some (.type T))(ha:PA X (e::es) t)(hg:Gl X x:=by first | exact vGg (by decide +kernel) | rfl)
  (hn:x ≠ "__name__" := by decide) (hdb:(x == ("__debug__" : Str))=false:=by decide) (he:starEach (e::es) X.env=(false,eval e X.env)::starEach es X.env:=by rfl) (hpl:(backTo pos (starEach es X.env)).any (·.1)=false:=by rfl) :
  PE X (.Call (.Name x p) (e::es) [] pos) (pP r t):=pX hc hg hm hv ha hn hdb he hpl
end
section
variable{X:Cx}
def kJ:R2:=fun x y H Q=>match x,y with
 | .int i,.int j=>Q (.int (i+j)) H
 | .str a,.str b=>a.length+b.length≤sizeLine∧Q (.str (a++b)) H
 | .ref l,.ref b=>∃ xs zs,H l=some (.lst xs)∧H b=some (.lst zs)∧xs.length+zs.length≤sizeLine∧∀ p,H p=none→Q (.ref p) (upd H p (.lst (xs++zs)))
 | _,_=>False
theorem aK:OpR X (binaryOp .Add) kJ:=by
 intro pins s σ H x y v u Q I rx ry h
 cases x <;> cases y <;> first
  | exact(show False from h).elim
  | exact vB pins s σ H _ _ v u Q I rx ry ⟨_,_,rfl,rfl,h⟩
  | exact oe pins s σ H _ _ v u Q I rx ry ⟨_,_,rfl,rfl,h⟩
  | (obtain⟨xs,zs,h1,h2,h3,h4⟩:=h; exact wJ pins s σ H _ _ v u Q I rx ry ⟨_,_,xs,zs,rfl,rfl,h1,h2,h3,h4⟩)
def sL:R2:=fun x y H Q=>match x,y with
 | .int i,.int j=>Q (.bl (decide (i<j))) H
 | .str i,.str j=>Q (.bl (decide (i.cps.toList<j.cps.toList))) H
 | _,_=>False
theorem kP:OpR X (compareOp .Lt) sL:=by
 intro pins s σ H x y v u Q I rx ry h
 cases x <;> cases y <;> first
  | exact(show False from h).elim
  | exact x4 pins s σ H _ _ v u Q I rx ry ⟨_,_,rfl,rfl,h⟩
  | exact qH pins s σ H _ _ v u Q I rx ry ⟨_,_,rfl,rfl,h⟩
def nU(K:PySem.W.Frag):R2:=fun x y H Q=>match x,y with
 | .str i,.str j=>Q (.bl (!(Builtin.Str.occurrences j i 0 j.length 1).isEmpty)) H
 | x,.ref p=>∃ xs,(SqL K H p xs∨SqT K H p xs)∧bf x=true∧xs.all bf=true∧Q (.bl (ib x xs)) H
 | _,_=>False
theorem vW:OpR X (compareOp .In) (nU X.K):=by
 intro pins s σ H x y v u Q I rx ry h
 cases y with
 | str j=>
  cases x with
  | str i=>exact pJ pins s σ H _ _ v u Q I rx ry ⟨i,j,rfl,rfl,h⟩
  | _=>exact(show False from h).elim
 | ref p=>
  have h':∃ xs,(SqL X.K H p xs∨SqT X.K H p xs)∧bf x=true∧xs.all bf=true∧Q (.bl (ib x xs)) H:=by cases x <;> exact h
  obtain⟨xs,h1,h2,h3,h4⟩:=h'
  exact pG pins s σ H _ _ v u Q I rx ry ⟨p,xs,rfl,h1,h2,h3,h4⟩
 | _=>cases x <;> exact(show False from h).elim
def iG(K:PySem.W.Frag):R2:=fun x y H Q=>match x,y with
 | .str i,.str j=>Q (.bl (!(!(Builtin.Str.occurrences j i 0 j.length 1).isEmpty))) H
 | x,.ref p=>∃ xs,(SqL K H p xs∨SqT K H p xs)∧bf x=true∧xs.all bf=true∧Q (.bl (!ib x xs)) H
 | _,_=>False
theorem qy:OpR X (compareOp .NotIn) (iG X.K):=by
 intro pins s σ H x y v u Q I rx ry h
 cases y with
 | str j=>
  cases x with
  | str i=>exact k_ pins s σ H _ _ v u Q I rx ry ⟨i,j,rfl,rfl,h⟩
  | _=>exact(show False from h).elim
 | ref p=>
  have h':∃ xs,(SqL X.K H p xs∨SqT X.K H p xs)∧bf x=true∧xs.all bf=true∧Q (.bl (!ib x xs)) H:=by cases x <;> exact h
  obtain⟨xs,h1,h2,h3,h4⟩:=h'
  exact kK pins s σ H _ _ v u Q I rx ry ⟨p,xs,rfl,h1,h2,h3,h4⟩
 | _=>cases x <;> exact(show False from h).elim
def kI(K:PySem.W.Frag):List V→Hp→VK→Prop:=fun xs H Q=>match xs with
 | [.str z]=>z.length≤sizeLine∧Q (.int z.length) H
 | [.ref p]=>∃ ys,(SqL K H p ys∨SqT K H p ys)∧Q (.int ys.length) H
 | _=>False
theorem qi:CallR X (.builtin "len") (kI X.K):=by
 intro pins s σ H xs us Q I r h
 match xs,h with
 | [.str z],h=>exact lJ pins s σ H _ us Q I r ⟨z,rfl,h⟩
 | [.ref p],h=>obtain⟨ys,h1,h2⟩:=h; exact lL pins s σ H _ us Q I r ⟨p,ys,rfl,h1,h2⟩
def kU(K:PySem.W.Frag):R2:=fun x y H Q=>match x,y with
 | .ref p,.int i=>∃ xs v,(SqL K H p xs∨SqT K H p xs)∧ck xs i=some v∧Q v H
 | .str z,.int i=>∃ c,z.length≤sizeLine∧ck z.cps.toList i=some c∧Q (.str ⟨#[c]⟩) H
 | _,_=>False
theorem ze:IxR X (kU X.K):=by
 intro value slice pins s σ H x y v u Q I rx ry h hs
 refine v_ value slice pins s σ H x y v u Q I rx ry ?_ hs
 match x,y,h with
 | .ref p,.int i,h=>
  obtain⟨xs,v',h1,h2,h3⟩:=h
  rcases h1 with h1 | h1
  ·exact .inl ⟨p,xs,i,v',rfl,rfl,h1,h2,h3⟩
  ·exact .inr (.inl ⟨p,xs,i,v',rfl,rfl,h1,h2,h3⟩)
 | .str z,.int i,h=>
  obtain⟨c,h1,h2,h3⟩:=h
  exact .inr (.inr ⟨z,i,c,rfl,rfl,h1,h2,h3⟩)
end
section
variable{K:PySem.W.Frag}{H:Hp}{Q:VK}
theorem df(i j:Int):kJ (.int i) (.int j) H Q=Q (.int (i+j)) H:=rfl
theorem di(a b:Str):kJ (.str a) (.str b) H Q=(a.length+b.length≤sizeLine∧Q (.str (a++b)) H):=rfl
theorem db(l b:Addr):kJ (.ref l) (.ref b) H Q=∃ xs zs,H l=some (.lst xs)∧H b=some (.lst zs)∧xs.length+zs.length≤sizeLine∧∀ p,H p=none→Q (.ref p) (upd H p (.lst (xs++zs))):=rfl
theorem eh(i j:Int):sL (.int i) (.int j) H Q=Q (.bl (decide (i<j))) H:=rfl
theorem dJ(i j:Str):sL (.str i) (.str j) H Q=Q (.bl (decide (i.cps.toList<j.cps.toList))) H:=rfl
theorem dz(i j:Str):nU K (.str i) (.str j) H Q=Q (.bl (!(Builtin.Str.occurrences j i 0 j.length 1).isEmpty)) H:=rfl
theorem ef(x:V)(p:Addr):nU K x (.ref p) H Q=∃ xs,(SqL K H p xs∨SqT K H p xs)∧bf x=true∧xs.all bf=true∧Q (.bl (ib x xs)) H:=by cases x <;> rfl
theorem cx(i j:Str):iG K (.str i) (.str j) H Q=Q (.bl (!(!(Builtin.Str.occurrences j i 0 j.length 1).isEmpty))) H:=rfl
theorem cA(x:V)(p:Addr):iG K x (.ref p) H Q=∃ xs,(SqL K H p xs∨SqT K H p xs)∧bf x=true∧xs.all bf=true∧Q (.bl (!ib x xs)) H:=by cases x <;> rfl
theorem c_(z:Str):kI K [.str z] H Q=(z.length≤sizeLine∧Q (.int z.length) H):=rfl
theorem cZ(p:Addr):kI K [.ref p] H Q=∃ ys,(SqL K H p ys∨SqT K H p ys)∧Q (.int ys.length) H:=rfl
theorem dL(p:Addr)(i:Int):kU K (.ref p) (.int i) H Q=∃ xs v,(SqL K H p xs∨SqT K H p xs)∧ck xs i=some v∧Q v H:=rfl
theorem dD(z:Str)(i:Int):kU K (.str z) (.int i) H Q=∃ c,z.length≤sizeLine∧ck z.cps.toList i=some c∧Q (.str ⟨#[c]⟩) H:=rfl
theorem er(p:Addr)(k:Int)(v:V)(G:Hp→Prop):oH (.ref p) (.int k) v H G=∃ xs j,H p=some (.lst xs)∧ix xs.length k=some j∧G (upd H p (.lst (xs.set j v))):=
 propext ⟨fun ⟨_,xs,_,j,e1,e2,q⟩=>by cases e1; cases e2; exact⟨xs,j,q⟩,fun ⟨xs,j,q⟩=>⟨p,xs,k,j,rfl,rfl,q⟩⟩
theorem cN(p:Addr)(y:V):jy (.ref p) [y] H Q=∃ xs,H p=some (.lst xs)∧xs.length<sizeLine∧Q .non (upd H p (.lst (xs++[y]))):=
 propext ⟨fun ⟨_,xs,_,e1,e2,q⟩=>by cases e1; cases e2; exact⟨xs,q⟩,fun ⟨xs,q⟩=>⟨p,xs,y,rfl,rfl,q⟩⟩
theorem fc(y:Str):lG K "str" (.str y) H=True:=eq_true rfl
theorem fH(p:Addr):(lG K "list" (.ref p) H)=∃ xs,SqL K H p xs:=by
 refine propext ⟨fun h=>?_,fun h=>.inl ⟨rfl,h⟩⟩
 rcases h with ⟨_,h⟩ | ⟨h,_⟩ | ⟨h,_⟩ | ⟨h,_⟩
 ·exact h
 ·exact absurd h (by decide)
 ·exact absurd h (by decide)
 ·exact absurd h (by decide)
end
theorem bO:bootBuiltins "len" = some (.builtin "len"):=by decide +kernel
theorem eO:bootBuiltins "isinstance" = some (.builtin "isinstance"):=by decide +kernel
theorem wB:bootBuiltins "min" = some (.builtin "min"):=by decide +kernel
theorem cY:bootBuiltins "sorted" = some (.builtin "sorted"):=by decide +kernel
theorem jc:bootBuiltins "str" = some (.type "str"):=by decide +kernel
theorem wD:bootBuiltins "int" = some (.type "int"):=by decide +kernel
theorem cw:bootBuiltins "list" = some (.type "list"):=by decide +kernel
theorem ao{X:Cx}(i:Nat){x:Str}{e:Expr}{te:TE}{pos pos':Pos}(hN:X.N.Nodup)(he:PE X e te)(hi:X.N[i]? = some x:=by rfl)(hx:aJ X.env.scope x:=by first | exact vLl (by decide +kernel) | exact Or.inl rfl)(hs:swapsWith e (some (.Name x pos')) pos.line X.env=pure false:=by rfl)
  (hf:X.fn x=true∨X.env.scope.names.lookup x=some .local:=by first | exact .inl rfl | exact .inr rfl | assumption):PS X (.Assign [.Name x pos'] e pos) (kN te (hX i)):=xH hN hi hx he hs hf
theorem aW{X:Cx}(i:Nat){x:Str}{pos:Pos}(hN:X.N.Nodup)(hi:X.N[i]? = some x:=by rfl)(hx:aJ X.env.scope x:=by first | exact vLl (by decide +kernel) | exact Or.inl rfl)
  (hf:X.fn x=true∨X.env.scope.names.lookup x=some .local:=by first | exact .inl rfl | exact .inr rfl | assumption):PG X (.Name x pos) (hX i):=uW hN hi hx hf
structure CompSc (fsc:Scope) (N N0 T:List Str) (scope:Scope):Prop where
 kind:scope.kind = .function
 nocell:∀ y∈scope.names,y.2 ≠ .cell
 names:∀ y∈scope.names,y.2 = .local→scope.names.lookup y.1=some .local
 free:∀ y∈scope.names,y.2 = .free→fsc.names.lookup y.1=some .cell∨fsc.names.lookup y.1=some .free
 apart:∀ y∈scope.names,y.2 = .local→y.1∉N0
 len0:N0.length=N.length
 same:((N0.zip N).all fun p=>p.1 == p.2 || !(scope.names.any fun y=>y.1 == p.1))=true
theorem CompSc.to{X:Cx}{fsc:Scope}{N N0 T:List Str}{scope:Scope}(S:CompSc fsc N N0 T scope)(h1:X.env.scope=fsc)(h2:X.N=N):gh X N0 T scope:=by
 subst h1 h2;refine⟨S.kind,S.nocell,S.names,S.free,S.apart,S.len0,fun i x k e m=>?_⟩
 have hl:=S.len0;have hi:i<N0.length:=(List.getElem?_eq_some_iff.mp e).1
 have hN:X.N[i]? = some X.N[i]:=List.getElem?_eq_getElem (by omega)
 have hz:(x,X.N[i])∈N0.zip X.N:=List.mem_of_getElem? (i:=i) (by rw[List.getElem?_zip_eq_some]; exact⟨e,hN⟩)
 have q:=List.all_eq_true.mp S.same _ hz;simp only[Bool.or_eq_true,beq_iff_eq,Bool.not_eq_true']at q
 rcases q with q | q
 ·rw[hN,← q]
 ·have:(scope.names.any fun y=>y.1 == x)=true:=List.any_eq_true.mpr ⟨_,m,by simp⟩
  rw[this]at q; cases q
def gq:R2:=yp
def nV:R2:=yM
theorem bH{X:Cx}:OpR X (compareOp .Eq) gq:=yc
theorem gN{X:Cx}:OpR X (compareOp .NotEq) nV:=xY
section
variable{K:PySem.W.Frag}{H:Hp}{Q:VK}
theorem d6(i j:Int):gq (.int i) (.int j) H Q=Q (.bl (decide (i=j))) H:=by
 have e:decide (V.int i=V.int j)=decide (i=j):=by by_cases h:i=j <;> simp[h]
 show (lF (.int i) (.int j)=true∧Q (.bl (decide (V.int i=V.int j))) H)=_
 rw[e]; exact propext ⟨fun h=>h.2,fun h=>⟨rfl,h⟩⟩
theorem ei(i j:Int):nV (.int i) (.int j) H Q=Q (.bl (!decide (i=j))) H:=by
 have e:decide (V.int i=V.int j)=decide (i=j):=by by_cases h:i=j <;> simp[h]
 show (lF (.int i) (.int j)=true∧Q (.bl (!decide (V.int i=V.int j))) H)=_
 rw[e]; exact propext ⟨fun h=>h.2,fun h=>⟨rfl,h⟩⟩
theorem d8(i j:Str):nV (.str i) (.str j) H Q=Q (.bl (!decide (i=j))) H:=by
 have e:decide (V.str i=V.str j)=decide (i=j):=by by_cases h:i=j <;> simp[h]
 show (lF (.str i) (.str j)=true∧Q (.bl (!decide (V.str i=V.str j))) H)=_
 rw[e]; exact propext ⟨fun h=>h.2,fun h=>⟨rfl,h⟩⟩
end
theorem jo{X:Cx}:PSet X oH:=sN
section
variable{X:Cx}(K:PySem.W.Frag)
theorem pA(hK:X.K=K:=by rfl):OpR X (compareOp .In) (nU K):=hK ▸ vW
theorem qI(hK:X.K=K:=by rfl):OpR X (compareOp .NotIn) (iG K):=hK ▸ qy
theorem bm(hK:X.K=K:=by rfl):CallR X (.builtin "len") (kI K):=hK ▸ qi
theorem az(hK:X.K=K:=by rfl):IxR X (kU K):=hK ▸ ze
theorem kM(hK:X.K=K:=by rfl):SlR X (qQ K):=hK ▸ ur
theorem cq{tg l:Expr}{tl:TE}(hl:PE X l tl)(hK:X.K=K:=by rfl):PI X tg l (n8 K tl):=hK ▸ uC hl
theorem gz{es:List Expr}{k n:Nat}{t:iR}{pos:Pos}(h:PGs X es t)(hn:(assignEach es X.env).length=n:=by rfl)(hst:(assignEach es X.env).findIdx? (·.1)=none:=by rfl)(hK:X.K=K:=by rfl)(hc:X.calm=true:=by rfl):PG X (.Tuple es k pos) (rF K n t):=hK ▸ w9 hc h hn hst
theorem cQ{o e:Expr}{es:List Expr}{to:TE}{t:TA}{name:Str}{apos cpos:Pos}{T id:String}{r:V→List V→Hp→VK→Prop}(pa:PlainAttrs T)(slot:Slot T name id)(hty:typeOf (.builtin id)=pure (.type "method_descriptor")) (hm:MtR X id r) (ho:PE X o to) (ha:PA X (e::es) t)
  (hbase:attributeBase o name X.env (eval o X.env)=eval o X.env:=by rfl)
  (hfew:((backTo cpos (starEach (e::es) X.env)).all (fun x=>!x.1)&&(backToKw cpos (keywordEach [] X.env)).all (fun x=>x.1.isSome)&&decide ((e::es).length+([]:List Keyword).length+(if ([]:List Keyword).isEmpty then 0 else 1)<30))=true:=by rfl)
  (hline:(apos.endLine == cpos.line)=true:=by rfl) (hs:starEach (e::es) X.env=(false,eval e X.env)::starEach es X.env:=by rfl) (hplain:(backTo cpos (starEach es X.env)).any (·.1)=false:=by rfl) (hK:X.K=K:=by rfl) :
  PE X (.Call (.Attribute o name apos) (e::es) [] cpos) (wH K T r to t):=hK ▸ x3 pa slot hty hm ho ha hbase hfew hline hs hplain
theorem oB(hK:X.K=K:=by rfl):CallR X (.type "list") (fun xs H Q=>∃ p ys,xs=[.ref p]∧(SqL K H p ys∨SqT K H p ys)∧∀ l,H l=none→Q (.ref l) (upd H l (.lst ys))):=hK ▸ mf
end
theorem gL(n:Int)(P:Int→Prop):(∃ j,[V.int n]=[V.int j]∧P j)=P n:=propext ⟨fun ⟨_,e,h⟩=>by cases e; exact h,fun h=>⟨n,rfl,h⟩⟩
theorem gv(n m:Int)(P:Int→Int→Prop):(∃ i j,[V.int n,V.int m]=[V.int i,V.int j]∧P i j)=P n m:=propext ⟨fun ⟨_,_,e,h⟩=>by cases e; exact h,fun h=>⟨n,m,rfl,h⟩⟩
theorem fM(x:V)(xs:List V)(P:V→List V→Prop):(∃ v r,x::xs=v::r∧P v r)=P x xs:=propext ⟨fun ⟨_,_,e,h⟩=>by cases e; exact h,fun h=>⟨x,xs,rfl,h⟩⟩
def aV(scope fsc:Scope):Scope:={ scope with names:=scope.names.map fun (n,k)=>if (k == .free&&fsc.kind == .function&&fsc.names.lookup n == some .cell) then (n,.cell) else (n,k) }
section
variable{X:Cx}{N0 T:List Str}{scope:Scope}{C:Addr}{fp:List Addr}{s:Shared}{H:Hp}{x:Str}
theorem v8(fsc:Scope)(h:(aV scope fsc).names.lookup x=some .globalImplicit)(e:X.env.scope=fsc:=by rfl):Gl (bp X N0 T scope C fp s H) x:=by subst e; exact h
theorem cO(fsc:Scope)(h:((aV scope fsc).names.lookup x=some .local||(aV scope fsc).names.lookup x=some .cell||(aV scope fsc).names.lookup x=some .free)=true)(e:X.env.scope=fsc:=by rfl):aq (bp X N0 T scope C fp s H).env.scope x:=by
 subst e;simp only[Bool.or_eq_true,decide_eq_true_eq]at h
 rcases h with (h | h) | h
 ·exact .inl h
 ·exact .inr (.inl h)
 ·exact .inr (.inr h)
theorem jB(fsc:Scope)(h:(aV scope fsc).names.lookup x=some .local)(e:X.env.scope=fsc:=by rfl):aJ (bp X N0 T scope C fp s H).env.scope x:=by subst e; exact .inl h
theorem nr(fsc:Scope)(h:(aV scope fsc).names.lookup x=some .local)(e:X.env.scope=fsc:=by rfl):(bp X N0 T scope C fp s H).fn x=true∨(bp X N0 T scope C fp s H).env.scope.names.lookup x=some .local:=by subst e; exact .inr h
end
theorem bV{X:Cx}:MtR X "list.append" jy:=ir
theorem PW.pt'{X:Cx}{e:Expr}{t:TT}(h:PW X e t):PT X e t:=h.pt
theorem eM{t u:TS}{D:cB}{σ : St}{H:Hp}(I:St→Hp→Prop)(h:∀ k:St→Hp→Prop,(∀ σ' H',I σ' H'→k σ' H')→t { D with nx:=k } σ H)(hu:∀ σ' H',I σ' H'→nG u D σ' H'):nG (sO t u) D σ H:=h _ hu
theorem eB{σ : St}{H:Hp}{Q:VK}(trs:List (TE × TE)):t8 trs σ H Q=∀ p,H p=none→fQ trs σ (upd H p (.dK [])) fun ps H2=>H2 p=some (.dK [])∧∃ kvs:List (aU × V),ps=kvs.map (fun kv=>(kV kv.1,kv.2))∧kvs.length≤15∧Q (.ref p) (upd H2 p (.dK (eJ [] kvs))):=rfl
theorem cF{σ : St}{H:Hp}{Q:List (V × V)→Hp→Prop}:fQ [] σ H Q=Q [] H:=rfl
theorem cy{σ : St}{H:Hp}{Q:List (V × V)→Hp→Prop}(tk tv:TE)(r:List (TE × TE)):fQ ((tk,tv)::r) σ H Q=tk σ H fun x H1=>tv σ H1 fun y H2=>fQ r σ H2 fun ps H3=>Q ((x,y)::ps) H3:=rfl
theorem Same.upd{H H':Hp}{p:Addr}(sm:Same H H')(h:H p=none)(o:HO):Same H (upd H' p o):=fun b u q=>by rw[al (aE q h)]; exact sm b u q
theorem ah{H:Hp}{p:Addr}(h:H p=none)(o:HO):Same H (upd H p o):=fun b u q=>by rw[al (aE q h)]; exact q
end L2
namespace L2
open PySem PySem.Spec PyProof.Rows PySem.SeqAt
def EqN(K:PySem.W.Frag)(H:Hp):Nat→V→V→Bool→Prop
 | 0,x,y,b=>bf x=true∧bf y=true∧b=eI x y
 | n+1,x,y,b=>(bf x=true∧bf y=true∧b=eI x y)∨∃ a c xs ys,x = .ref a∧y = .ref c∧((SqL K H a xs∧SqL K H c ys)∨(SqT K H a xs∧SqT K H c ys))∧
   ((∃ e:Nat→Bool,xs.length=ys.length∧(∀ (i:Nat) x y,xs[i]? = some x→ys[i]? = some y→EqN K H n x y (e i))∧b=(List.range xs.length).all e)∨
    (SqL K H a xs∧SqL K H c ys∧xs.length≠ys.length∧b=false))
theorem iW:∀ {x:V},bf x=true→eI x x=true
 | .non,_=>rfl
 | .bl b,_=>by simp[eI]
 | .int i,_=>by simp[eI]
 | .str y,_=>by simp[eI]
section
variable{X:Cx}{pins:List (Addr × Obj)}{σ : St}{H:Hp}{s:Shared}
theorem EqN.self(I:Inv X pins σ H s):∀ {n:Nat} {x:V} {b:Bool},EqN X.K H n x x b→b=true
 | 0,x,b,h=>by obtain⟨h1,_,rfl⟩:=h; exact iW h1
 | n+1,x,b,h=>by
  rcases h with ⟨h1,_,rfl⟩ | ⟨a,c,xs,ys,rfl,e,hq,h⟩
  ·exact iW h1
  ·cases e
   have exy:xs=ys:=by
    rcases hq with ⟨q1,q2⟩ | ⟨q1,q2⟩
    ·exact I.list_inj q1 q2
    ·exact I.tuple_inj q1 q2
   subst exy;rcases h with ⟨e,_,he,rfl⟩ | ⟨_,_,z,_⟩
   ·rw[List.all_eq_true]
    intro i hi
    have hi':=List.mem_range.mp hi;have q:=he i xs[i] xs[i] (List.getElem?_eq_getElem hi') (List.getElem?_eq_getElem hi');exact EqN.self I q
   ·exact absurd rfl z
theorem EqN.rc(I:Inv X pins σ H s){n:Nat}(ih:∀ {A:Around} {x y:V} {b:Bool} {u v:Value},A.units+n<cLine→EqN X.K H n x y b→RelV x u→RelV y v→EqAt A s u v b)
  {A:Around} {a c:Addr} {xs ys:List V} {b:Bool} (hu:A.units+(n+1)<cLine) (hq:(SqL X.K H a xs∧SqL X.K H c ys)∨(SqT X.K H a xs∧SqT X.K H c ys))
  (h:(∃ e:Nat→Bool,xs.length=ys.length∧(∀ (i:Nat) x y,xs[i]? = some x→ys[i]? = some y→EqN X.K H n x y (e i))∧b=(List.range xs.length).all e)∨(SqL X.K H a xs∧SqL X.K H c ys∧xs.length≠ys.length∧b=false)) :
  RcAt A s (.ref a) (.ref c) b∧RcNeAt A s (.ref a) (.ref c) (!b):=by
 have hin:A.in1.units+n<cLine:=by
  have:A.in1.units=A.units+1:=rfl
  omega
 rcases h with ⟨e,hl,he,rfl⟩ | ⟨q1,q2,hl,rfl⟩
 ·rcases hq with ⟨q1,q2⟩ | ⟨q1,q2⟩
  ·obtain⟨i1,r1,p1,z1⟩:=I.list q1
   obtain⟨i2,r2,p2,z2⟩:=I.list q2
   have l1:=r1.length;have l2:=r2.length
   have hit:∀ j (h1:j<i1.toArray.size) (h2:j<i2.toArray.size),EqAt A.in1 s i1.toArray[j] i2.toArray[j] (e j):=fun j h1 h2=>by
    obtain⟨x,hx,rx⟩:=r1.of (i:=j) (u:=i1.toArray[j]) (by simp at h1 ⊢)
    obtain⟨y,hy,ry⟩:=r2.of (i:=j) (u:=i2.toArray[j]) (by simp at h2 ⊢)
    exact ih hin (he j x y hx hy) rx ry
   have ez:xs.length=i1.toArray.size:=by simp; omega
   rw[ez];exact⟨RcAt.lists p1.isList p2.isList (by simp; omega) (by omega) hit,RcNeAt.lists p1.isList p2.isList (by simp; omega) (by omega) hit⟩
  ·obtain⟨i1,r1,p1,z1⟩:=I.tuple q1
   obtain⟨i2,r2,p2,z2⟩:=I.tuple q2
   have l1:=r1.length;have l2:=r2.length
   have hit:∀ j (h1:j<i1.toArray.size) (h2:j<i2.toArray.size),EqAt A.in1 s i1.toArray[j] i2.toArray[j] (e j):=fun j h1 h2=>by
    obtain⟨x,hx,rx⟩:=r1.of (i:=j) (u:=i1.toArray[j]) (by simp at h1 ⊢)
    obtain⟨y,hy,ry⟩:=r2.of (i:=j) (u:=i2.toArray[j]) (by simp at h2 ⊢)
    exact ih hin (he j x y hx hy) rx ry
   have ez:(List.range xs.length).all e=((List.range (min i1.toArray.size i2.toArray.size)).all e&&i1.toArray.size == i2.toArray.size):=by
    have e1:i1.toArray.size=xs.length:=by simp; omega
    have e2:i2.toArray.size=xs.length:=by simp; omega
    rw[e1,e2,Nat.min_self]; simp
   rw[ez];exact⟨RcAt.tuples (show s.heap.IsTuple a i1.toArray from p1) (show s.heap.IsTuple c i2.toArray from p2) (by omega) hit,RcNeAt.tuples (show s.heap.IsTuple a i1.toArray from p1) (show s.heap.IsTuple c i2.toArray from p2) (by omega) hit⟩
 ·obtain⟨i1,r1,p1,z1⟩:=I.list q1
  obtain⟨i2,r2,p2,z2⟩:=I.list q2
  have l1:=r1.length;have l2:=r2.length
  have hne:(i1.toArray.size != i2.toArray.size)=true:=by
   rw[bne_iff_ne]; simp; omega
  exact⟨RcAt.lists_lengths p1.isList p2.isList hne (by omega),RcNeAt.lists_lengths p1.isList p2.isList hne (by omega)⟩
theorem EqN.at(I:Inv X pins σ H s):∀ {n:Nat} {A:Around} {x y:V} {b:Bool} {u v:Value},A.units+n<cLine→EqN X.K H n x y b→RelV x u→RelV y v→EqAt A s u v b
 | 0,A,x,y,b,u,v,_,h,rx,ry=>by obtain⟨h1,h2,rfl⟩:=h; exact gS rx ry h1 h2
 | n+1,A,x,y,b,u,v,hu,h,rx,ry=>by
  have h0:=h;rcases h with ⟨h1,h2,rfl⟩ | ⟨a,c,xs,ys,rfl,rfl,hq,h⟩
  ·exact gS rx ry h1 h2
  ·cases rx
   cases ry
   by_cases hac:a=c
   ·subst hac
    rw[EqN.self I h0];exact EqAt.same _
   ·exact EqAt.of_refs hac (EqN.rc I (fun hu' q rx ry=>EqN.at I hu' q rx ry) hu hq h).1
end
section
variable{X:Cx}
def sQ(K:PySem.W.Frag):R2:=fun x y H Q=>∃ (a c:Addr) (n:Nat) (b:Bool),x = .ref a∧y = .ref c∧n≤100∧EqN K H (n+1) x y b∧Q (.bl b) H
def oG(K:PySem.W.Frag):R2:=fun x y H Q=>∃ (a c:Addr) (n:Nat) (b:Bool),x = .ref a∧y = .ref c∧n≤100∧EqN K H (n+1) x y b∧Q (.bl (!b)) H
theorem xE(hu:X.A.units+101<cLine):OpR X (compareOp .Eq) (sQ X.K):=by
 intro pins s σ H x y v u Q I rx ry h
 obtain⟨a,c,n,b,rfl,rfl,hn,he,q⟩:=h
 cases rx
 cases ry;rcases he with ⟨h1,_⟩ | ⟨a',c',xs,ys,e1,e2,hq,h⟩
 ·cases h1
 ·cases e1
  cases e2;exact(EqN.rc I (fun hu' q rx ry=>EqN.at I hu' q rx ry) (by omega) hq h).1 _ _ _ _ ⟨.bl b,H,I,rfl,q⟩
theorem xr(hu:X.A.units+101<cLine):OpR X (compareOp .NotEq) (oG X.K):=by
 intro pins s σ H x y v u Q I rx ry h
 obtain⟨a,c,n,b,rfl,rfl,hn,he,q⟩:=h
 cases rx
 cases ry;rcases he with ⟨h1,_⟩ | ⟨a',c',xs,ys,e1,e2,hq,h⟩
 ·cases h1
 ·cases e1
  cases e2;exact(EqN.rc I (fun hu' q rx ry=>EqN.at I hu' q rx ry) (by omega) hq h).2 _ _ _ _ ⟨.bl (!b),H,I,rfl,q⟩
theorem uR(K:PySem.W.Frag){k:Nat}(hr:Room k X.A)(hK:X.K=K:=by rfl):OpR X (compareOp .Eq) (sQ K):=by subst hK; exact xE (by have:=hr.un; omega)
theorem jz(K:PySem.W.Frag){k:Nat}(hr:Room k X.A)(hK:X.K=K:=by rfl):OpR X (compareOp .NotEq) (oG K):=by subst hK; exact xr (by have:=hr.un; omega)
end
section
variable{K:PySem.W.Frag}{H:Hp}{Q:VK}
theorem fE(a c:Addr):sQ K (.ref a) (.ref c) H Q=∃ (n:Nat) (b:Bool),n≤100∧EqN K H (n+1) (.ref a) (.ref c) b∧Q (.bl b) H:=
 propext ⟨fun ⟨_,_,n,b,e1,e2,q⟩=>⟨n,b,q⟩,fun ⟨n,b,q⟩=>⟨a,c,n,b,rfl,rfl,q⟩⟩
theorem fK(a c:Addr):oG K (.ref a) (.ref c) H Q=∃ (n:Nat) (b:Bool),n≤100∧EqN K H (n+1) (.ref a) (.ref c) b∧Q (.bl (!b)) H:=
 propext ⟨fun ⟨_,_,n,b,e1,e2,q⟩=>⟨n,b,q⟩,fun ⟨n,b,q⟩=>⟨a,c,n,b,rfl,rfl,q⟩⟩
theorem EqN.flat{n:Nat}{x y:V}(hx:bf x=true)(hy:bf y=true):EqN K H n x y (eI x y):=by
 cases n with
 | zero=>exact⟨hx,hy,rfl⟩
 | succ n=>exact .inl ⟨hx,hy,rfl⟩
theorem EqN.refl{n:Nat}{x:V}(hx:bf x=true):EqN K H n x x true:=by
 have q:EqN K H n x x (eI x x):=EqN.flat hx hx
 rwa [iW hx]at q
theorem EqN.seq{n:Nat}{a c:Addr}{xs ys:List V}(hq:(SqL K H a xs∧SqL K H c ys)∨(SqT K H a xs∧SqT K H c ys))(hl:xs.length=ys.length)(he:∀ (i:Nat) x y,xs[i]? = some x→ys[i]? = some y→EqN K H n x y true):EqN K H (n+1) (.ref a) (.ref c) true:=
 .inr ⟨a,c,xs,ys,rfl,rfl,hq,.inl ⟨fun _=>true,hl,he,by simp⟩⟩
theorem EqN.seqFlat{n:Nat}{a c:Addr}{xs:List V}(hq:(SqL K H a xs∧SqL K H c xs)∨(SqT K H a xs∧SqT K H c xs))(hf:∀ x∈xs,bf x=true):EqN K H (n+1) (.ref a) (.ref c) true:=
 EqN.seq hq rfl fun i x y e1 e2=>by
  rw[e1]at e2; cases e2
  exact EqN.refl (hf x (List.mem_of_getElem? e1))
theorem EqN.strs{n:Nat}{a c:Addr}{ss ts:List Str}(h1:SqL K H a (ss.map V.str))(h2:SqL K H c (ts.map V.str)):EqN K H (n+1) (.ref a) (.ref c) (decide (ss=ts)):=by
 refine .inr ⟨a,c,_,_,rfl,rfl,.inl ⟨h1,h2⟩,?_⟩
 by_cases hl:ss.length=ts.length
 ·refine .inl ⟨fun i=>ss.getD i default == ts.getD i default,by simp[hl],fun i x y e1 e2=>?_,?_⟩
  ·rw[List.getElem?_map]at e1 e2
   cases q1:ss[i]? with
   | none=>rw[q1]at e1; cases e1
   | some u=>
    cases q2:ts[i]? with
    | none=>rw[q2]at e2; cases e2
    | some v=>
     rw[q1]at e1; rw[q2]at e2
     cases e1; cases e2
     dsimp only
     rw[List.getD_eq_getElem?_getD,List.getD_eq_getElem?_getD,q1,q2];exact EqN.flat rfl rfl
  ·rw[List.length_map]
   by_cases e:ss=ts
   ·subst e
    rw[decide_eq_true rfl]
    symm
    rw[List.all_eq_true];intro i _
    simp
   ·rw[decide_eq_false e]
    symm
    rw[List.all_eq_false]
    have:∃ i:Nat,ss[i]? ≠ ts[i]?:=by
     refine Classical.byContradiction fun hn=>e (List.ext_getElem? fun i=>?_)
     exact Classical.byContradiction fun h=>hn ⟨i,h⟩
    obtain⟨i,hi⟩:=this
    have hlt:i<ss.length:=by
     refine Classical.byContradiction fun hn=>hi ?_
     rw[List.getElem?_eq_none (by omega),List.getElem?_eq_none (by omega)]
    refine⟨i,List.mem_range.mpr hlt,?_⟩
    rw[List.getD_eq_getElem?_getD,List.getD_eq_getElem?_getD,List.getElem?_eq_getElem hlt,List.getElem?_eq_getElem (by omega)]
    rw[List.getElem?_eq_getElem hlt,List.getElem?_eq_getElem (by omega)]at hi
    simpa using hi
 ·have e:ss≠ts:=fun e=>hl (by rw[e])
  rw[decide_eq_false e];exact .inr ⟨h1,h2,by simpa using hl,rfl⟩
end
theorem qE{y:Str}:∀ {l:List Str} {j:Nat},j<l.idxOf y→∀ (h:j<l.length),l[j]≠y
 | n::r,0,h,_=>by
  intro e
  have e':n=y:=e
  subst e';simp at h
 | n::r,j+1,h,h2=>by
  by_cases e:n=y
  ·subst e; simp at h
  ·rw[List.idxOf_cons]at h
   have hb:(n == y)=false:=beq_eq_false_iff_ne.mpr e
   rw[hb]at h
   have h':j+1<r.idxOf y+1:=h
   have q:=qE (y:=y) (l:=r) (j:=j) (by omega) (by simpa using h2)
   simpa using q
section
variable{X:Cx}
def qJ(K:PySem.W.Frag):List V→Hp→VK→Prop:=fun xs H Q=>∃ (p:Addr) (ss:List Str),xs=[.ref p]∧SqL K H p (ss.map V.str)∧ss.length<64∧∀ (l:Addr) (ts:List Str),H l=none→ts.Perm ss→sortedS ts=true→Q (.ref l) (upd H l (.lst (ts.map V.str)))
theorem de{K:PySem.W.Frag}{H:Hp}{Q:VK}(p:Addr):qJ K [.ref p] H Q=∃ ss:List Str,SqL K H p (ss.map V.str)∧ss.length<64∧∀ (l:Addr) (ts:List Str),H l=none→ts.Perm ss→sortedS ts=true→Q (.ref l) (upd H l (.lst (ts.map V.str))):=
 propext ⟨fun ⟨_,ss,e,q⟩=>by cases e; exact⟨ss,q⟩,fun ⟨ss,q⟩=>⟨p,ss,rfl,q⟩⟩
theorem jw(K:PySem.W.Frag)(hK:X.K=K:=by rfl):CallR X (.builtin "sorted") (qJ K):=by
 subst hK;intro pins s σ H xs us Q I r h
 obtain⟨p,ss,rfl,hq,h64,q⟩:=h
 obtain⟨u,rfl,ru⟩:=b0 r
 cases ru;obtain⟨its,rv,pl,hz⟩:=I.list hq
 have hlen:its.length=ss.length:=by rw[← rv.length,List.length_map]
 refine sorted_strs pl.isList (gb rv) (by omega) fun out ts h1 h2 h3=>?_
 obtain⟨e,he⟩:=sortedAll_at s.heap its out
 have hl:ts.length=ss.length:=h2.length_eq
 have hs:sizeLine=16777216:=sizeLine_eq
 exact⟨.ref (s.heap.objs.size+1),_,I.laid (t':=s.toks) (fun b o e=>sortedAll_old e) (Nat.le_succ _) (show ObjOk X.prog X.w _ _ _ (.lst (ts.map V.str)) from ⟨by rw[List.length_map]; omega,out.toList,e,gg h1,by simpa using he⟩),rfl,
  q _ ts (I.hok.fresh (Nat.le_succ _)) h2 h3⟩
def m5(K:PySem.W.Frag):V→List V→Hp→VK→Prop:=fun x vs H Q=>∃ (p:Addr) (ss:List Str) (y:Str),x = .ref p∧vs=[.str y]∧SqL K H p (ss.map V.str)∧y∈ss∧Q (.int (ss.idxOf y:Nat)) H
theorem cM{K:PySem.W.Frag}{H:Hp}{Q:VK}(p:Addr)(y:Str):m5 K (.ref p) [.str y] H Q=∃ ss:List Str,SqL K H p (ss.map V.str)∧y∈ss∧Q (.int (ss.idxOf y:Nat)) H:=
 propext ⟨fun ⟨_,ss,_,e1,e2,q⟩=>by cases e1; cases e2; exact⟨ss,q⟩,fun ⟨ss,q⟩=>⟨p,ss,y,rfl,rfl,q⟩⟩
theorem pj(K:PySem.W.Frag)(hK:X.K=K:=by rfl):MtR X "list.index" (m5 K):=by
 subst hK;intro pins s σ H x xs v us Q I rx r h
 obtain⟨p,ss,y,rfl,rfl,hq,hy,q⟩:=h
 cases rx;obtain⟨u,rfl,ru⟩:=b0 r
 obtain⟨t,rfl⟩:=ru
 obtain⟨its,rv,pl,hz⟩:=I.list hq
 have hlen:its.length=ss.length:=by rw[← rv.length,List.length_map]
 rw[List.length_map]at hz
 have hs:sizeLine=16777216:=sizeLine_eq
 obtain⟨⟨cls,dd,data,sl⟩,ho,hc,n,hd⟩:=pl.isList
 simp only at hc hd
 subst hc hd;have hj:ss.idxOf y<ss.length:=List.idxOf_lt_length_iff.mpr hy
 have rel:∀ (i:Nat) (h:i<its.length),∃ t',its[i] = .str ss[i] t':=fun i h=>by
  obtain⟨x,hx,rx⟩:=rv.of (i:=i) (u:=its[i]) (List.getElem?_eq_getElem h)
  rw[List.getElem?_map,List.getElem?_eq_getElem (by omega)]at hx
  have hx':V.str ss[i]=x:=Option.some.inj hx
  subst hx';exact rx
 refine call_meets PySem.F.slot_list_index ⟨_,ho,rfl⟩ PySem.F.entry_list_index (PySem.F.args_list_index_2 _ _)
  (list_indexAt p its.toArray n dd sl (.str y t) (dw (.str y)) (ss.idxOf y) (by simpa [hlen] using hj) (by omega) ?_ ?_) ⟨ho,fun z hz=>?_,⟨.int _,H,I.tok _,⟨_,rfl⟩,q⟩⟩
 ·show dw (.str y) its[ss.idxOf y]=true
  obtain⟨t',e⟩:=rel (ss.idxOf y) (by omega)
  rw[e];show (ss[ss.idxOf y] == y)=true
  rw[List.getElem_idxOf hj]; simp
 ·intro j hjs hlt
  have hj':j<its.length:=by simpa using hjs
  show dw (.str y) its[j]=false
  obtain⟨t',e⟩:=rel j hj'
  rw[e];show (ss[j] == y)=false
  exact beq_eq_false_iff_ne.mpr (qE hlt _)
 ·have hz':z∈its:=by simpa using hz
  obtain⟨i,hi,rfl⟩:=List.mem_iff_getElem.mp hz'
  obtain⟨t',e⟩:=rel i hi
  have q':=gS (A:=X.A.in1) (s:=s) (y:=.str ss[i]) (x:=.str y) (u:=its[i]) (v:=.str y t) ⟨t',e⟩ ⟨t,rfl⟩ rfl rfl;rw[e]; rw[e]at q'
  exact q'
end
section
variable{X:Cx}
def vX:R2:=fun x y H Q=>y = .non∧Q (.bl (decide (x = .non))) H
def tz:R2:=fun x y H Q=>y = .non∧Q (.bl (!decide (x = .non))) H
theorem cK:OpR X (compareOp .Is) vX:=wg
theorem b7:OpR X (compareOp .IsNot) tz:=ux
def tQ:List V→Hp→VK→Prop:=fun xs H Q=>∃ i,xs=[.int i]∧i.natAbs.log2<1920∧Q (.str (toString i)) H
theorem iu:CallR X (.type "str") tQ:=la
def tw:List V→Hp→VK→Prop:=fun xs H Q=>(∃ i,xs=[.int i]∧Q (.int i) H)∨∃ k,xs=[.bl k]∧Q (.int (if k then 1 else 0)) H
theorem p7:CallR X (.type "int") tw:=pU
def mJ(K:PySem.W.Frag):List V→Hp→VK→Prop:=fun xs H Q=>∃ p ys,xs=[.ref p]∧(SqL K H p ys∨SqT K H p ys)∧∀ l,H l=none→Q (.ref l) (upd H l (.lst ys))
theorem eV(K:PySem.W.Frag)(hK:X.K=K:=by rfl):CallR X (.type "list") (mJ K):=oB K hK
def t9:List V→Hp→VK→Prop:=fun xs H Q=>∃ i j,xs=[.int i,.int j]∧Q (.int (if j<i then j else i)) H
theorem pW(hc:X.calm=true:=by rfl):CallR X (.builtin "min") t9:=o_ hc
def nX:R2:=fun x y H Q=>match x,y with
 | .int i,.int j=>CMul i j∧Q (.int (i * j)) H
 | .str z,.int n=>0≤n∧n≤4096∧z.length≤4096∧Q (.str (Txt.mul z n)) H
 | _,_=>False
theorem cG:OpR X (binaryOp .Mult) nX:=by
 intro pins s σ H x y v u Q I rx ry h
 match x,y,h with
 | .int i,.int j,h=>exact wk pins s σ H _ _ v u Q I rx ry ⟨_,_,rfl,rfl,h⟩
 | .str z,.int n,h=>
  obtain⟨t,rfl⟩:=rx
  obtain⟨t',rfl⟩:=ry
  obtain⟨h0,h1,h2,q⟩:=h
  exact SB.mul (mulOk_of 4096 4096 h2 (by omega) (by omega) (by decide) (by decide)) fun t' k=>⟨.str (Txt.mul z n),H,I.tok k,⟨t',rfl⟩,q⟩
end
section
variable{K:PySem.W.Frag}{H:Hp}{Q:VK}
theorem ft(x:V):vX x .non H Q=Q (.bl (decide (x = .non))) H:=propext ⟨fun h=>h.2,fun h=>⟨rfl,h⟩⟩
theorem d7(x:V):tz x .non H Q=Q (.bl (!decide (x = .non))) H:=propext ⟨fun h=>h.2,fun h=>⟨rfl,h⟩⟩
theorem dF(i:Int):tQ [.int i] H Q=(i.natAbs.log2<1920∧Q (.str (toString i)) H):=propext ⟨fun ⟨_,e,q⟩=>by cases e; exact q,fun q=>⟨i,rfl,q⟩⟩
theorem d9(k:Bool):tw [.bl k] H Q=Q (.int (if k then 1 else 0)) H:=propext ⟨fun h=>by rcases h with ⟨_,e,q⟩ | ⟨_,e,q⟩ <;> cases e; exact q,fun q=>.inr ⟨k,rfl,q⟩⟩
theorem cI(p:Addr):mJ K [.ref p] H Q=∃ ys,(SqL K H p ys∨SqT K H p ys)∧∀ l,H l=none→Q (.ref l) (upd H l (.lst ys)):=propext ⟨fun ⟨_,ys,e,q⟩=>by cases e; exact⟨ys,q⟩,fun ⟨ys,q⟩=>⟨p,ys,rfl,q⟩⟩
theorem dH(i j:Int):t9 [.int i,.int j] H Q=Q (.int (if j<i then j else i)) H:=propext ⟨fun ⟨_,_,e,q⟩=>by cases e; exact q,fun q=>⟨i,j,rfl,q⟩⟩
theorem dg(i j:Int):nX (.int i) (.int j) H Q=(CMul i j∧Q (.int (i * j)) H):=rfl
theorem dh(z:Str)(n:Int):nX (.str z) (.int n) H Q=(0≤n∧n≤4096∧z.length≤4096∧Q (.str (Txt.mul z n)) H):=rfl
theorem fu(a:Addr)(lo hi:Option Int):qQ K (.ref a) lo hi H Q=∃ xs,SqL K H a xs∧∀ p,H p=none→Q (.ref p) (upd H p (.lst (g8 xs lo hi))):=propext ⟨fun ⟨_,xs,e,q⟩=>by cases e; exact⟨xs,q⟩,fun ⟨xs,q⟩=>⟨a,xs,rfl,q⟩⟩
end
theorem bT{n:Nat}(h:n≤1000000):n<sizeLine:=by
 have:sizeLine=16777216:=sizeLine_eq
 omega
theorem bg{n:Nat}(h:n≤1000000):n≤sizeLine:=Nat.le_of_lt (bT h)
theorem qo{α : Type}{f:α→V}{xs:List α}{i:Int}{x:α}(h0:0≤i)(h:xs[i.toNat]? = some x):ck (xs.map f) i=some (f x):=by
 have q:(xs.map f)[i.toNat]? = some (f x):=by rw[List.getElem?_map,h]; rfl
 have q':=aB q
 rwa [show ((i.toNat:Nat):Int)=i by omega]at q'
theorem xM{α : Type}{xs:List α}{i:Int}(h0:0≤i)(h:i<xs.length):∃ x,xs[i.toNat]? = some x∧ck xs i=some x:=by
 have hk:i.toNat<xs.length:=by omega
 refine⟨xs[i.toNat],List.getElem?_eq_getElem hk,?_⟩
 have q:=aB (List.getElem?_eq_getElem hk)
 rwa [show ((i.toNat:Nat):Int)=i by omega]at q
theorem uY{H H':Hp}{p:Addr}{o:HO}(h:upd H p o=H')(hp:H p=none):Same H H':=h ▸ ah hp o
theorem x6{H H':Hp}{p:Addr}{o:HO}(h:upd H p o=H'):H' p=some o:=h ▸ ae
end L2
namespace L2
open PySem PySem.Spec PyProof.Rows
theorem Inv.turnedL{X:Cx}{pins:List (Addr × Obj)}{σ : St}{H:Hp}{s:Shared}{h':Heap}{t':Nat}{ch:List Addr}(I:Inv X pins σ H s)(k:∀ b o,b∉ch→s.heap.get? b=some o→h'.get? b=some o)
  (hf:∀ b∈ch,eQ X pins H b):Inv X pins σ H { s with heap:=h',toks:=t' }:=by
 have nit:∀ b u,H b=some u→b∉ch:=fun b u e z=>by rw[(hf b z).1]at e; cases e
 refine I.step (g':=s.gens) (d':=s.drawn) (ch:=ch) (fun b hb=>?_) (fun b o _ _ hc e _=>k b o hc e) (fun b o _ _ hc e _=>⟨o.slots,k b o hc e⟩) (fun _ _ _ _ n=>n)
  (fun b o hc e=>⟨o,k b o hc e⟩) (fun _ _ e=>e) (fun _ _ _ e=>e) (fun b ps e=>⟨#[],by rw[e]; simp⟩) (fun m hm=>?_) (fun b u e=>?_) I.bare
 ·obtain⟨_,f1,_,f3,f4,f5⟩:=hf b hb
  exact⟨f3,f1,f4,f5⟩
 ·obtain⟨o,es,ep,ho,r⟩:=hm
  exact⟨o,es,ep,k _ o (fun z=>(hf _ z).2.1 rfl) ho,r⟩
 ·refine(I.hok b u e).stay (fun c v hc q=>k c v ?_ q) (fun _ q=>q) fun _ _ q=>q
  rcases hc with z | z
  ·rw[z]; exact nit b u e
  ·exact nit c _ z
theorem Inv.turnedLaid{X:Cx}{pins:List (Addr × Obj)}{σ : St}{H:Hp}{s:Shared}{h':Heap}{t':Nat}{ch:List Addr}{a:Addr}{o:HO}(I:Inv X pins σ H s)(k:∀ b o,b∉ch→s.heap.get? b=some o→h'.get? b=some o)
  (hf:∀ b∈ch,eQ X pins H b) (hp:s.heap.objs.size≤a) (new:ObjOk X.prog X.w (upd H a o) h' a o):Inv X pins σ (upd H a o) { s with heap:=h',toks:=t' }:=by
 have hn:H a=none:=I.hok.fresh hp
 have nit:∀ b u,H b=some u→b∉ch:=fun b u e z=>by rw[(hf b z).1]at e; cases e
 refine I.step (g':=s.gens) (d':=s.drawn) (ch:=ch) (fun b hb=>?_) (fun b o _ _ hc e _=>k b o hc e) (fun b o _ _ hc e _=>⟨o.slots,k b o hc e⟩) (fun b u _ q n=>?_)
  (fun b o hc e=>⟨o,k b o hc e⟩) (fun b xs q=>?_) (fun b u xs q=>?_) (fun b ps q=>⟨#[],?_⟩) (fun m hm=>?_) (fun b u e=>?_) I.bare
 ·obtain⟨_,f1,_,f3,f4,f5⟩:=hf b hb
  exact⟨f3,f1,f4,f5⟩
 ·rw[al (Nat.ne_of_lt (Nat.lt_of_lt_of_le (Heap.lt_size q) hp))]; exact n
 ·rw[al (aE q hn)]; exact q
 ·rw[al (aE q hn)]; exact q
 ·rw[al (aE q hn),q]; simp
 ·obtain⟨o,es,ep,ho,r⟩:=hm
  exact⟨o,es,ep,k _ o (fun z=>(hf _ z).2.1 rfl) ho,r⟩
 ·by_cases hb:b=a
  ·subst hb; rw[ae]at e; cases e; exact new
  ·rw[al hb]at e
   refine(I.hok b u e).stay (fun c v hc q=>k c v ?_ q) (fun c q=>by rw[al (aE q hn)]; exact q) fun c xs q=>by rw[al (aE q hn)]; exact q
   rcases hc with z | z
   ·rw[z]; exact nit b u e
   ·exact nit c _ z
def uj(K:PySem.W.Frag)(a b:Addr):It:=
  ⟨fun i H=>∃ xs ys x y,SqL K H a xs∧SqL K H b ys∧xs[i]? = some x∧ys[i]? = some y,
   fun i H v H'=>∃ t x y,H t=none∧v = .ref t∧H'=upd H t (.tup [x,y])∧(∀ xs,SqL K H a xs→xs[i]? = some x)∧∀ ys,SqL K H b ys→ys[i]? = some y,
   fun i H=>∃ xs ys,SqL K H a xs∧SqL K H b ys∧(xs.length≤i∨ys.length≤i)⟩
structure lW (z TI TO i1 i2:Addr):Prop where
 TIz:TI≠z
 TOz:TO≠z
 i1z:i1≠z
 i2z:i2≠z
 TITO:TI≠TO
 TIi1:TI≠i1
 TIi2:TI≠i2
 TOi1:TO≠i1
 TOi2:TO≠i2
 i12:i1≠i2
theorem dc{h:Heap}{l c:Addr}{xs:Array Value}{o:Obj}(hl:h.IsList l xs)(e:h.get? c=some o)(hc:o.cls ≠ .type "list"):l≠c:=by
 rintro rfl
 obtain⟨o',e',c',_⟩:=hl
 rw[e]at e'; cases e'
 exact hc c'
def yN(z TI TO i1 i2 l1 l2:Addr)(i:Nat)(h:Heap):Prop:=
 IsZip h z TI TO .none∧IsPair h TI (.ref i1) (.ref i2)∧(∃ a b,IsPair h TO a b)∧h.IsListIter i1 l1 i∧h.IsListIter i2 l2 i
theorem oR{h:Heap}{z TI TO i1 i2 l1 l2:Addr}{i:Nat}{xs ys:Array Value}(D:lW z TI TO i1 i2)(st:yN z TI TO i1 i2 l1 l2 i h)(h1:h.IsList l1 xs)(h2:h.IsList l2 ys):ZipApart z TI TO i1 i2 l1 l2:=by
 obtain⟨s1,s2,⟨a,b,s3⟩,⟨o4,s4,c4,_⟩,⟨o5,s5,c5,_⟩⟩:=st
 have n4:o4.cls ≠ .type "list" := by rw[c4]; decide
 have n5:o5.cls ≠ .type "list" := by rw[c5]; decide
 have nz:Value.type "zip" ≠ Value.type "list" := by decide
 have nt:Value.type "tuple" ≠ Value.type "list" := by decide
 exact⟨D.TIz,D.TOz,D.i1z,D.i2z,D.TITO,D.TIi1,D.TIi2,D.TOi1,D.TOi2,D.i12,dc h1 s1 nz,dc h1 s3 nt,dc h1 s4 n4,dc h1 s5 n5,dc h2 s1 nz,dc h2 s3 nt,dc h2 s4 n4,dc h2 s5 n5⟩
theorem sD{P:Program}{w:World}{K:PySem.W.Frag}{elts:List Expr}{k:Nat}{pos:Pos}{z TI TO i1 i2 l1 l2:Addr}(D:lW z TI TO i1 i2):iy P w K (.Tuple elts k pos) (uj K l1 l2) [z,TI,TO,i1,i2] z (yN z TI TO i1 i2 l1 l2) where
 mem:=by simp
 obj:=fun i h st b hb=>by
  obtain⟨s1,s2,⟨_,_,s3⟩,⟨o4,s4,c4,d4⟩,⟨o5,s5,c5,d5⟩⟩:=st
  simp only[List.mem_cons,List.mem_nil_iff,or_false]at hb
  rcases hb with rfl | rfl | rfl | rfl | rfl
  ·exact⟨_,s1,fun v e=>by cases e⟩
  ·exact⟨_,s2,fun v e=>by cases e⟩
  ·exact⟨_,s3,fun v e=>by cases e⟩
  ·exact⟨_,s4,fun v e=>by rw[d4]at e; cases e⟩
  ·exact⟨_,s5,fun v e=>by rw[d5]at e; cases e⟩
 keep:=fun i h h' st kk=>by
  obtain⟨s1,s2,⟨a,b,s3⟩,s4,s5⟩:=st
  exact⟨kk z (by simp) _ s1,kk TI (by simp) _ s2,⟨a,b,kk TO (by simp) _ s3⟩,s4.at fun o e=>kk i1 (by simp) o e,s5.at fun o e=>kk i2 (by simp) o e⟩
 item:=by
  intro X hP hw hK hc i pins s σ H E I hf st hg
  subst hP hw hK;obtain⟨xs,ys,x,y,q1,q2,hx,hy⟩:=hg
  obtain⟨is1,rv1,p1,_⟩:=I.list q1
  obtain⟨is2,rv2,p2,_⟩:=I.list q2
  obtain⟨u1,hu1,ru1⟩:=rv1.get hx
  obtain⟨u2,hu2,ru2⟩:=rv2.get hy
  have D':=oR D st p1.isList p2.isList;obtain⟨s1,s2,⟨a,b,s3⟩,s4,s5⟩:=st
  refine wpAny_pyNext_zip_item D' s1 s2 s3 s4 s5 p1.isList p2.isList (x:=u1) (y:=u2) (by simpa using hu1) (by simpa using hu2) fun h' a1 a2 a3 a4 a5 a6 kk=>?_
  refine⟨_,rfl,wpAny_letOwnedTupleGo_zip a1 fun h'' hz' hs'=>?_⟩
  have lt:∀ {c o},s.heap.get? c=some o→s.heap.objs.size≠c:=fun e=>Nat.ne_of_gt (Heap.lt_size e)
  have zne:s.heap.objs.size≠z:=lt s1
  have keep2:∀ b o,b∉[z,TI,TO,i1,i2]→s.heap.get? b=some o→h''.get? b=some o:=fun b o hb e=>by
   simp only[List.mem_cons,List.mem_nil_iff,or_false,not_or]at hb
   exact hs'.extBut _ _ hb.1 (kk b o hb.1 hb.2.2.1 hb.2.2.2.1 hb.2.2.2.2 e)
  have hsz:H s.heap.objs.size=none:=I.hok.fresh (Nat.le_refl _)
  have tupN:IsPair h'' s.heap.objs.size u1 u2:=hs'.extBut _ _ zne a5
  have nlt:∀ c∈[z,TI,TO,i1,i2],c≠s.heap.objs.size:=fun c hc'=>by
   obtain⟨o4,e4,_⟩:=id s4
   obtain⟨o5,e5,_⟩:=id s5
   simp only[List.mem_cons,List.mem_nil_iff,or_false]at hc'
   rcases hc' with rfl | rfl | rfl | rfl | rfl
   ·exact(lt s1).symm
   ·exact(lt s2).symm
   ·exact(lt s3).symm
   ·exact(lt e4).symm
   ·exact(lt e5).symm
  refine⟨.ref s.heap.objs.size,upd H s.heap.objs.size (.tup [x,y]),I.turnedLaid (t':=s.toks) keep2 hf (Nat.le_refl _) ⟨bg (by show 2≤1000000; decide),[u1,u2],.cons ru1 (.cons ru2 .nil),⟨_,tupN,rfl,rfl,0,rfl⟩⟩,rfl,⟨_,x,y,hsz,rfl,rfl,fun xs' q'=>?_,fun ys' q'=>?_⟩,
   ⟨hz',hs'.extBut _ _ D.TIz (kk _ _ D.TIz D.TITO D.TIi1 D.TIi2 s2),⟨_,_,hs'.extBut _ _ D.TOz a2⟩,a3.extBut hs'.extBut D.i1z,a4.extBut hs'.extBut D.i2z⟩,fun c hc'=>?_⟩
  ·rw[I.list_inj q' q1]; exact hx
  ·rw[I.list_inj q' q2]; exact hy
  ·rw[al (nlt c hc')]; exact(hf c hc').1
 done:=by
  intro X hP hw hK hc i pins s σ H E I hf st hg
  subst hP hw hK;obtain⟨xs,ys,q1,q2,hlen⟩:=hg
  obtain⟨is1,rv1,p1,_⟩:=I.list q1
  obtain⟨is2,rv2,p2,_⟩:=I.list q2
  have l1:=rv1.length;have l2:=rv2.length;have D':=oR D st p1.isList p2.isList;obtain⟨s1,s2,⟨a,b,s3⟩,s4,s5⟩:=st
  refine wpAny_pyNext_zip_end (I.ok.hd hc) D' s1 s2 s3 s4 s5 p1.isList p2.isList ?_ fun h' kk=>⟨rfl,I.turnedL (t':=s.toks) (fun b o hb e=>?_) hf⟩
  ·rcases hlen with z | z
   ·exact .inl (by simp; omega)
   ·exact .inr (by simp; omega)
  ·simp only[List.mem_cons,List.mem_nil_iff,or_false,not_or]at hb
   exact kk b o hb.1 hb.2.2.1 hb.2.2.2.1 hb.2.2.2.2 e
 self:=fun A i s Q E st h=>wpAny_pyIter_zip st.1 h
theorem yU(n:Nat):lW (n+4) (n+2) (n+3) n (n+1):=⟨(show (@Ne Nat (n+2) (n+4):Prop) by omega),(show (@Ne Nat (n+3) (n+4):Prop) by omega),(show (@Ne Nat (n) (n+4):Prop) by omega),(show (@Ne Nat (n+1) (n+4):Prop) by omega),(show (@Ne Nat (n+2) (n+3):Prop) by omega),(show (@Ne Nat (n+2) (n):Prop) by omega),(show (@Ne Nat (n+2) (n+1):Prop) by omega),(show (@Ne Nat (n+3) (n):Prop) by omega),(show (@Ne Nat (n+3) (n+1):Prop) by omega),(show (@Ne Nat (n) (n+1):Prop) by omega)⟩
theorem kR:bootBuiltins "zip" = some (.type "zip"):=by decide +kernel
def sK(K:PySem.W.Frag)(ta:TA):TI:=fun σ H R=>ta σ H fun vs H1=>∃ a b:Addr,vs=[.ref a,.ref b]∧(∃ xs,SqL K H1 a xs)∧(∃ ys,SqL K H1 b ys)∧R (uj K a b) H1
theorem fj(K:PySem.W.Frag)(ta:TA){σ : St}{H:Hp}{R:It→Hp→Prop}:sK K ta σ H R=ta σ H fun vs H1=>∃ a b:Addr,vs=[.ref a,.ref b]∧(∃ xs,SqL K H1 a xs)∧(∃ ys,SqL K H1 b ys)∧R (uj K a b) H1:=rfl
theorem eC(n m:Addr)(P:Addr→Addr→Prop):(∃ i j,[V.ref n,V.ref m]=[V.ref i,V.ref j]∧P i j)=P n m:=propext ⟨fun ⟨_,_,e,h⟩=>by cases e; exact h,fun h=>⟨n,m,rfl,h⟩⟩
theorem v4{X:Cx}{elts:List Expr}{k:Nat}{tpos:Pos}{a b:Expr}{ta:TA}{p pos:Pos}(hg:Gl X "zip") (hm:X.mg "zip" = none) (ha:PA X [a,b] ta) (hs:starEach [a,b] X.env=[(false,eval a X.env),(false,eval b X.env)]:=by rfl) (hs2:starEach [b] X.env=[(false,eval b X.env)]:=by rfl) :
  PI X (.Tuple elts k tpos) (.Call (.Name "zip" p) [a,b] [] pos) (sK X.K ta):=by
 intro pins s σ H R I h
 refine Call_ (cr I hg hm kR (PyProof.Rows.callWith_type1 (aL (ha pos pins s σ H _ I h) fun us s1 ⟨vs,H1,I1,r1,q1⟩=>?_) (by rw[hs,hs2]) (by rw[hs2]; rfl)))
 obtain⟨l1,l2,e,⟨xs,h1⟩,⟨ys,h2⟩,q⟩:=q1
 subst e;obtain⟨u1,u2,rfl,r1,r2⟩:=jm r1
 cases r1
 cases r2;obtain⟨is1,_,p1,_⟩:=I1.list h1
 obtain⟨is2,_,p2,_⟩:=I1.list h2
 refine call_zip_2 p1.isList p2.isList fun h' a1 a2 a3 a4 a5 a6 kk=>?_
 refine wpAny_pyIter_zip a1 ⟨_,[s1.heap.objs.size+4,s1.heap.objs.size+2,s1.heap.objs.size+3,s1.heap.objs.size,s1.heap.objs.size+1],_,_,H1,rfl,I1.kept (t':=s1.toks) kk,
  sD (z:=s1.heap.objs.size+4) (TI:=s1.heap.objs.size+2) (TO:=s1.heap.objs.size+3) (i1:=s1.heap.objs.size) (i2:=s1.heap.objs.size+1) (yU _),⟨a1,a2,⟨_,_,a3⟩,a4,a5⟩,fun b hb=>?_,q⟩
 have hb':s1.heap.objs.size≤b:=by
  simp only[List.mem_cons,List.mem_nil_iff,or_false]at hb
  rcases hb with rfl | rfl | rfl | rfl | rfl <;> first | exact Nat.le_refl _ | exact Nat.le_add_right _ _
 exact I1.fpOk hb' (I1.hok.fresh hb')
theorem m3(K:PySem.W.Frag){X:Cx}{elts:List Expr}{k:Nat}{tpos:Pos}{a b:Expr}{ta:TA}{p pos:Pos}(hg:Gl X "zip") (hm:X.mg "zip" = none) (ha:PA X [a,b] ta) (hs:starEach [a,b] X.env=[(false,eval a X.env),(false,eval b X.env)]:=by rfl) (hs2:starEach [b] X.env=[(false,eval b X.env)]:=by rfl) (hK:X.K=K:=by rfl) :
  PI X (.Tuple elts k tpos) (.Call (.Name "zip" p) [a,b] [] pos) (sK K ta):=hK ▸ v4 hg hm ha hs hs2
section
variable{X:Cx}
end
section
variable{σ : St}{H:Hp}{Q:VK}
end
end L2
namespace L2
open PySem PySem.Spec PyProof.Rows
def uh(K:PySem.W.Frag)(a:Addr):It:=
  ⟨fun i H=>∃ xs x,SqL K H a xs∧xs[i]? = some x,
   fun i H v H'=>∃ t x,H t=none∧v = .ref t∧H'=upd H t (.tup [.int i,x])∧∀ xs,SqL K H a xs→xs[i]? = some x,
   fun i H=>∃ xs,SqL K H a xs∧xs.length≤i⟩
def Bj(e it l:Addr)(i:Nat)(h:Heap):Prop:=(∃ old,IsEnum h e it i old)∧h.IsListIter it l i
theorem pI{P:Program}{w:World}{K:PySem.W.Frag}{elts:List Expr}{k:Nat}{pos:Pos}{e it l:Addr}(hei:e≠it):iy P w K (.Tuple elts k pos) (uh K l) [e,it] e (Bj e it l) where
 mem:=by simp
 obj:=fun i h st b hb=>by
  obtain⟨⟨old,s1⟩,⟨o4,s4,c4,d4⟩⟩:=st
  simp only[List.mem_cons,List.mem_nil_iff,or_false]at hb
  rcases hb with rfl | rfl
  ·exact⟨_,s1,fun v e=>by cases e⟩
  ·exact⟨_,s4,fun v e=>by rw[d4]at e; cases e⟩
 keep:=fun i h h' st kk=>by
  obtain⟨⟨old,s1⟩,s4⟩:=st
  exact⟨⟨old,kk e (by simp) _ s1⟩,s4.at fun o z=>kk it (by simp) o z⟩
 item:=by
  intro X hP hw hK hc i pins s σ H E I hf st hg
  subst hP hw hK;obtain⟨xs,x,q1,hx⟩:=hg
  obtain⟨is1,rv1,p1,_⟩:=I.list q1
  obtain⟨u1,hu1,ru1⟩:=rv1.get hx
  obtain⟨⟨old,s1⟩,s4⟩:=st
  refine wpAny_pyNext_enum_item s1 s4 p1.isList (x:=u1) (by simpa using hu1) hei fun h' a1 a3 a5 a6 kk=>?_
  refine⟨_,rfl,wpAny_letOwnedTupleGo_enum a1 fun h'' hz' hs'=>?_⟩
  have lt:∀ {c o},s.heap.get? c=some o→s.heap.objs.size≠c:=fun z=>Nat.ne_of_gt (Heap.lt_size z)
  have zne:s.heap.objs.size≠e:=lt s1
  have keep2:∀ b o,b∉[e,it]→s.heap.get? b=some o→h''.get? b=some o:=fun b o hb z=>by
   simp only[List.mem_cons,List.mem_nil_iff,or_false,not_or]at hb
   exact hs'.extBut _ _ hb.1 (kk b o hb.1 hb.2 z)
  have hsz:H s.heap.objs.size=none:=I.hok.fresh (Nat.le_refl _)
  have tupN:=hs'.extBut _ _ zne a5
  have nlt:∀ c∈[e,it],c≠s.heap.objs.size:=fun c hc'=>by
   obtain⟨o4,e4,_⟩:=id s4
   simp only[List.mem_cons,List.mem_nil_iff,or_false]at hc'
   rcases hc' with rfl | rfl
   ·exact(lt s1).symm
   ·exact(lt e4).symm
  refine⟨.ref s.heap.objs.size,upd H s.heap.objs.size (.tup [.int i,x]),I.turnedLaid (t':=s.toks+1) keep2 hf (Nat.le_refl _) ⟨bg (by show 2≤1000000; decide),[.int i s.toks,u1],.cons ⟨_,rfl⟩ (.cons ru1 .nil),⟨_,tupN,rfl,rfl,0,rfl⟩⟩,rfl,⟨_,x,hsz,rfl,rfl,fun xs' q'=>?_⟩,
   ⟨⟨_,by simpa using hz'⟩,a3.extBut hs'.extBut hei.symm⟩,fun c hc'=>?_⟩
  ·rw[I.list_inj q' q1]; exact hx
  ·rw[al (nlt c hc')]; exact(hf c hc').1
 done:=by
  intro X hP hw hK hc i pins s σ H E I hf st hg
  subst hP hw hK;obtain⟨xs,q1,hlen⟩:=hg
  obtain⟨is1,rv1,p1,_⟩:=I.list q1
  have l1:=rv1.length;obtain⟨⟨old,s1⟩,s4⟩:=st
  refine wpAny_pyNext_enum_end (I.ok.hd hc) s1 s4 p1.isList (by simp; omega) fun h' kk=>⟨rfl,I.turnedL (t':=s.toks) (fun b o hb z=>?_) hf⟩
  simp only[List.mem_cons,List.mem_nil_iff,or_false,not_or]at hb
  exact kk b o hb.2 z
 self:=fun A i s Q E st h=>by
  obtain⟨⟨old,s1⟩,_⟩:=st
  exact wpAny_pyIter_enum s1 h
theorem jG:bootBuiltins "enumerate" = some (.type "enumerate"):=by decide +kernel
def uf(K:PySem.W.Frag)(ta:TA):TI:=fun σ H R=>ta σ H fun vs H1=>∃ a:Addr,vs=[.ref a]∧(∃ xs,H1 a=some (.lst xs))∧R (uh K a) H1
theorem ee(K:PySem.W.Frag)(ta:TA){σ : St}{H:Hp}{R:It→Hp→Prop}:uf K ta σ H R=ta σ H fun vs H1=>∃ a:Addr,vs=[.ref a]∧(∃ xs,H1 a=some (.lst xs))∧R (uh K a) H1:=rfl
theorem fe(n:Addr)(P:Addr→Prop):(∃ i,[V.ref n]=[V.ref i]∧P i)=P n:=propext ⟨fun ⟨_,e,h⟩=>by cases e; exact h,fun h=>⟨n,rfl,h⟩⟩
theorem lm(K:PySem.W.Frag){X:Cx}{elts:List Expr}{k:Nat}{tpos:Pos}{a:Expr}{ta:TA}{p pos:Pos}(hg:Gl X "enumerate") (hm:X.mg "enumerate" = none) (ha:PA X [a] ta) (hs:starEach [a] X.env=[(false,eval a X.env)]:=by rfl) (hK:X.K=K:=by rfl) :
  PI X (.Tuple elts k tpos) (.Call (.Name "enumerate" p) [a] [] pos) (uf K ta):=by
 subst hK;intro pins s σ H R I h
 refine Call_ (cr I hg hm jG (PyProof.Rows.callWith_type1 (aL (ha pos pins s σ H _ I h) fun us s1 ⟨vs,H1,I1,r1,q1⟩=>?_) hs rfl))
 obtain⟨l,e,⟨xs,h1⟩,q⟩:=q1
 subst e;obtain⟨u1,rfl,r1'⟩:=b0 r1
 obtain rfl:u1=Value.ref l:=r1'
 obtain⟨hz,its,n,rv,hl⟩ : xs.length≤sizeLine∧∃ (its:List Value) (n:Nat),Vals xs its∧s1.heap.get? l=some { cls:=.type "list", data:=.seq its.toArray n }:=I1.hok l _ h1
 refine call_enumerate_1 hl fun h' a1 a4 a6 kk=>?_
 refine wpAny_pyIter_enum a1 ⟨_,[s1.heap.objs.size+1,s1.heap.objs.size],_,_,H1,rfl,I1.kept (t':=s1.toks) kk,
  pI (e:=s1.heap.objs.size+1) (it:=s1.heap.objs.size) (Nat.ne_of_gt (Nat.lt_succ_self _)),⟨⟨_,a1⟩,a4⟩,fun b hb=>?_,q⟩
 have hb':s1.heap.objs.size≤b:=by
  simp only[List.mem_cons,List.mem_nil_iff,or_false]at hb
  rcases hb with rfl | rfl <;> first | exact Nat.le_refl _ | exact Nat.le_add_right _ _
 exact I1.fpOk hb' (I1.hok.fresh hb')
section
variable{K:PySem.W.Frag}{a b:Addr}{xs ys:List V}{g:TG}{te:TE}{nT:Nat}{σ : St}{D:Addr}{Q:VK}{H:Hp}
theorem ka{tb:TS}{D:cB}(Pv:Nat→St→Hp→Prop)(h0:Pv 0 σ H)(hl:∀ i σ H,i≤xs.length→Pv i σ H→SqL K H a xs)
  (hs:∀ i x t σ H,xs[i]? = some x→Pv i σ H→H t=none→g (.ref t) σ (upd H t (.tup [.int i,x])) fun σ2 H2=>tb { D with nx:=Pv (i+1),ct:=Pv (i+1),bk:=D.nx } σ2 H2) (hd:∀ σ H,Pv xs.length σ H→D.nx σ H):i4 (uh K a) g tb D σ H:=by
 refine jE xs.length Pv h0 (fun i σ H hi p=>⟨xs,xs[i],hl i σ H (Nat.le_of_lt hi) p,by simp[hi]⟩) (fun σ H p=>⟨xs,hl _ σ H (Nat.le_refl _) p,Nat.le_refl _⟩) (fun i σ H v H' hi p yl=>?_) hd
 obtain⟨t,x,ht,rfl,rfl,y1⟩:=yl
 exact hs i x t σ H (y1 xs (hl i σ H (Nat.le_of_lt hi) p)) p ht
theorem lq{tb:TS}{D:cB}(Pv:Nat→St→Hp→Prop)(hn:xs.length=ys.length)(h0:Pv 0 σ H)(hl:∀ i σ H,i≤xs.length→Pv i σ H→SqL K H a xs∧SqL K H b ys)
  (hs:∀ i x y t σ H,xs[i]? = some x→ys[i]? = some y→Pv i σ H→H t=none→g (.ref t) σ (upd H t (.tup [x,y])) fun σ2 H2=>tb { D with nx:=Pv (i+1),ct:=Pv (i+1),bk:=D.nx } σ2 H2) (hd:∀ σ H,Pv xs.length σ H→D.nx σ H):i4 (uj K a b) g tb D σ H:=by
 refine jE xs.length Pv h0 (fun i σ H hi p=>⟨xs,ys,xs[i],ys[i],(hl i σ H (Nat.le_of_lt hi) p).1,(hl i σ H (Nat.le_of_lt hi) p).2,by simp[hi],by simp[hn ▸ hi]⟩) (fun σ H p=>⟨xs,ys,(hl _ σ H (Nat.le_refl _) p).1,(hl _ σ H (Nat.le_refl _) p).2,.inl (Nat.le_refl _)⟩) (fun i σ H v H' hi p yl=>?_) hd
 obtain⟨t,x,y,ht,rfl,rfl,y1,y2⟩:=yl
 exact hs i x y t σ H (y1 xs (hl i σ H (Nat.le_of_lt hi) p).1) (y2 ys (hl i σ H (Nat.le_of_lt hi) p).2) p ht
end
end L2
namespace L2
open PySem PySem.Spec PyProof.Rows
theorem uQ(lo hi:Option Int)(n:Nat):Builtin.Str.strSliceIndices lo hi 1 n=(List.range (HT.sIx n n hi - HT.sIx n 0 lo)).map (HT.sIx n 0 lo + ·):=by
 obtain⟨h1,h2,h3⟩:=ig lo hi n
 rw[← sliceRange_one,← h1,← h2]
 cases lo <;> cases hi <;> rfl
theorem kn(x:Str)(lo hi:Option Int):(Txt.slice x lo hi).cps.toList=(x.cps.toList.drop (HT.sIx x.length 0 lo)).take (HT.sIx x.length x.length hi - HT.sIx x.length 0 lo):=by
 have hn:x.cps.toList.length=x.length:=by simp[Str.length]
 have hb:=HT.sIx_le x.length x.length (Nat.le_refl _) hi;unfold Txt.slice;rw[uQ]
 by_cases h:((1:Int) == 1&&((List.range (HT.sIx x.length x.length hi - HT.sIx x.length 0 lo)).map (HT.sIx x.length 0 lo + ·)).length == x.length)=true
 ·rw[if_pos h]
  simp only[List.length_map,List.length_range,Bool.and_eq_true,beq_iff_eq]at h
  have h2:=h.2;rcases Nat.eq_zero_or_pos x.length with z | z
  ·have e:x.cps.toList=[]:=List.eq_nil_of_length_eq_zero (by omega)
   rw[e]; simp
  ·have a0:HT.sIx x.length 0 lo=0:=by omega
   rw[a0,List.drop_zero,List.take_of_length_le (by omega)]
 ·rw[if_neg h]
  show ((List.filterMap _ _).toArray).toList=_
  rw[pick_run]
def xK:V→Option Int→Option Int→Hp→VK→Prop:=fun x lo hi H Q=>∃ y,x = .str y∧y.length≤sizeLine∧Q (.str (Txt.slice y lo hi)) H
theorem qB{X:Cx}:SlR X xK:=by
 intro pins s σ H x v vl vu lo hi sl Q I rx hs pl pu h
 obtain⟨y,rfl,hz,q⟩:=h
 obtain⟨t,rfl⟩:=rx
 obtain⟨l,hl,el⟩ : ∃ l:Option (Int × Tok),vl=partValue l∧l.map (·.1)=lo:=by
  cases pl with
  | none=>exact⟨none,rfl,rfl⟩
  | int i t=>exact⟨some (i,t),rfl,rfl⟩
 obtain⟨u,hu,eu⟩ : ∃ l:Option (Int × Tok),vu=partValue l∧l.map (·.1)=hi:=by
  cases pu with
  | none=>exact⟨none,rfl,rfl⟩
  | int i t=>exact⟨some (i,t),rfl,rfl⟩
 subst hl hu el eu;refine⟨"str", _,PySem.F.slot_str_getitem.lookup,typeIs_str _ _ _,wpAny_getItem_str_slice (l:=l) (u:=u) (st:=none) hs rfl (post_val_or_str ⟨Nat.le_trans (Txt.slice_le y _ _) hz,fun t' k=>⟨.str _,H,I.tok k,⟨t',rfl⟩,q⟩⟩)⟩
theorem fq{H:Hp}{Q:VK}(y:Str)(lo hi:Option Int):xK (.str y) lo hi H Q=(y.length≤sizeLine∧Q (.str (Txt.slice y lo hi)) H):=propext ⟨fun ⟨_,e,h⟩=>by cases e; exact h,fun h=>⟨y,rfl,h⟩⟩
end L2
namespace L2
open PySem PySem.Spec PyProof.Rows
set_option genInjectivity false in
set_option genSizeOf false in
structure IK (prog:Program) (w:World) (κ : Type) [DecidableEq κ] where
 is:Heap→κ→Value→Prop
 hash:κ→Int
 draws:κ→Nat
 deep:Nat
 inj:∀ {h:Heap} {v:Value} {x y:κ},is h x v→is h y v→x=y
 keeps:∀ {h h':Heap} {k:κ} {v:Value} {d:Addr} {o:Obj} {es ep},is h k v→h.get? d=some o→o.data = .dict es ep→Heap.SameBut d h h'→is h' k v
 pyHash:∀ {A:Around} {E:Value→Shared→Prop} {s:Shared} {k:κ} {v:Value} {Q:Int→Shared→Prop},A.units+deep<cLine→is s.heap k v→Q (hash k) { s with toks:=s.toks+draws k }→
  wpAny (model prog w) A (PySem.pyHash v) Q E s
 eqBool:∀ {A:Around} {E:Value→Shared→Prop} {s:Shared} {x y:κ} {u v:Value} {Q:Bool→Shared→Prop},A.units+deep<cLine→is s.heap x u→is s.heap y v→Q (decide (x=y)) s→
  wpAny (model prog w) A (PySem.eqBool u v) Q E s
 quiet:∀ {A:Around} {E:Value→Shared→Prop} {s:Shared} {k:κ} {v:Value} {n:Nat} {Q:Bool→Shared→Prop},is s.heap k v→Q true s→wpAny (model prog w) A (eqIsQuiet (n+deep) v) Q E s
section
variable{prog:Program}{w:World}{κ : Type}[DecidableEq κ](K:IK prog w κ)
inductive IsItems (h:Heap):List κ→List Value→Prop
 | nil:IsItems h [] []
 | cons {k:κ} {v:Value} {ks:List κ} {vs:List Value}:K.is h k v→IsItems h ks vs→IsItems h (k::ks) (v::vs)
def eL(h:Heap)(ks:List κ)(v:Value):Prop:=∃ a o items n,v = .ref a∧h.get? a=some o∧o.cls = .type "tuple" ∧ o.data = .seq items n∧IsItems K h ks items.toList
variable{K}
theorem IsItems.inj{h:Heap}:∀ {x y:List κ} {vs:List Value},IsItems K h x vs→IsItems K h y vs→x=y
 | _,_,_,.nil,.nil=>rfl
 | _,_,_,.cons a b,.cons c d=>by rw[K.inj a c,IsItems.inj b d]
theorem IsItems.keeps{h h':Heap}{d:Addr}{o:Obj}{es ep}(ho:h.get? d=some o)(hd:o.data = .dict es ep)(hs:Heap.SameBut d h h'):∀ {x:List κ} {vs:List Value},IsItems K h x vs→IsItems K h' x vs
 | _,_,.nil=>.nil
 | _,_,.cons a b=>.cons (K.keeps a ho hd hs) (b.keeps ho hd hs)
theorem IsItems.len{h:Heap}:∀ {x:List κ} {vs:List Value},IsItems K h x vs→x.length=vs.length
 | _,_,.nil=>rfl
 | _,_,.cons _ b=>by rw[List.length_cons,List.length_cons,b.len]
def gY(K:IK prog w κ)(ks:List κ):Nat:=(ks.map K.draws).sum
def oI(K:IK prog w κ)(ks:List κ):Int:=reduceHash (Builtin.Tuple.tupleHashOf (ks.map K.hash))
theorem j8{A:Around}{E:Value→Shared→Prop}{s:Shared}{ks:List κ}{v:Value}{Q:Int→Shared→Prop}(hu:A.units+(K.deep+1)<cLine)(hk:eL K s.heap ks v)(h:Q (oI K ks) { s with toks:=s.toks+(gY K ks+1) }) :
  wpAny (model prog w) A (PySem.pyHash v) Q E s:=by
 obtain⟨a,o,items,n,rfl,ho,hc,hd,hi⟩:=hk
 have hT:s.TypeIs (.ref a) "tuple" := ⟨o,ho,hc⟩
 unfold PySem.pyHash
 first | unfold pyHashByItsType | skip
 first | refine wpAny_bind (wpAny_cRoomFor_or (.inr (by omega)) ?_) | skip
 refine wpAny_bind (wpAny_specialOf hT PySem.F.slot_tuple_hash.lookup ?_)
 rw[if_neg (by rw[beq_builtin_none]; exact Bool.false_ne_true)]
 refine wpAny_bind (wpAny_specialOf hT PySem.F.slot_tuple_hash.lookup ?_)
 show wpAny _ _ (callSpecialIfBoundUnlessNone? (.ref a) "__hash__" _ >>= _) Q E s
 refine wpAny_bind (wpAny_callSpecialIfBoundUnlessNone?_slot hT PySem.F.slot_tuple_hash (wpAny_call_entry PySem.F.slot_tuple_hash hT
  PySem.F.entry_tuple_hash ?_ (PySem.F.args_tuple_hash_1 _)))
 show wpAny _ _ (Builtin.Tuple.tupleItemsOf (.ref a) >>= _) _ _ s
 refine wpAny_bind (wpAny_tupleItemsOf ho hd (wpAny_bind ?_))
 rw[← Array.forIn_toList];refine wpAny_forIn_list _ (fun rest (b:Array Int) s'=>∃ done left,ks=done++left∧IsItems K s.heap left rest∧b.toList=done.map K.hash∧s'={ s with toks:=s.toks+gY K done }) _ ?_ ?_ _ _ ⟨[],ks,rfl,hi,rfl,rfl⟩
 ·rintro x rest b s' ⟨done,left,rfl,hl,hb,rfl⟩
  cases hl with
  | @cons k _ ks' _ h1 hl'=>
   have e:gY K (done++[k])=gY K done+K.draws k:=by simp[gY]
   refine wpAny_bind (K.pyHash (show A.in1.units+K.deep<cLine from by show A.units+1+K.deep<cLine; omega) h1 ?_)
   have fin:∃ done' left',done++k::ks'=done'++left'∧IsItems K s.heap left' rest∧(b.push (K.hash k)).toList=done'.map K.hash∧({ s with toks:=s.toks+gY K done+K.draws k }:Shared)={ s with toks:=s.toks+gY K done' }:=
    ⟨done++[k],ks',by simp,hl',by simp[hb],by rw[e,Nat.add_assoc]⟩
   first
    | exact wpAny_pure fin
    | exact wpAny_bind (wpAny_pure (wpAny_pure fin))
 ·rintro b s' ⟨done,left,rfl,hl,hb,rfl⟩
  cases hl;rw[List.append_nil]at h
  show wpAny _ _ (retInt (Builtin.Tuple.tupleHashOf b.toList)) _ _ _
  rw[hb];refine wpAny_ret_mkInt ?_
  unfold oI reduceHash at h;show wpAny _ _ (if (decide (-(2:Int) ^ 63≤Builtin.Tuple.tupleHashOf (done.map K.hash))&&decide (Builtin.Tuple.tupleHashOf (done.map K.hash)<2 ^ 63))=true then _ else _) Q E _
  by_cases hr:(decide (-(2:Int) ^ 63≤Builtin.Tuple.tupleHashOf (done.map K.hash))&&decide (Builtin.Tuple.tupleHashOf (done.map K.hash)<2 ^ 63))=true
  ·rw[if_pos hr]at h ⊢
   exact wpAny_pure (by simpa [Nat.add_assoc] using h)
  ·rw[if_neg hr]at h ⊢
   exact wpAny_bind (wpAny_rule (wpAny_pure (by simpa [Nat.add_assoc] using h)))
theorem ou{A:Around}{E:Value→Shared→Prop}{s:Shared}{x y:List κ}{a b:Addr}{P:Fin→Shared→Prop}(hu:A.units+K.deep<cLine)(hx:eL K s.heap x (.ref a))(hy:eL K s.heap y (.ref b))(h:P (.done (.ret (.bool (decide (x=y))))) s) :
  wpAny (model prog w) A (Builtin.«tuple.__eq__» ⟨[.ref a,.ref b],[]⟩) P E s:=by
 obtain⟨_,oa,xs,na,e1,hoa,ca,hda,hia⟩:=hx
 obtain⟨_,ob,ys,nb,e2,hob,cb,hdb,hib⟩:=hy
 cases e1
 cases e2;show wpAny _ _ (isInstance (.ref b) (.type "tuple") >>= _) _ _ s
 refine wpAny_bind (wpAny_isInstance ⟨ob,hob,cb⟩ isSubtype_tuple_tuple ?_)
 simp only[Bool.not_true,Bool.false_eq_true,if_false]
 refine wpAny_bind (wpAny_tupleItemsOf hoa hda (wpAny_bind (wpAny_tupleItemsOf hob hdb (wpAny_bind ?_))))
 refine wpAny_forIn_list _ (fun rest r s'=>r.1=none∧s'=s∧∃ x' y' xs' ys',rest=List.zip xs' ys'∧IsItems K s.heap x' xs'∧IsItems K s.heap y' ys'∧decide (x'=y')=decide (x=y)∧(xs'.length == ys'.length)=(xs.size == ys.size)) _ ?_ ?_ _ _
  ⟨rfl,rfl,x,y,xs.toList,ys.toList,rfl,hia,hib,rfl,by simp⟩
 ·rintro⟨u,v⟩ rest r s' ⟨hr,rfl,x',y',xs',ys',hz,hx',hy',hdec,hlen⟩
  cases hx' with
  | nil=>simp at hz
  | @cons k1 u' x'' xs'' h1 hx''=>
   cases hy' with
   | nil=>simp at hz
   | @cons k2 v' y'' ys'' h2 hy''=>
    simp only[List.zip_cons_cons,List.cons.injEq,Prod.mk.injEq]at hz
    obtain⟨⟨rfl,rfl⟩,rfl⟩:=hz
    refine wpAny_bind (K.eqBool (x:=k1) (y:=k2) hu h1 h2 ?_)
    by_cases hk:k1=k2
    ·subst hk
     rw[decide_eq_true rfl];simp only[Bool.not_true,Bool.false_eq_true,if_false]
     refine wpAny_pure ⟨rfl,rfl,x'',y'',xs'',ys'',rfl,hx'',hy'',?_,by simpa using hlen⟩
     rw[← hdec]
     by_cases hxy:x''=y'' <;> simp[hxy]
    ·rw[decide_eq_false hk]
     simp only[Bool.not_false,if_true]
     have hf:decide (x=y)=false:=by rw[← hdec]; simp[hk]
     rw[hf]at h
     exact wpAny_bind (wpAny_pure (wpAny_pure (wpAny_pure h)))
 ·rintro⟨r1,r2⟩ s' ⟨hr,rfl,x',y',xs',ys',hz,hx',hy',hdec,hlen⟩
  simp only at hr
  subst hr;refine wpAny_pure ?_
  have hfin:(xs.size == ys.size)=decide (x=y):=by
   rw[← hdec,← hlen]
   cases hx' with
   | nil=>cases hy' <;> simp
   | cons _ _=>
    cases hy' with
    | nil=>simp
    | cons _ _=>simp at hz
  show P (.done (.ret (.bool (xs.size == ys.size)))) s'
  rw[hfin]; exact h
theorem mY{A:Around}{E:Value→Shared→Prop}{s:Shared}{x y:List κ}{u v:Value}{Q:Bool→Shared→Prop}(hu:A.units+(K.deep+1)<cLine)(hx:eL K s.heap x u)(hy:eL K s.heap y v)(h:Q (decide (x=y)) s) :
  wpAny (model prog w) A (PySem.eqBool u v) Q E s:=by
 have hx0:=hx;have hy0:=hy;obtain⟨a,oa,xs,na,rfl,hoa,ca,hda,hia⟩:=hx
 obtain⟨b,ob,ys,nb,rfl,hob,cb,hdb,hib⟩:=hy
 unfold PySem.eqBool
 try with_reducible refine wpAny_holding ?_
 show wpAny _ _ (if (Value.ref a == Value.ref b)=true then _ else _) Q E s
 by_cases hab:(Value.ref a == Value.ref b)=true
 ·rw[if_pos hab]
  have e:a=b:=by have:=eq_of_beq hab; injection this
  subst e;rw[hoa]at hob
  cases hob;rw[hda]at hdb
  injection hdb with e1 _
  subst e1;rw[decide_eq_true (hia.inj hib)]at h
  exact wpAny_bind (wpAny_rule (wpAny_pure h))
 ·rw[if_neg hab]
  have ta:s.TypeIs (.ref a) "tuple" := ⟨oa,hoa,ca⟩
  have tb:s.TypeIs (.ref b) "tuple" := ⟨ob,hob,cb⟩
  refine wpAny_bind (wpAny_richCompare_same_room (op:=.Eq) ta tb PySem.F.slot_tuple_eq (wpAny_call_entry PySem.F.slot_tuple_eq ta PySem.F.entry_tuple_eq ?_ (PySem.F.args_tuple_eq_2 _ _)) (by omega))
  refine ou (K:=K) ?_ hx0 hy0 ⟨_,rfl,(fun e=>nomatch e),wpAny_truthy_bool h⟩
  show A.units+1+K.deep<cLine
  omega
theorem jd{A:Around}{E:Value→Shared→Prop}{s:Shared}{ks:List κ}{v:Value}{n:Nat}{Q:Bool→Shared→Prop}(hk:eL K s.heap ks v)(h:Q true s):wpAny (model prog w) A (eqIsQuiet (n+(K.deep+1)) v) Q E s:=by
 obtain⟨a,o,items,m,rfl,ho,hc,hd,hi⟩:=hk
 have hT:s.TypeIs (.ref a) "tuple" := ⟨o,ho,hc⟩
 rw[show n+(K.deep+1)=(n+K.deep)+1 from rfl];unfold eqIsQuiet;refine wpAny_bind (wpAny_specialOf hT PySem.F.slot_tuple_eq.lookup ?_)
 show wpAny _ _ (isInstance (.ref a) (.type "tuple") >>= _) _ _ s
 refine wpAny_bind (wpAny_isInstance hT isSubtype_tuple_tuple ?_)
 simp only[Bool.not_true,Bool.false_eq_true,if_false]
 refine wpAny_bind (wpAny_seqItems ho hd (wpAny_bind ?_))
 show wpAny _ _ (forIn items _ _) _ _ s
 rw[← Array.forIn_toList];refine wpAny_forIn_list _ (fun rest r s'=>r.1=none∧s'=s∧∃ ks',IsItems K s.heap ks' rest) _ ?_ ?_ _ _ ⟨rfl,rfl,ks,hi⟩
 ·rintro v rest r s' ⟨hr,rfl,ks',hall⟩
  cases hall with
  | cons h1 h2=>
   refine wpAny_bind (K.quiet h1 ?_)
   simp only[Bool.not_true,Bool.false_eq_true,if_false]
   exact wpAny_pure ⟨rfl,rfl,_,h2⟩
 ·rintro⟨r1,r2⟩ s' ⟨hr,rfl,_⟩
  simp only at hr
  subst hr;exact wpAny_pure h
def vR(K:IK prog w κ):IK prog w (List κ) where
 is:=eL K
 hash:=oI K
 draws:=fun ks=>gY K ks+1
 deep:=K.deep+1
 inj:=by
  rintro h v x y ⟨a,oa,xs,na,rfl,hoa,ca,hda,hia⟩ ⟨b,ob,ys,nb,e,hob,cb,hdb,hib⟩
  cases e;rw[hoa]at hob
  cases hob;rw[hda]at hdb
  injection hdb with e1 _
  subst e1;exact hia.inj hib
 keeps:=by
  rintro h h' k v d o es ep ⟨a,oa,xs,na,rfl,hoa,ca,hda,hia⟩ ho hd hs
  have hne:a≠d:=by
   rintro rfl
   rw[hoa]at ho
   cases ho;rw[hd]at hda; cases hda
  exact⟨a,oa,xs,na,rfl,(hs.2 a hne).trans hoa,ca,hda,hia.keeps ho hd hs⟩
 pyHash:=fun hu hk h=>j8 hu hk h
 eqBool:=fun hu hx hy h=>mY hu hx hy h
 quiet:=fun hk h=>jd hk h
def yb(K:IK prog w κ)(hd:K.deep≤7):HeapKind prog w (List κ) where
 is:=fun h k a=>eL K h k (.ref a)
 hash:=oI K
 draws:=fun ks=>gY K ks+1
 room:=fun A=>A.units+(K.deep+1)<cLine
 inj:=(vR K).inj
 keeps:=(vR K).keeps
 pyHash:=fun hu hk h=>j8 hu hk h
 eqBool:=fun hu hx hy h=>mY hu hx hy h
 quiet:=fun {A E s k a Q} hk h=>by
  have q:=jd (n:=7 - K.deep) (A:=A) (E:=E) hk h
  rwa [show 7 - K.deep+(K.deep+1)=8 by omega]at q
end
end L2
namespace L2
open PySem PySem.Spec PyProof.Rows
def cT:Option Int→V
 | none=>.non
 | some i=>.int i
theorem sY{x y:Option Int}{v:Value}(a:RelV (cT x) v)(b:RelV (cT y) v):x=y:=by
 have e:=a.inj b
 cases x <;> cases y <;> simp_all [cT]
theorem fY(x:Option Int):bf (cT x)=true:=by cases x <;> rfl
theorem nk(x y:Option Int):eI (cT x) (cT y)=decide (x=y):=by
 cases x with
 | none=>cases y <;> rfl
 | some i=>
  cases y with
  | none=>rfl
  | some j=>
   show (i == j)=_
   by_cases h:i=j <;> simp[h]
theorem jY{prog:Program}{w:World}{A:Around}{E:Value→Shared→Prop}{s:Shared}{Q:Int→Shared→Prop}(h:Q 0xFCA86420 { s with toks:=s.toks+1 }):wpAny (model prog w) A (PySem.pyHash .none) Q E s:=by
 have hT:s.TypeIs .none "NoneType" := rfl
 unfold PySem.pyHash
 first | unfold pyHashByItsType | skip
 refine wpAny_bind ?_
 rw[cRoomFor,if_neg (by decide)]
 refine wpAny_pure (wpAny_bind (wpAny_specialOf hT PySem.F.slot_NoneType_hash.lookup ?_))
 rw[if_neg (by rw[beq_builtin_none]; exact Bool.false_ne_true)]
 refine wpAny_bind (wpAny_specialOf hT PySem.F.slot_NoneType_hash.lookup ?_)
 show wpAny _ _ (callSpecialIfBoundUnlessNone? .none "__hash__" _ >>= _) Q E s
 refine wpAny_bind (wpAny_callSpecialIfBoundUnlessNone?_slot hT PySem.F.slot_NoneType_hash (wpAny_call_entry PySem.F.slot_NoneType_hash hT
  PySem.F.entry_NoneType_hash ?_ (PySem.F.args_NoneType_hash_1 _)))
 show wpAny _ _ (retInt 0xFCA86420) _ _ s
 refine wpAny_ret_mkInt ?_
 exact wpAny_pure h
def nS(prog:Program)(w:World):IK prog w (Option Int) where
 is:=fun _ k v=>RelV (cT k) v
 hash:=fun k=>match k with
  | none=>0xFCA86420
  | some i=>hashInt i
 draws:=fun _=>1
 deep:=0
 inj:=fun a b=>sY a b
 keeps:=fun a _ _ _=>a
 pyHash:=fun {A E s k v Q} _ hk h=>by
  cases k with
  | none=>
   obtain rfl:v=Value.none:=hk
   exact jY h
  | some i=>
   obtain⟨t,rfl⟩:=(show ∃ t,v=Value.int i t from hk)
   exact wpAny_pyHash_int h
 eqBool:=fun {A E s x y u v Q} _ hx hy h=>by
  have q:=gS (A:=A) (s:=s) hx hy (fY x) (fY y);rw[nk]at q
  exact q prog w E Q h
 quiet:=fun {A E s k v n Q} hk h=>by
  have e:carriedByValue v=true:=by
   cases k with
   | none=>obtain rfl:v=Value.none:=hk; rfl
   | some i=>obtain⟨t,rfl⟩:=(show ∃ t,v=Value.int i t from hk); rfl
  rw[eqIsQuiet_byValue _ e];exact wpAny_pure h
end L2
namespace L2
open PySem PySem.Spec PyProof.Rows
abbrev wO:=Int × List (Option Int)
section
variable{P:Program}{w:World}{H:Hp}
theorem h9{h:Heap}:∀ {l:List (Option Int)} {us:List Value},Vals (l.map cT) us→IsItems (nS P w) h l us
 | [],_,.nil=>.nil
 | x::l,_,.cons r t=>.cons r (h9 t)
end
section
variable{X:Cx}{pins:List (Addr × Obj)}{σ : St}{H:Hp}{s:Shared}{a b:Addr}{k:wO}{kvs:List (wO × V)}
theorem Paired.snoc{α β : Type}{F:α→β→Prop}{x:α}{y:β}(h:F x y):∀ {l:List α} {m:List β},Paired F l m→Paired F (l++[x]) (m++[y])
 | _,_,.nil=>.cons h .nil
 | _,_,.cons r t=>.cons r (Paired.snoc h t)
end
end L2
namespace L2
open PySem PySem.Spec PyProof.Rows PySem.SeqAt
section
variable{X:Cx}
def zB(K:PySem.W.Frag):R2:=fun x y H Q=>kU K x y H Q∨∃ a kvs k v,x = .ref a∧y=kV k∧H a=some (.dK kvs)∧aF kvs k=some v∧Q v H
theorem xu(K:PySem.W.Frag)(hK:X.K=K:=by rfl):IxR X (zB K):=by
 intro value slice pins s σ H x y v u Q I rx ry h hs
 rcases h with h | ⟨a,kvs,k,z,rfl,rfl,e,l,q⟩
 ·exact az K hK value slice pins s σ H x y v u Q I rx ry h hs
 ·cases rx
  obtain⟨_,hd,vs,rel,dd⟩:=n9 I.hok (.inl e)
  obtain⟨w',hw,rw'⟩:=RelO.some_of (v:=z) (o:=valueAt vs k) (by rw[← l]; exact rel.val k)
  have hl:typeLookup (.type "dict") "__getitem__" = pure (some (.builtin "dict.__getitem__")):=PySem.F.slot_dict_getitem.lookup
  exact subscriptTail_builtinR (x:=w') dd.typeIs hl (wpAny_getItem_of (jv ry) dd.mapOf hw ⟨rfl,z,H,I.tok _,rw',q⟩) hs
def x5:ij:=fun o i v H Q=>∃ a kvs k,o = .ref a∧i=kV k∧H a=some (.dK kvs)∧kvs.length<sizeLine∧Q (upd H a (.dK (bQ kvs k v)))
theorem t_{n:Nat}(hr:Room n X.A):PSet X x5:=by
 intro pins s σ H o i v ov iv u Q I ro ri rv h
 obtain⟨a,kvs,k,rfl,rfl,e,hl,q⟩:=h
 cases ro;exact qu (by have:=hr.un; omega) I (DPut.k e hl) ri rv fun s' I'=>⟨_,I',q⟩
end
section
variable{K:PySem.W.Frag}{H:Hp}{Q:VK}
end
section
variable{X:Cx}
end
end L2
namespace L2
open PySem PySem.Spec PyProof.Rows PySem.SeqAt
theorem uO{X:Cx}:MtR X "list.pop" rE:=xJ
section
variable{K:PySem.W.Frag}{H:Hp}{Q:VK}
theorem fL(p:Addr):rE (.ref p) [] H Q=∃ xs y,H p=some (.lst xs)∧xs[xs.length - 1]? = some y∧Q y (upd H p (.lst xs.dropLast)):=
 propext ⟨fun ⟨_,xs,y,e1,_,q⟩=>by cases e1; exact⟨xs,y,q⟩,fun ⟨xs,y,q⟩=>⟨p,xs,y,rfl,rfl,q⟩⟩
end
theorem mW{X:Cx}(K:PySem.W.Frag){o:Expr}{to:TE}{name:Str}{apos cpos:Pos}{T id:String}{r:V→List V→Hp→VK→Prop}(pa:PlainAttrs T)(slot:Slot T name id)(hty:typeOf (.builtin id)=pure (.type "method_descriptor")) (hm:MtR X id r) (ho:PE X o to)
  (hbase:attributeBase o name X.env (eval o X.env)=eval o X.env:=by rfl) (hline:(apos.endLine == cpos.line)=true:=by rfl) (hK:X.K=K:=by rfl):PE X (.Call (.Attribute o name apos) [] [] cpos) (rJ K T r to):=hK ▸ wI pa slot hty hm ho hbase hline
end L2
namespace L2
open PySem PySem.Spec PyProof.Rows PySem.SeqAt
theorem gE:∀ (xs:List V) (us:List Value),xs.length=us.length→(∀ (j:Nat) x u,xs[j]? = some x→us[j]? = some u→RelV x u)→Vals xs us
 | [],[],_,_=>.nil
 | [],u::us,hl,_=>by simp at hl
 | x::xs,[],hl,_=>by simp at hl
 | x::xs,u::us,hl,h=>.cons (h 0 x u rfl rfl) (gE xs us (by simpa using hl) fun j a b e1 e2=>h (j+1) a b e1 e2)
section
variable{X:Cx}
end
section
variable{X:Cx}
end
section
variable{prog:Program}{w:World}{K:Type}[DecidableEq K]{knd:KeyKind prog w K}{A:Around}{E:Value→Shared→Prop}{s:Shared}
end
section
variable{X:Cx}
theorem dj{α β : Type}{F:α→β→Prop}:∀ {l:List α} {m:List β} {j:Nat} {a:α} {b:β},Paired F l m→l[j]? = some a→m[j]? = some b→F a b
 | _,_,0,_,_,.cons h _,e1,e2=>by
  cases e1; cases e2; exact h
 | _,_,j+1,_,_,.cons _ t,e1,e2=>dj (j:=j) t e1 e2
 | _,_,0,_,_,.nil,e1,_=>by cases e1
 | _,_,_+1,_,_,.nil,e1,_=>by cases e1
theorem ie:bootBuiltins "set" = some (.type "set"):=by decide +kernel
theorem sW:bootBuiltins "range" = some (.type "range"):=by decide +kernel
end
end L2
namespace L2
open PySem PySem.Spec PyProof.Rows PySem.SeqAt
def dk(xs:Array Nat):Prop:=∀ (a b:Nat) (ha:a<xs.size) (hb:b<xs.size),a<b→xs[a]<xs[b]
theorem iZ{xs:Array Nat}(h:dk xs)(j:Nat):∀ (fuel lo hi:Nat),lo≤hi→hi≤xs.size→hi - lo≤fuel→(∀ k (hk:k<xs.size),k<lo→xs[k]<j)→(∀ k (hk:k<xs.size),hi≤k→j≤xs[k])→
  SetTable.below.go xs j fuel lo hi≤xs.size∧(∀ k (hk:k<xs.size),k<SetTable.below.go xs j fuel lo hi→xs[k]<j)∧(∀ k (hk:k<xs.size),SetTable.below.go xs j fuel lo hi≤k→j≤xs[k])
 | 0,lo,hi,h1,h2,h3,h4,h5=>by
  have e:lo=hi:=by omega
  subst e;exact⟨h2,h4,h5⟩
 | fuel+1,lo,hi,h1,h2,h3,h4,h5=>by
  unfold SetTable.below.go;split
  ·rename_i hlt
   have hm:(lo+hi) / 2<xs.size:=by omega
   have eg:xs.getD ((lo+hi) / 2) j=xs[(lo+hi) / 2]:=by simp[Array.getD,hm]
   dsimp only
   rw[eg];split
   ·rename_i hj
    refine iZ h j fuel _ hi (by omega) h2 (by omega) (fun k hk hkm=>?_) h5
    rcases Nat.lt_or_ge k ((lo+hi) / 2) with z | z
    ·exact Nat.lt_trans (h k _ hk hm z) hj
    ·have:k=(lo+hi) / 2:=by omega
     subst this; exact hj
   ·rename_i hj
    refine iZ h j fuel lo _ (by omega) (by omega) (by omega) h4 (fun k hk hkm=>?_)
    rcases Nat.lt_or_ge ((lo+hi) / 2) k with z | z
    ·exact Nat.le_trans (Nat.le_of_not_lt hj) (Nat.le_of_lt (h _ k hm hk z))
    ·have:k=(lo+hi) / 2:=by omega
     subst this; exact Nat.le_of_not_lt hj
  ·have e:lo=hi:=by omega
   subst e;exact⟨h2,h4,h5⟩
theorem eU{xs:Array Nat}(h:dk xs)(j:Nat):SetTable.below xs j≤xs.size∧(∀ k (hk:k<xs.size),k<SetTable.below xs j→xs[k]<j)∧(∀ k (hk:k<xs.size),SetTable.below xs j≤k→j≤xs[k]):=
 iZ h j xs.size 0 xs.size (Nat.zero_le _) (Nat.le_refl _) (by omega) (fun k _ z=>absurd z (Nat.not_lt_zero _)) (fun k hk z=>absurd hk (by omega))
theorem nQ{xs:Array Nat}(h:dk xs):SetTable.below xs 0=0:=by
 obtain⟨h1,h2,h3⟩:=eU h 0
 refine Classical.byContradiction fun hn=>?_
 exact absurd (h2 0 (by omega) (by omega)) (Nat.not_lt_zero _)
theorem oq{xs:Array Nat}(h:dk xs){i:Nat}(hi:i<xs.size):SetTable.below xs (xs[i]+1)=i+1:=by
 obtain⟨h1,h2,h3⟩:=eU h (xs[i]+1)
 rcases Nat.lt_trichotomy (SetTable.below xs (xs[i]+1)) (i+1) with z | z | z
 ·have:=h3 i hi (by omega); omega
 ·exact z
 ·have h4:=h2 (i+1) (by omega) z
  have h5:=h i (i+1) hi (by omega) (by omega)
  omega
theorem jZ{xs:Array Nat}{p x k:Nat}(hp:p≤xs.size)(hk:k<(SetTable.insertAt xs p x).size):(SetTable.insertAt xs p x)[k]=if h:k<p then xs[k]'(by omega) else if k=p then x else xs.getD (k - 1) 0:=by
 have hs:(SetTable.insertAt xs p x).size=xs.size+1:=by
  unfold SetTable.insertAt; simp; omega
 have e:(SetTable.insertAt xs p x)[k]? = some (if h:k<p then xs[k]'(by omega) else if k=p then x else xs.getD (k - 1) 0):=by
  unfold SetTable.insertAt;rw[Array.getElem?_append];simp only[Array.size_push,Array.size_extract]
  split
  ·rename_i h
   rw[Array.getElem?_push];simp only[Array.size_extract]
   by_cases hkp:k<p
   ·rw[if_neg (by omega),dif_pos hkp,Array.getElem?_extract]
    simp; omega
   ·have:k=p:=by omega
    subst this;rw[if_pos (by omega),dif_neg hkp,if_pos rfl]
  ·rename_i h
   rw[dif_neg (by omega),if_neg (by omega),Array.getElem?_extract]
   have hk':k - 1<xs.size:=by omega
   rw[if_pos (by omega),show p+(k - (min p xs.size - 0+1))=k - 1 by omega]
   simp[Array.getD,hk']
 rw[Array.getElem?_eq_getElem hk]at e
 exact Option.some.inj e
theorem kO{xs:Array Nat}(h:dk xs){j:Nat}(hj:∀ k (hk:k<xs.size),xs[k]≠j):dk (SetTable.insertAt xs (SetTable.below xs j) j):=by
 obtain⟨h1,h2,h3⟩:=eU h j
 have hs:(SetTable.insertAt xs (SetTable.below xs j) j).size=xs.size+1:=by
  unfold SetTable.insertAt; simp; omega
 generalize SetTable.below xs j=p at h1 h2 h3 hs;intro a b ha hb hab
 rw[jZ h1 ha,jZ h1 hb];have gd:∀ k,k<xs.size→∃ hk:k<xs.size,xs.getD k 0=xs[k]:=fun k hk=>⟨hk,by simp[Array.getD,hk]⟩
 by_cases a1:a<p
 ·rw[dif_pos a1]
  by_cases b1:b<p
  ·rw[dif_pos b1]; exact h a b _ _ hab
  ·rw[dif_neg b1]
   by_cases b2:b=p
   ·rw[if_pos b2]; exact h2 a (by omega) a1
   ·rw[if_neg b2]
    obtain⟨hk,e⟩:=gd (b - 1) (by omega)
    rw[e]; exact h a (b - 1) _ _ (by omega)
 ·rw[dif_neg a1,dif_neg (by omega)]
  by_cases a2:a=p
  ·rw[if_pos a2,if_neg (by omega)]
   obtain⟨hk,e⟩:=gd (b - 1) (by omega)
   rw[e];have:=h3 (b - 1) hk (by omega)
   have:=hj (b - 1) hk
   omega
  ·rw[if_neg a2,if_neg (by omega)]
   obtain⟨hk,e⟩:=gd (b - 1) (by omega)
   obtain⟨hk2,e2⟩:=gd (a - 1) (by omega)
   rw[e,e2]; exact h _ _ _ _ (by omega)
theorem ph{t:SetTable}{j:Nat}(h:dk t.place)(e:∀ i,t.slot j ≠ .live i):∀ k (hk:k<t.place.size),t.place[k]≠j:=fun k hk ek=>by
 obtain⟨h1,h2,h3⟩:=eU h j
 have hb:SetTable.below t.place j=k:=by
  rcases Nat.lt_trichotomy (SetTable.below t.place j) k with z | z | z
  ·have:=h3 (SetTable.below t.place j) (by omega) (Nat.le_refl _)
   have:=h (SetTable.below t.place j) k (by omega) hk z
   omega
  ·exact z
  ·have:=h2 k hk z; omega
 refine e k ?_
 unfold SetTable.slot;rw[hb]
 dsimp only
 rw[Array.getElem?_eq_getElem hk,ek];simp
theorem i5{t:SetTable}{hashAt:Nat→Int}{h:Int}:∀ (fuel:Nat) (p:SetTable.Probe),(∀ d,p.dummy=some d→t.slot d = .dummy)→∀ j dm,SetTable.probe.go t hashAt h fuel p=some (.empty j dm)→t.slot j = .empty∧∀ d,dm=some d→t.slot d = .dummy
 | 0,p,_,j,dm,e=>by unfold SetTable.probe.go at e; cases e
 | fuel+1,p,hp,j,dm,e=>by
  unfold SetTable.probe.go at e;have adv:∀ q:SetTable.Probe,(t.advance q).dummy=q.dummy:=fun q=>by unfold SetTable.advance; split <;> rfl
  cases hs:t.slot p.j with
  | empty=>
   rw[hs]at e
   cases e;exact⟨hs,hp⟩
  | dummy=>
   rw[hs]at e
   refine i5 fuel _ (fun d hd=>?_) j dm e
   rw[adv]at hd
   cases hd;exact hs
  | live i=>
   rw[hs]at e
   dsimp only at e
   split at e
   ·cases e
   ·exact i5 fuel _ (fun d hd=>by rw[adv]at hd; exact hp d hd) j dm e
structure aT (L:Bool) (t:SetTable):Prop where
 led:t.led=L
 rise:dk t.place
theorem mv(n:Nat):dk (Array.range n):=fun a b ha hb hab=>by simpa using hab
theorem du{L:Bool}{t:SetTable}(h:aT L t)(n:Nat):aT L (t.standIn n):=⟨h.led,mv n⟩
theorem pB{L:Bool}{t:SetTable}(h:aT L t){hh:Int}{j:Nat}{b:Bool}(e:t.freeSlot hh=some (j,b)):aT L (t.put j).1:=by
 refine⟨h.led,kO h.rise (ph h.rise ?_)⟩
 unfold SetTable.freeSlot at e;split at e
 ·rename_i j' dm hpr
  have:=i5 (t:=t) _ (t.probeStart hh) (fun d hd=>by cases hd) j' dm hpr
  cases dm with
  | none=>
   cases e;exact fun i z=>by have:=this.1; rw[show (none:Option Nat).getD j'=j' from rfl,this]at z; cases z
  | some d=>
   cases e;exact fun i z=>by have:=this.2 d rfl; rw[show (some d:Option Nat).getD j'=d from rfl,this]at z; cases z
 ·cases e
theorem iP{L:Bool}{t:SetTable}(h:aT L t)(es:Array (Int × Value))(hh:Int)(x:Value):aT L (layNew t es hh x).2.1:=by
 unfold layNew
 cases e:t.freeSlot hh with
 | none=>exact du h _
 | some q=>
  obtain⟨j,b⟩:=q
  have hg:=pB h e;show aT L ((t.put j).1.orStandIn _)
  unfold SetTable.orStandIn;split
  ·exact hg
  ·exact du hg _
theorem eR{l:List Nat}(h:l.Pairwise (· < ·)):dk l.toArray:=fun a b ha hb hab=>by
 have:=(List.pairwise_iff_getElem.mp h) a b (by simpa using ha) (by simpa using hb) hab
 simpa using this
theorem ji{L:Bool}{t:SetTable}(h:aT L t)(es:Array (Int × Value))(n:Nat):aT L (relayAll t es n).2.1:=by
 unfold relayAll;split
 ·rename_i t' order e
  dsimp only
  split
  ·unfold SetTable.relaid SetTable.laid at e
   cases ho:SetTable.layClean (SetTable.sizeAbove n - 1) (es.map (·.1)) with
   | none=>rw[ho]at e; cases e
   | some owner=>
    rw[ho]at e
    cases e;refine⟨h.led,eR ?_⟩
    refine List.pairwise_map.mpr ?_
    refine List.Pairwise.filterMap _ ?_ List.pairwise_lt_range
    intro a b hab x hx y hy
    obtain⟨k,_,rfl⟩:=Option.map_eq_some_iff.mp hx
    obtain⟨k',_,rfl⟩:=Option.map_eq_some_iff.mp hy
    exact hab
  ·exact du h _
 ·exact du h _
end L2
namespace L2
open PySem PySem.Spec PyProof.Rows PySem.SeqAt
section
variable{prog:Program}{w:World}{K:Type}[DecidableEq K]{knd:KeyKind prog w K}{A:Around}{E:Value→Shared→Prop}{s:Shared}{G:SetTable→Prop}
def Apart(knd:KeyKind prog w K)(l:List (Int × Value)):Prop:=l.Pairwise fun e e'=>∀ k,knd.is k e.2=true→knd.is k e'.2=false
theorem Apart.perm{l l':List (Int × Value)}(h:Apart knd l)(p:l'.Perm l):Apart knd l':=
 (p.pairwise_iff fun {x y} hxy k hk=>by
  cases e:knd.is k x.2 with
  | false=>rfl
  | true=>rw[hxy k e]at hk; cases hk).mpr h
theorem Apart.push{l:List (Int × Value)}{k:K}{x:Value}{hh:Int}(h:Apart knd l)(hn:∀ e∈l,knd.is k e.2=false)(hk:knd.is k x=true):Apart knd (l++[(hh,x)]):=by
 refine List.pairwise_append.mpr ⟨h,List.pairwise_singleton _ _,fun e he b hb k' hk'=>?_⟩
 rw[List.mem_singleton.mp hb];show knd.is k' x=false
 rw[KeyKind.is_eq_decide hk k'];refine decide_eq_false fun e'=>?_
 subst e';rw[hn e he]at hk'; cases hk'
structure im (knd:KeyKind prog w K) (G:SetTable→Prop) (o:Obj) (es:Array (Int × Value)) (ep:Nat) (t:SetTable) (S:K→Bool) (n:Nat):Prop where
 ex:o.ExactSet
 dat:o.data = .set es ep t
 el:ElemsOf knd es.toList
 mem:∀ k,S k=true ↔ ∃ e∈es.toList,knd.is k e.2=true
 few:es.size<scanBound
 fit:t.fits es.size=true
 num:es.size=n
 good:G t
 apart:Apart knd es.toList
def SetG(knd:KeyKind prog w K)(G:SetTable→Prop)(h:Heap)(a:Addr)(S:K→Bool)(n:Nat):Prop:=∃ o es ep t,h.get? a=some o∧im knd G o es ep t S n
theorem stored{h:Heap}{a:Addr}{o:Obj}{es:Array (Int × Value)}{ep:Nat}{t:SetTable}{S:K→Bool}{n:Nat}{es':Array (Int × Value)}{t':SetTable}{S':K→Bool}{n':Nat}(ho:h.get? a=some o)(T:im knd G o es ep t S n)
  (T':∀ o',o'.ExactSet→o'.data = .set es' (ep+1) t'→im knd G o' es' (ep+1) t' S' n'):∃ o',(h.update a (Obj.putSet es' t')).get? a=some o'∧im knd G o' es' (ep+1) t' S' n':=by
 have hp:=putSet_of es' t' T.dat;have hg:=Heap.get?_update_self (Obj.putSet es' t') ho (by rw[hp]; rfl)
 rw[hp]at hg
 exact⟨_,hg,T' _ T.ex rfl⟩
theorem kW(gr:∀ t es n,G t→G (relayAll t es n).2.1){g:Bool→Sem Unit}(hg:∀ (b:Bool) (s₁:Shared) (Q':Unit→Shared→Prop),Q' () s₁→wpAny (model prog w) A (g b) Q' E s₁)
  {a:Addr} {o:Obj} {es:Array (Int × Value)} {ep:Nat} {t:SetTable} {S:K→Bool} {n:Nat} (ho:s.heap.get? a=some o) (T:im knd G o es ep t S n)
  {es1:Array (Int × Value)} {t2:SetTable} {S':K→Bool} {n':Nat} (T1:∀ o',o'.ExactSet→o'.data = .set es1 (ep+1) t2→im knd G o' es1 (ep+1) t2 S' n') {wasDummy:Bool} {R:Option Bool→Shared→Prop}
  (h:∀ h',Heap.SameBut a s.heap h'→SetG knd G h' a S' n'→R (some true) { s with heap:=h' }) :
  wpAny (model prog w) A (do
    storeSet a es1 t2
    if (!wasDummy&&t2.tooFull)=true then do
      g (relayAll t2 es1 (SetTable.grown es1.size)).2.2
      storeSet a (relayAll t2 es1 (SetTable.grown es1.size)).1 (relayAll t2 es1 (SetTable.grown es1.size)).2.1
      pure (some true)
     else pure (some true)) R E s:=by
 obtain⟨o1,ho1,U1⟩:=stored ho T T1
 refine wpAny_bind (wpAny_storeSet_of ho T.dat ?_ (fits_of_scanBound U1.few))
 have hsb1:=Heap.SameBut.update s.heap a (Obj.putSet es1 t2);split
 ·have hp:=relayAll_perm t2 es1 (SetTable.grown es1.size)
  have hfr:=relayAll_fits t2 es1 (SetTable.grown es1.size);have hgr:=gr t2 es1 (SetTable.grown es1.size) U1.good;generalize relayAll t2 es1 (SetTable.grown es1.size)=Rl at hp hfr hgr ⊢;obtain⟨es2,t3,gave2⟩:=Rl
  dsimp only at hp hfr hgr ⊢
  have hsz:es2.size=es1.size:=by rw[← Array.length_toList,hp.length_eq,Array.length_toList]
  obtain⟨o2,ho2,U2⟩:=stored (es':=es2) (t':=t3) (S':=S') (n':=n') ho1 U1 fun o' ex da=>⟨ex,da,U1.el.perm hp,fun k'=>(U1.mem k').trans ⟨fun ⟨e,he,q⟩=>⟨e,hp.mem_iff.mpr he,q⟩,fun ⟨e,he,q⟩=>⟨e,hp.mem_iff.mp he,q⟩⟩,by rw[hsz]; exact U1.few,hfr,by rw[hsz]; exact U1.num,hgr,U1.apart.perm hp⟩
  refine wpAny_bind (hg _ _ _ ?_)
  refine wpAny_bind (wpAny_storeSet_of ho1 U1.dat ?_ (fits_of_scanBound U2.few))
  exact wpAny_pure (h _ (hsb1.trans (Heap.SameBut.update _ a _)) ⟨_,_,_,_,ho2,U2⟩)
 ·exact wpAny_pure (h _ hsb1 ⟨_,_,_,_,ho1,U1⟩)
theorem vx(gl:∀ t es h x,G t→G (layNew t es h x).2.1)(gr:∀ t es n,G t→G (relayAll t es n).2.1)(gp:∀ t:SetTable,G t→G { t with plain:=false })
  {a:Addr} {S:K→Bool} {n:Nat} {k:K} {x:Value} {Q:Bool→Shared→Prop} (hkey:knd.is k x=true) (hsc:x.scannable=true) (hS:SetG knd G s.heap a S n) (hroom:n+1<scanBound)
  (h:∀ h',Heap.SameBut a s.heap h'→SetG knd G h' a (fun k'=>S k'||decide (k'=k)) (if S k then n else n+1)→Q (!S k) { s with heap:=h' }) :
  wpAny (model prog w) A (setAddHashed a x (knd.hash k)) Q E s:=by
 obtain⟨o,es,ep,t,ho,T⟩:=hS
 have hb1:es.size+1<scanBound:=by rw[T.num]; exact hroom
 unfold setAddHashed setAddHashedIn;refine wpAny_holding (wpAny_bind (wpAny_setState_of ho T.dat T.fit ?_))
 dsimp only
 rw[byScan_of hsc T.few T.el];simp only[↓reduceIte]
 unfold setAddByScan;refine wpAny_bind ?_
 refine wpAny_bind (wpAny_rule ?_)
 refine wpAny_bind (wpAny_setScan_of hkey ho T.dat T.fit T.el ?_)
 cases hr:List.findIdx? (fun e=>knd.is k e.2) es.toList with
 | some j=>
  dsimp only
  obtain⟨hj,hpj,_⟩:=List.findIdx?_eq_some_iff_getElem.mp hr
  have hSk:S k=true:=(T.mem k).mpr ⟨es.toList[j],List.getElem_mem hj,hpj⟩
  refine wpAny_pure (wpAny_pure ?_)
  have e:s={ s with heap:=s.heap }:=by cases s; rfl
  have q:=h s.heap (Heap.SameBut.refl a s.heap) ⟨o,es,ep,t,ho,T.ex,T.dat,T.el,fun k'=>by
   rw[Bool.or_eq_true,decide_eq_true_eq,← T.mem k'];exact⟨fun hk=>hk.elim id (fun e=>e ▸ hSk),.inl⟩,T.few,T.fit,by rw[hSk]; exact T.num,T.good,T.apart⟩
  rw[hSk]at q; rw[e]; exact q
 | none=>
  dsimp only
  have hno:=List.findIdx?_eq_none_iff.mp hr
  have hSk:S k=false:=by
   cases hk:S k with
   | false=>rfl
   | true=>obtain⟨e,he,hp⟩:=(T.mem k).mp hk; rw[hno e he]at hp; cases hp
  have hgw:∀ (b:Bool) {s₁:Shared} {Q':Unit→Shared→Prop},Q' () s₁→wpAny (model prog w) A (match b with | true=>rule "set.scan.the-table-gave-way" | false=>pure ()) Q' E s₁:=fun b s₁ Q' hq=>by
   cases b <;> first | exact wpAny_pure hq | exact wpAny_rule hq
  have hperm:=layNew_perm t es (knd.hash k) x;have hfits:=layNew_fits t es (knd.hash k) x;have hgood:=gl t es (knd.hash k) x T.good;generalize layNew t es (knd.hash k) x=Ly at hperm hfits hgood ⊢;obtain⟨es1,t1,wasDummy,gave⟩:=Ly
  dsimp only at hperm hfits hgood ⊢
  rw[Array.toList_push]at hperm
  have hsz1:es1.size=n+1:=by rw[← Array.length_toList,hperm.length_eq,List.length_append,Array.length_toList,T.num]; rfl
  have mk:∀ t2:SetTable,t2.fits es1.size=true→G t2→∀ o',o'.ExactSet→o'.data = .set es1 (ep+1) t2→im knd G o' es1 (ep+1) t2 (fun k'=>S k'||decide (k'=k)) (n+1):=fun t2 hf2 g2 o' ex da=>
   ⟨ex,da,(T.el.push hkey hsc).perm hperm,mem_push_iff hkey T.mem hperm,by rw[hsz1]; exact hroom,hf2,hsz1,g2,(T.apart.push (fun e he=>by have:=hno e he; simpa using this) hkey).perm hperm⟩
  refine wpAny_bind (hgw _ ?_)
  have hend:∀ h',Heap.SameBut a s.heap h'→SetG knd G h' a (fun k'=>S k'||decide (k'=k)) (n+1)→Q true { s with heap:=h' }:=by
   intro h' hsb hS'; have:=h h' hsb; rw[hSk]at this; exact this hS'
  split
  ·refine wpAny_bind ?_
   rw[hashByValue_scannable 8 hsc];refine wpAny_pure ?_
   refine kW gr ?_ ho T (mk _ ?_ ?_) ?_
   ·intro b s₁ Q' hq; cases b <;> first | exact wpAny_pure hq | exact wpAny_rule hq
   ·split
    ·exact hfits
    ·exact SetTable.fits_plain_off hfits
   ·split
    ·exact hgood
    ·exact gp _ hgood
   ·intro h' hsb hS'; dsimp only; exact wpAny_pure (hend h' hsb hS')
  ·refine wpAny_bind (wpAny_pure ?_)
   simp only[↓reduceIte]
   refine kW gr ?_ ho T (mk _ hfits hgood) ?_
   ·intro b s₁ Q' hq; cases b <;> first | exact wpAny_pure hq | exact wpAny_rule hq
   ·intro h' hsb hS'; dsimp only; exact wpAny_pure (hend h' hsb hS')
end
end L2
namespace L2
open PySem PySem.Spec PyProof.Rows PySem.SeqAt
section
variable{prog:Program}{w:World}{A:Around}{R:Result→Shared→Prop}{I:Addr}{fp wr:List Addr}{Gm:Array GenState→Array GenState→Prop}{n:Nat}{P:Nat→Value→Prop}{St:Nat→Shared→Prop}{L:Bool}
theorem je{t:SetTable}(h:aT L t):aT L { t with plain:=false }:=⟨h.led,h.rise⟩
theorem SetG.at'{K:Type}[DecidableEq K]{knd:KeyKind prog w K}{G:SetTable→Prop}{h h':Heap}{a:Addr}{S S':K→Bool}{m m':Nat}(x:SetG knd G h a S m)(e:∀ o,h.get? a=some o→h'.get? a=some o)(eS:∀ k,S k=S' k)(em:m=m'):SetG knd G h' a S' m':=by
 obtain⟨o,es,ep,t,ho,T⟩:=x
 have:S=S':=funext eS
 subst this; subst em
 exact⟨o,es,ep,t,e o ho,T⟩
end
section
variable{prog:Program}{w:World}{A:Around}{E:Value→Shared→Prop}{s:Shared}
def aQ(w:World):Bool:=!(w.params.followText "set-order")
theorem rN(a:Value){Q₁:Value→Shared→Prop}
  (h:Q₁ (.ref s.heap.objs.size) { s with heap:=s.heap.push { cls:=.type "set", dict:=none,data:=.set #[] 0 (.fresh 0 0 (aQ w)) } }) :
  codeAny (model prog w) A (.call (.builtin "set.__new__") ⟨[.type "set", a],[]⟩) (wants Q₁ E) s:=by
 refine codeAny_of_tree ?_
 show wpAny _ A.in1 (do checkBuiltinCall "set.__new__" ⟨[.type "set", a],[]⟩; again (.builtin "set.__new__" ⟨[.type "set", a],[]⟩)) _ _ s
 refine wpAny_bind (wpAny_of_eq (F.newCall_set_1 a) (wpAny_pure ⟨plainId_quiet F.plain_set_new _,codeAny_builtin F.entry_set_new ?_⟩))
 rw[Around.under_plainId F.plain_set_new _];unfold Builtin.«set.__new__» Builtin.Frozenset.newClass
 have hsub:=sub_set_self;obtain⟨hp,g,d,tk,os⟩:=s
 dsimp only
 wp_walk
 refine wpAny_askSetting (wpAny_pure ?_)
 dsimp only
 simp only[newObj]
 refine wpAny_bind (wpAny_alloc (wpAny_pure ?_))
 exact wpAny_pure h
end
end L2
namespace L2
open PySem PySem.Spec PyProof.Rows PySem.SeqAt
section
variable{X:Cx}
end
end L2
namespace L2
open PySem PySem.Spec PyProof.Rows PySem.SeqAt
theorem g9{α : Type}:∀ (l:List α) (i:Nat) (hi:i<l.length),(l[i]::l.eraseIdx i).Perm l
 | x::l,0,_=>.rfl
 | x::l,i+1,hi=>(List.Perm.swap x (l[i]'(by simpa using hi)) (l.eraseIdx i)).trans (List.Perm.cons x (g9 l i (by simpa using hi)))
theorem m9{α : Type}(next:Nat→Nat):∀ (fuel k:Nat) (left:List α) (out:Array α),fuel=left.length→(pickOrder.go next fuel k left out).toList.Perm (out.toList++left)
 | 0,k,left,out,h=>by
  have:left=[]:=List.eq_nil_of_length_eq_zero h.symm
  subst this;unfold pickOrder.go; simp
 | fuel+1,k,left,out,h=>by
  unfold pickOrder.go;have hi:next k % left.length<left.length:=Nat.mod_lt _ (by omega)
  rw[List.getElem?_eq_getElem hi]
  dsimp only
  refine(m9 next fuel (k+1) _ _ (by rw[List.length_eraseIdx]; rw[if_pos hi]; omega)).trans ?_
  rw[Array.toList_push,List.append_assoc];refine List.Perm.append_left _ ?_
  exact g9 _ _ hi
theorem j4{α : Type}(next:Nat→Nat)(xs:Array α):(pickOrder next xs).toList.Perm xs.toList:=by
 unfold pickOrder;have:=m9 next xs.size 0 xs.toList #[] (by simp)
 simpa using this
section
variable{M:Model}{A:Around}{E:Value→Shared→Prop}
theorem mF{s:Shared}{n:Nat}{Q:Nat→Shared→Prop}(hn:n≠0)(h:∀ i d',i<n→Q i { s with drawn:=d' }):wpAny M A (choose .order n) Q E s:=fun Γ p hΓ=>by
 show Sem.wp M Γ (.choose .order n .pure) _ _ _ _
 rw[Sem.wp_choose];refine⟨hn,?_⟩
 rw[Sem.wp_pure];exact h _ _ (Nat.mod_lt _ (by omega))
theorem ko{α : Type}:∀ (n:Nat) (xs:List α) (s:Shared) (Q:List α→Shared→Prop),n=xs.length→(∀ ys d',ys.Perm xs→Q ys { s with drawn:=d' })→wpAny M A (drawOrder n xs) Q E s
 | 0,xs,s,Q,hn,h=>by
  have:xs=[]:=List.eq_nil_of_length_eq_zero hn.symm
  subst this;unfold drawOrder;exact wpAny_pure (by have:=h [] s.drawn .nil; cases s; exact this)
 | n+1,[],s,Q,hn,h=>by simp at hn
 | n+1,x::xs,s,Q,hn,h=>by
  unfold drawOrder;refine wpAny_bind (mF (by simp) fun i d' hi=>?_)
  rw[List.getElem?_eq_getElem hi]
  dsimp only
  refine wpAny_bind (ko n _ _ _ (by rw[List.length_eraseIdx,if_pos hi]; omega) fun ys d'' hp=>?_)
  refine wpAny_pure ?_
  exact h _ d'' ((List.Perm.cons _ hp).trans (g9 _ _ hi))
end
end L2
namespace L2
open PySem PySem.Spec PyProof.Rows PySem.SeqAt
theorem slot_si_next:Slot "set_iterator" "__next__" "set_iterator.__next__" :=
 .of (owner := "set_iterator") (n := "__next__") (by rw[typeLookup_type,builtinLookup_eq_fast]; kernel_rfl) (by decide +kernel) (by decide +kernel) (by decide +kernel)
  (by first | exact .inl (by decide +kernel) | exact .inr (by decide +kernel)) (by rw[isSubtype_type]; kernel_rfl)
theorem cR:entryFor table "set_iterator.__next__" = some Builtin.«set_iterator.__next__»:=entryFor_of_tree (by kernel_rfl)
theorem jT:entryFor table "set.__iter__" = some Builtin.«frozenset.__iter__»:=
 entryFor_alias (id' := "frozenset.__iter__") (by kernel_rfl) rfl (by decide +kernel) (by kernel_rfl)
theorem lu : Manifest.owners.lookup (String.ofList ['r', 'o', 't', 'a', 'r', 'e', 't', 'i', '_', 't', 'e', 's'].reverse) = some Manifest.sig_set_iterator := by kernel_rfl
theorem dq(a:Value):argsOk "set_iterator.__next__" ⟨[a],[]⟩:=by
 unfold argsOk; rw [signature?_of (id := "set_iterator.__next__") (n:=['_','_','t','x','e','n','_','_']) (o:=['r','o','t','a','r','e','t','i','_','t','e','s']) (by kernel_rfl) lu]; kernel_rfl
section
variable{prog:Program}{w:World}{A:Around}{E:Value→Shared→Prop}{s:Shared}
def eD(w:World)(a:Addr)(ep:Nat)(es:Array (Int × Value)):List Value:=((if w.params.followText "set-order" then pickOrder (w.params.setOrder a ep) es else es).toList.map (·.2))
def cf(w:World)(t:SetTable)(i:Nat):Nat:=if w.params.followText "set-order" then 0 else if i=0 then 0 else t.place.getD (i - 1) 0+1
theorem gX(a:Addr)(ep:Nat)(es:Array (Int × Value)):(eD w a ep es).Perm (es.toList.map (·.2)):=by
 unfold eD;split
 ·exact(j4 _ _).map _
 ·exact .rfl
theorem ke{a:Addr}{o:Obj}{es:Array (Int × Value)}{ep:Nat}{t:SetTable}{i:Nat}{Q:Option (Value × Nat)→Shared→Prop}(ho:s.heap.get? a=some o)(hd:o.data = .set es ep t)(hf:t.fits es.size=true)(hg:aT (aQ w) t)(hi:i≤es.size)
  (hn:w.params.followText "set-order" = true∨(!t.plain&&decide (es.size>1))=false) (h:Q (((eD w a ep es)[i]?).map fun x=>(x,cf w t (i+1))) s):wpAny (model prog w) A (setNext a (cf w t i) i ep) Q E s:=by
 have hps:t.place.size=es.size:=by
  unfold SetTable.fits at hf;simp only[Bool.and_eq_true,beq_iff_eq]at hf
  exact hf.1
 unfold setNext;refine wpAny_bind (wpAny_setState_of ho hd hf ?_)
 refine wpAny_bind ?_
 unfold setsByText;refine wpAny_bind (wpAny_askSetting (wpAny_pure ?_))
 show wpAny _ _ (if w.params.followText "set-order" = true then _ else _) _ _ _
 unfold eD cf at h;unfold cf
 cases hb:w.params.followText "set-order" with
 | true=>
  rw[hb]at h
  simp only[if_true]at h ⊢
  rw[if_neg (by simp)]
  refine wpAny_bind ?_
  unfold setWalk;refine wpAny_bind (wpAny_setState_of ho hd hf ?_)
  refine wpAny_bind ?_
  unfold setsByText;refine wpAny_bind (wpAny_askSetting (wpAny_pure ?_))
  show wpAny _ _ (if w.params.followText "set-order" = true then _ else _) _ _ _
  rw[if_pos hb];refine wpAny_bind (wpAny_askSetting (wpAny_pure ?_))
  refine wpAny_pure ?_
  rw[List.getElem?_map,Option.map_map,Array.getElem?_toList]at h
  exact h
 | false=>
  rw[hb]at h
  simp only[Bool.false_eq_true,if_false]at h ⊢
  have hled:t.led=true:=by rw[hg.led]; unfold aQ; rw[hb]; rfl
  refine wpAny_ite_split (fun hab=>?_) (fun _=>?_)
  ·rcases hn with z | z
   ·rw[hb]at z; cases z
   ·exact absurd (z.symm.trans hab) (by decide)
  refine wpAny_bind ?_
  show wpAny _ _ (if (!t.led && !es.isEmpty)=true then unsupported "set:maker-not-led" else pure ()) _ _ _
  rw[if_neg (by rw[hled]; simp)]
  refine wpAny_pure (wpAny_pure ?_)
  have hbel:SetTable.below t.place (if i=0 then 0 else t.place.getD (i - 1) 0+1)=i:=by
   by_cases h0:i=0
   ·rw[if_pos h0,nQ hg.rise,h0]
   ·have hi1:i - 1<t.place.size:=by omega
    rw[if_neg h0,show t.place.getD (i - 1) 0=t.place[i - 1] by simp[Array.getD,hi1],oq hg.rise hi1]
    omega
  rw[hbel];rw[List.getElem?_map,Array.getElem?_toList,if_neg (by omega),Nat.add_sub_cancel]at h
  by_cases hlt:i<es.size
  ·have hlp:i<t.place.size:=by omega
   rw[Array.getElem?_eq_getElem hlt,Array.getElem?_eq_getElem hlp];rw[Array.getElem?_eq_getElem hlt,show t.place.getD i 0=t.place[i] by simp[Array.getD,hlp]]at h
   exact h
  ·rw[Array.getElem?_eq_none (by omega)]
   rw[Array.getElem?_eq_none (by omega)]at h
   exact h
end
end L2
namespace L2
open PySem PySem.Spec PyProof.Rows PySem.SeqAt
section
variable{prog:Program}{w:World}{A:Around}{E:Value→Shared→Prop}{s:Shared}
def IsSI(h:Heap)(it:Addr)(first:Value)(i:Nat)(a:Addr)(n ep:Nat):Prop:=∃ o,h.get? it=some o∧o.cls = .type "set_iterator" ∧ o.data = .fields #[first,.int i 0,.ref a,.int n 0,.int ep 0]
theorem IsSI.typeIs{it a:Addr}{first:Value}{i n ep:Nat}(x:IsSI s.heap it first i a n ep):s.TypeIs (.ref it) "set_iterator" := let ⟨o,ho,hc,_⟩:=x; ⟨o,ho,hc⟩
theorem uK{it a:Addr}{o:Obj}{es:Array (Int × Value)}{ep:Nat}{t:SetTable}{i:Nat}{v:Value}{Q:Option Value→Shared→Prop}(hit:IsSI s.heap it (.int (cf w t i) 0) i a es.size ep)(ho:s.heap.get? a=some o)(hd:o.data = .set es ep t)(hf:t.fits es.size=true)(hg:aT (aQ w) t)
  (hn:w.params.followText "set-order" = true∨(!t.plain&&decide (es.size>1))=false) (hi:i<es.size) (hv:(eD w a ep es)[i]? = some v)
  (hQ:∀ h',IsSI h' it (.int (cf w t (i+1)) 0) (i+1) a es.size ep→Heap.SameBut it s.heap h'→Q (some v) { s with heap:=h' }):wpAny (model prog w) A (pyNext (.ref it)) Q E s:=by
 obtain⟨oi,hoi,hci,hdi⟩:=id hit
 unfold pyNext;refine wpAny_bind (wpAny_attempt (wpAny_callSpecial?_slot (name:=Str.ofString "__next__") hit.typeIs slot_si_next (wpAny_call_entry slot_si_next hit.typeIs cR ?_ (dq _))))
 unfold Builtin.«set_iterator.__next__»
 refine wpAny_bind (wpAny_pure ?_)
 refine wpAny_bind (wpAny_fieldsOf hoi hdi ?_)
 dsimp only
 refine wpAny_bind (wpAny_setEntries_of ho hd hf ?_)
 rw[if_neg (by simp)]
 simp only[Int.toNat_natCast]
 refine wpAny_bind (ke ho hd hf hg (by omega) hn ?_)
 rw[hv];show wpAny _ _ (setField (.ref it) 0 (rawInt (cf w t (i+1):Nat)) >>= fun _=>setField (.ref it) 1 (rawInt ((i:Int)+1)) >>= fun _=>ret v) _ _ _
 refine wpAny_bind (wpAny_setField hoi hdi (by simp) ?_)
 have hdi1:=Obj.data_mapFields hdi (fun xs=>xs.setIfInBounds 0 (rawInt (cf w t (i+1):Nat)))
 have hoi1:=Heap.get?_update_self (Obj.mapFields (fun xs=>xs.setIfInBounds 0 (rawInt (cf w t (i+1):Nat)))) hoi (Obj.isFreed_of_fields hdi1)
 refine wpAny_bind (wpAny_setField hoi1 hdi1 (by simp) ?_)
 have hdi2:=Obj.data_mapFields hdi1 (fun xs=>xs.setIfInBounds 1 (rawInt ((i:Int)+1)))
 have hoi2:=Heap.get?_update_self (Obj.mapFields (fun xs=>xs.setIfInBounds 1 (rawInt ((i:Int)+1)))) hoi1 (Obj.isFreed_of_fields hdi2)
 refine wpAny_pure ⟨_,rfl,wpAny_pure (hQ _ ⟨_,hoi2,?_,?_⟩ ((Heap.SameBut.update ..).trans (Heap.SameBut.update ..)))⟩
 ·rw[Obj.cls_mapFields,Obj.cls_mapFields]; exact hci
 ·rw[hdi2]; simp[rawInt]
theorem vQ{it a:Addr}{o:Obj}{es:Array (Int × Value)}{ep:Nat}{t:SetTable}{Q:Option Value→Shared→Prop}(hh:A.handled=none)(hit:IsSI s.heap it (.int (cf w t es.size) 0) es.size a es.size ep)(ho:s.heap.get? a=some o)(hd:o.data = .set es ep t)(hf:t.fits es.size=true)(hg:aT (aQ w) t)
  (hn:w.params.followText "set-order" = true∨(!t.plain&&decide (es.size>1))=false)
  (hQ:∀ h',Heap.ExtBut it s.heap h'→Q none { s with heap:=h' }):wpAny (model prog w) A (pyNext (.ref it)) Q E s:=by
 obtain⟨oi,hoi,hci,hdi⟩:=id hit
 have hv:(eD w a ep es)[es.size]? = none:=List.getElem?_eq_none (by rw[(gX (w:=w) a ep es).length_eq]; simp)
 unfold pyNext;refine wpAny_bind (wpAny_attempt (wpAny_callSpecial?_slot (name:=Str.ofString "__next__") hit.typeIs slot_si_next (wpAny_call_entry slot_si_next hit.typeIs cR ?_ (dq _))))
 unfold Builtin.«set_iterator.__next__»
 refine wpAny_bind (wpAny_pure ?_)
 refine wpAny_bind (wpAny_fieldsOf hoi hdi ?_)
 dsimp only
 refine wpAny_bind (wpAny_setEntries_of ho hd hf ?_)
 rw[if_neg (by simp)]
 simp only[Int.toNat_natCast]
 refine wpAny_bind (ke ho hd hf hg (Nat.le_refl _) hn ?_)
 rw[hv];show wpAny _ _ (setField (.ref it) 2 .none >>= fun _=>newExc (.type "StopIteration") [] >>= fun e=>raiseNew e) _ _ _
 refine wpAny_bind (wpAny_setField hoi hdi (by simp) ?_)
 refine wpAny_bind ?_
 simp only[newExc,newTuple]
 refine wpAny_bind (wpAny_newObj_type ?_ (by size_fits))
 refine wpAny_bind (m:=firstArgMember _ _) (wpAny_of_eq (a:=Value.none) (by first | rfl | (simp only[firstArgMember]; rfl)) ?_)
 refine wpAny_newObj_type ?_ (by size_fits)
 simp only[raiseNew]
 refine wpAny_bind (wpAny_handled ?_)
 rw[show A.in1.handled=none from hh];refine wpAny_bind (wpAny_pure (wpAny_throw ?_))
 refine wpAny_bind (wpAny_isInstance (T := "StopIteration") (b:=true) ⟨_,Heap.get?_push_size _ rfl,rfl⟩ isSubtype_stop ?_)
 exact wpAny_pure (hQ _ (((Heap.SameBut.update ..).extBut.push _).push _))
end
end L2
namespace L2
open PySem PySem.Spec PyProof.Rows PySem.SeqAt
section
variable{prog:Program}{w:World}{A:Around}{E:Value→Shared→Prop}{s:Shared}
theorem oF{a:Addr}{o:Obj}{es:Array (Int × Value)}{ep:Nat}{t:SetTable}{Q:Bool→Shared→Prop}(ho:s.heap.get? a=some o)(hd:o.data = .set es ep t)(hf:t.fits es.size=true)
  (h:Q (!(w.params.followText "set-order")&&(!t.plain&&decide (es.size>1))) s):wpAny (model prog w) A (setDrawn a) Q E s:=by
 unfold setDrawn;refine wpAny_bind (wpAny_setState_of ho hd hf ?_)
 refine wpAny_bind ?_
 unfold setsByText;refine wpAny_bind (wpAny_askSetting (wpAny_pure ?_))
 exact wpAny_pure h
theorem uz{a:Addr}{o:Obj}{es:Array (Int × Value)}{ep:Nat}{t:SetTable}{Q:Value→Shared→Prop}(ho:s.heap.get? a=some o)(hx:o.ExactSet)(hd:o.data = .set es ep t)(hf:t.fits es.size=true)(hfew:es.size<scanBound)
  (h1:(!(w.params.followText "set-order")&&(!t.plain&&decide (es.size>1)))=false→Q (.ref s.heap.objs.size) { s with heap:=s.heap.push { cls:=.type "set_iterator", data:=.fields #[.int 0 0,.int 0 0,.ref a,.int es.size 0,.int ep 0] } })
  (h2:∀ (ps:List Nat) d',ps.Perm (List.range es.size)→Q (.ref (s.heap.objs.size+1)) { s with heap:=(s.heap.push { cls:=.type "tuple", data:=.seq (ps.map fun i:Nat=>rawInt i).toArray }).push { cls:=.type "set_iterator", data:=.fields #[.ref s.heap.objs.size,.int 0 0,.ref a,.int es.size 0,.int ep 0] },drawn:=d' }) :
  wpAny (model prog w) A (pyIter (.ref a)) Q E s:=by
 have hT:s.TypeIs (.ref a) "set" := ⟨o,ho,hx.1⟩
 refine wpAny_pyIter_slot hT F.slot_set_iter (wpAny_call_entry F.slot_set_iter hT jT ?_ (F.args_set_iter_1 _))
 unfold Builtin.«frozenset.__iter__»
 refine wpAny_bind (wpAny_pure ?_)
 refine wpAny_bind ?_
 unfold Builtin.Frozenset.sizeOf;refine wpAny_bind (wpAny_setEntries_of ho hd hf (wpAny_pure ?_))
 refine wpAny_bind (oF ho hd hf ?_)
 dsimp only
 refine wpAny_ite_split (fun hab=>?_) (fun hab=>?_)
 ·refine wpAny_bind (ko _ _ _ _ (by simp) fun ps d' hp=>?_)
  have hlen:ps.length=es.size:=by rw[hp.length_eq]; simp
  refine wpAny_bind ?_
  unfold newTuple;have hz:=fits_of_scanBound hfew;refine wpAny_newObj_type ?_ (by show (List.map _ ps).toArray.size≤sizeLine; simp; omega)
  refine wpAny_bind ?_
  unfold setEpoch;refine wpAny_bind (wpAny_setState_of (Heap.get?_push_of_some _ ho) hd hf (wpAny_pure ?_))
  refine wpAny_bind ?_
  unfold newFields;refine wpAny_newObj_type (wpAny_pure ⟨_,rfl, "set_iterator", _,⟨_,Heap.get?_push_size _ rfl,rfl⟩,slot_si_next.lookup,?_⟩)
  rw[Heap.size_push];exact h2 ps d' hp
 ·refine wpAny_bind (wpAny_pure ?_)
  refine wpAny_bind ?_
  unfold setEpoch;refine wpAny_bind (wpAny_setState_of ho hd hf (wpAny_pure ?_))
  refine wpAny_bind ?_
  unfold newFields;refine wpAny_newObj_type (wpAny_pure ⟨_,rfl, "set_iterator", _,⟨_,Heap.get?_push_size _ rfl,rfl⟩,slot_si_next.lookup,?_⟩)
  exact h1 (by simpa using hab)
end
end L2
namespace L2
open PySem PySem.Spec PyProof.Rows PySem.SeqAt
section
variable{prog:Program}{w:World}{A:Around}{E:Value→Shared→Prop}{s:Shared}
theorem uZ{it a tp:Addr}{o ot:Obj}{es:Array (Int × Value)}{ep ct:Nat}{t:SetTable}{i k:Nat}{ps:List Nat}{v:Value}{hh:Int}{Q:Option Value→Shared→Prop}(hit:IsSI s.heap it (.ref tp) i a es.size ep)(ho:s.heap.get? a=some o)(hd:o.data = .set es ep t)(hf:t.fits es.size=true)
  (hot:s.heap.get? tp=some ot) (hdt:ot.data = .seq (ps.map fun i:Nat=>rawInt i).toArray ct) (hk:ps[i]? = some k) (hv:es[k]? = some (hh,v))
  (hQ:∀ h',IsSI h' it (.ref tp) (i+1) a es.size ep→Heap.SameBut it s.heap h'→Q (some v) { s with heap:=h' }):wpAny (model prog w) A (pyNext (.ref it)) Q E s:=by
 obtain⟨oi,hoi,hci,hdi⟩:=id hit
 unfold pyNext;refine wpAny_bind (wpAny_attempt (wpAny_callSpecial?_slot (name:=Str.ofString "__next__") hit.typeIs slot_si_next (wpAny_call_entry slot_si_next hit.typeIs cR ?_ (dq _))))
 unfold Builtin.«set_iterator.__next__»
 refine wpAny_bind (wpAny_pure ?_)
 refine wpAny_bind (wpAny_fieldsOf hoi hdi ?_)
 dsimp only
 refine wpAny_bind (wpAny_setEntries_of ho hd hf ?_)
 rw[if_neg (by simp)]
 refine wpAny_bind (wpAny_seqItems hot hdt ?_)
 simp only[Int.toNat_natCast]
 have e1:(List.map (fun i:Nat=>rawInt (i:Int)) ps).toArray[i]? = some (.int (k:Int) 0):=by
  rw[List.getElem?_toArray,List.getElem?_map,hk]; rfl
 rw[e1]
 dsimp only
 refine wpAny_bind ?_
 unfold setNextDrawn;refine wpAny_bind (wpAny_setState_of ho hd hf ?_)
 dsimp only
 simp only[Int.toNat_natCast]
 rw[if_neg (by simp)]
 rw[hv];refine wpAny_pure ?_
 refine wpAny_bind (wpAny_setField hoi hdi (by simp) ?_)
 have hdi1:=Obj.data_mapFields hdi (fun xs=>xs.setIfInBounds 1 (rawInt ((i:Int)+1)))
 have hoi1:=Heap.get?_update_self (Obj.mapFields (fun xs=>xs.setIfInBounds 1 (rawInt ((i:Int)+1)))) hoi (Obj.isFreed_of_fields hdi1)
 refine wpAny_pure ⟨_,rfl,wpAny_pure (hQ _ ⟨_,hoi1,?_,?_⟩ (Heap.SameBut.update ..))⟩
 ·rw[Obj.cls_mapFields]; exact hci
 ·rw[hdi1]; simp[rawInt]
theorem vT{it a tp:Addr}{o ot:Obj}{es:Array (Int × Value)}{ep ct:Nat}{t:SetTable}{ps:List Nat}{Q:Option Value→Shared→Prop}(hh:A.handled=none)(hit:IsSI s.heap it (.ref tp) es.size a es.size ep)(ho:s.heap.get? a=some o)(hd:o.data = .set es ep t)(hf:t.fits es.size=true)
  (hot:s.heap.get? tp=some ot) (hdt:ot.data = .seq (ps.map fun i:Nat=>rawInt i).toArray ct) (hp:ps.length=es.size)
  (hQ:∀ h',Heap.ExtBut it s.heap h'→Q none { s with heap:=h' }):wpAny (model prog w) A (pyNext (.ref it)) Q E s:=by
 obtain⟨oi,hoi,hci,hdi⟩:=id hit
 unfold pyNext;refine wpAny_bind (wpAny_attempt (wpAny_callSpecial?_slot (name:=Str.ofString "__next__") hit.typeIs slot_si_next (wpAny_call_entry slot_si_next hit.typeIs cR ?_ (dq _))))
 unfold Builtin.«set_iterator.__next__»
 refine wpAny_bind (wpAny_pure ?_)
 refine wpAny_bind (wpAny_fieldsOf hoi hdi ?_)
 dsimp only
 refine wpAny_bind (wpAny_setEntries_of ho hd hf ?_)
 rw[if_neg (by simp)]
 refine wpAny_bind (wpAny_seqItems hot hdt ?_)
 simp only[Int.toNat_natCast]
 have e1:(List.map (fun i:Nat=>rawInt (i:Int)) ps).toArray[es.size]? = none:=by
  rw[List.getElem?_toArray,List.getElem?_eq_none (by simp; omega)]
 rw[e1]
 dsimp only
 refine wpAny_bind (wpAny_setField hoi hdi (by simp) ?_)
 have hdi1:=Obj.data_mapFields hdi (fun xs=>xs.setIfInBounds 0 (rawInt 0))
 have hoi1:=Heap.get?_update_self (Obj.mapFields (fun xs=>xs.setIfInBounds 0 (rawInt 0))) hoi (Obj.isFreed_of_fields hdi1)
 refine wpAny_bind (wpAny_setField hoi1 hdi1 (by simp) ?_)
 refine wpAny_bind ?_
 simp only[newExc,newTuple]
 refine wpAny_bind (wpAny_newObj_type ?_ (by size_fits))
 refine wpAny_bind (m:=firstArgMember _ _) (wpAny_of_eq (a:=Value.none) (by first | rfl | (simp only[firstArgMember]; rfl)) ?_)
 refine wpAny_newObj_type ?_ (by size_fits)
 simp only[raiseNew]
 refine wpAny_bind (wpAny_handled ?_)
 rw[show A.in1.handled=none from hh];refine wpAny_bind (wpAny_pure (wpAny_throw ?_))
 refine wpAny_bind (wpAny_isInstance (T := "StopIteration") (b:=true) ⟨_,Heap.get?_push_size _ rfl,rfl⟩ isSubtype_stop ?_)
 exact wpAny_pure (hQ _ ((((Heap.SameBut.update ..).trans (Heap.SameBut.update ..)).extBut.push _).push _))
end
end L2
namespace L2
open PySem PySem.Spec PyProof.Rows PySem.SeqAt
theorem il:Slot "set_iterator" "__iter__" "set_iterator.__iter__" :=
 .of (owner := "set_iterator") (n := "__iter__") (by rw[typeLookup_type,builtinLookup_eq_fast]; kernel_rfl) (by decide +kernel) (by decide +kernel) (by decide +kernel)
  (by first | exact .inl (by decide +kernel) | exact .inr (by decide +kernel)) (by rw[isSubtype_type]; kernel_rfl)
theorem kB:entryFor table "set_iterator.__iter__" = some Builtin.«dict_keyiterator.__iter__»:=
 entryFor_alias (id' := "dict_keyiterator.__iter__") (by kernel_rfl) rfl (by decide +kernel) (by kernel_rfl)
theorem lS(a:Value):argsOk "set_iterator.__iter__" ⟨[a],[]⟩:=by
 unfold argsOk; rw [signature?_of (id := "set_iterator.__iter__") (n:=['_','_','r','e','t','i','_','_']) (o:=['r','o','t','a','r','e','t','i','_','t','e','s']) (by kernel_rfl) lu]; kernel_rfl
section
variable{prog:Program}{w:World}{A:Around}{E:Value→Shared→Prop}{s:Shared}
theorem mN{it a:Addr}{first:Value}{i n ep:Nat}{Q:Value→Shared→Prop}(hit:IsSI s.heap it first i a n ep)(h:Q (.ref it) s):wpAny (model prog w) A (pyIter (.ref it)) Q E s:=
 wpAny_pyIter_slot hit.typeIs il (wpAny_call_entry il hit.typeIs kB (wpAny_bind (wpAny_pure (wpAny_pure ⟨_,rfl, "set_iterator", _,hit.typeIs,slot_si_next.lookup,h⟩))) (lS _))
theorem IsSI.at'{h h':Heap}{it a:Addr}{first:Value}{i n ep:Nat}(x:IsSI h it first i a n ep)(e:∀ o,h.get? it=some o→h'.get? it=some o):IsSI h' it first i a n ep:=let ⟨o,ho,r⟩:=x; ⟨o,e _ ho,r⟩
theorem x9(hh:A.handled=none)(I a:Addr)(hne:a≠I){o:Obj}{es:Array (Int × Value)}{ep:Nat}{t:SetTable}(hd:o.data = .set es ep t)(hf:t.fits es.size=true)(hg:aT (aQ w) t)(hn:w.params.followText "set-order" = true∨(!t.plain&&decide (es.size>1))=false) :
  Walks prog w A I [I,a] [I] es.size (fun i v=>(eD w a ep es)[i]? = some v) (fun i h=>IsSI h I (.int (cf w t i) 0) i a es.size ep∧h.get? a=some o) where
 sub:=fun b hb=>by simp at hb; simp[hb]
 frame:=fun _ _ _ st hk=>⟨st.1.at' fun o e=>hk I (by simp) o e,hk a (by simp) o st.2⟩
 item:=fun i s Q E hi st hQ=>by
  have hl:(eD w a ep es).length=es.size:=by rw[(gX (w:=w) a ep es).length_eq]; simp
  have hv:(eD w a ep es)[i]? = some (eD w a ep es)[i]:=List.getElem?_eq_getElem (by omega)
  refine uK st.1 st.2 hd hf hg hn hi hv fun h' hit' hs'=>?_
  exact hQ _ h' s.toks hv ⟨hit',hs'.extBut a o hne st.2⟩ (fun b o hb e=>hs'.extBut b o (fun h=>hb (by simp[h])) e)
 done:=fun s Q E st hQ=>vQ hh st.1 st.2 hd hf hg hn fun h' he'=>hQ h' s.toks fun b o hb e=>he' b o (fun h=>hb (by simp[h])) e
 self:=fun _ _ _ _ st hQ=>mN st.1 hQ
theorem xW(hh:A.handled=none)(I a tp:Addr)(hne:a≠I)(hnt:tp≠I){o ot:Obj}{es:Array (Int × Value)}{ep ct:Nat}{t:SetTable}{ps:List Nat}(hd:o.data = .set es ep t)(hf:t.fits es.size=true)(hdt:ot.data = .seq (ps.map fun i:Nat=>rawInt i).toArray ct)(hp:ps.Perm (List.range es.size)) :
  Walks prog w A I [I,a,tp] [I] es.size (fun i v=>(ps.map fun k=>(es.getD k (0,.none)).2)[i]? = some v) (fun i h=>IsSI h I (.ref tp) i a es.size ep∧h.get? a=some o∧h.get? tp=some ot) where
 sub:=fun b hb=>by simp at hb; simp[hb]
 frame:=fun _ _ _ st hk=>⟨st.1.at' fun o e=>hk I (by simp) o e,hk a (by simp) o st.2.1,hk tp (by simp) ot st.2.2⟩
 item:=fun i s Q E hi st hQ=>by
  have hl:ps.length=es.size:=by rw[hp.length_eq]; simp
  have hk:ps[i]? = some (ps[i]'(by omega)):=List.getElem?_eq_getElem (by omega)
  have hlt:ps[i]'(by omega)<es.size:=List.mem_range.mp (hp.mem_iff.mp (List.getElem_mem _))
  have hv:(ps.map fun k=>(es.getD k (0,.none)).2)[i]? = some (es[ps[i]'(by omega)]'hlt).2:=by
   rw[List.getElem?_map,hk];simp[Array.getD,hlt]
  refine uZ st.1 st.2.1 hd hf st.2.2 hdt hk (hh:=(es[ps[i]'(by omega)]'hlt).1) (v:=(es[ps[i]'(by omega)]'hlt).2) (Array.getElem?_eq_getElem hlt) fun h' hit' hs'=>?_
  exact hQ _ h' s.toks hv ⟨hit',hs'.extBut a o hne st.2.1,hs'.extBut tp ot hnt st.2.2⟩ (fun b o hb e=>hs'.extBut b o (fun h=>hb (by simp[h])) e)
 done:=fun s Q E st hQ=>vT hh st.1 st.2.1 hd hf st.2.2 hdt (by rw[hp.length_eq]; simp) fun h' he'=>hQ h' s.toks fun b o hb e=>he' b o (fun h=>hb (by simp[h])) e
 self:=fun _ _ _ _ st hQ=>mN st.1 hQ
end
end L2
namespace L2
open PySem PySem.Spec PyProof.Rows PySem.SeqAt
section
variable{prog:Program}{w:World}{A:Around}{E:Value→Shared→Prop}{s:Shared}
theorem lN{a:Addr}{Q:Bool→Shared→Prop}(hT:s.TypeIs (.ref a) "set") (h:Q false s):wpAny (model prog w) A (Builtin.List.listLengthHint (.ref a)) Q E s:=by
 unfold Builtin.List.listLengthHint;refine wpAny_bind (wpAny_specialOf hT F.slot_set_len.lookup ?_)
 generalize hid:("set.__len__" : String)=id0
 wp_delta
 rw[show splitId id0=some ("set", "__len__") from by subst hid; decide +kernel]
 subst hid;refine wpAny_bind (wpAny_isInstance (T := "set") (b:=true) hT (by rw[isSubtype_type]; kernel_rfl) ?_)
 refine wpAny_ite_split (fun hab=>absurd hab (by decide)) (fun _=>?_)
 refine wpAny_ite_split (fun _=>?_) (fun hab=>absurd (by decide +kernel) hab)
 refine wpAny_bind (wpAny_typeOf hT ?_)
 exact wpAny_pure h
theorem rO{l:List Value}{acc:Array Value}(h:ItemsOf (fun i v=>l[i]? = some v) acc l.length):acc.toList=l:=by
 refine List.ext_getElem? fun i=>?_
 rw[Array.getElem?_toList]
 cases e:acc[i]? with
 | some v=>exact(h.2 i v e).symm
 | none=>
  have:acc.size≤i:=by simpa using e
  exact(List.getElem?_eq_none (by have:=h.1; omega)).symm
theorem mB{es:Array (Int × Value)}{ps:List Nat}(hp:ps.Perm (List.range es.size)):(ps.map fun k=>(es.getD k (0,.none)).2).Perm (es.toList.map (·.2)):=by
 refine(hp.map _).trans ?_
 refine List.Perm.of_eq ?_
 refine List.ext_getElem (by simp) fun i h1 h2=>?_
 have hi:i<es.size:=by simpa using h1
 simp[Array.getD,hi]
theorem oM{R:Result→Shared→Prop}{a:Addr}{o:Obj}{es:Array (Int × Value)}{ep:Nat}{t:SetTable}(hh:A.handled=none)(ho:s.heap.get? a=some o)(hx:o.ExactSet)(hd:o.data = .set es ep t)(hf:t.fits es.size=true)(hfew:es.size<scanBound)(hg:aT (aQ w) t)
  (S:Addr) (res:Value) (c₀ : Nat) (hS:s.heap.get? S=some { cls:=.type "list", data:=.seq #[] c₀ })
  (hR:∀ h' d' tk acc' c',(∀ b o,b≠S→s.heap.get? b=some o→h'.get? b=some o)→h'.get? S=some { cls:=.type "list", dict:=none,data:=.seq acc' c',slots:=#[] }→acc'.toList.Perm (es.toList.map (·.2))→R (.ok (.ret res)) { s with heap:=h',drawn:=d',toks:=tk }) :
  wpAny (model prog w) A.in1 (Builtin.List.listExtendWith (.ref S) (.ref a) res)
   (fun fin s'=>match fin with | .done f=>R (.ok f) s' | .again c'=>c'.quiet=true∧codeAny (model prog w) A c' R s') (fun e s'=>R (.error e) s') s:=by
 have hz:=fits_of_scanBound hfew;have halt:a<s.heap.objs.size:=Heap.lt_size ho
 have hSlt:S<s.heap.objs.size:=Heap.lt_size hS
 have hSa:S≠a:=fun e=>by
  rw[e,ho]at hS
  cases hS
  cases hd
 have hT:s.TypeIs (.ref a) "set" := ⟨o,ho,hx.1⟩
 have e1:Builtin.List.listSameRef (.ref S) (.ref a)=false:=by simp[Builtin.List.listSameRef,hSa]
 have key:∀ (h2:Heap) (d2:Drawn) (c tk:Nat) (I:Addr) (fp:List Addr) (l:List Value) (St:Nat→Heap→Prop),l.length=es.size→l.Perm (es.toList.map (·.2))→Walks prog w A.in1 I fp [I] es.size (fun i v=>l[i]? = some v) St→S∉fp→s.heap.objs.size≤I→
   (∀ b o,b≠S→s.heap.get? b=some o→h2.get? b=some o)→h2.get? S=some { cls:=.type "list", data:=.seq #[] c }→St 0 h2→codeAny (model prog w) A (.builtin "list.extend.loop" ⟨[.ref S,.ref I,res],[]⟩) R { s with heap:=h2,drawn:=d2,toks:=tk }:=by
  intro h2 d2 c tk I fp l St hl hp W hSf hI hk hS2 hst
  refine codeAny_extend_loopS W.toS hz S hSf res es.size 0 _ #[] c rfl (Nat.zero_le _) hst hS2 (ItemsOf.nil _) fun s' acc' c' hm hS' hacc=>?_
  rw[Moved.eq_with hm];refine hR s'.heap d2 s'.toks acc' c' (fun b o hb e=>hm.heap b o (fun hmem=>?_) (hk b o hb e)) hS' (by rw[rO (by rw[hl]; exact hacc)]; exact hp)
  rcases List.mem_cons.mp hmem with e' | hmem
  ·exact hb e'
  ·have:=Heap.lt_size e
   rw[List.mem_singleton.mp hmem]at this
   exact absurd this (Nat.not_lt.mpr hI)
 unfold Builtin.List.listExtendWith;refine wpAny_bind (wpAny_typeOf hT ?_)
 rw[if_neg (by rw[e1]; decide)]
 /- the list makes room, then the loop -/
 have touch:∀ (h2:Heap) (d2:Drawn) (I:Addr) (fp:List Addr) (l:List Value) (St:Nat→Heap→Prop),l.length=es.size→l.Perm (es.toList.map (·.2))→Walks prog w A.in1 I fp [I] es.size (fun i v=>l[i]? = some v) St→S∉fp→s.heap.objs.size≤I→
   (∀ b o,s.heap.get? b=some o→h2.get? b=some o)→St 0 h2→
   wpAny (model prog w) A.in1 (updateSeq S (·.push .none) >>= fun _=>updateSeq S (·.pop)) (fun _ s'=>codeAny (model prog w) A (.builtin "list.extend.loop" ⟨[.ref S,.ref I,res],[]⟩) R s') (fun e s'=>R (.error e) s') { s with heap:=h2,drawn:=d2 }:=by
  intro h2 d2 I fp l St hl hp W hSf hI hk hst
  have hS₁:=hk _ _ hS;refine wpAny_bind (wpAny_updateSeq hS₁ rfl ?_)
  have hS₂:=Heap.get?_update_self (Obj.mapSeq (·.push Value.none)) hS₁ rfl;refine wpAny_updateSeq (hz:=by seq_fits) hS₂ rfl ?_
  have hS₃:=Heap.get?_update_self (Obj.mapSeq (·.pop)) hS₂ rfl
  have oth:∀ b o,b≠S→h2.get? b=some o→((h2.update S (Obj.mapSeq (·.push Value.none))).update S (Obj.mapSeq (·.pop))).get? b=some o:=fun b o hb e=>
   (Heap.get?_update_other _ _ (Ne.symm hb)).trans ((Heap.get?_update_other _ _ (Ne.symm hb)).trans e)
  exact key _ d2 _ s.toks I fp l St hl hp W hSf hI (fun b o hb e=>oth b o hb (hk b o e)) hS₃ (W.frame 0 _ _ hst fun b hb o e=>oth b o (fun z=>hSf (z ▸ hb)) e)
 refine wpAny_bind (uz ho hx hd hf hfew (fun hnd=>?_) fun ps d' hp=>?_)
 ·have hTi:Shared.TypeIs { s with heap:=s.heap.push { cls:=.type "set_iterator", data:=.fields #[.int 0 0,.int 0 0,.ref a,.int es.size 0,.int ep 0] } } (.ref a) "set" := ⟨o,Heap.get?_push_of_some _ ho,hx.1⟩
  refine wpAny_bind (wpAny_holding (lN hTi ?_))
  have hn:w.params.followText "set-order" = true∨(!t.plain&&decide (es.size>1))=false:=by
   cases hb:w.params.followText "set-order" with
   | true=>exact .inl rfl
   | false=>rw[hb]at hnd; exact .inr (by simpa using hnd)
  have hst:IsSI (s.heap.push { cls:=.type "set_iterator", data:=.fields #[.int 0 0,.int 0 0,.ref a,.int es.size 0,.int ep 0] }) s.heap.objs.size (.int (cf w t 0) 0) 0 a es.size ep:=by
   refine⟨_,Heap.get?_push_size _ rfl,rfl,?_⟩
   unfold cf;split <;> simp
  refine wpAny_ite_split (fun _=>?_) (fun hab=>absurd (by decide +kernel) hab)
  refine wpAny_bind (wpAny_rule ?_)
  refine wpAny_bind (wpAny_mono (touch _ s.drawn _ _ _ _ (by rw[(gX (w:=w) a ep es).length_eq]; simp) (gX a ep es) (x9 (A:=A.in1) hh s.heap.objs.size a (Nat.ne_of_lt halt) hd hf hg hn) (fun hm=>?_) (Nat.le_refl _) (fun b o e=>Heap.get?_push_of_some _ e) ⟨hst,Heap.get?_push_of_some _ ho⟩) (fun _ s' hc=>wpAny_pure ⟨plainId_quiet F.plain_extend_loop _,hc⟩) (fun _ _ he=>he))
  rcases List.mem_cons.mp hm with z | z
  ·exact absurd z (Nat.ne_of_lt hSlt)
  ·exact hSa (List.mem_singleton.mp z)
 ·have hTi:Shared.TypeIs { s with heap:=(s.heap.push { cls:=.type "tuple", data:=.seq (ps.map fun i:Nat=>rawInt i).toArray }).push { cls:=.type "set_iterator", data:=.fields #[.ref s.heap.objs.size,.int 0 0,.ref a,.int es.size 0,.int ep 0] },drawn:=d' } (.ref a) "set" := ⟨o,Heap.get?_push_of_some _ (Heap.get?_push_of_some _ ho),hx.1⟩
  refine wpAny_bind (wpAny_holding (lN hTi ?_))
  refine wpAny_ite_split (fun _=>?_) (fun hab=>absurd (by decide +kernel) hab)
  refine wpAny_bind (wpAny_rule ?_)
  have hst:IsSI ((s.heap.push { cls:=.type "tuple", data:=.seq (ps.map fun i:Nat=>rawInt i).toArray }).push { cls:=.type "set_iterator", data:=.fields #[.ref s.heap.objs.size,.int 0 0,.ref a,.int es.size 0,.int ep 0] }) (s.heap.objs.size+1) (.ref s.heap.objs.size) 0 a es.size ep:=by
   have:=Heap.get?_push_size (s.heap.push { cls:=.type "tuple", data:=.seq (ps.map fun i:Nat=>rawInt i).toArray }) (rfl:Obj.isFreed { cls:=.type "set_iterator", data:=.fields #[.ref s.heap.objs.size,.int 0 0,.ref a,.int es.size 0,.int ep 0] }=false)
   rw[Heap.size_push]at this
   exact⟨_,this,rfl,rfl⟩
  refine wpAny_bind (wpAny_mono (touch _ d' _ _ _ _ (by rw[List.length_map,hp.length_eq]; simp) (mB hp) (xW (A:=A.in1) hh (s.heap.objs.size+1) a s.heap.objs.size (Nat.ne_of_lt (Nat.lt_succ_of_lt halt)) (Nat.ne_of_lt (Nat.lt_succ_self _)) hd hf rfl hp) (fun hm=>?_) (Nat.le_succ _) (fun b o e=>Heap.get?_push_of_some _ (Heap.get?_push_of_some _ e)) ⟨hst,Heap.get?_push_of_some _ (Heap.get?_push_of_some _ ho),Heap.get?_push_of_some _ (Heap.get?_push_size _ rfl)⟩) (fun _ s' hc=>wpAny_pure ⟨plainId_quiet F.plain_extend_loop _,hc⟩) (fun _ _ he=>he))
  rcases List.mem_cons.mp hm with z | z
  ·exact absurd z (Nat.ne_of_lt (Nat.lt_succ_of_lt hSlt))
  ·rcases List.mem_cons.mp z with z | z
   ·exact hSa z
   ·exact absurd (List.mem_singleton.mp z) (Nat.ne_of_lt hSlt)
theorem oO{a:Addr}{o:Obj}{es:Array (Int × Value)}{ep:Nat}{t:SetTable}{Q:List Value→Shared→Prop}(hh:A.handled=none)(ho:s.heap.get? a=some o)(hx:o.ExactSet)(hd:o.data = .set es ep t)(hf:t.fits es.size=true)(hfew:es.size<scanBound)(hg:aT (aQ w) t)
  (hQ:∀ h' d' tk acc,(∀ b o,s.heap.get? b=some o→h'.get? b=some o)→s.heap.objs.size<h'.objs.size→acc.Perm (es.toList.map (·.2))→Q acc { s with heap:=h',drawn:=d',toks:=tk }):wpAny (model prog w) A (collect (.ref a)) Q E s:=by
 have ext:∀ R:Result→Shared→Prop,(∀ h' d' tk acc' c',(∀ b o,s.heap.get? b=some o→h'.get? b=some o)→h'.get? s.heap.objs.size=some { cls:=.type "list", dict:=none,data:=.seq acc' c',slots:=#[] }→acc'.toList.Perm (es.toList.map (·.2))→R (.ok (.ret (.ref s.heap.objs.size))) { s with heap:=h',drawn:=d',toks:=tk })→
   codeAny (model prog w) A (.builtin "proto.collect" ⟨[.ref a],[]⟩) R s:=fun R hR=>by
  refine codeAny_builtin F.entry_proto_collect ?_
  rw[Around.under_plainId F.plain_proto_collect _];show wpAny _ A.in1 (newList [] >>= fun l=>again (.builtin "list.__iadd__" ⟨[l,.ref a],[]⟩)) _ _ s
  refine wpAny_bind (wpAny_newObj_type ?_)
  refine wpAny_pure ⟨plainId_quiet F.plain_list_iadd _,codeAny_builtin F.entry_list_iadd ?_⟩
  rw[Around.under_plainId F.plain_list_iadd _];show wpAny _ A.in1 (Builtin.List.listExtendWith (.ref s.heap.objs.size) (.ref a) (.ref s.heap.objs.size)) _ _ _
  refine oM (R:=R) (s:={ s with heap:=s.heap.push { cls:=.type "list", data:=.seq ([]:List Value).toArray } }) hh (Heap.get?_push_of_some _ ho) hx hd hf hfew hg s.heap.objs.size _ 0 (Heap.get?_push_size _ rfl) fun h' d' tk acc' c' hk hS' hp=>?_
  exact hR h' d' tk acc' c' (fun b o e=>hk b o (Nat.ne_of_lt (Heap.lt_size e)) (Heap.get?_push_of_some _ e)) hS' hp
 unfold collect;refine wpAny_bind (wpAny_runValue (ext _ fun h' d' tk acc' c' hk hS' hp=>?_))
 show wpAny _ A (load s.heap.objs.size >>= _) _ _ _
 refine wpAny_bind (wpAny_load hS' ?_)
 exact wpAny_pure (hQ h' d' tk acc'.toList hk (Heap.lt_size hS') hp)
end
section
variable{X:Cx}
end
end L2
namespace L2
open PySem PySem.Spec PyProof PyProof.Rows
section
variable{X:Cx}
end
end L2
namespace L2
open PySem PySem.Spec PyProof PyProof.Rows
section
variable{X:Cx}{pins:List (Addr × Obj)}{σ : St}{H:Hp}{s:Shared}{d:Addr}{kvs:List (Str × V)}
end
section
variable{X:Cx}
end
end L2
namespace L2
open PySem PySem.Spec PyProof PyProof.Rows
section
variable{prog:Program}{w:World}{A:Around}{E:Value→Shared→Prop}{s:Shared}
variable{z TI TO i1 i2 t1 t2:Addr}{xs ys:Array Value}{k1 k2:Nat}{a b:Value}
end
end L2
namespace L2
open PySem PySem.Spec PyProof PyProof.Rows
section
variable{prog:Program}{w:World}{A:Around}{E:Value→Shared→Prop}{s:Shared}{z TI TO i1 i2 t1 t2:Addr}{xs ys:Array Value}{k1 k2:Nat}{a b:Value}
end
end L2
namespace L2
open PySem PySem.Spec PyProof PyProof.Rows
end L2
namespace L2
open PySem PySem.Spec PyProof PyProof.Rows
section
variable{prog:Program}{w:World}{A:Around}{E:Value→Shared→Prop}{s:Shared}
end
section
variable{X:Cx}
theorem uq(xs:List V)(k:Nat):g8 xs none (some (k:Int))=xs.take k:=by
 unfold g8;rw[HT.sIx_none,HT.sIx_nat,List.drop_zero,Nat.sub_zero];exact List.take_eq_take_min.symm
end
section
variable{K:PySem.W.Frag}{a b:Addr}{xs ys:List V}{g:TG}{te:TE}{nT:Nat}{σ : St}{D:Addr}{Q:VK}{H:Hp}
end
theorem dn{α : Type}{x:α}{xs:List α}:ck (x::xs) 0=some x:=aB (j:=0) rfl
end L2
namespace L2
open PySem PySem.Spec PyProof PyProof.Rows
section
variable{X:Cx}
end
end L2
namespace L2
open PySem PySem.Spec PyProof PyProof.Rows
def t7(K:PySem.W.Frag)(a:Addr)(n:Nat):It:=
 ⟨fun i H=>i<n∧∃ xs x,SqL K H a xs∧xs[n - 1 - i]? = some x,fun i H x H'=>H'=H∧∀ xs,SqL K H a xs→xs[n - 1 - i]? = some x,fun i _=>i=n⟩
theorem rX{P:Program}{w:World}{K:PySem.W.Frag}{tg:Expr}(a it:Addr)(n:Nat):iy P w K tg (t7 K a n) [it] it (fun i h=>h.IsRevIter it a ((n:Int) - 1 - (i:Nat))) where
 mem:=by simp
 obj:=fun i h st b hb=>by
  have e:b=it:=by simpa using hb
  subst e;obtain⟨o,e,c,d⟩:=st
  exact⟨o,e,fun v z=>by rw[d]at z; cases z⟩
 keep:=fun i h h' st k=>st.at fun o e=>k it (by simp) o e
 item:=by
  intro X hP hw hK hc i pins s σ H E I hf st hg
  subst hP hw hK;obtain⟨hi,xs,x,hq,hx⟩:=hg
  obtain⟨its,rv,p,hz⟩:=I.list hq
  obtain⟨u,hu,ru⟩:=rv.get hx
  obtain⟨f0,f1,f2,f3,f4,f5⟩:=hf it (by simp)
  have e:(n:Int) - 1 - (i:Int)=((n - 1 - i:Nat):Int):=by omega
  rw[e]at st
  refine wpAny_pyNext_rev_item st p.isList (x:=u) (by simpa using hu) fun h' st' sb=>?_
  have I1:Inv X pins σ H { s with heap:=h' }:=I.turned (t':=s.toks) (fun b o hb e=>(sb.2 b hb).trans e) f0 f1 f3 f4 f5
  have e2:((n - 1 - i:Nat):Int) - 1=(n:Int) - 1 - ((i+1:Nat):Int):=by omega
  rw[e2]at st'
  obtain⟨o,eo,c,d⟩:=id st'
  exact⟨u,rfl,ox (s:={ s with heap:=h' }) eo c d (by decide) ⟨x,H,I1,ru,⟨rfl,fun ys hy=>by rw[I.list_inj hy hq]; exact hx⟩,st',fun b hb=>(hf b hb).1⟩⟩
 done:=by
  intro X hP hw hK hc i pins s σ H E I hf st hg
  subst hP hw hK;obtain⟨f0,f1,f2,f3,f4,f5⟩:=hf it (by simp)
  have hg':i=n:=hg
  have e:(n:Int) - 1 - (i:Int) = -1:=by omega
  rw[e]at st
  exact wpAny_pyNext_rev_end (I.ok.hd hc) st fun h' eb=>⟨rfl,I.turned (t':=s.toks) (fun b o hb e=>eb b o hb e) f0 f1 f3 f4 f5⟩
 self:=fun _ _ _ _ _ st h=>wpAny_pyIter_revIter st h
theorem ia:bootBuiltins "reversed" = some (.type "reversed"):=by decide +kernel
def xm(K:PySem.W.Frag)(ta:TA):TI:=fun σ H R=>ta σ H fun vs H1=>∃ a:Addr,vs=[.ref a]∧∃ xs,SqL K H1 a xs∧R (t7 K a xs.length) H1
theorem ff(K:PySem.W.Frag)(ta:TA){σ : St}{H:Hp}{R:It→Hp→Prop}:xm K ta σ H R=ta σ H fun vs H1=>∃ a:Addr,vs=[.ref a]∧∃ xs,SqL K H1 a xs∧R (t7 K a xs.length) H1:=rfl
theorem vC(K:PySem.W.Frag){X:Cx}{tg:Expr}{a:Expr}{ta:TA}{p pos:Pos}(hg:Gl X "reversed") (hm:X.mg "reversed" = none) (ha:PA X [a] ta) (hs:starEach [a] X.env=[(false,eval a X.env)]:=by rfl) (hK:X.K=K:=by rfl) :
  PI X tg (.Call (.Name "reversed" p) [a] [] pos) (xm K ta):=by
 subst hK;intro pins s σ H R I h
 refine Call_ (cr I hg hm ia (PyProof.Rows.callWith_type1 (aL (ha pos pins s σ H _ I h) fun us s1 ⟨vs,H1,I1,r1,q1⟩=>?_) hs rfl))
 obtain⟨l,e,xs,h1,q⟩:=q1
 subst e;obtain⟨u1,rfl,r1'⟩:=b0 r1
 obtain rfl:u1=Value.ref l:=r1'
 obtain⟨its,rv,pl,hz⟩:=I1.list h1
 have hlen:its.toArray.size=xs.length:=by rw[List.size_toArray]; exact rv.length.symm
 refine call_reversed_list pl.isList ?_
 rw[hlen];have hit:(s1.heap.push (revObj l ((xs.length:Int) - 1))).IsRevIter s1.heap.objs.size l ((xs.length:Int) - 1 - ((0:Nat):Int)):=⟨_,Heap.get?_push_size _ rfl,rfl,by simp[revObj]⟩
 refine wpAny_pyIter_revIter (s:={ s1 with heap:=s1.heap.push (revObj l ((xs.length:Int) - 1)) }) hit ⟨s1.heap.objs.size,[s1.heap.objs.size],_,_,H1,rfl,I1.kept (t':=s1.toks) fun b o e=>Heap.get?_push_of_some _ e,rX l _ xs.length,hit,fun b hb=>?_,q⟩
 have e:b=s1.heap.objs.size:=by simpa using hb
 subst e;exact I1.fpOk (Nat.le_refl _) (I1.hok.fresh (Nat.le_refl _))
section
variable{K:PySem.W.Frag}{a:Addr}{xs:List V}{g:TG}{σ : St}{H:Hp}
theorem sV{tb:TS}{D:cB}(Pv:Nat→St→Hp→Prop)(h0:Pv 0 σ H)(hl:∀ i σ H,i≤xs.length→Pv i σ H→SqL K H a xs)
  (hs:∀ i x σ H,i<xs.length→xs[xs.length - 1 - i]? = some x→Pv i σ H→g x σ H fun σ2 H2=>tb { D with nx:=Pv (i+1),ct:=Pv (i+1),bk:=D.nx } σ2 H2) (hd:∀ σ H,Pv xs.length σ H→D.nx σ H):i4 (t7 K a xs.length) g tb D σ H:=by
 refine jE xs.length Pv h0 (fun i σ H hi p=>⟨hi,xs,xs[xs.length - 1 - i],hl i σ H (Nat.le_of_lt hi) p,List.getElem?_eq_getElem _⟩) (fun σ H p=>rfl) (fun i σ H x H' hi p yl=>?_) hd
 obtain⟨rfl,y⟩:=yl
 exact hs i x σ _ hi (y xs (hl i σ _ (Nat.le_of_lt hi) p)) p
end
end L2
namespace L2
open PySem PySem.Spec PyProof PyProof.Rows
section
variable{X:Cx}
end
end L2
namespace L2
open PySem PySem.Spec PyProof PyProof.Rows PySem.SeqAt
section
variable{X:Cx}
end
end L2
namespace L2
open PySem PySem.Spec PyProof.Rows PySem.SeqAt
section
variable{P:Program}{w:World}{K:PySem.W.Frag}{mg:Str→Option Value}{base:Heap}
end
section
variable{X:Cx}{o e value:Expr}{es:List Expr}{f m:Str}{pos pos' apos p:Pos}{ta tv:TE}{t:TA}{C:Addr}{x:Str}{ps:List Str}{sp:Sp}{j k:Nat}
end
section
variable{C:Addr}{f m:Str}{sp:Sp}{ta tv:TE}{t:TA}{σ : St}{H:Hp}{Q:VK}
end
theorem vy{f:Str}:List.lookup f ([]:List (Str × V))=none:=rfl
theorem sU{f:Str}{v:V}:vt f v []=[(f,v)]:=rfl
end L2
namespace L2
open PySem PySem.Spec PyProof.Rows PySem.SeqAt
section
variable{X:Cx}
end
end L2
namespace L2
open PySem PySem.Spec PyProof.Rows
section
variable{X:Cx}{tg e:Expr}
theorem pN:MtR X "list.clear" qz:=se
end
end L2
namespace L2
open PySem PySem.Spec PyProof.Rows PySem.SeqAt
def g6(l:List Str)(x:Str):List Str:=if l.any (· == x)=true then l else l++[x]
def eK(val:Nat→Str)(i:Nat):List Str:=((List.range i).map val).foldl g6 []
theorem lb(val:Nat→Str):eK val 0=[]:=rfl
theorem gT(val:Nat→Str)(i:Nat):eK val (i+1)=g6 (eK val i) (val i):=by
 unfold eK; rw[List.range_succ,List.map_append,List.foldl_append]; rfl
theorem iB(val:Nat→Str):∀ i,(eK val i).length≤i
 | 0=>by rw[lb]; exact Nat.le_refl _
 | i+1=>by
  rw[gT]; unfold g6
  have ih:=iB val i;split
  ·omega
  ·rw[List.length_append,List.length_singleton]; omega
theorem km(l:List Str)(v k:Str):(g6 l v).any (· == k)=(l.any (· == k)||decide (k=v)):=by
 unfold g6
 by_cases h:l.any (· == v)=true
 ·rw[if_pos h]
  by_cases e:k=v
  ·subst e; rw[h]; simp
  ·simp[e]
 ·rw[if_neg h,List.any_append]
  by_cases e:k=v
  ·subst e; simp
  ·have hb:(v == k)=false:=by simpa [beq_iff_eq] using (fun h':v=k=>e h'.symm)
   simp[hb,e]
theorem oP(l:List Str)(v:Str):(g6 l v).length=if l.any (· == v) then l.length else l.length+1:=by
 unfold g6; split <;> simp
theorem jx(val:Nat→Str):∀ (i:Nat) (k:Str),(eK val i).any (· == k)=((List.range i).map val).any (· == k)
 | 0,k=>rfl
 | i+1,k=>by
  rw[gT,km,jx val i k,List.range_succ,List.map_append,List.any_append]
  congr 1
  by_cases e:k=val i
  ·simp[e]
  ·simp[e]; exact fun h=>e h.symm
theorem ni:∀ {vs:List Value} {ss:List Str},StrsAre vs ss→∀ (i:Nat) (v:Value),vs[i]? = some v→∃ t,v = .str (ss.getD i "") t
 | _,_,.nil,i,v,h=>by simp at h
 | _,_,.cons n t hr,0,v,h=>by simp at h; exact⟨t,by rw[← h]; rfl⟩
 | _,_,.cons n t hr,i+1,v,h=>by
  simp only[List.getElem?_cons_succ]at h
  obtain⟨t',e⟩:=ni hr i v h
  exact⟨t',by rw[e]; rfl⟩
theorem jD(prog:Program)(w:World)(x:Str)(t:Tok):(strKind prog w).is x (.str x t)=true:=by
 show Value.isStrOf x (.str x t)=true
 simp[Value.isStrOf]
section
variable{prog:Program}{w:World}{A:Around}{R:Result→Shared→Prop}{I:Addr}{fp wr:List Addr}{Gm:Array GenState→Array GenState→Prop}{n:Nat}{P:Nat→Value→Prop}{St:Nat→Shared→Prop}{L:Bool}
theorem qR(W:WalksS prog w A.in1 I fp wr Gm n P St)(S:Addr)(hSf:S∉fp)(val:Nat→Str)(hval:∀ i v,P i v→∃ t,v = .str (val i) t)(hb:n+1<scanBound) :
  ∀ (k i:Nat) (s:Shared),n - i=k→i≤n→St i s→SetG (strKind prog w) (aT L) s.heap S (fun k'=>(eK val i).any (· == k')) (eK val i).length→
   (∀ s',Moved (S::wr) Gm s s'→SetG (strKind prog w) (aT L) s'.heap S (fun k'=>(eK val n).any (· == k')) (eK val n).length→R (.ok (.ret .none)) s')→
   codeAny (model prog w) A (.builtin "set.update.loop" ⟨[.ref S,.ref I],[]⟩) R s:=by
 have hSw:S∉wr:=fun h=>hSf (W.sub _ h)
 have hsub:∀ b∈wr,b∈S::wr:=fun b hb=>List.mem_cons_of_mem _ hb
 intro k
 induction k with
 | zero=>
  intro i s hk hi hst hS hR
  have hin:i=n:=by omega
  subst hin;refine codeAny_builtin F.entry_set_update_loop ?_
  rw[Around.under_plainId F.plain_set_update_loop _];show wpAny _ A.in1 (pyNext (.ref I) >>= _) _ _ s
  refine wpAny_bind (W.done s _ _ hst fun s' hm=>?_)
  show wpAny _ A.in1 (ret Value.none) _ _ s'
  exact wpAny_pure (hR s' (hm.mono hsub) (hS.at' (fun o e=>hm.heap S _ hSw e) (fun _=>rfl) rfl))
 | succ k ih=>
  intro i s hk hi hst hS hR
  have hlt:i<n:=by omega
  refine codeAny_builtin F.entry_set_update_loop ?_
  rw[Around.under_plainId F.plain_set_update_loop _];show wpAny _ A.in1 (pyNext (.ref I) >>= _) _ _ s
  refine wpAny_bind (W.item i s _ _ hlt hst fun v s' hP hst' hm=>?_)
  obtain⟨t,rfl⟩:=hval i v hP
  have hS':=hS.at' (h':=s'.heap) (fun o e=>hm.heap S _ hSw e) (fun _=>rfl) rfl
  show wpAny _ A.in1 (holding [Value.str (val i) t] (setAdd S (.str (val i) t)) >>= _) _ _ s'
  refine wpAny_bind (wpAny_holding ?_)
  unfold setAdd;refine wpAny_holding ?_
  refine wpAny_bind ((strKind prog w).pyHash (k:=val i) (jD _ _ _ _) ?_)
  have hroom:(eK val i).length+1<scanBound:=by have:=iB val i; omega
  refine vx (G:=aT L) (knd:=strKind prog w) (s:={ s' with toks:=s'.toks+1 }) (fun t es h x g=>iP g es h x) (fun t es m g=>ji g es m) (fun t g=>je g) (jD _ _ _ _) rfl hS' hroom fun h' hsb hS2=>?_
  have hSi:=hS2.at' (h':=h') (fun o e=>e) (S':=fun k'=>(eK val (i+1)).any (· == k')) (m':=(eK val (i+1)).length) (fun k'=>by rw[gT,km]) (by rw[gT,oP])
  refine wpAny_pure ⟨plainId_quiet F.plain_set_update_loop _,ih (i+1) _ (by omega) hlt (W.frame _ s' _ _ hst' (Nat.le_succ _) fun b hb o e=>?_) hSi fun s'' hm'' hS''=>?_⟩
  ·rw[hsb.2 b (fun h:b=S=>hSf (by rw[← h]; exact hb))]; exact e
  ·refine hR s'' (Moved.trans W.gtrans ((hm.mono hsub).then_heap (Nat.le_succ _) fun b o hb e=>?_) hm'') hS''
   rw[hsb.2 b (fun h:b=S=>hb (by rw[h]; exact List.mem_cons_self))]; exact e
end
section
variable{prog:Program}{w:World}{A:Around}{E:Value→Shared→Prop}{s:Shared}
theorem kd{l:Addr}{items:Array Value}{ns:List Str}{Q:Value→Shared→Prop}(hh:A.handled=none)(hl:s.heap.IsList l items)(hi:StrsAre items.toList ns)(hb:items.size+1<scanBound)
  (h:∀ (h':Heap) (tk:Nat),SetG (strKind prog w) (aT (aQ w)) h' s.heap.objs.size (fun k'=>(eK (fun i=>ns.getD i "") items.size).any (· == k')) (eK (fun i=>ns.getD i "") items.size).length→
   (∀ b o,b<s.heap.objs.size→s.heap.get? b=some o→h'.get? b=some o)→Q (.ref s.heap.objs.size) { s with heap:=h',toks:=tk }) :
  wpAny (model prog w) A (call (.type "set") [.ref l]) Q E s:=by
 obtain⟨c,tl,hmro⟩:=F.called_set.mro
 have hmade:=F.called_set.made;have hsub:=F.called_set.sub;refine wpAny_call (codeAny_of_tree ?_)
 show wpAny _ _ (callAny (.type "set") _) _ _ _
 refine wpAny_pure ⟨Code.quiet_builtin _ (by decide +kernel),codeAny_builtin F.entry_type_call ?_⟩
 rw[Around.under_plain (weight_type_call_type "set" [.ref l] []) rfl];have h1:=F.called_set.notType;have h2:=F.called_set.canCreate;have hct:=F.typeCall_set_1 (.ref l)
 repeat (any_goals (first | assumption | wp_step))
 refine codeAny_mono (rN (.ref l) (E:=E) (Q₁:=fun obj s₁=>obj = .ref s.heap.objs.size∧s₁={ s with heap:=s.heap.push { cls:=.type "set", dict:=none,data:=.set #[] 0 (.fresh 0 0 (aQ w)) } }) ⟨rfl,rfl⟩) fun r s₁ hr=>?_
 cases r with
 | error e=>exact hr
 | ok fl=>
  cases fl with
  | ret obj=>
   obtain⟨rfl,rfl⟩:=hr
   have hS:(s.heap.push { cls:=.type "set", dict:=none,data:=.set #[] 0 (.fresh 0 0 (aQ w)) }).get? s.heap.objs.size=some { cls:=.type "set", dict:=none,data:=.set #[] 0 (.fresh 0 0 (aQ w)) }:=Heap.get?_push_size _ rfl
   have hT:Shared.TypeIs { s with heap:=s.heap.push { cls:=.type "set", dict:=none,data:=.set #[] 0 (.fresh 0 0 (aQ w)) } } (.ref s.heap.objs.size) "set" := ⟨_,hS,rfl⟩
   have hli:=F.called_set.init.lookup;have hbi:=F.called_set.init.bind (.ref s.heap.objs.size)
   repeat (any_goals (first | assumption | wp_step))
   refine codeAny_mono (codeAny_call_builtin (R:=wants (fun r s₂=>r = .none∧∃ h' tk,s₂={ s with heap:=h',toks:=tk }∧
     SetG (strKind prog w) (aT (aQ w)) h' s.heap.objs.size (fun k'=>(eK (fun i=>ns.getD i "") items.size).any (· == k')) (eK (fun i=>ns.getD i "") items.size).length∧
     (∀ b o,b<s.heap.objs.size→s.heap.get? b=some o→h'.get? b=some o)) E) F.called_set.init.plain F.entry_set_init (check_set_init_1 hT ?_)) fun r₂ s₂ hr₂=>?_
   ·obtain⟨ol,hol,hcl,nl,hdl⟩:=hl
    obtain⟨ocls,odict,odata,oslots⟩:=ol
    simp only at hcl hdl
    subst hcl; subst hdl
    have hol':(s.heap.push { cls:=.type "set", dict:=none,data:=.set #[] 0 (.fresh 0 0 (aQ w)) }).get? l=some { cls:=.type "list", dict:=odict,data:=.seq items nl,slots:=oslots }:=Heap.get?_push_of_some _ hol
    have hsls:=F.sub_list_set;have hslf:=F.sub_list_frozenset;have hne:(Value.type "list" == Value.type "dict")=false:=by decide
    have hl1:(s.heap.push { cls:=.type "set", dict:=none,data:=.set #[] 0 (.fresh 0 0 (aQ w)) }).IsList l items:=⟨_,hol',rfl,nl,rfl⟩
    unfold Builtin.«set.__init__» noKeywords Builtin.Frozenset.updateFrom
    generalize hPI:pyIter=PI
    wp_walk
    subst hPI;refine wpAny_pyIter_list hl1 ?_
    refine wpAny_bind (wpAny_runValue ?_)
    have hlS:l<s.heap.objs.size:=Heap.lt_size hol
    have hh3:A.in1.in1.in1.handled=none:=by simp[hh]
    have hneI:l≠(s.heap.push { cls:=.type "set", dict:=none,data:=.set #[] 0 (.fresh 0 0 (aQ w)) }).objs.size:=by
     rw[Heap.size_push]; exact Nat.ne_of_lt (Nat.lt_succ_of_lt hlS)
    have hSf:s.heap.objs.size∉[(s.heap.push { cls:=.type "set", dict:=none,data:=.set #[] 0 (.fresh 0 0 (aQ w)) }).objs.size,l]:=by
     rw[Heap.size_push]; simp only[List.mem_cons,List.mem_singleton,List.not_mem_nil,or_false,not_or]
     exact⟨Nat.ne_of_lt (Nat.lt_succ_self _),Nat.ne_of_gt hlS⟩
    have hval:∀ (i:Nat) (v:Value),items[i]? = some v→∃ t,v = .str ((fun i=>ns.getD i "") i) t:=fun i v hv=>ni hi i v (by rw[Array.getElem?_toList]; exact hv)
    refine qR (L:=aQ w) ((Walks.list hh3 _ l hneI items).toS) s.heap.objs.size hSf (fun i=>ns.getD i "") hval hb (items.size - 0) 0 _ (by omega) (Nat.zero_le _) ⟨⟨_,Heap.get?_push_size _ rfl,rfl,rfl⟩,(hl1.push _)⟩ ?hS0 ?hR
    case hS0=>
     refine⟨{ cls:=.type "set", dict:=none,data:=.set #[] 0 (.fresh 0 0 (aQ w)) },#[],0,.fresh 0 0 (aQ w),Heap.get?_push_of_some _ hS,?_⟩
     exact⟨⟨rfl,rfl,rfl⟩,rfl,fun e he=>by simp at he,fun k=>by simp[lb],by decide,rfl,rfl,⟨rfl,fun a b ha=>absurd ha (Nat.not_lt_zero _)⟩,List.Pairwise.nil⟩
    case hR=>
     intro s' hm hS'
     obtain⟨h',g',d',tk',os'⟩:=s'
     have eg:g'=s.gens:=hm.gens
     have ed:d'=s.drawn:=hm.drawn
     have eo:os'=s.os:=hm.os
     subst eg; subst ed; subst eo
     show wpAny _ _ _ _ _ _
     refine wpAny_pure ?_
     show wpAny _ _ (ret Value.none) _ _ _
     refine wpAny_pure ⟨rfl,h',tk',rfl,hS',fun b o hb e=>?_⟩
     have hb1:b≠s.heap.objs.size:=Nat.ne_of_lt hb
     have hb2:b≠(s.heap.push { cls:=.type "set", dict:=none,data:=.set #[] 0 (.fresh 0 0 (aQ w)) }).objs.size:=by
      rw[Heap.size_push]; exact Nat.ne_of_lt (Nat.lt_succ_of_lt hb)
     exact hm.heap b o (by simp only[List.mem_cons,List.mem_singleton,List.not_mem_nil,or_false,not_or]; exact⟨hb1,hb2⟩) (Heap.get?_push_of_some _ (Heap.get?_push_of_some _ e))
   ·cases r₂ with
    | error e=>exact hr₂
    | ok fl₂=>
     cases fl₂ with
     | ret r=>
      obtain⟨rfl,h',tk,rfl,hS',hk'⟩:=hr₂
      repeat (any_goals (first | assumption | wp_step))
      exact h _ _ hS' hk'
     | _=>exact hr₂.elim
  | _=>exact hr.elim
end
def tU(K:PySem.W.Frag)(SO:Addr→List Str→HO):List V→Hp→VK→Prop:=fun xs H Q=>∃ p,∃ ns:List Str,xs=[.ref p]∧SqL K H p (ns.map V.str)∧ns.length≤60∧∀ (l:Addr) (ds:List Str),H l=none→ds.Nodup→(∀ x,x∈ds ↔ x∈ns)→ds.length≤ns.length→Q (.ref l) (upd H l (SO l ds))
def f_(SO:Addr→List Str→HO):List V→Hp→VK→Prop:=fun xs H Q=>∃ p,∃ ds:List Str,xs=[.ref p]∧H p=some (SO p ds)∧ds.length≤60∧∀ (l:Addr) (ts:List Str),H l=none→ts.Perm ds→sortedS ts=true→Q (.ref l) (upd H l (.lst (ts.map V.str)))
def gs(e:Int × Value):Str:=match e.2 with
 | .str d _=>d
 | _ => ""
def yP(w:World)(h:Heap)(a:Addr)(ds:List Str):Prop:=∃ o es ep t,h.get? a=some o∧o.ExactSet∧o.data = .set es ep t∧es.size<scanBound∧t.fits es.size=true∧aT (aQ w) t∧(∀ e∈es.toList,∃ tk,e.2 = .str (gs e) tk)∧es.toList.map gs=ds
def bY(w:World)(a:Addr)(ds:List Str):HO:=.ext fun h=>yP w h a ds
theorem jj{prog:Program}{w:World}{h:Heap}{a:Addr}{S:Str→Bool}{n:Nat}(x:SetG (strKind prog w) (aT (aQ w)) h a S n):∃ ds,yP w h a ds∧ds.Nodup∧(∀ k,k∈ds ↔ S k=true)∧ds.length=n:=by
 obtain⟨o,es,ep,t,ho,T⟩:=x
 have hk:∀ e∈es.toList,∃ tk,e.2 = .str (gs e) tk:=fun e he=>by
  obtain⟨⟨k,hk,_⟩,_⟩:=T.el e he
  obtain⟨tk,e2⟩:=Value.isStrOf_shape hk
  exact⟨tk,by unfold gs; rw[e2]⟩
 have his:∀ e∈es.toList,∀ k,(strKind prog w).is k e.2=true ↔ k=gs e:=fun e he k=>by
  obtain⟨tk,e2⟩:=hk e he
  constructor
  ·intro z
   obtain⟨tk',e3⟩:=Value.isStrOf_shape z
   rw[e3]at e2
   cases e2; rfl
  ·rintro rfl; rw[e2]; exact jD _ _ _ _
 refine⟨es.toList.map gs,⟨o,es,ep,t,ho,T.ex,T.dat,T.few,T.fit,T.good,hk,rfl⟩,?_,fun k=>?_,by rw[List.length_map,Array.length_toList]; exact T.num⟩
 ·refine List.pairwise_map.mpr (List.Pairwise.imp_of_mem (fun {x y} hx hy hab e=>?_) T.apart)
  have h1:=hab (gs x) ((his x hx _).mpr rfl);rw[(his y hy _).mpr e]at h1; cases h1
 ·rw[T.mem,List.mem_map]
  constructor
  ·rintro⟨e,he,rfl⟩; exact⟨e,he,(his e he _).mpr rfl⟩
  ·rintro⟨e,he,z⟩; exact⟨e,he,((his e he _).mp z).symm⟩
section
variable{X:Cx}
theorem oC{m:Nat}(hr:Room m X.A){K:PySem.W.Frag}(hK:X.K=K):CallR X (.type "set") (tU K (bY X.w)):=by
 subst hK;intro pins s σ H xs us Q I r h
 obtain⟨p,ns,rfl,hq,h60,q⟩:=h
 obtain⟨u,rfl,ru⟩:=b0 r
 cases ru;obtain⟨its,rv,pl,hz⟩:=I.list hq
 have hlen:its.length=ns.length:=by rw[← rv.length,List.length_map]
 refine kd (ns:=ns) hr.hd pl.isList (by simpa using gb rv) (by simp only[List.size_toArray]; unfold scanBound; omega) fun h' tk hS hk=>?_
 obtain⟨ds,hg,hnd,hmem,hdl⟩:=jj hS
 obtain⟨o,es,ep,t,ho,hrest⟩:=id hg
 refine⟨.ref s.heap.objs.size,_,I.laid (fun b o e=>hk b o (Heap.lt_size e) e) (Nat.le_refl _) (show ObjOk X.prog X.w _ h' _ (bY X.w s.heap.objs.size ds) from ⟨hg,⟨o,ho⟩,fun h1 h2 g k=>?_⟩),rfl,q _ ds (I.hok.fresh (Nat.le_refl _)) hnd (fun x=>?_) ?_⟩
 ·obtain⟨o,es,ep,t,ho,rest⟩:=g
  exact⟨o,es,ep,t,k o ho,rest⟩
 ·rw[hmem,jx]
  simp only[List.size_toArray,List.any_map,List.any_eq_true,List.mem_range]
  constructor
  ·rintro⟨i,hi,e⟩
   have e':ns.getD i "" = x:=by simpa using e
   rw[← e',List.getD_eq_getElem?_getD,List.getElem?_eq_getElem (by omega)]
   exact List.getElem_mem _
  ·intro hx
   obtain⟨i,hi,e⟩:=List.mem_iff_getElem.mp hx
   exact⟨i,by omega,by simp[List.getD_eq_getElem?_getD,List.getElem?_eq_getElem hi,e]⟩
 ·rw[hdl]
  have:=iB (fun i=>ns.getD i "") its.toArray.size
  simp only[List.size_toArray]at this ⊢
  omega
end
def iC(v:Value):Str:=match v with
 | .str d _=>d
 | _ => ""
theorem m7:∀ (l:List Value),(∀ v∈l,∃ tk,v = .str (iC v) tk)→StrsAre l (l.map iC)
 | [],_=>.nil
 | v::l,h=>by
  obtain⟨tk,e⟩:=h v List.mem_cons_self
  have r:=m7 l fun u hu=>h u (List.mem_cons_of_mem _ hu)
  rw[List.map_cons];generalize iC v=d at e ⊢;subst e;exact .cons d tk r
section
variable{prog:Program}{w:World}{A:Around}{E:Value→Shared→Prop}{s:Shared}
theorem jh{a:Addr}{o:Obj}{es:Array (Int × Value)}{ep:Nat}{t:SetTable}{Q:Value→Shared→Prop}(hh:A.handled=none)(ho:s.heap.get? a=some o)(hx:o.ExactSet)(hd:o.data = .set es ep t)(hf:t.fits es.size=true)(h64:es.size<64)(hg:aT (aQ w) t)
  (hint:∀ e∈es.toList,∃ tk,e.2 = .str (gs e) tk)
  (hQ:∀ h' d' tk q out c ns',(∀ b o,s.heap.get? b=some o→h'.get? b=some o)→s.heap.objs.size≤q→h'.get? q=some (seqObj "list" out c)→StrsAre out.toList ns'→ns'.Perm (es.toList.map gs)→sortedS ns'=true→Q (.ref q) { s with heap:=h',drawn:=d',toks:=tk }) :
  wpAny (model prog w) A (call (.builtin "sorted") [.ref a]) Q E s:=by
 refine Calls.call_function_entry kind_sorted plain_sorted entry_sorted (args_sorted1 _) ?_
 unfold Builtin.«sorted»
 refine wpAny_bind (m:=checkCount "sorted" 1 1 _) (wpAny_pure ?_)
 refine wpAny_bind (oO hh ho hx hd hf (by unfold scanBound; omega) hg fun h' d' tk acc hk hlt hp=>?_)
 have hal:acc.length=es.size:=by rw[hp.length_eq]; simp
 have hI:StrsAre acc (acc.map iC):=m7 acc fun v hv=>by
  obtain⟨e,he,rfl⟩:=List.mem_map.mp (hp.mem_iff.mp hv)
  exact hint e he
 have hperm:(acc.map iC).Perm (es.toList.map gs):=by
  have:=hp.map iC
  rw[List.map_map]at this
  exact this
 refine wpAny_bind (wpAny_newList ?_ (by rw[hal,sizeLine_eq]; omega))
 have hoL:(h'.push (seqObj "list" acc.toArray 0)).get? h'.objs.size=some (seqObj "list" acc.toArray 0):=Heap.get?_push_size _ rfl
 show wpAny _ _ _ _ _ { s with heap:=h'.push (seqObj "list" acc.toArray 0),drawn:=d',toks:=tk }
 refine wpAny_bind (wpAny_holding (wpAny_call_entry slot_list_sort ⟨_,hoL,rfl⟩ entry_list_sort (list_sort_treeK strKind_oneLt hoL hI.keysOf (fun v₁ v₂ rest e=>keyKind_strs (by rw[← e]; exact hI)) (by omega) fun st' b1 b2=>⟨_,rfl,?_⟩) (args_list_sort _)))
 obtain⟨ns',a1,a2,a3⟩:=sorted_out_str hI b1 b2
 generalize (arrOf st').map (·.2)=out at a1 ⊢;obtain⟨c,hc⟩:=sortedHeap_at (out:=out) hoL
 refine wpAny_pure ⟨_,rfl,hQ _ d' tk h'.objs.size out c ns' (fun b o e=>?_) (Nat.le_of_lt hlt) hc a1 (a2.trans hperm) a3⟩
 have hb:=Heap.lt_size (hk b o e);rw[sortedHeap_old (Nat.ne_of_lt hb) (by rw[Heap.size_push]; exact Nat.lt_succ_of_lt hb)]
 exact Heap.get?_push_of_some _ (hk b o e)
end
section
variable{X:Cx}
theorem kz{m:Nat}(hr:Room m X.A):CallR X (.builtin "sorted") (f_ (bY X.w)):=by
 intro pins s σ H xs us Q I r h
 obtain⟨p,ds,rfl,e,h60,q⟩:=h
 obtain⟨u,rfl,ru⟩:=b0 r
 cases ru;obtain⟨o,es,ep,t,ho,hx,hd,hfew,hf,hg,hint,hds⟩:=(show ObjOk X.prog X.w H s.heap p (bY X.w p ds) from I.hok p _ e).1
 have hz:es.size≤60:=by rw[← hds,List.length_map,Array.length_toList]at h60; exact h60
 have hs:sizeLine=16777216:=sizeLine_eq
 refine jh hr.hd ho hx hd hf (by omega) hg hint fun h' d' tk qa out c ns' hk hq hc a1 a2 a3=>?_
 have hl:ns'.length≤60:=by rw[a2.length_eq,List.length_map,Array.length_toList]; exact hz
 have I2:=I.laid (t':=tk) (a:=qa) (o:=.lst (ns'.map V.str)) hk hq (show ObjOk X.prog X.w _ h' _ (.lst (ns'.map V.str)) from ⟨by rw[List.length_map]; omega,out.toList,c,gg a1,by simpa using hc⟩)
 refine⟨.ref qa,_,?_,rfl,q _ ns' (I.hok.fresh hq) (by rw[← hds]; exact a2) a3⟩
 exact⟨I2.ok,I2.os,I2.bare,I2.base,I2.loc,I2.cell,I2.free,I2.freeC,I2.pin,I2.hok,I2.len⟩
theorem gu{m:Nat}(K:PySem.W.Frag)(w:World)(hr:Room m X.A)(hK:X.K=K:=by rfl)(hw:X.w=w:=by rfl):CallR X (.type "set") (tU K (bY w)):=hw ▸ oC hr hK
theorem dI{m:Nat}(w:World)(hr:Room m X.A)(hw:X.w=w:=by rfl):CallR X (.builtin "sorted") (f_ (bY w)):=hw ▸ kz hr
end
section
variable{X:Cx}{c a b:Expr}{tA tB1 tB2:TT}{pos:Pos}
end
end L2
namespace L2
open PySem PySem.Spec PyProof.Rows PySem.SeqAt PySem.Builtin PySem.Builtin.Str PySem.StrLaws
section
variable{X:Cx}
end
end L2
namespace L2
open PySem PySem.Spec PyProof.Rows PySem.SeqAt PySem.Builtin PySem.Builtin.Str PySem.StrLaws
end L2
namespace L2
open PySem PySem.Spec PyProof.Rows
section
variable{X:Cx}
end
end L2
namespace L2
open PySem PySem.Spec PyProof.Rows
abbrev bj:=List (Option Int)
def MO(P:Program)(w:World):HeapKind P w (bj):=yb (nS P w) (show 0≤7 by decide)
def cS(P:Program)(w:World)(a:Addr)(xs:List (bj × Addr × Value)):HO:=
 .ext fun h=>∃ o es ep,h.get? a=some o∧o.ExactDict∧o.data = .dict es ep∧es.toList=xs.map (entryOfKey (MO P w))∧(xs.map (·.1)).Nodup
def KeyO(H:Hp)(k:bj)(b:Addr):Prop:=H b=some (.tup (k.map cT))
def ORow(H:Hp)(p:bj × V)(q:bj × Addr × Value):Prop:=q.1=p.1∧KeyO H p.1 q.2.1∧RelV p.2 q.2.2
def DO(P:Program)(w:World)(H:Hp)(a:Addr)(kvs:List (bj × V)):Prop:=
 ∃ xs,H a=some (cS P w a xs)∧(a == sysModules)=false∧xs.length≤sizeLine∧Paired (ORow H) kvs xs
theorem KeyO.mono{H H':Hp}{k:bj}{b:Addr}(h:KeyO H k b)(sm:∀ c xs,H c=some (.tup xs)→H' c=some (.tup xs)):KeyO H' k b:=by
 exact sm _ _ h
theorem DO.mono{P:Program}{w:World}{H H':Hp}{a:Addr}{kvs:List (bj × V)}(h:DO P w H a kvs)(sm:Same H H'):DO P w H' a kvs:=by
 obtain⟨xs,h1,h2,h3,h4⟩:=h
 exact⟨xs,sm _ _ h1,h2,h3,Paired.imp' (fun p q z=>⟨z.1,z.2.1.mono fun c ys e=>sm _ _ e,z.2.2⟩) h4⟩
section
variable{P:Program}{w:World}{H:Hp}
theorem ORow.val:∀ {kvs:List (bj × V)} {xs:List (bj × Addr × Value)} (k:bj),Paired (ORow H) kvs xs→RelO (aF kvs k) ((atKey xs k).map (·.2))
 | _,_,k,.nil=>True.intro
 | _,_,k,@Paired.cons _ _ _ p q kvs xs r t=>by
  have ih:=ORow.val k t;obtain⟨e1,e2,e3⟩:=r
  by_cases h:p.1=k
  ·have h1:aF (p::kvs) k=some p.2:=by simp[aF,h]
   have h2:atKey (q::xs) k=some q.2:=by simp[atKey,e1,h]
   rw[h1,h2]; exact e3
  ·have hn:¬ q.1=k:=fun z=>h (e1.symm.trans z)
   have h1:aF (p::kvs) k=aF kvs k:=by simp[aF,h]
   have h2:atKey (q::xs) k=atKey xs k:=by simp[atKey,hn]
   rw[h1,h2]; exact ih
end
section
variable{X:Cx}{pins:List (Addr × Obj)}{σ : St}{H:Hp}{s:Shared}{a b:Addr}{k:bj}{kvs:List (bj × V)}
theorem Inv.keyO(I:Inv X pins σ H s)(h:KeyO H k b):(MO X.prog X.w).is s.heap k b:=by
 obtain⟨_,its2,r2,o2,e2,c2,n2,d2⟩ : (k.map cT).length≤sizeLine∧∃ its:List Value,Vals (k.map cT) its∧IsTup s.heap b its.toArray:=by obtain⟨z,its,r,p⟩:=I.hok b _ h; exact⟨z,its,r,p.tup⟩
 exact⟨b,o2,_,n2,rfl,e2,c2,d2,by simpa using h9 r2⟩
theorem Inv.dO(I:Inv X pins σ H s)(h:DO X.prog X.w H a kvs):∃ xs,H a=some (cS X.prog X.w a xs)∧(a == sysModules)=false∧xs.length≤sizeLine∧Paired (ORow H) kvs xs∧s.heap.DictOfH (MO X.prog X.w) a xs:=by
 obtain⟨xs,h1,h2,h3,h4⟩:=h
 obtain⟨⟨o,es,ep,e1,e2,e3,e4,e5⟩,_,_⟩:=I.hok a _ h1
 refine⟨xs,h1,h2,h3,h4,o,es,ep,e1,e2,e3,e4,?_,e5⟩
 have all:∀ {l:List (bj × V)} {m:List (bj × Addr × Value)},Paired (ORow H) l m→∀ x∈m,(MO X.prog X.w).is s.heap x.1 x.2.1:=by
  intro l m r
  induction r with
  | nil=>intro x hx; simp at hx
  | cons r t ih=>
   intro x hx
   rcases List.mem_cons.mp hx with rfl | hx
   ·rw[r.1]; exact I.keyO r.2.1
   ·exact ih x hx
 exact all h4
theorem fV{P:Program}{w:World}{H':Hp}{h':Heap}{xs:List (bj × Addr × Value)}(m:h'.DictOfH (MO P w) a xs):ObjOk P w H' h' a (cS P w a xs):=by
 obtain⟨o,es,ep,e1,e2,e3,e4,_,e5⟩:=m
 exact⟨⟨o,es,ep,e1,e2,e3,e4,e5⟩,⟨o,e1⟩,fun h1 h2 ⟨o,es,ep,q1,q⟩ z=>⟨o,es,ep,z _ q1,q⟩⟩
def nu(P:Program)(w:World):R2:=fun x y H Q=>∃ b a k kvs,x = .ref b∧y = .ref a∧DO P w H a kvs∧KeyO H k b∧Q (.bl (!(aF kvs k).isSome)) H
theorem p6{n:Nat}(hr:Room n X.A):OpR X (compareOp .NotIn) (nu X.prog X.w):=by
 intro pins s σ H x y v u Q I rx ry h
 obtain⟨b,a,k,kvs,rfl,rfl,hd,hk,q⟩:=h
 cases rx
 cases ry;obtain⟨xs,h1,h2,h3,h4,m⟩:=I.dO hd
 refine wpAny_notIn_heap (show (MO X.prog X.w).room X.A.in1 from by show X.A.units+1+1<cLine; have:=hr.un; omega) (I.keyO hk) h2 m ?_
 have e:=(ORow.val k h4).isSome_eq;rw[Option.isSome_map]at e
 rw[← e];exact⟨.bl _,H,I.tok _,rfl,q⟩
def vo(P:Program)(w:World):R2:=fun x y H Q=>∃ a b k kvs v,x = .ref a∧y = .ref b∧DO P w H a kvs∧KeyO H k b∧aF kvs k=some v∧Q v H
theorem Az{n:Nat}(hr:Room n X.A):IxR X (vo X.prog X.w):=by
 intro value slice pins s σ H x y v u Q I rx ry h hs
 obtain⟨a,b,k,kvs,z,rfl,rfl,hd,hk,hv,q⟩:=h
 cases rx
 cases ry;obtain⟨xs,h1,h2,h3,h4,m⟩:=I.dO hd
 obtain⟨w',hw,rw'⟩:=RelO.some_of (v:=z) (o:=(atKey xs k).map (·.2)) (by rw[← hv]; exact ORow.val k h4)
 obtain⟨p,hp,hp2⟩:=Option.map_eq_some_iff.mp hw
 have hl:typeLookup (.type "dict") "__getitem__" = pure (some (.builtin "dict.__getitem__")):=PySem.F.slot_dict_getitem.lookup
 refine subscriptTail_builtinR (x:=w') m.typeIs hl ?_ hs
 refine wpAny_getItem_heap (show (MO X.prog X.w).room X.A.in1 from by show X.A.units+1+1<cLine; have:=hr.un; omega) (I.keyO hk) m hp ?_
 rw[hp2];exact⟨rfl,z,H,I.tok _,rw',q⟩
def uk(P:Program)(w:World):ij:=fun o i v H Q=>∃ a b k kvs,o = .ref a∧i = .ref b∧DO P w H a kvs∧KeyO H k b∧aF kvs k=none∧kvs.length<sizeLine∧∀ u,DO P w (upd H a u) a (kvs++[(k,v)])→Q (upd H a u)
theorem ub{n:Nat}(hr:Room n X.A):PSet X (uk X.prog X.w):=by
 intro pins s σ H o i v ov iv u Q I ro ri rv h
 obtain⟨a,b,k,kvs,rfl,rfl,hd,hk,hv,hl,q⟩:=h
 cases ro
 cases ri;obtain⟨xs,h1,h2,h3,h4,m⟩:=I.dO hd
 have hx:atKey xs k=none:=by
  have e:=ORow.val k h4;rw[hv]at e
  cases hq:atKey xs k with
  | none=>rfl
  | some p=>rw[hq]at e; exact e.elim
 refine wpAny_setItem_heap (hsz:=h3) (show (MO X.prog X.w).room X.A.in1 from by show X.A.units+1+1<cLine; have:=hr.un; omega) (I.keyO hk) m fun h' m' hs=>?_
 rw[storedH_new hx]at m'
 have keep:∀ c ys,H c=some (.tup ys)→upd H a (cS X.prog X.w a (xs++[(k,b,u)])) c=some (.tup ys):=fun c ys e=>by
  rw[al (kH e h1 (fun z=>nomatch z))]; exact e
 refine⟨upd H a (cS X.prog X.w a (xs++[(k,b,u)])),dC I (by rw[h1]; exact True.intro) hs (let ⟨o,_,_,e,_⟩:=m'; ⟨o,e⟩) (fV m'),q _ ⟨_,ae,h2,?_,?_⟩⟩
 ·rw[List.length_append,← Paired.length h4]
  show kvs.length+1≤sizeLine
  omega
 ·exact Paired.snoc ⟨rfl,hk.mono keep,rv⟩ (Paired.imp' (fun p q z=>⟨z.1,z.2.1.mono keep,z.2.2⟩) h4)
def lz(P:Program)(w:World):TE:=fun _ H Q=>∀ p,H p=none→∀ u,DO P w (upd H p u) p []→Q (.ref p) (upd H p u)
theorem qV{pos:Pos}:PE X (.Dict [] [] pos) (lz X.prog X.w):=fun pins s σ H Q I h=>by
 have hm:(s.heap.push { cls:=.type "dict", data:=.dict #[] }).DictOfH (MO X.prog X.w) s.heap.objs.size []:=⟨_,#[],0,Heap.get?_push_size _ rfl,⟨rfl,rfl,rfl⟩,rfl,rfl,(fun x hx=>by simp at hx),List.nodup_nil⟩
 exact wpAny_Dict_empty ⟨.ref s.heap.objs.size,_,I.laid (a:=s.heap.objs.size) (o:=cS X.prog X.w s.heap.objs.size []) (t':=s.toks) (fun _ _ q=>Heap.get?_push_of_some _ q) (Nat.le_refl _) (fV hm),rfl,
  h _ (I.hok.fresh (Nat.le_refl _)) _ ⟨[],ae,beq_eq_false_iff_ne.mpr (Ne.symm (Nat.ne_of_lt I.big)),Nat.zero_le _,.nil⟩⟩
def wL(P:Program)(w:World):R2:=fun x y H Q=>∃ b a k kvs,x = .ref b∧y = .ref a∧DO P w H a kvs∧KeyO H k b∧Q (.bl (aF kvs k).isSome) H
theorem vM{n:Nat}(hr:Room n X.A):OpR X (compareOp .In) (wL X.prog X.w):=by
 intro pins s σ H x y v u Q I rx ry h
 obtain⟨b,a,k,kvs,rfl,rfl,hd,hk,q⟩:=h
 cases rx
 cases ry;obtain⟨xs,h1,h2,h3,h4,m⟩:=I.dO hd
 refine wpAny_in_heap (show (MO X.prog X.w).room X.A.in1 from by show X.A.units+1+1<cLine; have:=hr.un; omega) (I.keyO hk) h2 m ?_
 have e:=(ORow.val k h4).isSome_eq;rw[Option.isSome_map]at e
 rw[← e];exact⟨.bl _,H,I.tok _,rfl,q⟩
def mO(P:Program)(w:World)(tk tv:TE):TE:=fun σ H Q=>∀ p,H p=none→∀ u,DO P w (upd H p u) p []→tk σ (upd H p u) fun y H1=>tv σ H1 fun z H2=>∃ b k,y = .ref b∧KeyO H2 k b∧DO P w H2 p []∧∀ u',DO P w (upd H2 p u') p [(k,z)]→Q (.ref p) (upd H2 p u')
theorem oX{n:Nat}(hr:Room n X.A){ek ev:Expr}{tk tv:TE}{pos:Pos}(hk:PE X ek tk)(hv:PE X ev tv):PE X (.Dict [some ek] [ev] pos) (mO X.prog X.w tk tv):=by
 intro pins s σ H Q I q
 have hn:=I.hok.fresh (Nat.le_refl s.heap.objs.size);have hm:(s.heap.push { cls:=.type "dict", data:=.dict #[] }).DictOfH (MO X.prog X.w) s.heap.objs.size []:=⟨_,#[],0,Heap.get?_push_size _ rfl,⟨rfl,rfl,rfl⟩,rfl,rfl,(fun x hx=>by simp at hx),List.nodup_nil⟩
 have I1:=I.laid (a:=s.heap.objs.size) (o:=cS X.prog X.w s.heap.objs.size []) (t':=s.toks) (fun _ _ q=>Heap.get?_push_of_some _ q) (Nat.le_refl _) (fV hm)
 have hD:DO X.prog X.w (upd H s.heap.objs.size (cS X.prog X.w s.heap.objs.size [])) s.heap.objs.size []:=⟨[],ae,beq_eq_false_iff_ne.mpr (Ne.symm (Nat.ne_of_lt I.big)),Nat.zero_le _,.nil⟩
 refine wpAny_Dict_any rfl rfl (by simp) (by simp) (pairTrees_cons_walk (aL (hk pins _ σ _ _ I1 (q _ hn _ hD)) fun u s1 ⟨x,H1,I1',rx,q1⟩=>aL (hv pins s1 σ H1 _ I1' q1) fun w2 s2 ⟨y,H2,I2,ry,b,k,ex,kk,d2,q2⟩=>pairTrees_nil_walk ?_))
 subst ex;obtain rfl:u=Value.ref b:=rx
 obtain⟨xs,h1,h2,h3,h4,m⟩:=I2.dO d2
 cases h4;unfold storeAll;rw[List.forIn_cons];refine wpAny_bind (wpAny_bind (wpAny_dictSet_heap (knd:=MO X.prog X.w) (k:=k) (xs:=[]) (hsz:=Nat.zero_le _) (show (MO X.prog X.w).room X.A from by show X.A.units+1<cLine; have:=hr.un; omega) (I2.keyO kk) m fun h' m' hs=>wpAny_pure ?_))
 dsimp only
 rw[List.forIn_nil];refine wpAny_pure ?_
 have keep:∀ c ys,H2 c=some (.tup ys)→upd H2 s.heap.objs.size (cS X.prog X.w s.heap.objs.size [(k,b,w2)]) c=some (.tup ys):=fun c ys e=>by
  rw[al (kH e h1 (fun z=>nomatch z))]; exact e
 have m2:h'.DictOfH (MO X.prog X.w) s.heap.objs.size [(k,b,w2)]:=m'
 exact⟨.ref s.heap.objs.size,upd H2 s.heap.objs.size (cS X.prog X.w s.heap.objs.size [(k,b,w2)]),dC I2 (by rw[h1]; exact True.intro) hs (let ⟨o,_,_,e,_⟩:=m2; ⟨o,e⟩) (fV m2),rfl,q2 _ ⟨_,ae,h2,by rw[sizeLine_eq]; simp,.cons ⟨rfl,kk.mono keep,ry⟩ .nil⟩⟩
end
end L2
namespace L2
open PySem PySem.Spec PyProof.Rows
section
variable{X:Cx}{E:XK}{x:Str}{C:Addr}{bmB:List Value}{B newId initId:String}{np cpos pos:Pos}{e:Expr}{es:List Expr}{t:TA}
end
section
variable{P:Program}{w:World}{K:PySem.W.Frag}{mg:Str→Option Value}{base:Heap}
end
section
variable{X:Cx}
end
section
variable{X:Cx}{Ee:XK}
end
section
variable{X:Cx}{pins:List (Addr × Obj)}{σ : St}{H:Hp}{s:Shared}
end
section
variable{X:Cx}{x n:Str}{C:Addr}{bmB:List Value}{B newId initId:String}{np hp pos:Pos}{body suite:List Stmt}{b₀ : Stmt}{tb:XK→TS}{th:TS}{rest:List ExceptHandler}
end
end L2
namespace L2
open PySem PySem.Spec PyProof.Rows
section
variable{prog:Program}{w:World}{A:Around}{E:Value→Shared→Prop}{h:Heap}{g:Array GenState}{d:Drawn}{t:Nat}{os:OsState}{a:Addr}{o:Obj}{K:PySem.W.Frag}
 {x:Str} {C:Addr} {bmB:List Value} {B newId:String} {mg:Str→Option Value}
end
section
variable{X:Cx}
end
end L2
namespace L2
open PySem PySem.Spec PyProof.Rows
section
variable{P:Program}{w:World}{K:PySem.W.Frag}{mg:Str→Option Value}{base:Heap}
end
section
variable{X:Cx}
end
section
variable{X:Cx}{E:XK}{x n:Str}{C:Addr}{np cpos hp pos:Pos}{e:Expr}{es body suite:List Stmt}{b₀ : Stmt}{t:TA}{tb:XK→TS}{th:TS}{rest:List ExceptHandler}
end
section
variable{X:Cx}{x:Str}{C:Addr}{np hp pos:Pos}{body suite:List Stmt}{b₀ : Stmt}{tb:XK→TS}{th:TS}{rest:List ExceptHandler}
end
end L2
namespace L2
open PySem PySem.Spec PyProof PyProof.Rows
section
variable{K:PySem.W.Frag}{a b:Addr}{xs ys:List V}{g:TG}{te:TE}{nT:Nat}{σ : St}{D:Addr}{Q:VK}{H:Hp}
end
section
variable{prog:Program}{w:World}{A:Around}{E:Value→Shared→Prop}{s:Shared}
theorem ql:typeLookup (.type "list_reverseiterator") "__len__" = pure none:=by rw[typeLookup_type,builtinLookup_eq_fast]; kernel_rfl
theorem tm:typeLookup (.type "list_reverseiterator") "__length_hint__" = pure (some (.builtin "list_reverseiterator.__length_hint__")):=by rw[typeLookup_type,builtinLookup_eq_fast]; kernel_rfl
theorem q0{v l:Addr}{i:Int}{Q:Bool→Shared→Prop}(hv:s.heap.IsRevIter v l i)(h:Q false s):wpAny (model prog w) A (Builtin.List.listLengthHint (.ref v)) Q E s:=by
 unfold Builtin.List.listLengthHint;refine wpAny_bind (wpAny_specialOf hv.typeIs ql ?_)
 wp_delta
 refine wpAny_ite_split (fun hab=>absurd hab (by decide +kernel)) (fun _=>?_)
 refine wpAny_ite_split (fun hab=>absurd hab (by decide)) (fun _=>?_)
 refine wpAny_bind (wpAny_specialOf hv.typeIs tm ?_)
 generalize hid:("list_reverseiterator.__length_hint__" : String)=id0
 wp_delta
 rw[show splitId id0=some ("list_reverseiterator", "__length_hint__") from by subst hid; decide +kernel]
 subst hid;refine wpAny_bind (wpAny_isInstance (T := "list_reverseiterator") (b:=true) hv.typeIs (by rw[isSubtype_type]; kernel_rfl) ?_)
 refine wpAny_ite_split (fun hab=>absurd hab (by decide)) (fun _=>?_)
 refine wpAny_ite_split (fun _=>?_) (fun hab=>absurd (by decide +kernel) hab)
 refine wpAny_ite_split (fun hab=>absurd hab (by decide +kernel)) (fun _=>?_)
 exact wpAny_pure h
theorem oN{R:Result→Shared→Prop}{v l:Addr}{items:Array Value}(hh:A.handled=none)(hv:s.heap.IsRevIter v l ((items.size:Int) - 1))(hm:s.heap.IsList l items)(hvl:l≠v)(hlen:items.size≤2 ^ 20)
  (S:Addr) (res:Value) (c₀ : Nat) (hS:s.heap.get? S=some { cls:=.type "list", data:=.seq #[] c₀ }) (hSv:S≠v) (hSl:S≠l)
  (hR:∀ h' tk acc' c',(∀ b o,b≠S→b≠v→s.heap.get? b=some o→h'.get? b=some o)→h'.get? S=some { cls:=.type "list", dict:=none,data:=.seq acc' c',slots:=#[] }→
   ItemsOf (fun i x=>items[items.size - 1 - i]? = some x) acc' items.size→R (.ok (.ret res)) { s with heap:=h',toks:=tk }) :
  wpAny (model prog w) A.in1 (Builtin.List.listExtendWith (.ref S) (.ref v) res)
   (fun fin s'=>match fin with | .done f=>R (.ok f) s' | .again c'=>c'.quiet=true∧codeAny (model prog w) A c' R s') (fun e s'=>R (.error e) s') s:=by
 have hSf:S∉[v,l]:=fun hm=>by
  rcases List.mem_cons.mp hm with e | e
  ·exact hSv e
  ·exact hSl (List.mem_singleton.mp e)
 have W:=(Walks.listRev (prog:=prog) (w:=w) (A:=A.in1) hh v l hvl items).toS;unfold Builtin.List.listExtendWith;refine wpAny_bind (wpAny_typeOf hv.typeIs ?_)
 have h1:Builtin.List.listSameRef (.ref S) (.ref v)=false:=by simp[Builtin.List.listSameRef,hSv]
 have h2:(Value.type "list_reverseiterator" == Value.type "list")=false:=by decide
 have h3:(Value.type "list_reverseiterator" == Value.type "tuple")=false:=by decide
 simp only[h1,h2,h3,Bool.or_false,Bool.false_eq_true,if_false]
 refine wpAny_bind (wpAny_pyIter_revIter hv ?_)
 refine wpAny_bind (wpAny_holding (q0 hv ?_))
 have key:∀ (h:Heap) (c₁ tk:Nat),h.IsRevIter v l ((items.size:Int) - 1)→h.IsList l items→(∀ b o,b≠S→s.heap.get? b=some o→h.get? b=some o)→
   h.get? S=some { cls:=.type "list", data:=.seq #[] c₁ }→codeAny (model prog w) A (.builtin "list.extend.loop" ⟨[.ref S,.ref v,res],[]⟩) R { s with heap:=h,toks:=tk }:=by
  intro h c₁ tk hit hm' hk hS₁
  refine codeAny_extend_loopS W (by rw[sizeLine_eq]; omega) S hSf res items.size 0 _ #[] c₁ rfl (Nat.zero_le _) ⟨Nat.zero_le _,by simpa using hit,hm'⟩ hS₁ (ItemsOf.nil _) fun s' acc' c' hmv hS' hacc=>?_
  rw[Moved.eq_with hmv];refine hR s'.heap s'.toks acc' c' (fun b o hb hbv e=>hmv.heap b o (fun hmem=>?_) (hk b o hb e)) hS' hacc
  rcases List.mem_cons.mp hmem with e' | hmem
  ·exact hb e'
  ·exact hbv (List.mem_singleton.mp hmem)
 refine wpAny_ite_split (fun hab=>absurd hab (by decide +kernel)) (fun _=>?_)
 exact wpAny_pure ⟨plainId_quiet F.plain_extend_loop _,key _ _ _ hv hm (fun b o _ e=>e) hS⟩
theorem kA{R:Result→Shared→Prop}{v l:Addr}{items:Array Value}(hh:A.handled=none)(hv:s.heap.IsRevIter v l ((items.size:Int) - 1))(hm:s.heap.IsList l items)(hvl:l≠v)(hlen:items.size≤2 ^ 20)(S:Addr)(hS:s.heap.get? S=some { cls:=.type "list", data:=.seq #[] }) (hSv:S≠v) (hSl:S≠l)
  (hR:∀ h' tk acc' c',(∀ b o,b≠S→b≠v→s.heap.get? b=some o→h'.get? b=some o)→h'.get? S=some { cls:=.type "list", dict:=none,data:=.seq acc' c',slots:=#[] }→
   ItemsOf (fun i x=>items[items.size - 1 - i]? = some x) acc' items.size→R (.ok (.ret .none)) { s with heap:=h',toks:=tk }) :
  wpAny (model prog w) A.in1 (Builtin.«list.__init__» ⟨[.ref S,.ref v],[]⟩)
   (fun fin s'=>match fin with | .done f=>R (.ok f) s' | .again c'=>c'.quiet=true∧codeAny (model prog w) A c' R s') (fun e s'=>R (.error e) s') s:=by
 show wpAny _ _ (do let old ← Builtin.List.listItems (.ref S); Builtin.List.listUpdate (.ref S) (fun _=>#[]); letGo old.toList.reverse; Builtin.List.listExtendWith (.ref S) (.ref v) .none) _ _ s
 refine wpAny_bind ?_
 unfold Builtin.List.listItems;refine wpAny_bind (wpAny_seqItems hS rfl (wpAny_pure ?_))
 show wpAny _ _ (updateSeq S (fun _=>#[]) >>= fun _=>letGo (#[]:Array Value).toList.reverse >>= fun _=>Builtin.List.listExtendWith (.ref S) (.ref v) .none) _ _ s
 refine wpAny_bind (wpAny_updateSeq hS rfl ?_)
 have hS₂:=Heap.get?_update_self (Obj.mapSeq (fun _=>(#[]:Array Value))) hS rfl
 have oth:∀ b o,b≠S→s.heap.get? b=some o→(s.heap.update S (Obj.mapSeq (fun _=>(#[]:Array Value)))).get? b=some o:=
  fun b o hb e=>(Heap.get?_update_other _ _ (Ne.symm hb)).trans e
 refine wpAny_bind (wpAny_letGo ?_)
 refine oN hh (hv.at fun o e=>oth v o (Ne.symm hSv) e) (hm.at fun o e=>oth l o (Ne.symm hSl) e) hvl hlen S .none _ hS₂ hSv hSl fun h' tk acc' c' hk hS' hacc=>?_
 exact hR h' tk acc' c' (fun b o hb hbv e=>hk b o hb hbv (oth b o hb e)) hS' hacc
theorem kC{Q:Value→Shared→Prop}{v l:Addr}{items:Array Value}(hh:A.handled=none)(hv:s.heap.IsRevIter v l ((items.size:Int) - 1))(hm:s.heap.IsList l items)(hvl:l≠v)(hlen:items.size≤2 ^ 20)
  (hQ:∀ h' tk acc' c',(∀ b o,b≠v→s.heap.get? b=some o→h'.get? b=some o)→
   h'.get? s.heap.objs.size=some { cls:=.type "list", dict:=none,data:=.seq acc' c',slots:=#[] }→ItemsOf (fun i x=>items[items.size - 1 - i]? = some x) acc' items.size→Q (.ref s.heap.objs.size) { s with heap:=h',toks:=tk }) :
  wpAny (model prog w) A (call (.type "list") [.ref v]) Q E s:=by
 obtain⟨ov,hov,hcv,hdv⟩:=id hv
 obtain⟨ol,hol,_⟩:=id hm
 refine callType_codes (Q₁:=fun obj s₁=>obj = .ref s.heap.objs.size∧s₁={ s with heap:=s.heap.push { cls:=.type "list", data:=.seq #[] } }) F.called_list (F.typeCall_list_1 _) F.entry_list_init
  (code_list_new _ ⟨rfl,rfl⟩) fun obj s₁ h₁=>?_
 obtain⟨rfl,rfl⟩:=h₁
 have hS:(s.heap.push { cls:=.type "list", data:=.seq #[] }).get? s.heap.objs.size=some { cls:=.type "list", data:=.seq #[] }:=Heap.get?_push_size _ rfl
 refine⟨⟨_,hS,rfl⟩,F.args_list_init_2 _ _,kA (A:=A.in1) hh (hv.at fun o e=>Heap.get?_push_of_some _ e) (hm.at fun o e=>Heap.get?_push_of_some _ e) hvl hlen _ hS (Nat.ne_of_gt (Heap.lt_size hov)) (Nat.ne_of_gt (Heap.lt_size hol)) fun h' tk acc' c' hk hS' hacc=>?_⟩
 exact⟨rfl,hQ h' tk acc' c' (fun b o hbv e=>hk b o (Nat.ne_of_lt (Heap.lt_size e)) hbv (Heap.get?_push_of_some _ e)) hS' hacc⟩
end
def tH(K:PySem.W.Frag)(ta:TA):TE:=fun σ H Q=>ta σ H fun vs H1=>∃ a:Addr,vs=[.ref a]∧∃ xs,SqL K H1 a xs∧xs.length≤60000∧∀ p,H1 p=none→Q (.ref p) (upd H1 p (.lst xs.reverse))
theorem sX(K:PySem.W.Frag)(ta:TA){σ : St}{H:Hp}{Q:VK}:tH K ta σ H Q=ta σ H fun vs H1=>∃ a:Addr,vs=[.ref a]∧∃ xs,SqL K H1 a xs∧xs.length≤60000∧∀ p,H1 p=none→Q (.ref p) (upd H1 p (.lst xs.reverse)):=rfl
theorem oy(K:PySem.W.Frag){X:Cx}{m:Nat}{a:Expr}{ta:TA}{p p2 pos pos2:Pos}(hr:Room m X.A)(hg:Gl X "list") (hm:X.mg "list" = none) (hg2:Gl X "reversed") (hm2:X.mg "reversed" = none) (ha:PA X [a] ta)
  (hs:starEach [a] X.env=[(false,eval a X.env)]:=by rfl) (hs2:starEach [.Call (.Name "reversed" p2) [a] [] pos2] X.env=[(false,eval (.Call (.Name "reversed" p2) [a] [] pos2) X.env)]:=by rfl) (hK:X.K=K:=by rfl) :
  PE X (.Call (.Name "list" p) [.Call (.Name "reversed" p2) [a] [] pos2] [] pos) (tH K ta):=by
 subst hK;intro pins s σ H Q I h
 refine Call_ (cr I hg hm cw (PyProof.Rows.callWith_type1 ?_ hs2 rfl))
 rw[hs2];show wpAny _ _ (spliced ((false,eval (.Call (.Name "reversed" p2) [a] [] pos2) X.env)::[])) _ _ s
 refine Calls.spliced_cons ?_
 refine Call_ (cr I hg2 hm2 ia (PyProof.Rows.callWith_type1 (aL (ha pos2 pins s σ H _ I h) fun us s1 ⟨vs,H1,I1,r1,q1⟩=>?_) hs rfl))
 obtain⟨l,e,xs,h1,hz,q⟩:=q1
 subst e;obtain⟨u1,rfl,r1'⟩:=b0 r1
 obtain rfl:u1=Value.ref l:=r1'
 obtain⟨its,rv,pl,hz'⟩:=I1.list h1
 have hlen:its.toArray.size=xs.length:=by rw[List.size_toArray]; exact rv.length.symm
 refine call_reversed_list pl.isList ?_
 refine Calls.spliced_nil ?_
 have hit:(s1.heap.push (revObj l ((its.toArray.size:Int) - 1))).IsRevIter s1.heap.objs.size l ((its.toArray.size:Int) - 1):=⟨_,Heap.get?_push_size _ rfl,rfl,by simp[revObj]⟩
 obtain⟨ol,hol,_⟩:=id pl.isList
 have hl:l<s1.heap.objs.size:=Heap.lt_size hol
 have I2:Inv X pins σ H1 { s1 with heap:=s1.heap.push (revObj l ((its.toArray.size:Int) - 1)) }:=I1.kept (t':=s1.toks) fun b o e=>Heap.get?_push_of_some _ e
 obtain⟨f0,f1,f2,f3,f4,f5⟩:=I1.fpOk (Nat.le_refl _) (I1.hok.fresh (Nat.le_refl _))
 refine kC (s:={ s1 with heap:=s1.heap.push (revObj l ((its.toArray.size:Int) - 1)) }) (v:=s1.heap.objs.size) (l:=l) (items:=its.toArray) hr.hd hit (pl.isList.at fun o e=>Heap.get?_push_of_some _ e) (Nat.ne_of_lt hl) (by rw[hlen]; omega) fun h' tk acc' c' hk hS hacc=>?_
 have hs:sizeLine=16777216:=sizeLine_eq
 refine⟨.ref _,_,I2.turnedLaid (ch:=[s1.heap.objs.size]) (t':=tk) (fun b o hb e=>hk b o (by simpa using hb) e) (fun b hb=>?_) (Nat.le_refl _) (show ObjOk X.prog X.w _ h' _ (.lst xs.reverse) from ⟨by simp; omega,acc'.toList,c',?_,by simpa using hS⟩),rfl,q _ (I2.hok.fresh (Nat.le_refl _))⟩
 ·have e:b=s1.heap.objs.size:=by simpa using hb
  subst e;exact⟨f0,f1,f2,f3,f4,f5⟩
 ·refine gE _ _ (by simp[hacc.1]; exact hlen.symm) fun j x w' e1 e2=>?_
  have e3:=hacc.2 j w' (by rw[← Array.getElem?_toList]; exact e2)
  have hj:j<xs.length:=by
   refine Classical.byContradiction fun hn=>?_
   rw[List.getElem?_eq_none (by simp; omega)]at e1; cases e1
  rw[List.getElem?_reverse hj]at e1
  rw[hlen]at e3
  exact dj rv e1 (by simpa using e3)
end L2
namespace L2
open PySem PySem.Spec PyProof PyProof.Rows
section
variable{X:Cx}
end
section
variable{X:Cx}
end
section
variable{d:Addr}{o:Obj}{kvs:List (aU × V)}{g:TG}{σ : St}{H:Hp}
end
end L2
namespace PySem.SeqAt
open AutoSeq1 (wpAny_loadPart')
open MeetsSeq MeetsSeq2 MeetsSeq3
end PySem.SeqAt
namespace L2
open PySem PySem.Spec PyProof PyProof.Rows
section
variable{X:Cx}
end
end L2
namespace L2
open PySem PySem.Spec PyProof PyProof.Rows
section
variable{X:Cx}
end
end L2
namespace L2
open PySem PySem.Spec PyProof.Rows
def pR:Option Int→Value→Bool
 | none,v=>(match v with | .none=>true | _=>false)
 | some i,v=>Value.isInt i v
theorem fP:∀ {k:Option Int} {v:Value},pR k v=true→RelV (cT k) v
 | none,v,h=>by
  cases v <;> first | rfl | cases h
 | some i,v,h=>Value.isInt_shape (k:=i) (v:=v) h
theorem p4:∀ {k:Option Int} {v:Value},RelV (cT k) v→pR k v=true
 | none,v,h=>by
  obtain rfl:v=Value.none:=h
  rfl
 | some i,v,h=>by
  obtain⟨t,rfl⟩:=(show ∃ t,v=Value.int i t from h)
  simp[pR,Value.isInt]
def e_(prog:Program)(w:World):PySem.KeyKind prog w (Option Int) where
 is:=pR
 hash:=(nS prog w).hash
 inj:=fun v a b ha hb=>(nS prog w).inj (h:=default) (fP ha) (fP hb)
 byValue:=fun k v h=>by
  have r:=fP h
  cases k with
  | none=>obtain rfl:v=Value.none:=r; rfl
  | some i=>obtain⟨t,rfl⟩:=(show ∃ t,v=Value.int i t from r); rfl
 pyHash:=fun {A E s k v Q} hv h=>by
  have r:=fP hv
  cases k with
  | none=>
   obtain rfl:v=Value.none:=r
   exact jY h
  | some i=>
   obtain⟨t,rfl⟩:=(show ∃ t,v=Value.int i t from r)
   exact wpAny_pyHash_int h
 eqBool:=fun {A E s a b u v Q} hu hv h=>by
  have q:=gS (A:=A) (s:=s) (fP hu) (fP hv) (fY a) (fY b);rw[nk]at q
  exact q prog w E Q h
 «strs»:=fun k x t v h=>by
  cases k with
  | none=>cases h
  | some i=>simp[pR,Value.isInt]at h
def gx(P:Program)(w:World)(a:Addr)(kvs:List (Option Int × V)):HO:=
 .ext fun h=>kvs.length≤sizeLine∧(a == sysModules)=false∧∃ vs,KV kvs vs∧h.DictOf (e_ P w) a vs
theorem pS{P:Program}{w:World}{H':Hp}{h':Heap}{a:Addr}{kvs:List (Option Int × V)}{vs:List (Option Int × Value)}(z:kvs.length≤sizeLine)(hd:(a == sysModules)=false)(rel:KV kvs vs)(m:h'.DictOf (e_ P w) a vs):ObjOk P w H' h' a (gx P w a kvs):=by
 obtain⟨o,es,ep,e1,e⟩:=id m
 exact⟨⟨z,hd,vs,rel,m⟩,⟨o,e1⟩,fun h1 h2 ⟨z',hd',vs',rel',o',es',ep',q1,q⟩ y=>⟨z',hd',vs',rel',o',es',ep',y _ q1,q⟩⟩
section
variable{X:Cx}{pins:List (Addr × Obj)}{σ : St}{H:Hp}{s:Shared}{a:Addr}{kvs:List (Option Int × V)}
theorem Inv.op(I:Inv X pins σ H s)(h:H a=some (gx X.prog X.w a kvs)):kvs.length≤sizeLine∧(a == sysModules)=false∧∃ vs,KV kvs vs∧s.heap.DictOf (e_ X.prog X.w) a vs:=(I.hok a _ h).1
def ua(P:Program)(w:World):R2:=fun x y H Q=>∃ a k kvs v,x = .ref a∧y=cT k∧H a=some (gx P w a kvs)∧aF kvs k=some v∧Q v H
theorem xU:IxR X (ua X.prog X.w):=by
 intro value slice pins s σ H x y v u Q I rx ry h hs
 obtain⟨a,k,kvs,z,rfl,rfl,e,l,q⟩:=h
 cases rx;obtain⟨_,hd,vs,rel,dd⟩:=I.op e
 obtain⟨w',hw,rw'⟩:=RelO.some_of (v:=z) (o:=valueAt vs k) (by rw[← l]; exact rel.val k)
 have hl:typeLookup (.type "dict") "__getitem__" = pure (some (.builtin "dict.__getitem__")):=PySem.F.slot_dict_getitem.lookup
 exact subscriptTail_builtinR (x:=w') dd.typeIs hl (wpAny_getItem_of (knd:=e_ X.prog X.w) (p4 ry) dd.mapOf hw ⟨rfl,z,H,I.tok _,rw',q⟩) hs
def qd(P:Program)(w:World):ij:=fun o i v H Q=>∃ a k kvs,o = .ref a∧i=cT k∧H a=some (gx P w a kvs)∧kvs.length<sizeLine∧Q (upd H a (gx P w a (bQ kvs k v)))
theorem xC:PSet X (qd X.prog X.w):=by
 intro pins s σ H o i v ov iv u Q I ro ri rv h
 obtain⟨a,k,kvs,rfl,rfl,e,hl,q⟩:=h
 cases ro;obtain⟨z,hd,vs,rel,dd⟩:=I.op e
 have hz:vs.length≤sizeLine:=by rw[← rel.length]; exact z
 have hl':(bQ kvs k v).length≤sizeLine:=by have:=cv kvs k v; omega
 refine wpAny_setItem_pairs (knd:=e_ X.prog X.w) (hsz:=hz) (p4 ri) dd fun h' dd' hs=>⟨_,?_,q⟩
 have he:∃ q,h'.get? a=some q:=let ⟨q,_,_,hq,_⟩:=dd'; ⟨q,hq⟩
 exact dC I (by rw[e]; exact True.intro) hs he (pS hl' hd (rel.put k rv) dd')
def mR(P:Program)(w:World):TE:=fun _ H Q=>∀ p,H p=none→Q (.ref p) (upd H p (gx P w p []))
theorem qk{pos:Pos}:PE X (.Dict [] [] pos) (mR X.prog X.w):=fun pins s σ H Q I h=>by
 have hb:(s.heap.objs.size == sysModules)=false:=beq_eq_false_iff_ne.mpr (Ne.symm (Nat.ne_of_lt I.big))
 have hm:(s.heap.push { cls:=.type "dict", data:=.dict #[] }).DictOf (e_ X.prog X.w) s.heap.objs.size []:=⟨_,#[],0,Heap.get?_push_size _ rfl,⟨rfl,rfl,rfl⟩,rfl,(fun x hx=>by simp at hx),.nil,List.nodup_nil⟩
 exact wpAny_Dict_empty ⟨.ref s.heap.objs.size,_,I.laid (a:=s.heap.objs.size) (o:=gx X.prog X.w s.heap.objs.size []) (t':=s.toks) (fun _ _ q=>Heap.get?_push_of_some _ q) (Nat.le_refl _) (pS (Nat.zero_le _) hb .nil hm),rfl,h _ (I.hok.fresh (Nat.le_refl _))⟩
end
section
variable{X:Cx}(P:Program)(w:World)
theorem pK(hP:X.prog=P:=by rfl)(hw:X.w=w:=by rfl):IxR X (ua P w):=by subst hP hw; exact xU
theorem ng(hP:X.prog=P:=by rfl)(hw:X.w=w:=by rfl):PSet X (qd P w):=by subst hP hw; exact xC
theorem nW{pos:Pos}(hP:X.prog=P:=by rfl)(hw:X.w=w:=by rfl):PE X (.Dict [] [] pos) (mR P w):=by subst hP hw; exact qk
end
end L2
namespace L2
open PySem PySem.Spec PyProof PyProof.Rows
section
variable{prog:Program}{w:World}{A:Around}{E:Value→Shared→Prop}{s:Shared}
variable{z TI TO i1 i2 t1 t2:Addr}{xs ys:Array Value}{k1 k2:Nat}{a b:Value}
end
section
variable{K:PySem.W.Frag}{a b:Addr}{xs ys:List V}{g:TG}{te:TE}{nT:Nat}{σ : St}{D:Addr}{Q:VK}{H:Hp}
end
end L2
namespace L2
open PySem PySem.Spec PyProof PyProof.Rows PySem.SeqAt
section
variable{X:Cx}
end
section
variable{X:Cx}
end
section
variable{X:Cx}
def Ar:R2:=fun x y H Q=>∃ a kvs k,y = .ref a∧x=kV k∧H a=some (.dK kvs)∧Q (.bl (aF kvs k).isSome) H
theorem v7{n:Nat}(hr:Room n X.A):OpR X (compareOp .In) Ar:=by
 intro pins s σ H x y v u Q I rx ry h
 obtain⟨a,kvs,k,rfl,rfl,e,q⟩:=h
 cases ry;exact Aj (by have:=hr.un; omega) I (DGet.k e) rx fun s' I'=>⟨.bl _,H,I',rfl,q⟩
end
end L2
namespace L2
open PySem PySem.Spec PyProof PyProof.Rows
section
variable{X:Cx}
end
section
variable{prog:Program}{w:World}{κ : Type}[DecidableEq κ]{knd:HeapKind prog w κ}{A:Around}{E:Value→Shared→Prop}{s:Shared}
end
section
variable{X:Cx}
end
end L2
namespace L2
open PySem PySem.Spec PyProof PyProof.Rows
section
variable{X:Cx}{pins:List (Addr × Obj)}{σ : List (Option V)}{H:Hp}{s:Shared}
end
section
variable{X:Cx}
end
open PySem.SeqAt
section
variable{X:Cx}
end
end L2
namespace PySem.SeqAt
open AutoSeq1 (wpAny_loadPart')
open MeetsSeq MeetsSeq2 MeetsSeq3
open SeqRoads2
section
variable{A:Around}{s:Shared}
end
end PySem.SeqAt
namespace L2
open PySem PySem.Spec PyProof PyProof.Rows PySem.SeqAt
section
variable{X:Cx}{pins:List (Addr × Obj)}{σ : St}{H:Hp}{s:Shared}
end
end L2
namespace PySem
section
variable{M:Program}{w:World}{A:Around}{R:Result→Shared→Prop}{I:Addr}{fp wr:List Addr}{n:Nat}{Pv:Nat→Value→Prop}{St:Nat→Heap→Prop}
end
end PySem
namespace PySem
section
variable{M:Program}{w:World}{A:Around}{E:Value→Shared→Prop}{s:Shared}
end
end PySem
namespace L2
open PySem PySem.Spec PyProof PyProof.Rows PySem.SeqAt
section
variable{X:Cx}
end
end L2
namespace L2
open PySem PySem.Spec PyProof PyProof.Rows
section
variable{X:Cx}
end
end L2
namespace L2
open PySem PySem.Spec PyProof.Rows
abbrev we:=Str × List (Option Int)
section
variable{P:Program}{w:World}{H:Hp}
end
section
variable{X:Cx}{pins:List (Addr × Obj)}{σ : St}{H:Hp}{s:Shared}{a b:Addr}{k:we}{kvs:List (we × V)}
end
end L2
namespace L2
open PySem PySem.Spec PyProof.Rows
abbrev fT (h:Heap) (z TI TO T:Addr) (f:Bool):Prop:=
 h.get? z=some { cls:=.type "zip", dict:=none,data:=.fields #[rawInt T,.bool f,.bool false,.ref TI,.ref TO],slots:=#[] }
section
variable{prog:Program}{w:World}{A:Around}{E:Value→Shared→Prop}{s:Shared}
theorem iN{a:Addr}{Q:Option Obj→Shared→Prop}(h:Q (s.heap.get? a) s):wpAny (model prog w) A (loadIfAlive a) Q E s:=fun _ _ _=>h
theorem kj{z TI TO T:Addr}{f:Bool}{Q:Bool→Shared→Prop}(hz:fT s.heap z TI TO T f)(hT:∃ o,s.heap.get? T=some o)(hQ:∀ h',fT h' z TI TO T true→Heap.SameBut z s.heap h'→Q false { s with heap:=h' }) :
  wpAny (model prog w) A (Builtin.SmallTypes.ownedTupleIsFree (.ref z)) Q E s:=by
 obtain⟨o,ho⟩:=hT
 unfold Builtin.SmallTypes.ownedTupleIsFree;refine wpAny_bind (wpAny_field hz rfl (x:=rawInt T) rfl ?_)
 show wpAny _ _ (loadIfAlive T >>= _) _ _ _
 refine wpAny_bind (iN ?_)
 rw[ho];show wpAny _ _ (field (.ref z) 1 >>= _) _ _ _
 refine wpAny_bind (wpAny_field hz rfl (x:=.bool f) rfl ?_)
 cases f with
 | false=>
  show wpAny _ _ (setField (.ref z) 1 (.bool true) >>= _) _ _ _
  refine wpAny_bind (wpAny_setField_rec hz (by simp) fun h1 hz1 hs1=>wpAny_pure (hQ h1 hz1 hs1))
 | true=>
  refine wpAny_pure (hQ s.heap hz ⟨rfl,fun _ _=>rfl⟩)
theorem pY{z TI TO T i1 i2 l1 l2:Addr}{f:Bool}{k1 k2:Nat}{xs ys:Array Value}{x y:Value}{Q:Value→Shared→Prop}(D:ZipApart z TI TO i1 i2 l1 l2)
  (hz:fT s.heap z TI TO T f) (hT:∃ o,s.heap.get? T=some o) (hTI:IsPair s.heap TI (.ref i1) (.ref i2))
  (h1:s.heap.IsListIter i1 l1 k1) (h2:s.heap.IsListIter i2 l2 k2) (hl1:s.heap.IsList l1 xs) (hl2:s.heap.IsList l2 ys) (hx:xs[k1]? = some x) (hy:ys[k2]? = some y)
  (hQ:∀ h',fT h' z TI TO T true→h'.IsListIter i1 l1 (k1+1)→h'.IsListIter i2 l2 (k2+1)→IsPair h' s.heap.objs.size x y→h'.objs.size=s.heap.objs.size+1→
   (∀ c o,c≠z→c≠i1→c≠i2→s.heap.get? c=some o→h'.get? c=some o)→Q (.ref s.heap.objs.size) { s with heap:=h' }) :
  wpAny (model prog w) A (Builtin.«zip.__next__» ⟨[.ref z],[]⟩) (fun fin s'=>∃ v,fin = .done (.ret v)∧Q v s') E s:=by
 show wpAny _ _ (field (.ref z) 2 >>= _) _ _ _
 refine wpAny_bind (wpAny_field hz rfl (x:=.bool false) rfl ?_)
 show wpAny _ _ (field (.ref z) 3 >>= _) _ _ _
 refine wpAny_bind (wpAny_field hz rfl (x:=.ref TI) rfl ?_)
 refine wpAny_bind (wpAny_seqItems hTI rfl ?_)
 show wpAny _ _ (Builtin.SmallTypes.ownedTupleIsFree (.ref z) >>= _) _ _ _
 refine wpAny_bind (kj hz hT fun ha hza hsa=>?_)
 simp only[Bool.false_eq_true,if_false]
 refine wpAny_bind ?_
 rw[← Array.forIn_toList];simp only[List.forIn_cons,List.forIn_nil]
 refine wpAny_bind (wpAny_bind (wpAny_holding ?_))
 show wpAny _ _ (Builtin.SmallTypes.nextOf (.ref i1) >>= _) _ _ _
 refine wpAny_bind (wpAny_nextOf_list_item (h1.extBut hsa.extBut D.i1z) (hl1.extBut hsa.extBut D.l1z) hx fun hb h1b hsb=>wpAny_pure ?_)
 refine wpAny_pure ?_
 refine wpAny_bind (wpAny_bind (wpAny_holding ?_))
 show wpAny _ _ (Builtin.SmallTypes.nextOf (.ref i2) >>= _) _ _ _
 refine wpAny_bind (wpAny_nextOf_list_item ((h2.extBut hsa.extBut D.i2z).extBut hsb.extBut D.i12.symm) ((hl2.extBut hsa.extBut D.l2z).extBut hsb.extBut D.l2i1) hy fun hc h2c hsc=>wpAny_pure ?_)
 refine wpAny_pure (wpAny_pure ?_)
 refine wpAny_bind (wpAny_newTuple ?_ (by show 2≤sizeLine; rw[sizeLine_eq]; decide))
 have hsz:hc.objs.size=s.heap.objs.size:=by rw[hsc.1,hsb.1,hsa.1]
 have hzc:fT hc z TI TO T true:=hsc.extBut _ _ D.i2z.symm (hsb.extBut _ _ D.i1z.symm hza)
 have kc:∀ c o,c≠z→c≠i1→c≠i2→s.heap.get? c=some o→hc.get? c=some o:=fun c o c1 c3 c4 e=>hsc.extBut _ _ c4 (hsb.extBut _ _ c3 (hsa.extBut _ _ c1 e))
 have h1c:hc.IsListIter i1 l1 (k1+1):=h1b.extBut hsc.extBut D.i12
 refine wpAny_pure ⟨_,rfl,?_⟩
 show Q (.ref hc.objs.size) _
 rw[hsz];refine hQ (hc.push { cls:=.type "tuple", data:=.seq #[x,y] }) (Heap.get?_push_of_some _ hzc) (h1c.at fun o e=>Heap.get?_push_of_some _ e) (h2c.at fun o e=>Heap.get?_push_of_some _ e) ?_ (by rw[Heap.size_push,hsz]) fun c o c1 c3 c4 e=>Heap.get?_push_of_some _ (kc c o c1 c3 c4 e)
 show (hc.push _).get? s.heap.objs.size=_
 rw[← hsz];exact Heap.get?_push_size _ rfl
theorem sf{z TI TO T i1 i2 l1 l2:Addr}{f:Bool}{k1 k2:Nat}{xs ys:Array Value}{Q:Fin→Shared→Prop}(hh:A.handled=none)(D:ZipApart z TI TO i1 i2 l1 l2)
  (hz:fT s.heap z TI TO T f) (hT:∃ o,s.heap.get? T=some o) (hTI:IsPair s.heap TI (.ref i1) (.ref i2))
  (h1:s.heap.IsListIter i1 l1 k1) (h2:s.heap.IsListIter i2 l2 k2) (hl1:s.heap.IsList l1 xs) (hl2:s.heap.IsList l2 ys) (hend:xs[k1]? = none∨ys[k2]? = none)
  (hE:∀ h' e,(∀ c o,c≠z→c≠i1→c≠i2→s.heap.get? c=some o→h'.get? c=some o)→(∃ o,h'.get? e=some o∧o.cls = .type "StopIteration")→E (.ref e) { s with heap:=h' }) :
  wpAny (model prog w) A (Builtin.«zip.__next__» ⟨[.ref z],[]⟩) Q E s:=by
 show wpAny _ _ (field (.ref z) 2 >>= _) _ _ _
 refine wpAny_bind (wpAny_field hz rfl (x:=.bool false) rfl ?_)
 show wpAny _ _ (field (.ref z) 3 >>= _) _ _ _
 refine wpAny_bind (wpAny_field hz rfl (x:=.ref TI) rfl ?_)
 refine wpAny_bind (wpAny_seqItems hTI rfl ?_)
 show wpAny _ _ (Builtin.SmallTypes.ownedTupleIsFree (.ref z) >>= _) _ _ _
 refine wpAny_bind (kj hz hT fun ha hza hsa=>?_)
 simp only[Bool.false_eq_true,if_false]
 refine wpAny_bind ?_
 rw[← Array.forIn_toList];simp only[List.forIn_cons,List.forIn_nil]
 refine wpAny_bind (wpAny_bind (wpAny_holding ?_))
 show wpAny _ _ (Builtin.SmallTypes.nextOf (.ref i1) >>= _) _ _ _
 cases hx:xs[k1]? with
 | none=>
  refine wpAny_bind (wpAny_nextOf_list_end hh (h1.extBut hsa.extBut D.i1z) (hl1.extBut hsa.extBut D.l1z) hx fun hb e hsb he=>?_)
  exact hE hb e (fun c o c1 c3 _ x=>hsb _ _ c3 (hsa.extBut _ _ c1 x)) he
 | some x=>
  have hy:ys[k2]? = none:=by rcases hend with h | h; rw[hx]at h; cases h; exact h
  refine wpAny_bind (wpAny_nextOf_list_item (h1.extBut hsa.extBut D.i1z) (hl1.extBut hsa.extBut D.l1z) hx fun hb h1b hsb=>wpAny_pure ?_)
  refine wpAny_pure ?_
  refine wpAny_bind (wpAny_bind (wpAny_holding ?_))
  show wpAny _ _ (Builtin.SmallTypes.nextOf (.ref i2) >>= _) _ _ _
  refine wpAny_bind (wpAny_nextOf_list_end hh ((h2.extBut hsa.extBut D.i2z).extBut hsb.extBut D.i12.symm) ((hl2.extBut hsa.extBut D.l2z).extBut hsb.extBut D.l2i1) hy fun hc e hsc he=>?_)
  exact hE hc e (fun c o c1 c3 c4 x=>hsc _ _ c4 (hsb.extBut _ _ c3 (hsa.extBut _ _ c1 x))) he
def ZOs(z TI TO i1 i2 l1 l2:Addr)(xs ys:Array Value)(i:Nat)(h:Heap):Prop:=
 (IsZip h z TI TO .none∨∃ T f,fT h z TI TO T f∧∃ o,h.get? T=some o)∧IsPair h TI (.ref i1) (.ref i2)∧(∃ a b,IsPair h TO a b)∧h.IsListIter i1 l1 i∧h.IsListIter i2 l2 i∧h.IsList l1 xs∧h.IsList l2 ys
theorem rH{z TI TO i1 i2 l1 l2:Addr}{i:Nat}{xs ys:Array Value}{x y:Value}{Q:Option Value→Shared→Prop}(D:ZipApart z TI TO i1 i2 l1 l2)(h:ZOs z TI TO i1 i2 l1 l2 xs ys i s.heap)(hx:xs[i]? = some x)(hy:ys[i]? = some y)
  (hQ:∀ h',ZOs z TI TO i1 i2 l1 l2 xs ys (i+1) h'→IsPair h' s.heap.objs.size x y→h'.objs.size=s.heap.objs.size+1→(∀ c o,c≠z→c≠TO→c≠i1→c≠i2→s.heap.get? c=some o→h'.get? c=some o)→Q (some (.ref s.heap.objs.size)) { s with heap:=h' }) :
  wpAny (model prog w) A (pyNext (.ref z)) Q E s:=by
 obtain⟨hz,hTI,⟨a,b,hTO⟩,h1,h2,hl1,hl2⟩:=h
 rcases hz with hz | ⟨T,f,hz,hT⟩
 ·refine wpAny_pyNext_zip_item D hz hTI hTO h1 h2 hl1 hl2 hx hy fun h' a1 a2 a3 a4 a5 a6 hk=>?_
  exact hQ h' ⟨.inr ⟨s.heap.objs.size,false,a1,_,a5⟩,hk _ _ D.TIz D.TITO D.TIi1 D.TIi2 hTI,⟨_,_,a2⟩,a3,a4,hl1.at fun o e=>hk _ o D.l1z D.l1TO D.l1i1 D.l1i2 e,hl2.at fun o e=>hk _ o D.l2z D.l2TO D.l2i1 D.l2i2 e⟩ a5 a6 hk
 ·have hTy:s.TypeIs (.ref z) "zip" := ⟨_,hz,rfl⟩
  unfold pyNext
  refine wpAny_bind (wpAny_attempt (wpAny_callSpecial?_slot (name:=Str.ofString "__next__") hTy F.slot_zip_next
   (wpAny_call_entry F.slot_zip_next hTy F.entry_zip_next
    (pY D hz hT hTI h1 h2 hl1 hl2 hx hy fun h' a1 a3 a4 a5 a6 hk=>wpAny_pure (hQ h' ⟨.inr ⟨T,true,a1,?_⟩,hk _ _ D.TIz D.TIi1 D.TIi2 hTI,⟨_,_,hk _ _ D.TOz D.TOi1 D.TOi2 hTO⟩,a3,a4,hl1.at fun o e=>hk _ o D.l1z D.l1i1 D.l1i2 e,hl2.at fun o e=>hk _ o D.l2z D.l2i1 D.l2i2 e⟩ a5 a6 fun c o c1 _ c3 c4 e=>hk c o c1 c3 c4 e)) (F.args_zip_next_1 _))))
  obtain⟨o,ho⟩:=hT
  by_cases c1:T=z
  ·exact⟨_,by rw[c1]; exact a1⟩
  by_cases c2:T=i1
  ·obtain⟨o',e',_⟩:=a3; exact⟨o',by rw[c2]; exact e'⟩
  by_cases c3:T=i2
  ·obtain⟨o',e',_⟩:=a4; exact⟨o',by rw[c3]; exact e'⟩
  exact⟨o,hk _ _ c1 c2 c3 ho⟩
theorem ut{z TI TO i1 i2 l1 l2:Addr}{i:Nat}{xs ys:Array Value}{Q:Option Value→Shared→Prop}(hh:A.handled=none)(D:ZipApart z TI TO i1 i2 l1 l2)(h:ZOs z TI TO i1 i2 l1 l2 xs ys i s.heap)(hend:xs[i]? = none∨ys[i]? = none)
  (hQ:∀ h',(∀ c o,c≠z→c≠TO→c≠i1→c≠i2→s.heap.get? c=some o→h'.get? c=some o)→Q none { s with heap:=h' }):wpAny (model prog w) A (pyNext (.ref z)) Q E s:=by
 obtain⟨hz,hTI,⟨a,b,hTO⟩,h1,h2,hl1,hl2⟩:=h
 rcases hz with hz | ⟨T,f,hz,hT⟩
 ·exact wpAny_pyNext_zip_end hh D hz hTI hTO h1 h2 hl1 hl2 hend hQ
 ·have hTy:s.TypeIs (.ref z) "zip" := ⟨_,hz,rfl⟩
  unfold pyNext
  refine wpAny_bind (wpAny_attempt (wpAny_callSpecial?_slot (name:=Str.ofString "__next__") hTy F.slot_zip_next
   (wpAny_call_entry F.slot_zip_next hTy F.entry_zip_next (sf hh D hz hT hTI h1 h2 hl1 hl2 hend fun h' e hk he=>?_) (F.args_zip_next_1 _))))
  obtain⟨o,ho,hc⟩:=he
  refine wpAny_bind (wpAny_isInstance (T := "StopIteration") (b:=true) ⟨o,ho,hc⟩ isSubtype_stop ?_)
  exact wpAny_pure (hQ _ fun c o c1 _ c3 c4 e=>hk c o c1 c3 c4 e)
theorem ZOs.at{z TI TO i1 i2 l1 l2:Addr}{xs ys:Array Value}{i:Nat}{h h':Heap}(x:ZOs z TI TO i1 i2 l1 l2 xs ys i h)(k:∀ b o,h.get? b=some o→((b=z∨b=TI∨b=TO∨b=i1∨b=i2∨b=l1∨b=l2)→h'.get? b=some o)∧∃ o',h'.get? b=some o'):ZOs z TI TO i1 i2 l1 l2 xs ys i h':=by
 obtain⟨hz,hTI,⟨a,b,hTO⟩,h1,h2,hl1,hl2⟩:=x
 refine⟨?_,(k _ _ hTI).1 (by simp),⟨a,b,(k _ _ hTO).1 (by simp)⟩,h1.at fun o e=>(k _ _ e).1 (by simp),h2.at fun o e=>(k _ _ e).1 (by simp),hl1.at fun o e=>(k _ _ e).1 (by simp),hl2.at fun o e=>(k _ _ e).1 (by simp)⟩
 rcases hz with hz | ⟨T,f,hz,o,hT⟩
 ·exact .inl ((k _ _ hz).1 (by simp))
 ·exact .inr ⟨T,f,(k _ _ hz).1 (by simp),(k _ _ hT).2⟩
def qN(xs ys:Array Value)(B:Nat)(acc:Array Value)(i:Nat)(h:Heap):Prop:=acc.size=i∧∀ j v,acc[j]? = some v→∃ x y,v = .ref (B+j)∧xs[j]? = some x∧ys[j]? = some y∧IsPair h (B+j) x y
theorem nY{R:Result→Shared→Prop}{z TI TO i1 i2 l1 l2:Addr}{xs ys:Array Value}{n:Nat}(hh:A.handled=none)(D:ZipApart z TI TO i1 i2 l1 l2)(hn:n≤1000)(hxy:∀ i,i<n→∃ x y,xs[i]? = some x∧ys[i]? = some y)(hend:xs[n]? = none∨ys[n]? = none)
  (S:Addr) (B:Nat) (hSB:S<B) (hS:∀ b,(b=z∨b=TI∨b=TO∨b=i1∨b=i2∨b=l1∨b=l2)→b<S) (res:Value) :
  ∀ (k i:Nat) (s:Shared) (acc:Array Value) (c:Nat),n - i=k→i≤n→ZOs z TI TO i1 i2 l1 l2 xs ys i s.heap→s.heap.get? S=some { cls:=.type "list", dict:=none,data:=.seq acc c,slots:=#[] }→qN xs ys B acc i s.heap→s.heap.objs.size=B+i→
  (∀ h' acc' c',(∀ b o,b≠S→b≠z→b≠TO→b≠i1→b≠i2→s.heap.get? b=some o→h'.get? b=some o)→h'.get? S=some { cls:=.type "list", dict:=none,data:=.seq acc' c',slots:=#[] }→qN xs ys B acc' n h'→R (.ok (.ret res)) { s with heap:=h' })→
  codeAny (model prog w) A (.builtin "list.extend.loop" ⟨[.ref S,.ref z,res],[]⟩) R s:=by
 have sz:S≠z:=Nat.ne_of_gt (hS z (by simp))
 have sTO:S≠TO:=Nat.ne_of_gt (hS TO (by simp))
 have si1:S≠i1:=Nat.ne_of_gt (hS i1 (by simp))
 have si2:S≠i2:=Nat.ne_of_gt (hS i2 (by simp))
 have bz:∀ j,B+j≠z:=fun j=>Nat.ne_of_gt (Nat.lt_of_lt_of_le (Nat.lt_trans (hS z (by simp)) hSB) (Nat.le_add_right _ _))
 have bTO:∀ j,B+j≠TO:=fun j=>Nat.ne_of_gt (Nat.lt_of_lt_of_le (Nat.lt_trans (hS TO (by simp)) hSB) (Nat.le_add_right _ _))
 have bi1:∀ j,B+j≠i1:=fun j=>Nat.ne_of_gt (Nat.lt_of_lt_of_le (Nat.lt_trans (hS i1 (by simp)) hSB) (Nat.le_add_right _ _))
 have bi2:∀ j,B+j≠i2:=fun j=>Nat.ne_of_gt (Nat.lt_of_lt_of_le (Nat.lt_trans (hS i2 (by simp)) hSB) (Nat.le_add_right _ _))
 have bS:∀ j,B+j≠S:=fun j=>Nat.ne_of_gt (Nat.lt_of_lt_of_le hSB (Nat.le_add_right _ _))
 intro k
 induction k with
 | zero=>
  intro i s acc c hk hi hst hSs hacc hsz hR
  have hin:i=n:=by omega
  subst hin;refine codeAny_builtin F.entry_extend_loop ?_
  rw[Around.under_plainId F.plain_extend_loop _];show wpAny _ A.in1 (pyNext (.ref z) >>= _) _ _ s
  refine wpAny_bind (ut (A:=A.in1) hh D hst hend fun h' hk'=>?_)
  refine wpAny_pure (hR h' acc c (fun b o _ c1 c2 c3 c4 e=>hk' b o c1 c2 c3 c4 e) (hk' _ _ sz sTO si1 si2 hSs) ⟨hacc.1,fun j v e=>?_⟩)
  obtain⟨x,y,e1,e2,e3,e4⟩:=hacc.2 j v e
  exact⟨x,y,e1,e2,e3,hk' _ _ (bz j) (bTO j) (bi1 j) (bi2 j) e4⟩
 | succ k ih=>
  intro i s acc c hk hi hst hSs hacc hsz hR
  have hlt:i<n:=by omega
  obtain⟨x,y,hx,hy⟩:=hxy i hlt
  refine codeAny_builtin F.entry_extend_loop ?_
  rw[Around.under_plainId F.plain_extend_loop _];show wpAny _ A.in1 (pyNext (.ref z) >>= _) _ _ s
  refine wpAny_bind (rH (A:=A.in1) D hst hx hy fun h' hst' hp hsz' hk'=>?_)
  have hS':=hk' _ _ sz sTO si1 si2 hSs;have hs16:sizeLine=16777216:=sizeLine_eq
  show wpAny _ A.in1 (updateSeq S (·.push (.ref s.heap.objs.size)) >>= _) _ _ _
  refine wpAny_bind ?_
  refine wpAny_updateSeq hS' rfl (wpAny_pure ⟨plainId_quiet F.plain_extend_loop _,?_⟩) (by rw[hacc.1]; omega) (by show (acc.push _).size≤sizeLine+1; rw[Array.size_push,hacc.1]; omega)
  have oth:∀ b o,b≠S→h'.get? b=some o→(h'.update S (Obj.mapSeq (·.push (.ref s.heap.objs.size)))).get? b=some o:=fun b o hb e=>(Heap.get?_update_other _ _ (Ne.symm hb)).trans e
  have hself:=Heap.get?_update_self (Obj.mapSeq (·.push (.ref s.heap.objs.size))) hS' rfl;have hszu:(h'.update S (Obj.mapSeq (·.push (.ref s.heap.objs.size)))).objs.size=h'.objs.size:=(Heap.SameBut.update ..).1
  refine ih (i+1) _ (acc.push (.ref s.heap.objs.size)) _ (by omega) hlt (hst'.at fun b o e=>⟨fun hb=>oth b o (Nat.ne_of_lt (hS b hb)) e,?_⟩) hself ⟨by rw[Array.size_push,hacc.1],fun j v e=>?_⟩ ?_ fun h'' acc' c' hk2 hS2 hacc2=>?_
  ·by_cases hb:b=S
   ·subst hb; exact⟨_,hself⟩
   ·exact⟨o,oth b o hb e⟩
  ·rw[Array.getElem?_push]at e
   split at e
   ·rename_i ej
    rw[hacc.1]at ej
    subst ej
    cases e;refine⟨x,y,by rw[hsz],hx,hy,?_⟩
    rw[← hsz];exact oth _ _ (by rw[hsz]; exact bS _) hp
   ·obtain⟨x',y',e1,e2,e3,e4⟩:=hacc.2 j v e
    exact⟨x',y',e1,e2,e3,oth _ _ (bS j) (hk' _ _ (bz j) (bTO j) (bi1 j) (bi2 j) e4)⟩
  ·show (h'.update S _).objs.size=_
   rw[hszu,hsz',hsz]; omega
  ·refine hR h'' acc' c' (fun b o c0 c1 c2 c3 c4 e=>hk2 b o c0 c1 c2 c3 c4 (oth b o c0 (hk' b o c1 c2 c3 c4 e))) hS2 hacc2
theorem oE:typeLookup (.type "zip") "__len__" = pure none:=by rw[typeLookup_type,builtinLookup_eq_fast]; kernel_rfl
theorem mx:typeLookup (.type "zip") "__length_hint__" = pure none:=by rw[typeLookup_type,builtinLookup_eq_fast]; kernel_rfl
theorem ZOs.typ{z TI TO i1 i2 l1 l2:Addr}{xs ys:Array Value}{i:Nat}(h:ZOs z TI TO i1 i2 l1 l2 xs ys i s.heap):s.TypeIs (.ref z) "zip" := by
 rcases h.1 with hz | ⟨T,f,hz,_⟩
 ·exact⟨_,hz,rfl⟩
 ·exact⟨_,hz,rfl⟩
theorem mq{R:Result→Shared→Prop}{z TI TO i1 i2 l1 l2:Addr}{xs ys:Array Value}{n:Nat}(hh:A.handled=none)(D:ZipApart z TI TO i1 i2 l1 l2)(hn:n≤1000)(hxy:∀ i,i<n→∃ x y,xs[i]? = some x∧ys[i]? = some y)(hend:xs[n]? = none∨ys[n]? = none)
  (S:Addr) (hS:∀ b,(b=z∨b=TI∨b=TO∨b=i1∨b=i2∨b=l1∨b=l2)→b<S) (res:Value) (c₀ : Nat) (hz:IsZip s.heap z TI TO .none) (hst:ZOs z TI TO i1 i2 l1 l2 xs ys 0 s.heap) (hSs:s.heap.get? S=some { cls:=.type "list", data:=.seq #[] c₀ }) (hsz:s.heap.objs.size=S+1)
  (hR:∀ h' acc' c',(∀ b o,b≠S→b≠z→b≠TO→b≠i1→b≠i2→s.heap.get? b=some o→h'.get? b=some o)→h'.get? S=some { cls:=.type "list", dict:=none,data:=.seq acc' c',slots:=#[] }→qN xs ys (S+1) acc' n h'→R (.ok (.ret res)) { s with heap:=h' }) :
  wpAny (model prog w) A.in1 (Builtin.List.listExtendWith (.ref S) (.ref z) res)
   (fun fin s'=>match fin with | .done f=>R (.ok f) s' | .again c'=>c'.quiet=true∧codeAny (model prog w) A c' R s') (fun e s'=>R (.error e) s') s:=by
 have sz:S≠z:=Nat.ne_of_gt (hS z (by simp))
 have hty:=hst.typ;unfold Builtin.List.listExtendWith;refine wpAny_bind (wpAny_typeOf hty ?_)
 have h1:Builtin.List.listSameRef (.ref S) (.ref z)=false:=by simp[Builtin.List.listSameRef,sz]
 have h2:(Value.type "zip" == Value.type "list")=false:=by decide
 have h3:(Value.type "zip" == Value.type "tuple")=false:=by decide
 simp only[h1,h2,h3,Bool.or_false,Bool.false_eq_true,if_false]
 refine wpAny_bind (wpAny_pyIter_zip hz ?_)
 refine wpAny_bind (wpAny_holding ?_)
 unfold Builtin.List.listLengthHint;refine wpAny_bind (wpAny_specialOf hty oE ?_)
 show wpAny _ A.in1 (specialOf (Value.ref z) (Str.ofString "__length_hint__") >>= _) _ _ _
 refine wpAny_bind (wpAny_specialOf hty mx ?_)
 refine wpAny_pure ?_
 show wpAny _ A.in1 (rule "list.extend.makes-room" >>= fun _=>Builtin.List.listTouch (.ref S) >>= fun _=>
  again (.builtin "list.extend.loop" ⟨[.ref S,.ref z,res],[]⟩)) _ _ _
 refine wpAny_bind (wpAny_rule ?_)
 refine wpAny_bind ?_
 show wpAny _ A.in1 (updateSeq S (·.push .none) >>= fun _=>updateSeq S (·.pop)) _ _ _
 refine wpAny_bind (wpAny_updateSeq hSs rfl ?_)
 have hS₂:=Heap.get?_update_self (Obj.mapSeq (·.push Value.none)) hSs rfl;refine wpAny_updateSeq hS₂ rfl ?_
 have hS₃:=Heap.get?_update_self (Obj.mapSeq (·.pop)) hS₂ rfl
 have oth:∀ b o,b≠S→s.heap.get? b=some o→((s.heap.update S (Obj.mapSeq (·.push Value.none))).update S (Obj.mapSeq (·.pop))).get? b=some o:=
  fun b o hb e=>(Heap.get?_update_other _ _ (Ne.symm hb)).trans ((Heap.get?_update_other _ _ (Ne.symm hb)).trans e)
 have hz3:((s.heap.update S (Obj.mapSeq (·.push Value.none))).update S (Obj.mapSeq (·.pop))).objs.size=S+1:=by
  rw[(Heap.SameBut.update ..).1,(Heap.SameBut.update ..).1,hsz]
 refine wpAny_pure ⟨plainId_quiet F.plain_extend_loop _,nY (A:=A) hh D hn hxy hend S (S+1) (Nat.lt_succ_self _) hS res n 0 _ _ _ rfl (Nat.zero_le _) (hst.at fun b o e=>⟨fun hb=>oth b o (Nat.ne_of_lt (hS b hb)) e,?_⟩) hS₃ ⟨rfl,fun j v e=>by simp at e⟩ hz3 fun h' acc' c' hk hS' hacc=>?_⟩
 ·by_cases hb:b=S
  ·subst hb; exact⟨_,hS₃⟩
  ·exact⟨o,oth b o hb e⟩
 ·exact hR h' acc' c' (fun b o c0 c1 c2 c3 c4 e=>hk b o c0 c1 c2 c3 c4 (oth b o c0 e)) hS' hacc
theorem kE{Q:Value→Shared→Prop}{z TI TO i1 i2 l1 l2:Addr}{xs ys:Array Value}{n:Nat}(hh:A.handled=none)(D:ZipApart z TI TO i1 i2 l1 l2)(hn:n≤1000)(hxy:∀ i,i<n→∃ x y,xs[i]? = some x∧ys[i]? = some y)(hend:xs[n]? = none∨ys[n]? = none)
  (hz:IsZip s.heap z TI TO .none) (hst:ZOs z TI TO i1 i2 l1 l2 xs ys 0 s.heap)
  (hQ:∀ h' acc' c',(∀ b o,b≠z→b≠TO→b≠i1→b≠i2→s.heap.get? b=some o→h'.get? b=some o)→
   h'.get? s.heap.objs.size=some { cls:=.type "list", dict:=none,data:=.seq acc' c',slots:=#[] }→qN xs ys (s.heap.objs.size+1) acc' n h'→Q (.ref s.heap.objs.size) { s with heap:=h' }) :
  wpAny (model prog w) A (call (.type "list") [.ref z]) Q E s:=by
 have lt:∀ b,(b=z∨b=TI∨b=TO∨b=i1∨b=i2∨b=l1∨b=l2)→b<s.heap.objs.size:=fun b hb=>by
  obtain⟨_,hTI,⟨a',b',hTO⟩,⟨_,h1,_⟩,⟨_,h2,_⟩,⟨_,hl1,_⟩,⟨_,hl2,_⟩⟩:=id hst
  rcases hb with rfl | rfl | rfl | rfl | rfl | rfl | rfl
  ·exact Heap.lt_size hz
  ·exact Heap.lt_size hTI
  ·exact Heap.lt_size hTO
  ·exact Heap.lt_size h1
  ·exact Heap.lt_size h2
  ·exact Heap.lt_size hl1
  ·exact Heap.lt_size hl2
 refine callType_codes (Q₁:=fun obj s₁=>obj = .ref s.heap.objs.size∧s₁={ s with heap:=s.heap.push { cls:=.type "list", data:=.seq #[] } }) F.called_list (F.typeCall_list_1 _) F.entry_list_init
  (code_list_new _ ⟨rfl,rfl⟩) fun obj s₁ h₁=>?_
 obtain⟨rfl,rfl⟩:=h₁
 have hS:(s.heap.push { cls:=.type "list", data:=.seq #[] }).get? s.heap.objs.size=some { cls:=.type "list", data:=.seq #[] }:=Heap.get?_push_size _ rfl
 refine⟨⟨_,hS,rfl⟩,F.args_list_init_2 _ _,?_⟩
 show wpAny _ _ (do let old ← Builtin.List.listItems (.ref s.heap.objs.size); Builtin.List.listUpdate (.ref s.heap.objs.size) (fun _=>#[]); letGo old.toList.reverse; Builtin.List.listExtendWith (.ref s.heap.objs.size) (.ref z) .none) _ _ _
 refine wpAny_bind ?_
 unfold Builtin.List.listItems;refine wpAny_bind (wpAny_seqItems hS rfl (wpAny_pure ?_))
 show wpAny _ _ (updateSeq s.heap.objs.size (fun _=>#[]) >>= fun _=>letGo (#[]:Array Value).toList.reverse >>= fun _=>Builtin.List.listExtendWith (.ref s.heap.objs.size) (.ref z) .none) _ _ _
 refine wpAny_bind (wpAny_updateSeq hS rfl ?_)
 have hS₂:=Heap.get?_update_self (Obj.mapSeq (fun _=>(#[]:Array Value))) hS rfl
 have oth:∀ b o,b≠s.heap.objs.size→s.heap.get? b=some o→((s.heap.push { cls:=.type "list", data:=.seq #[] }).update s.heap.objs.size (Obj.mapSeq (fun _=>(#[]:Array Value)))).get? b=some o:=
  fun b o hb e=>(Heap.get?_update_other _ _ (Ne.symm hb)).trans (Heap.get?_push_of_some _ e)
 refine wpAny_bind (wpAny_letGo ?_)
 have hk0:∀ b o,s.heap.get? b=some o→((s.heap.push { cls:=.type "list", data:=.seq #[] }).update s.heap.objs.size (Obj.mapSeq (fun _=>(#[]:Array Value)))).get? b=some o:=fun b o e=>oth b o (Nat.ne_of_lt (Heap.lt_size e)) e
 refine mq (A:=A.in1) hh D hn hxy hend s.heap.objs.size lt .none _ (hk0 _ _ hz) (hst.at fun b o e=>⟨fun _=>hk0 b o e,o,hk0 b o e⟩) hS₂ (by show (Heap.update _ _ _).objs.size=_; rw[(Heap.SameBut.update ..).1,Heap.size_push]) fun h' acc' c' hk hS' hacc=>?_
 exact⟨rfl,hQ h' acc' c' (fun b o c1 c2 c3 c4 e=>hk b o (Nat.ne_of_lt (Heap.lt_size e)) c1 c2 c3 c4 (hk0 b o e)) hS' hacc⟩
end
section
variable{X:Cx}{pins:List (Addr × Obj)}{σ : St}{H:Hp}{s:Shared}
theorem Inv.trk{a:Addr}{o:HO}(I:Inv X pins σ H s)(hn:H a=none)(h0:∀ b ob,X.s₀.heap.get? b=some ob→b≠a)(hl:X.env.locals≠a)(hc:∀ x c,X.env.cells.lookup x=some c→c≠a)
  (hp:∀ p∈X.pn++pins,p.1≠a) (ok:ObjOk X.prog X.w (upd H a o) s.heap a o):Inv X pins σ (upd H a o) s:=by
 refine⟨I.ok,I.os,I.bare,⟨I.base.keep,I.base.slot,fun b ob q n z=>?_,I.base.there,fun b xs q=>?_,fun b ob xs q=>?_,fun b ps q=>?_⟩,I.loc,I.cell,?_,fun x c q=>?_,fun p hm=>?_,fun b ob q=>?_,I.len⟩
 ·rw[al (h0 b ob q)]; exact I.base.free b ob q n z
 ·have:=I.base.tups b xs q; rw[al (aE this hn)]; exact this
 ·have:=I.base.frzs b ob xs q; rw[al (aE this hn)]; exact this
 ·obtain⟨m,e⟩:=I.base.tbls b ps q; exact⟨m,by rw[al (aE e hn)]; exact e⟩
 ·rw[al hl]; exact I.free
 ·rw[al (hc x c q)]; exact I.freeC x c q
 ·obtain⟨e1,e2,e3⟩:=I.pin p hm
  exact⟨e1,by rw[al (hp p hm)]; exact e2,e3⟩
 ·by_cases e:b=a
  ·subst e; rw[show upd H b o b=some o from if_pos rfl]at q; cases q; exact ok
  ·rw[al e]at q
   exact(I.hok b ob q).stay (fun _ _ _ z=>z) (fun c z=>by rw[al (aE z hn)]; exact z) fun c xs z=>by rw[al (aE z hn)]; exact z
end
def tT(K:PySem.W.Frag)(ta:TA):TE:=fun σ H Q=>ta σ H fun vs H1=>∃ (a b:Addr) (xs ys:List V),vs=[.ref a,.ref b]∧SqL K H1 a xs∧SqL K H1 b ys∧xs.length=ys.length∧xs.length≤1000∧
 ∀ (p:Addr) (ts:List Addr) (H2:Hp),Same H1 H2→H1 p=none→H2 p=some (.lst (ts.map V.ref))→ts.length=xs.length→(∀ (j:Nat) (t:Addr),ts[j]? = some t→∃ x y,xs[j]? = some x∧ys[j]? = some y∧H2 t=some (.tup [x,y])∧H1 t=none)→Q (.ref p) H2
section
variable{X:Cx}{pins:List (Addr × Obj)}{σ : St}{H H1:Hp}{s s1:Shared}
theorem Inv.trkF{a:Addr}{o:HO}(I:Inv X pins σ H s)(I1:Inv X pins σ H1 s1)(hb:s1.heap.objs.size≤a)(hn:H a=none)(ok:ObjOk X.prog X.w (upd H a o) s.heap a o):Inv X pins σ (upd H a o) s:=by
 obtain⟨_,f1,_,_,f4,f5⟩:=I1.fpOk (H':=H) hb hn
 exact I.trk hn (fun b ob e=>Nat.ne_of_lt (Nat.lt_of_lt_of_le (Heap.lt_size e) (Nat.le_trans I1.sz hb))) (fun z=>f1 z.symm) f4 f5 ok
theorem nh(I1:Inv X pins σ H1 s1)(B:Nat)(hB:s1.heap.objs.size≤B):∀ (L:List (V × V)) (j:Nat) (H:Hp),Inv X pins σ H s→(∀ i,j≤i→H (B+i)=none)→(∀ i p,L[i]? = some p→∃ u v,RelV p.1 u∧RelV p.2 v∧IsPair s.heap (B+(j+i)) u v)→
  ∃ H2,Inv X pins σ H2 s∧Same H H2∧∀ i p,L[i]? = some p→H2 (B+(j+i))=some (.tup [p.1,p.2])
 | [],j,H,I,_,_=>⟨H,I,fun _ _ e=>e,fun i p e=>by simp at e⟩
 | p::L,j,H,I,hn,hp=>by
  obtain⟨u,v,ru,rv,e0⟩:=hp 0 p rfl
  have hs:sizeLine=16777216:=sizeLine_eq
  have hnj:=hn j (Nat.le_refl _);have I2:=I.trkF (a:=B+j) (o:=.tup [p.1,p.2]) I1 (Nat.le_trans hB (Nat.le_add_right _ _)) hnj ⟨by simp[hs],[u,v],.cons ru (.cons rv .nil),_,e0,rfl,rfl,_,rfl⟩
  obtain⟨H2,J,sm,hh⟩:=nh I1 B hB L (j+1) (upd H (B+j) (.tup [p.1,p.2])) I2 (fun i hi=>by
   have ne:B+i≠B+j:=(show (@Ne Nat (B+i) (B+j):Prop) by omega)
   rw[al ne]; exact hn i (by omega)) (fun i q e=>by
   obtain⟨u',v',r1,r2,r3⟩:=hp (i+1) q (by rw[List.getElem?_cons_succ]; exact e)
   refine⟨u',v',r1,r2,?_⟩
   rw[show B+(j+1+i)=B+(j+(i+1)) by omega]; exact r3)
  refine⟨H2,J,(ah hnj _).trans sm,fun i q e=>?_⟩
  cases i with
  | zero=>cases e; exact sm _ _ ae
  | succ i=>
   rw[show B+(j+(i+1))=B+(j+1+i) by omega]
   exact hh i q (by rw[List.getElem?_cons_succ]at e; exact e)
end
theorem zS{n l1 l2:Addr}(h1:l1<n)(h2:l2<n):ZipApart (n+4) (n+2) (n+3) n (n+1) l1 l2:=by
 have a:=yU n;have k1:∀ j,l1≠n+j:=fun j=>Nat.ne_of_lt (Nat.lt_of_lt_of_le h1 (Nat.le_add_right _ _))
 have k2:∀ j,l2≠n+j:=fun j=>Nat.ne_of_lt (Nat.lt_of_lt_of_le h2 (Nat.le_add_right _ _))
 exact⟨a.TIz,a.TOz,a.i1z,a.i2z,a.TITO,a.TIi1,a.TIi2,a.TOi1,a.TOi2,a.i12,k1 4,k1 3,Nat.ne_of_lt h1,k1 1,k2 4,k2 3,Nat.ne_of_lt h2,k2 1⟩
theorem nC(K:PySem.W.Frag){X:Cx}{m:Nat}{a b:Expr}{ta:TA}{p p2 pos pos2:Pos}(hr:Room m X.A)(hg:Gl X "list") (hm:X.mg "list" = none) (hg2:Gl X "zip") (hm2:X.mg "zip" = none) (ha:PA X [a,b] ta)
  (hs:starEach [a,b] X.env=[(false,eval a X.env),(false,eval b X.env)]:=by rfl) (hs1:starEach [b] X.env=[(false,eval b X.env)]:=by rfl) (hs2:starEach [.Call (.Name "zip" p2) [a,b] [] pos2] X.env=[(false,eval (.Call (.Name "zip" p2) [a,b] [] pos2) X.env)]:=by rfl) (hK:X.K=K:=by rfl) :
  PE X (.Call (.Name "list" p) [.Call (.Name "zip" p2) [a,b] [] pos2] [] pos) (tT K ta):=by
 subst hK;intro pins s σ H Q I h
 refine Call_ (cr I hg hm cw (PyProof.Rows.callWith_type1 ?_ hs2 rfl))
 rw[hs2];show wpAny _ _ (spliced ((false,eval (.Call (.Name "zip" p2) [a,b] [] pos2) X.env)::[])) _ _ s
 refine Calls.spliced_cons ?_
 refine Call_ (cr I hg2 hm2 kR (PyProof.Rows.callWith_type1 (aL (ha pos2 pins s σ H _ I h) fun us s1 ⟨vs,H1,I1,r1,q1⟩=>?_) (by rw[hs,hs1]) (by rw[hs1]; rfl)))
 obtain⟨l1,l2,xs,ys,e,h1,h2,hlen,hle,q⟩:=q1
 subst e;obtain⟨u1,u2,rfl,r1,r2⟩:=jm r1
 cases r1
 cases r2;obtain⟨is1,v1,p1,_⟩:=I1.list h1
 obtain⟨is2,v2,p2,_⟩:=I1.list h2
 have n1:is1.length=xs.length:=v1.length.symm
 have n2:is2.length=xs.length:=by rw[hlen]; exact v2.length.symm
 refine call_zip_2 p1.isList p2.isList fun h' a1 a2 a3 a4 a5 a6 kk=>?_
 refine Calls.spliced_nil ?_
 obtain⟨_,b1,_⟩:=id p1.isList
 obtain⟨_,b2,_⟩:=id p2.isList
 refine kE (s:={ s1 with heap:=h' }) (xs:=is1.toArray) (ys:=is2.toArray) (n:=xs.length) hr.hd (zS (Heap.lt_size b1) (Heap.lt_size b2)) hle (fun i hi=>⟨is1[i]'(by omega),is2[i]'(by omega),by simp[n1,hi],by simp[n2,hi]⟩) (.inl (by simp[n1])) a1 ⟨.inl a1,a2,⟨_,_,a3⟩,a4,a5,p1.isList.at fun o e=>kk _ o e,p2.isList.at fun o e=>kk _ o e⟩ fun h'' acc' c' hk hS hacc=>?_
 have I2:Inv X pins σ H1 { s1 with heap:=h'' }:=I1.kept (t':=s1.toks) fun b o e=>by
  have hb:=Heap.lt_size e;have ne:∀ j,b≠s1.heap.objs.size+j:=fun j=>Nat.ne_of_lt (Nat.lt_of_lt_of_le hb (Nat.le_add_right _ _))
  exact hk b o (ne 4) (ne 3) (Nat.ne_of_lt hb) (ne 1) (kk b o e)
 have hS':h''.get? h'.objs.size=some { cls:=.type "list", dict:=none,data:=.seq acc' c',slots:=#[] }:=hS
 have hacc':qN is1.toArray is2.toArray (h'.objs.size+1) acc' xs.length h'':=hacc
 have hsz:s1.heap.objs.size≤h'.objs.size:=by rw[a6]; exact Nat.le_add_right _ _
 have hsl:sizeLine=16777216:=sizeLine_eq
 have hn0:∀ b,h'.objs.size≤b→H1 b=none:=fun b hb=>I1.hok.fresh (Nat.le_trans hsz hb)
 have hat:∀ j,j<xs.length→acc'[j]? = some (.ref (h'.objs.size+1+j))∧∃ u v,is1[j]? = some u∧is2[j]? = some v∧IsPair h'' (h'.objs.size+1+j) u v:=fun j hj=>by
  have hj':j<acc'.size:=by rw[hacc'.1]; exact hj
  have e:=Array.getElem?_eq_getElem hj';obtain⟨x,y,e1,e2,e3,e4⟩:=hacc'.2 j _ e
  exact⟨by rw[e,e1],x,y,by simpa using e2,by simpa using e3,e4⟩
 have I3:=I2.trkF (a:=h'.objs.size) (o:=.lst (((List.range xs.length).map fun j=>h'.objs.size+1+j).map V.ref)) I1 hsz (hn0 _ (Nat.le_refl _)) ⟨by simp; omega,acc'.toList,c',gE _ _ (by simp[hacc'.1]) fun j x w' e1 e2=>by
  have hj:j<xs.length:=by
   refine Classical.byContradiction fun hn=>?_
   rw[List.getElem?_eq_none (by simp; omega)]at e1; cases e1
  rw[List.getElem?_map,List.getElem?_map,List.getElem?_range hj]at e1
  cases e1;have e3:=(hat j hj).1;rw[← Array.getElem?_toList,e2]at e3
  cases e3;exact rfl,by simpa using hS'⟩
 obtain⟨H2,I4,sm,ht⟩:=nh I1 (h'.objs.size+1) (Nat.le_trans hsz (Nat.le_succ _)) (xs.zip ys) 0 _ I3 (fun i _=>by
  have ne:h'.objs.size+1+i≠h'.objs.size:=(show (@Ne Nat (h'.objs.size+1+i) (h'.objs.size):Prop) by omega)
  rw[al ne]
  exact hn0 _ (Nat.le_trans (Nat.le_succ _) (Nat.le_add_right _ _))) (fun i p e=>by
  have hi:i<xs.length:=by have:=(List.getElem?_eq_some_iff.mp e).1; rw[List.length_zip,← hlen,Nat.min_self]at this; exact this
  obtain⟨_,u,v,f1,f2,f3⟩:=hat i hi
  rw[List.getElem?_zip_eq_some]at e
  refine⟨u,v,dj v1 e.1 f1,dj v2 e.2 f2,?_⟩
  rw[Nat.zero_add]; exact f3)
 refine⟨.ref h'.objs.size,H2,I4,rfl,q h'.objs.size ((List.range xs.length).map fun j=>h'.objs.size+1+j) H2 ((ah (hn0 _ (Nat.le_refl _)) _).trans sm) (hn0 _ (Nat.le_refl _)) (sm _ _ ae) (by simp) (fun j t e=>?_)⟩
 have hj:j<xs.length:=by have:=(List.getElem?_eq_some_iff.mp e).1; simpa using this
 rw[List.getElem?_map,List.getElem?_range hj]at e
 cases e;have hj2:j<ys.length:=by omega
 refine⟨xs[j],ys[j],List.getElem?_eq_getElem hj,List.getElem?_eq_getElem hj2,?_,hn0 _ (Nat.le_trans (Nat.le_succ _) (Nat.le_add_right _ _))⟩
 have:=ht j (xs[j],ys[j]) (by rw[List.getElem?_zip_eq_some]; exact⟨List.getElem?_eq_getElem hj,List.getElem?_eq_getElem hj2⟩)
 rw[Nat.zero_add]at this
 exact this
end L2
namespace L2
open PySem PySem.Spec PyProof.Rows PySem.SeqAt PySem.Builtin PySem.Builtin.Str PySem.StrLaws
end L2
namespace L2
open PySem
def gM(M i:Nat):Nat:=(i * 5+1) % M
def iQ(M:Nat):Nat→Nat→Nat
 | 0,i=>i
 | t+1,i=>iQ M t (gM M i)
theorem iJ(M:Nat):∀ (a b i:Nat),iQ M (a+b) i=iQ M b (iQ M a i)
 | 0,b,i=>by rw[Nat.zero_add]; rfl
 | a+1,b,i=>by rw[show a+1+b=(a+b)+1 by omega]; exact iJ M a b (gM M i)
def rM(M:Nat):Nat→Nat→List Nat
 | 0,_=>[]
 | n+1,i=>i::rM M n (gM M i)
theorem mM(M:Nat):∀ (n i e:Nat),e∈rM M n i→∃ t,t<n∧iQ M t i=e
 | 0,i,e,h=>by cases h
 | n+1,i,e,h=>by
  rcases List.mem_cons.mp h with rfl | h
  ·exact⟨0,by omega,rfl⟩
  ·obtain⟨t,ht,q⟩:=mM M n (gM M i) e h
   exact⟨t+1,by omega,q⟩
theorem uo{M:Nat}(hM:M∈[8,16,32,64,128,256]){i e:Nat}(hi:i<M)(he:e<M):∃ t,t<M∧iQ M t i=e:=by
 have h1:∀ M∈[8,16,32,64,128,256],iQ M M 0=0∧(List.range M).all (fun e=>(rM M M 0).contains e)=true:=by decide +kernel
 obtain⟨h0,hall⟩:=h1 M hM
 rw[List.all_eq_true]at hall
 have meet:∀ e,e<M→∃ t,t<M∧iQ M t 0=e:=fun e he=>mM M M 0 e (by have:=hall e (List.mem_range.mpr he); simpa using this)
 obtain⟨a,ha,ea⟩:=meet i hi
 obtain⟨b,hb,eb⟩:=meet e he
 rcases Nat.lt_or_ge b a with z | z
 ·refine⟨b+M - a,by omega,?_⟩
  rw[← ea,← iJ,show a+(b+M - a)=M+b by omega,iJ,h0,eb]
 ·refine⟨b - a,by omega,?_⟩
  rw[← ea,← iJ,show a+(b - a)=b by omega,eb]
def h_(mask:Nat):Nat→Nat→Nat→Nat
 | 0,i,p=>i
 | t+1,i,p=>h_ mask t ((i * 5+1+p / 32) % (mask+1)) (p / 32)
theorem lT(mask:Nat):∀ (t i:Nat),h_ mask t i 0=iQ (mask+1) t i
 | 0,i=>rfl
 | t+1,i=>by
  show h_ mask t ((i * 5+1+0 / 32) % (mask+1)) (0 / 32)=iQ (mask+1) t (gM (mask+1) i)
  rw[Nat.zero_div,Nat.add_zero];exact lT mask t _
theorem ny(mask:Nat):∀ (a b i p:Nat),h_ mask (a+b) i p=h_ mask b (h_ mask a i p) (p / 32 ^ a)
 | 0,b,i,p=>by rw[Nat.zero_add,Nat.pow_zero,Nat.div_one]; rfl
 | a+1,b,i,p=>by
  rw[show a+1+b=(a+b)+1 by omega]
  show h_ mask (a+b) _ (p / 32)=h_ mask b (h_ mask a _ (p / 32)) _
  rw[ny mask a b,Nat.div_div_eq_div_mul,Nat.pow_succ,Nat.mul_comm (32 ^ a) 32]
theorem oT(mask:Nat):∀ (t i p:Nat),i≤mask→h_ mask t i p≤mask
 | 0,i,p,h=>h
 | t+1,i,p,h=>oT mask t _ _ (by have:=Nat.mod_lt (i * 5+1+p / 32) (show 0<mask+1 by omega); omega)
theorem vc(mask i:Nat):i≤SetTable.runEnd mask i:=by unfold SetTable.runEnd; split <;> omega
theorem kx{mask:Nat}{owner:Array (Option Nat)}:∀ (f i p:Nat),SetTable.layClean.free mask owner f i p=none→∀ t,t<f→(owner.getD (h_ mask t i p) (some 0)).isNone=false
 | 0,i,p,h,t,ht=>by omega
 | f+1,i,p,h,t,ht=>by
  unfold SetTable.layClean.free at h;split at h
  ·cases h
  ·rename_i hf
   rw[List.find?_eq_none]at hf
   cases t with
   | zero=>
    have t:=hf 0 (List.mem_range.mpr (by have:=vc mask i; omega))
    rw[Nat.add_zero]at t
    exact Bool.eq_false_iff.mpr t
   | succ t=>exact kx f _ _ h t (by omega)
theorem kh{mask:Nat}{owner:Array (Option Nat)}{j:Nat}:∀ (f i p:Nat),SetTable.layClean.free mask owner f i p=some j→(owner.getD j (some 0)).isNone=true
 | 0,i,p,h=>by unfold SetTable.layClean.free at h; cases h
 | f+1,i,p,h=>by
  unfold SetTable.layClean.free at h;split at h
  ·rename_i k hf
   cases h;exact @List.find?_some _ (fun k=>(owner.getD (i+k) (some 0)).isNone) _ _ hf
  ·exact kh f _ _ h
theorem uS(h:Int):SetTable.bits h<2 ^ 64:=by
 unfold SetTable.bits;omega
theorem uT{mask:Nat}(hM:mask+1∈[8,16,32,64,128,256]){owner:Array (Option Nat)}{e:Nat}(he:e≤mask)(hn:(owner.getD e (some 0)).isNone=true)(h:Int) :
  ∃ j,SetTable.layClean.free mask owner (SetTable.turns mask) (SetTable.bits h % (mask+1)) (SetTable.bits h)=some j∧(owner.getD j (some 0)).isNone=true:=by
 cases q:SetTable.layClean.free mask owner (SetTable.turns mask) (SetTable.bits h % (mask+1)) (SetTable.bits h) with
 | some j=>exact⟨j,rfl,kh _ _ _ q⟩
 | none=>
  exfalso
  have hno:=kx _ _ _ q;have hi:SetTable.bits h % (mask+1)≤mask:=by have:=Nat.mod_lt (SetTable.bits h) (show 0<mask+1 by omega); omega
  obtain⟨t,ht,et⟩:=uo hM (i:=h_ mask 13 (SetTable.bits h % (mask+1)) (SetTable.bits h)) (e:=e) (by have:=oT mask 13 _ (SetTable.bits h) hi; omega) (by omega)
  have z:=hno (13+t) (by unfold SetTable.turns; omega)
  have hz:SetTable.bits h / 32 ^ 13=0:=Nat.div_eq_of_lt (Nat.lt_of_lt_of_le (uS h) (by decide))
  rw[ny,hz,lT,et,hn]at z
  cases z
theorem pV{α : Type}(f g:Nat→Option α)(j:Nat)(k:α)(hf:f j=none)(hg:g j=some k)(he:∀ i,i≠j→g i=f i):∀ (l:List Nat),l.Nodup→(j∈l→(l.filterMap g).Perm (k::l.filterMap f))∧(j∉l→l.filterMap g=l.filterMap f)
 | [],_=>⟨fun h=>(nomatch h),fun _=>rfl⟩
 | a::l,nd=>by
  rw[List.nodup_cons]at nd
  have ih:=pV f g j k hf hg he l nd.2
  by_cases e:a=j
  ·subst e
   refine⟨fun _=>?_,fun h=>absurd List.mem_cons_self h⟩
   rw[List.filterMap_cons_some hg,List.filterMap_cons_none hf,ih.2 nd.1]
  ·refine⟨fun h=>?_,fun h=>?_⟩
   ·have hl:j∈l:=by
     rcases List.mem_cons.mp h with z | z
     ·exact absurd z.symm e
     ·exact z
    have:=ih.1 hl
    cases q:f a with
    | none=>rw[List.filterMap_cons_none (by rw[he a e]; exact q),List.filterMap_cons_none q]; exact this
    | some x=>
     rw[List.filterMap_cons_some (by rw[he a e]; exact q),List.filterMap_cons_some q]
     exact(this.cons x).trans (List.Perm.swap _ _ _)
   ·have hl:j∉l:=fun z=>h (List.mem_cons_of_mem _ z)
    cases q:f a with
    | none=>rw[List.filterMap_cons_none (by rw[he a e]; exact q),List.filterMap_cons_none q,ih.2 hl]
    | some x=>rw[List.filterMap_cons_some (by rw[he a e]; exact q),List.filterMap_cons_some q,ih.2 hl]
structure nA (mask:Nat) (owner:Array (Option Nat)) (k:Nat):Prop where
 sz:owner.size=mask+1
 pm:((List.range (mask+1)).filterMap (fun j=>owner.getD j none)).Perm (List.range k)
theorem su{mask:Nat}{owner:Array (Option Nat)}{k j:Nat}(h:nA mask owner k)(hj:(owner.getD j (some 0)).isNone=true):nA mask (owner.setIfInBounds j (some k)) (k+1):=by
 have hlt:j<owner.size:=by
  rcases Nat.lt_or_ge j owner.size with z | z
  ·exact z
  ·rw[Array.getD_eq_getD_getElem?,Array.getElem?_eq_none z]at hj; cases hj
 have hjn:owner.getD j none=none:=by
  rw[Array.getD_eq_getD_getElem?,Array.getElem?_eq_getElem hlt]at hj ⊢
  simpa using hj
 refine⟨by rw[Array.size_setIfInBounds]; exact h.sz,?_⟩
 have:=(pV (fun i=>owner.getD i none) (fun i=>(owner.setIfInBounds j (some k)).getD i none) j k hjn (by simp[Array.getD_eq_getD_getElem?,Array.getElem?_setIfInBounds,hlt]) (fun i hi=>by simp[Array.getD_eq_getD_getElem?,Array.getElem?_setIfInBounds,Ne.symm hi]) (List.range (mask+1)) List.nodup_range).1 (List.mem_range.mpr (by have:=h.sz; omega))
 refine this.trans ((h.pm.cons k).trans ?_)
 rw[List.range_succ];exact(List.perm_append_comm (l₁:=[k]) (l₂:=List.range k))
theorem rZ{mask:Nat}{owner:Array (Option Nat)}{k:Nat}(h:nA mask owner k)(hk:k≤mask):∃ e,e≤mask∧(owner.getD e (some 0)).isNone=true:=by
 refine Classical.byContradiction fun hn=>?_
 have hall:∀ e∈List.range (mask+1),(owner.getD e none).isSome=true:=fun e he=>by
  have he':=List.mem_range.mp he;have hlt:e<owner.size:=by rw[h.sz]; exact he'
  cases q:(owner.getD e (some 0)).isNone with
  | true=>exact absurd ⟨e,by omega,q⟩ hn
  | false=>
   rw[Array.getD_eq_getD_getElem?,Array.getElem?_eq_getElem hlt]at q ⊢
   cases z:owner[e] with
   | none=>rw[z]at q; cases q
   | some x=>simp[z]
 have hl:((List.range (mask+1)).filterMap (fun j=>owner.getD j none)).length=mask+1:=by
  have gen:∀ (l:List Nat),(∀ e∈l,(owner.getD e none).isSome=true)→(l.filterMap (fun j=>owner.getD j none)).length=l.length:=by
   intro l
   induction l with
   | nil=>intro _; rfl
   | cons a l ih=>
    intro ha
    obtain⟨x,hx⟩:=Option.isSome_iff_exists.mp (ha a List.mem_cons_self)
    rw[List.filterMap_cons_some (f:=fun j=>owner.getD j none) hx,List.length_cons,List.length_cons,ih fun e he=>ha e (List.mem_cons_of_mem _ he)]
  rw[gen _ hall,List.length_range]
 have:=h.pm.length_eq
 rw[hl,List.length_range]at this
 omega
theorem kS{mask:Nat}(hM:mask+1∈[8,16,32,64,128,256]):∀ (hs:List Int) (owner:Array (Option Nat)) (k:Nat),nA mask owner k→k+hs.length≤mask+1→
  ∃ owner',hs.foldl (fun (acc:Option (Array (Option Nat) × Nat)) h=>do
   let (owner,k) ← acc
   let j ← SetTable.layClean.free mask owner (SetTable.turns mask) (SetTable.bits h % (mask+1)) (SetTable.bits h)
   pure (owner.setIfInBounds j (some k),k+1)) (some (owner,k))=some (owner',k+hs.length)∧nA mask owner' (k+hs.length)
 | [],owner,k,h,_=>⟨owner,rfl,h⟩
 | x::hs,owner,k,h,hl=>by
  rw[List.length_cons]at hl
  obtain⟨e,he,hn⟩:=rZ h (by omega)
  obtain⟨j,ej,hj⟩:=uT hM he hn x
  obtain⟨o',e',h'⟩:=kS hM hs _ (k+1) (su h hj) (by omega)
  refine⟨o',?_,by rw[List.length_cons,show k+(hs.length+1)=k+1+hs.length by omega]; exact h'⟩
  rw[List.foldl_cons,List.length_cons,show k+(hs.length+1)=k+1+hs.length by omega,← e']
  congr 1
  show (some (owner,k)).bind _=_
  rw[Option.bind_some];show (SetTable.layClean.free mask owner (SetTable.turns mask) (SetTable.bits x % (mask+1)) (SetTable.bits x)).bind _=_
  rw[ej]; rfl
theorem uy(mask:Nat):nA mask (Array.replicate (mask+1) none) 0:=by
 refine⟨by simp,?_⟩
 have:(List.range (mask+1)).filterMap (fun j=>(Array.replicate (mask+1) (none:Option Nat)).getD j none)=[]:=by
  rw[List.filterMap_eq_nil_iff];intro j _
  rw[Array.getD_eq_getD_getElem?,Array.getElem?_replicate];split <;> rfl
 rw[this];exact List.Perm.refl _
theorem mQ{mask:Nat}(hM:mask+1∈[8,16,32,64,128,256])(f m:Nat)(led plain:Bool)(hs:Array Int)(hl:hs.size≤mask) :
  ∃ t order,SetTable.laid mask f m led plain hs=some (t,order)∧order.toList.Perm (List.range hs.size)∧t.mask=mask∧t.place.size=hs.size∧t.dummies = #[]∧t.led=led:=by
 obtain⟨owner,e,h⟩:=kS hM hs.toList _ 0 (uy mask) (by simp; omega)
 rw[Nat.zero_add]at e h
 have ec:SetTable.layClean mask hs=some owner:=by
  unfold SetTable.layClean;rw[← Array.foldl_toList];rw[e]; rfl
 unfold SetTable.laid;rw[ec];refine⟨_,_,rfl,?_,rfl,?_,rfl,rfl⟩
 ·show (((List.range (mask+1)).filterMap fun j=>(owner.getD j none).map (j,·)).map (·.2)).toArray.toList.Perm _
  rw[List.map_filterMap]
  have:(fun j=>Option.map (fun x:Nat × Nat=>x.2) ((owner.getD j none).map (j,·)))=fun j=>owner.getD j none:=by
   funext j
   cases owner.getD j none <;> rfl
  rw[this]
  simpa using h.pm
 ·show (((List.range (mask+1)).filterMap fun j=>(owner.getD j none).map (j,·)).map (·.1)).toArray.size=_
  have h2:=h.pm.length_eq
  have h3:((List.range (mask+1)).filterMap fun j=>(owner.getD j none).map (j,·)).length=((List.range (mask+1)).filterMap fun j=>owner.getD j none).length:=by
   have:((List.range (mask+1)).filterMap fun j=>owner.getD j none)=((List.range (mask+1)).filterMap fun j=>(owner.getD j none).map (j,·)).map (·.2):=by
    rw[List.map_filterMap]
    congr 1
    funext j
    cases owner.getD j none <;> rfl
   rw[this,List.length_map]
  simp only[List.size_toArray,List.length_map]
  rw[h3,h2,List.length_range]; simp
theorem qZ:∀ n,n≤240→SetTable.sizeAbove n - 1+1∈[8,16,32,64,128,256]∧n≤SetTable.sizeAbove n - 1:=by decide +kernel
end L2
namespace L2
open PySem PySem.Spec PyProof.Rows PySem.SeqAt
section
variable{prog:Program}{w:World}{K:Type}[DecidableEq K]{knd:KeyKind prog w K}{A:Around}{E:Value→Shared→Prop}{s:Shared}{L:Bool}
theorem p9{es:Array (Int × Value)}{order:Array Nat}(hp:order.toList.Perm (List.range es.size)):(order.filterMap (es[·]?)).toList.Perm es.toList:=by
 rw[Array.toList_filterMap];exact(hp.filterMap _).trans (by rw[filterMap_getElem?_range])
theorem i7{mask f m:Nat}{led plain:Bool}{hs:Array Int}{t:SetTable}{order:Array Nat}(e:SetTable.laid mask f m led plain hs=some (t,order)):dk t.place:=by
 unfold SetTable.laid at e
 cases ho:SetTable.layClean mask hs with
 | none=>rw[ho]at e; cases e
 | some owner=>
  rw[ho]at e
  cases e;refine eR ?_
  refine List.pairwise_map.mpr ?_
  refine List.Pairwise.filterMap _ ?_ List.pairwise_lt_range
  intro a b hab x hx y hy
  obtain⟨k,_,rfl⟩:=Option.map_eq_some_iff.mp hx
  obtain⟨k',_,rfl⟩:=Option.map_eq_some_iff.mp hy
  exact hab
def xa(mask:Nat):Prop:=mask+1∈[8,16,32,64,128,256]
def SetX(knd:KeyKind prog w K)(L:Bool)(h:Heap)(a:Addr)(S:K→Bool)(n m:Nat):Prop:=∃ o es ep t,h.get? a=some o∧im knd (aT L) o es ep t S n∧xa t.mask∧m≤t.mask∧t.dummies = #[]
theorem SetX.g{h:Heap}{a:Addr}{S:K→Bool}{n m:Nat}(x:SetX knd L h a S n m):SetG knd (aT L) h a S n:=let ⟨o,es,ep,t,ho,T,_⟩:=x; ⟨o,es,ep,t,ho,T⟩
theorem iT{o:Obj}{es es':Array (Int × Value)}{ep:Nat}{t t':SetTable}{S:K→Bool}{n:Nat}(T:im knd (aT L) o es ep t S n)(hp:es'.toList.Perm es.toList)(hf:t'.fits es'.size=true)(hg:aT L t'):∀ {o':Obj} {ep':Nat},o'.ExactSet→o'.data = .set es' ep' t'→im knd (aT L) o' es' ep' t' S n:=fun {o' ep'} ex da=>by
 have hsz:es'.size=es.size:=by rw[← Array.length_toList,hp.length_eq,Array.length_toList]
 exact⟨ex,da,T.el.perm hp,fun k'=>(T.mem k').trans ⟨fun ⟨e,he,q⟩=>⟨e,hp.mem_iff.mpr he,q⟩,fun ⟨e,he,q⟩=>⟨e,hp.mem_iff.mp he,q⟩⟩,by rw[hsz]; exact T.few,hf,by rw[hsz]; exact T.num,hg,T.apart.perm hp⟩
theorem m8{t:SetTable}{n:Nat}(h1:t.place.size=n)(h2:t.dummies = #[])(h3:n≤t.mask):t.fits n=true:=by
 unfold SetTable.fits SetTable.fill;rw[h1,h2];simp
 omega
theorem qL{a:Addr}{S:K→Bool}{n wanted:Nat}{Q:Unit→Shared→Prop}(hS:SetG knd (aT L) s.heap a S n)(hw:wanted≤240)(hn:n≤wanted)
  (h:∀ h',Heap.SameBut a s.heap h'→SetX knd L h' a S n wanted→Q () { s with heap:=h' }):wpAny (model prog w) A (setRelay a wanted) Q E s:=by
 obtain⟨o,es,ep,t,ho,T⟩:=hS
 obtain⟨hM,hm⟩:=qZ wanted hw
 unfold setRelay;refine wpAny_bind (wpAny_setState_of ho T.dat T.fit ?_)
 dsimp only
 have hsa:¬ SetTable.sizeAbove wanted>sizeLine:=by
  have:SetTable.sizeAbove wanted - 1+1≤256:=by
   simp only[List.mem_cons,List.not_mem_nil,or_false]at hM
   omega
  have hs:sizeLine=16777216:=sizeLine_eq
  omega
 rw[if_neg hsa];obtain⟨t',order,e,hp,hmask,hpl,hdu,hled⟩:=mQ hM t.finger (t.movedTo (SetTable.sizeAbove wanted - 1)) t.led t.plain (es.map (·.1)) (by rw[Array.size_map,T.num]; omega)
 rw[Array.size_map]at hp hpl
 have hr:t.relaid (es.map (·.1)) wanted=some (t',order):=e
 rw[hr];have hpm:=p9 hp;have hsz:(order.filterMap (es[·]?)).size=es.size:=by rw[← Array.length_toList,hpm.length_eq,Array.length_toList]
 refine wpAny_bind ?_
 show wpAny _ _ (if ((order.filterMap (es[·]?)).size != es.size)=true then _ else pure (order.filterMap (es[·]?),t')) _ _ _
 rw[if_neg (by rw[hsz]; simp)]
 refine wpAny_pure ?_
 dsimp only
 have hf':t'.fits (order.filterMap (es[·]?)).size=true:=by rw[hsz]; exact m8 hpl hdu (by rw[hmask,T.num]; omega)
 have hg':aT L t':=⟨hled.trans T.good.led,i7 e⟩
 obtain⟨o1,ho1,U1⟩:=stored (es':=order.filterMap (es[·]?)) (t':=t') (S':=S) (n':=n) ho T fun o' ex da=>iT T hpm hf' hg' ex da
 refine wpAny_storeSet_of ho T.dat ?_ (fits_of_scanBound U1.few)
 exact h _ (Heap.SameBut.update ..) ⟨o1,_,_,_,ho1,U1,by unfold xa; rw[hmask]; exact hM,by rw[hmask]; exact hm,hdu⟩
theorem xZ{a:Addr}{S:K→Bool}{more:Nat}{Q:Unit→Shared→Prop}(hS:SetX knd L s.heap a S 0 7)(hm:more≤60)
  (h:∀ h',Heap.SameBut a s.heap h'→SetX knd L h' a S 0 more→Q () { s with heap:=h' }):wpAny (model prog w) A (setRoomFor a more) Q E s:=by
 obtain⟨o,es,ep,t,ho,T,hP,h7,hd⟩:=id hS
 have hpl:t.place.size=0:=by
  have:=T.fit
  unfold SetTable.fits at this;simp only[Bool.and_eq_true,beq_iff_eq]at this
  rw[this.1]; exact T.num
 have hfill:t.fill=0:=by unfold SetTable.fill; rw[hpl,hd]; rfl
 unfold setRoomFor;refine wpAny_bind (wpAny_setState_of ho T.dat T.fit ?_)
 dsimp only
 unfold SetTable.roomFor;rw[hfill,hpl,Nat.zero_add]
 by_cases c:more * 5≥t.mask * 3
 ·rw[if_pos c]
  refine qL hS.g (by omega) (by omega) fun h' sb x=>h h' sb ?_
  obtain⟨o1,es1,ep1,t1,z1,z2,z3,z4,z5⟩:=x
  exact⟨o1,es1,ep1,t1,z1,z2,z3,by omega,z5⟩
 ·rw[if_neg c]
  refine wpAny_pure ?_
  have e:s={ s with heap:=s.heap }:=by cases s; rfl
  rw[e];exact h s.heap (Heap.SameBut.refl _ _) ⟨o,es,ep,t,ho,T,hP,by omega,hd⟩
theorem yj{a:Addr}{S:K→Bool}{n more:Nat}{Q:Unit→Shared→Prop}(hS:SetG knd (aT L) s.heap a S n)(hm:n+more≤120)
  (h:∀ h',Heap.SameBut a s.heap h'→SetG knd (aT L) h' a S n→Q () { s with heap:=h' }):wpAny (model prog w) A (setRoomFor a more) Q E s:=by
 obtain⟨o,es,ep,t,ho,T⟩:=id hS
 have hpl:t.place.size=n:=by
  have:=T.fit
  unfold SetTable.fits at this;simp only[Bool.and_eq_true,beq_iff_eq]at this
  rw[this.1]; exact T.num
 unfold setRoomFor;refine wpAny_bind (wpAny_setState_of ho T.dat T.fit ?_)
 dsimp only
 unfold SetTable.roomFor;rw[hpl]
 by_cases c:(t.fill+more) * 5≥t.mask * 3
 ·rw[if_pos c]
  exact qL hS (by omega) (by omega) fun h' sb x=>h h' sb x.g
 ·rw[if_neg c]
  refine wpAny_pure ?_
  have e:s={ s with heap:=s.heap }:=by cases s; rfl
  rw[e];exact h s.heap (Heap.SameBut.refl _ _) hS
theorem qc{a b:Addr}{S0 S:K→Bool}{n:Nat}{each:Sem Unit}{Q:Unit→Shared→Prop}(hab:a≠b)(h0:SetX knd L s.heap a S0 0 7)(hS:SetG knd (aT L) s.heap b S n)(hn:n≤60)
  (h:∀ h',Heap.SameBut a s.heap h'→(n=0→h'=s.heap)→SetG knd (aT L) h' a S n→Q () { s with heap:=h' }):wpAny (model prog w) A (setMerge a b each) Q E s:=by
 obtain⟨o,es,ep,t,ho,T⟩:=id hS
 unfold setMerge;rw[if_neg (by simpa using hab)]
 refine wpAny_bind (wpAny_setState_of ho T.dat T.fit ?_)
 dsimp only
 by_cases he:es.isEmpty=true
 ·rw[if_pos he]
  have hn0:n=0:=by rw[← T.num]; simpa using he
  refine wpAny_pure ?_
  have e:s={ s with heap:=s.heap }:=by cases s; rfl
  rw[e];refine h s.heap (Heap.SameBut.refl _ _) (fun _=>rfl) ?_
  obtain⟨o0,es0,ep0,t0,ho0,T0,_⟩:=h0
  have hS0:S0=S:=by
   funext k
   have e1:S0 k=false:=by
    cases q:S0 k with
    | false=>rfl
    | true=>
     obtain⟨x,hx,_⟩:=(T0.mem k).mp q; have:es0 = #[]:=by simpa using T0.num
     rw[this]at hx; cases hx
   have e2:S k=false:=by
    cases q:S k with
    | false=>rfl
    | true=>
     obtain⟨x,hx,_⟩:=(T.mem k).mp q; have:es = #[]:=by simpa using he
     rw[this]at hx; cases hx
   rw[e1,e2]
  subst hS0; subst hn0
  exact⟨o0,es0,ep0,t0,ho0,T0⟩
 ·rw[if_neg he]
  refine wpAny_bind (xZ h0 (by rw[T.num]; exact hn) fun h1 sb1 x1=>?_)
  rw[T.num]at x1
  obtain⟨o1,es1,ep1,t1,ho1,T1,hP1,hm1,hd1⟩:=x1
  refine wpAny_bind (wpAny_setState_of ho1 T1.dat T1.fit ?_)
  dsimp only
  have hpl1:t1.place.size=0:=by
   have:=T1.fit
   unfold SetTable.fits at this;simp only[Bool.and_eq_true,beq_iff_eq]at this
   rw[this.1]; exact T1.num
  have hroad:t1.road t=if (t1.mask == t.mask&&t.dummies.isEmpty)=true then .slotForSlot else .clean:=by
   unfold SetTable.road SetTable.fill;rw[hpl1,hd1]; rfl
  have fin:∀ (es':Array (Int × Value)) (t':SetTable),es'.toList.Perm es.toList→t'.fits es'.size=true→aT L t'→wpAny (model prog w) A (storeSet a es' t') Q E { s with heap:=h1 }:=fun es' t' hp hf hg=>by
   have hp1:=putSet_of es' t' T1.dat;have hget:=Heap.get?_update_self (Obj.putSet es' t') ho1 (by rw[hp1]; rfl)
   rw[hp1]at hget
   have U:=iT T hp hf hg (o':={ o1 with data:=.set es' (ep1+1) t' }) (ep':=ep1+1) T1.ex rfl;refine wpAny_storeSet_of ho1 T1.dat ?_ (fits_of_scanBound U.few)
   exact h _ (sb1.trans (Heap.SameBut.update ..)) (fun z=>absurd (by simpa using T.num.trans z) (by simpa using he)) ⟨_,_,_,_,hget,U⟩
  rw[hroad]
  by_cases c:(t1.mask == t.mask&&t.dummies.isEmpty)=true
  ·rw[if_pos c]
   refine fin es _ (List.Perm.refl _) ?_ ?_
   ·have:=T.fit
    exact this
   ·exact⟨by show (t1.led&&t.led)=L; rw[T1.good.led,T.good.led,Bool.and_self],T.good.rise⟩
  ·rw[if_neg c]
   obtain⟨t',order,e,hp,hmask,hpl,hdu,hled⟩:=mQ hP1 t1.finger t1.moves (t1.led&&t.led) (t1.plain&&t.plain) (es.map (·.1)) (by rw[Array.size_map,T.num]; omega)
   rw[Array.size_map]at hp hpl
   dsimp only
   rw[e];have hpm:=p9 hp;have hsz:(order.filterMap (es[·]?)).size=es.size:=by rw[← Array.length_toList,hpm.length_eq,Array.length_toList]
   refine wpAny_bind ?_
   show wpAny _ _ (if ((order.filterMap (es[·]?)).size != es.size)=true then _ else pure (order.filterMap (es[·]?),t')) _ _ _
   rw[if_neg (by rw[hsz]; simp)]
   refine wpAny_pure ?_
   dsimp only
   exact fin _ _ hpm (by rw[hsz]; exact m8 hpl hdu (by rw[hmask,T.num]; exact hm1)) ⟨by rw[hled,T1.good.led,T.good.led,Bool.and_self],i7 e⟩
theorem yg{a:Addr}{o:Obj}{es:Array (Int × Value)}{ep:Nat}{t:SetTable}{Q:Array (Int × Value)→Shared→Prop}(ho:s.heap.get? a=some o)(hd:o.data = .set es ep t)(hf:t.fits es.size=true)(hg:aT (aQ w) t)(hp:w.params.followText "set-order" = true∨t.plain=true∨es.size≤1)
  (h:∀ arr,arr.toList.Perm es.toList→Q arr s):wpAny (model prog w) A (setWalk a) Q E s:=by
 unfold setWalk;refine wpAny_bind (wpAny_setState_of ho hd hf ?_)
 dsimp only
 refine wpAny_bind ?_
 unfold setsByText;refine wpAny_bind (wpAny_askSetting (wpAny_pure ?_))
 show wpAny _ _ (if w.params.followText "set-order" = true then _ else _) _ _ _
 cases hb:w.params.followText "set-order" with
 | true=>
  simp only[if_true]
  refine wpAny_bind (wpAny_askSetting (wpAny_pure ?_))
  exact h _ (j4 _ _)
 | false=>
  simp only[Bool.false_eq_true,if_false]
  have hnd:¬ ((!t.plain&&decide (es.size>1))=true):=by
   rw[hb]at hp
   rcases hp with z | z | z
   ·cases z
   ·rw[z]; simp
   ·simp; omega
  show wpAny _ _ (if (!t.plain&&decide (es.size>1))=true then _ else _) _ _ _
  rw[if_neg hnd];have hled:t.led=true:=by rw[hg.led]; unfold aQ; rw[hb]; rfl
  refine wpAny_bind ?_
  show wpAny _ _ (if (!t.led&&decide (es.size>1))=true then _ else _) _ _ _
  rw[hled];refine wpAny_pure (wpAny_pure ?_)
  exact h es (List.Perm.refl _)
theorem wR{Q:Bool→Shared→Prop}:∀ (sets:List Addr),(∀ a∈sets,∃ o es ep t,s.heap.get? a=some o∧o.data = .set es ep t∧t.fits es.size=true∧∀ e∈es.toList,e.2.scannable=true)→Q true s→wpAny (model prog w) A (setsQuiet sets) Q E s:=by
 intro sets hs h
 unfold setsQuiet;refine wpAny_bind (wpAny_forIn_list _ (fun rest b s'=>b.1=none∧s'=s∧∀ a∈rest,a∈sets) _ ?_ ?_ _ _ ⟨rfl,rfl,fun _ z=>z⟩)
 ·rintro a rest b s' ⟨hb,rfl,hm⟩
  obtain⟨o,es,ep,t,ho,hd,hf,hsc⟩:=hs a (hm a List.mem_cons_self)
  refine wpAny_bind (wpAny_setEntries_of ho hd hf ?_)
  refine wpAny_bind (MeetsSeq2.wpAny_forIn_array _ (fun rest' b' s2=>b'.1=none∧s2=s'∧∀ e∈rest',e∈es.toList) _ ?_ ?_ _ _ ⟨rfl,rfl,fun _ z=>z⟩)
  ·rintro⟨hh,x⟩ rest' b' s2 ⟨hb',rfl,hm'⟩
   have hx:=hsc _ (hm' _ List.mem_cons_self)
   dsimp only at hx ⊢
   cases x with
   | ref c=>cases hx
   | _=>exact wpAny_pure ⟨rfl,rfl,fun e he=>hm' e (List.mem_cons_of_mem _ he)⟩
  ·rintro b' s2 ⟨hb',rfl,_⟩
   obtain⟨b1,b2⟩:=b'
   cases hb';exact wpAny_pure ⟨rfl,rfl,fun a' ha'=>hm a' (List.mem_cons_of_mem _ ha')⟩
 ·rintro b s' ⟨hb,rfl,_⟩
  obtain⟨b1,b2⟩:=b
  cases hb;exact wpAny_pure h
theorem uv{a f:Addr}{S1 S2:K→Bool}{n1 n2:Nat}{Q:Array (Int × Value)→Shared→Prop}(haf:a≠f)(hA:SetG knd (aT (aQ w)) s.heap a S2 n2)(hF:SetG knd (aT (aQ w)) s.heap f S1 n1)
  (h:∀ arr h' es,(∃ o ep t,s.heap.get? a=some o∧im knd (aT (aQ w)) o es ep t S2 n2)→arr.toList.Perm es.toList→Heap.SameBut f s.heap h'→SetG knd (aT (aQ w)) h' f S1 n1→Q arr { s with heap:=h' }):wpAny (model prog w) A (setWalkUnseen a [f] (some f)) Q E s:=by
 obtain⟨o,es,ep,t,ho,T⟩:=id hA
 obtain⟨of,esf,epf,tf,hof,Tf⟩:=id hF
 have es0:s={ s with heap:=s.heap }:=by cases s; rfl
 have keep:∀ arr:Array (Int × Value),arr.toList.Perm es.toList→Q arr s:=fun arr hp=>by
  rw[es0]; exact h arr s.heap es ⟨o,ep,t,ho,T⟩ hp (Heap.SameBut.refl _ _) hF
 unfold setWalkUnseen;refine wpAny_bind (wpAny_setState_of ho T.dat T.fit ?_)
 dsimp only
 refine wpAny_bind ?_
 unfold setsByText;refine wpAny_bind (wpAny_askSetting (wpAny_pure ?_))
 show wpAny _ _ (if (w.params.followText "set-order" || t.led&&t.plain||decide (es.size≤1))=true then _ else _) _ _ _
 by_cases c:(w.params.followText "set-order" || t.led&&t.plain||decide (es.size≤1))=true
 ·rw[if_pos c]
  refine yg ho T.dat T.fit T.good ?_ keep
  simp only[Bool.or_eq_true,Bool.and_eq_true,decide_eq_true_eq]at c
  rcases c with (z | z) | z
  ·exact .inl z
  ·exact .inr (.inl z.2)
  ·exact .inr (.inr z)
 ·rw[if_neg c]
  refine wpAny_bind (wR [a,f] (fun b hb=>?_) ?_)
  ·simp only[List.mem_cons,List.not_mem_nil,or_false]at hb
   rcases hb with rfl | rfl
   ·exact⟨o,es,ep,t,ho,T.dat,T.fit,fun e he=>(T.el e he).2⟩
   ·exact⟨of,esf,epf,tf,hof,Tf.dat,Tf.fit,fun e he=>(Tf.el e he).2⟩
  ·simp only[Bool.not_true,Bool.false_eq_true,if_false]
   refine wpAny_bind (wpAny_rule ?_)
   refine wpAny_bind (wpAny_setState_of hof Tf.dat Tf.fit ?_)
   dsimp only
   by_cases c2:(tf.led && !t.led||tf.plain && !t.plain)=true
   ·rw[if_pos c2]
    obtain⟨o1,ho1,U1⟩:=stored (es':=esf) (t':={ tf with led:=tf.led&&t.led,plain:=tf.plain&&t.plain }) (S':=S1) (n':=n1) hof Tf fun o' ex da=>iT (t':={ tf with led:=tf.led&&t.led,plain:=tf.plain&&t.plain }) Tf (List.Perm.refl _) Tf.fit ⟨by show (tf.led&&t.led)=_; rw[Tf.good.led,T.good.led,Bool.and_self],Tf.good.rise⟩ ex da
    refine wpAny_bind (wpAny_storeSet_of hof Tf.dat ?_ (fits_of_scanBound U1.few))
    exact wpAny_pure (h es _ es ⟨o,ep,t,ho,T⟩ (List.Perm.refl _) (Heap.SameBut.update ..) ⟨_,_,_,_,ho1,U1⟩)
   ·rw[if_neg c2]
    exact wpAny_pure (keep es (List.Perm.refl _))
theorem wn{a b:Addr}{S1 S2:K→Bool}{n1 n2:Nat}{each:Sem Unit}{Q:Unit→Shared→Prop}(hab:a≠b)(h1:SetG knd (aT (aQ w)) s.heap a S1 n1)(h2:SetG knd (aT (aQ w)) s.heap b S2 n2)(hn1:1≤n1)(hn:n1+n2≤60)
  (heach:∀ (s':Shared) (R:Unit→Shared→Prop),(∀ o,s.heap.get? b=some o→s'.heap.get? b=some o)→R () s'→wpAny (model prog w) A each R E s')
  (h:∀ h' m,Heap.SameBut a s.heap h'→m≤n1+n2→SetG knd (aT (aQ w)) h' a (fun k=>S1 k||S2 k) m→Q () { s with heap:=h' }):wpAny (model prog w) A (setMerge a b each) Q E s:=by
 obtain⟨o,es,ep,t,ho,T⟩:=id h2
 unfold setMerge;rw[if_neg (by simpa using hab)]
 refine wpAny_bind (wpAny_setState_of ho T.dat T.fit ?_)
 dsimp only
 by_cases he:es.isEmpty=true
 ·rw[if_pos he]
  have hn0:n2=0:=by rw[← T.num]; simpa using he
  refine wpAny_pure ?_
  have e:s={ s with heap:=s.heap }:=by cases s; rfl
  rw[e];refine h s.heap n1 (Heap.SameBut.refl _ _) (by omega) (h1.at' (fun _ z=>z) (fun k=>?_) rfl)
  have e2:S2 k=false:=by
   cases q:S2 k with
   | false=>rfl
   | true=>
    obtain⟨x,hx,_⟩:=(T.mem k).mp q; have:es = #[]:=by simpa using he
    rw[this]at hx; cases hx
  rw[e2,Bool.or_false]
 ·rw[if_neg he]
  refine wpAny_bind (yj h1 (by rw[T.num]; omega) fun g1 sb1 x1=>?_)
  have hb1:g1.get? b=some o:=by rw[sb1.2 b (Ne.symm hab)]; exact ho
  obtain⟨o1,es1,ep1,t1,ho1,T1⟩:=id x1
  refine wpAny_bind (wpAny_setState_of ho1 T1.dat T1.fit ?_)
  dsimp only
  have hroad:t1.road t = .oneByOne:=by
   have hpl1:t1.place.size=n1:=by
    have:=T1.fit
    unfold SetTable.fits at this;simp only[Bool.and_eq_true,beq_iff_eq]at this
    rw[this.1]; exact T1.num
   unfold SetTable.road SetTable.fill;rw[if_pos (by rw[hpl1]; simp; omega)]
  rw[hroad]
  dsimp only
  refine wpAny_bind (uv (s:={ s with heap:=g1 }) (Ne.symm hab) ⟨o,es,ep,t,hb1,T⟩ x1 fun arr g2 es' hes hp sb2 x2=>?_)
  obtain⟨o',ep',t',ho',T'⟩:=hes
  have eo:o'=o:=by
   have:g1.get? b=some o':=ho'
   rw[hb1]at this; cases this; rfl
  subst eo
  have ees:es'=es:=by
   have q1:=T'.dat;rw[T.dat]at q1
   cases q1; rfl
  subst ees;have sb12:Heap.SameBut a s.heap g2:=sb1.trans sb2
  have fin:∀ (done:List (Int × Value)),done.Perm es'.toList→∀ k,(S1 k||done.any fun e=>knd.is k e.2)=(S1 k||S2 k):=fun done hd k=>by
   congr 1
   rw[Bool.eq_iff_iff,T.mem k,List.any_eq_true];exact⟨fun ⟨e,z,q⟩=>⟨e,hd.mem_iff.mp z,q⟩,fun ⟨e,z,q⟩=>⟨e,hd.mem_iff.mpr z,q⟩⟩
  refine wpAny_bind (MeetsSeq2.wpAny_forIn_array _ (fun rest _ s'=>∃ h' m done,s'={ s with heap:=h' }∧Heap.SameBut a s.heap h'∧(done++rest).Perm es'.toList∧m+rest.length≤n1+n2∧SetG knd (aT (aQ w)) h' a (fun k=>S1 k||done.any fun e=>knd.is k e.2) m) _ ?_ ?_ _ _
   ⟨g2,n1,[],rfl,sb12,hp,by rw[hp.length_eq,Array.length_toList,T.num]; exact Nat.le_refl _,x2.at' (fun _ z=>z) (fun k=>by simp) rfl⟩)
  ·rintro⟨hh,v⟩ rest u s' ⟨h',m,done,rfl,sb,hpm,hm,hS⟩
   obtain⟨⟨k,hk,ehh⟩,hsc⟩:=T.el (hh,v) (hpm.mem_iff.mp (by simp))
   dsimp only at hk ehh hsc ⊢
   subst ehh;rw[List.length_cons]at hm
   refine wpAny_bind (wpAny_holding (vx (G:=aT (aQ w)) (knd:=knd) (s:={ s with heap:=h' }) (fun t es h x g=>iP g es h x) (fun t es m g=>ji g es m) (fun t g=>je g) hk hsc hS (by unfold scanBound; omega) fun h2 sb2' hS2=>?_))
   have sb':Heap.SameBut a s.heap h2:=sb.trans sb2'
   have hb2:h2.get? b=some o':=by rw[sb'.2 b (Ne.symm hab)]; exact ho
   refine wpAny_bind (heach _ _ (fun o z=>by rw[ho]at z; cases z; exact hb2) ?_)
   refine wpAny_bind (wpAny_setState_of hb2 T.dat T.fit ?_)
   rw[if_neg (by simp)]
   refine wpAny_pure ⟨h2,_,done++[(knd.hash k,v)],rfl,sb',by rw[List.append_assoc]; exact hpm,?_,hS2.at' (fun _ z=>z) (fun k'=>?_) rfl⟩
   ·split <;> omega
   ·rw[List.any_append,Bool.or_assoc]
    congr 2
    rw[List.any_cons,List.any_nil,Bool.or_false,KeyKind.is_eq_decide hk k']
  ·rintro u s' ⟨h',m,done,rfl,sb,hpm,hm,hS⟩
   rw[List.append_nil]at hpm
   exact wpAny_pure (h h' m sb (by simpa using hm) (hS.at' (fun _ z=>z) (fin done hpm) rfl))
end
end L2
namespace L2
open PySem PySem.Spec PyProof.Rows PySem.SeqAt
theorem lM:entryFor table "set.__or__" = some Builtin.«frozenset.__or__»:=entryFor_alias (id' := "frozenset.__or__") (by kernel_rfl) rfl (by decide +kernel) (by kernel_rfl)
section
variable{prog:Program}{w:World}{K:Type}[DecidableEq K]{knd:KeyKind prog w K}{A:Around}{E:Value→Shared→Prop}{s:Shared}
theorem SetG.ty{G:SetTable→Prop}{h:Heap}{a:Addr}{S:K→Bool}{n:Nat}(x:SetG knd G h a S n)(s:Shared)(e:s.heap=h):s.TypeIs (.ref a) "set" := by
 obtain⟨o,es,ep,t,ho,T⟩:=x
 subst e;exact⟨o,ho,T.ex.1⟩
theorem wf{a b:Addr}{S1 S2:K→Bool}{n1 n2:Nat}{Q:Value→Shared→Prop}(hab:a≠b)(ha:SetG knd (aT (aQ w)) s.heap a S1 n1)(hb:SetG knd (aT (aQ w)) s.heap b S2 n2)(hn:n1+n2≤60)
  (h:∀ h' m tk,(∀ c o,s.heap.get? c=some o→h'.get? c=some o)→m≤n1+n2→SetG knd (aT (aQ w)) h' s.heap.objs.size (fun k=>S1 k||S2 k) m→Q (.ref s.heap.objs.size) { s with heap:=h',toks:=tk }) :
  wpAny (model prog w) A (binaryOp .BitOr (.ref a) (.ref b)) Q E s:=by
 have ta:s.TypeIs (.ref a) "set" := ha.ty s rfl
 have tb:s.TypeIs (.ref b) "set" := hb.ty s rfl
 refine wpAny_binaryOp_same (T := "set") ta tb F.fills_set_or F.slot_set_or (wpAny_call_entry F.slot_set_or ta lM ?_ (F.args_set_or_2 _ _))
 unfold Builtin.«frozenset.__or__»
 show wpAny _ _ (Builtin.Frozenset.slot1 "__or__" ⟨[.ref a,.ref b],[]⟩ >>= _) _ _ _
 refine wpAny_bind (m:=Builtin.Frozenset.slot1 "__or__" ⟨[.ref a,.ref b],[]⟩) (wpAny_pure (a:=(Value.ref a,Value.ref b)) ?_)
 dsimp only
 simp only[Bool.false_eq_true,if_false]
 have isA:∀ (c:Addr) (s':Shared) (R:Bool→Shared→Prop),s'.TypeIs (.ref c) "set" → R true s'→wpAny (model prog w) A.in1 (Builtin.Frozenset.isAnySet (.ref c)) R E s':=fun c s' R ht hR=>by
  unfold Builtin.Frozenset.isAnySet;show wpAny _ _ (isInstance (Value.ref c) (Value.type "set") >>= _) _ _ _
  refine wpAny_bind (wpAny_isInstance ht sub_set_self ?_)
  exact wpAny_pure hR
 have es0:s={ s with heap:=s.heap }:=by cases s; rfl
 refine wpAny_bind ?_
 show wpAny _ _ (Builtin.Frozenset.isAnySet (Value.ref a) >>= _) _ _ _
 refine wpAny_bind (isA a s _ ta ?_)
 refine isA b s _ tb ?_
 simp only[Bool.not_true,Bool.false_eq_true,if_false]
 refine wpAny_bind (wpAny_pure ?_)
 refine wpAny_bind ?_
 show wpAny _ _ (Builtin.Frozenset.copyOf a >>= _) _ _ _
 unfold Builtin.Frozenset.copyOf Builtin.Frozenset.baseOf;refine wpAny_bind ?_
 refine wpAny_bind ?_
 refine wpAny_bind (wpAny_isInstance ta sub_set_self ?_)
 refine wpAny_pure ?_
 simp only[if_true]
 unfold newSet setsByText;refine wpAny_bind ?_
 refine wpAny_bind (wpAny_bind (wpAny_askSetting (wpAny_pure ?_)))
 dsimp only
 simp only[newObj]
 refine wpAny_bind (wpAny_alloc (wpAny_pure ?_))
 generalize hh0:s.heap.push _=g0
 have k0:∀ c o,s.heap.get? c=some o→g0.get? c=some o:=fun c o e=>by rw[← hh0]; exact Heap.get?_push_of_some _ e
 have n0:g0.get? s.heap.objs.size=some { cls:=.type "set", dict:=none,data:=.set #[] 0 (.fresh 0 0 (aQ w)) }:=by rw[← hh0]; exact Heap.get?_push_size _ rfl
 have x0:SetX knd (aQ w) g0 s.heap.objs.size (fun _=>false) 0 7:=⟨_,#[],0,_,n0,⟨⟨rfl,rfl,rfl⟩,rfl,fun e he=>by simp at he,fun k=>by simp,by decide,rfl,rfl,⟨rfl,fun a b ha=>absurd ha (Nat.not_lt_zero _)⟩,List.Pairwise.nil⟩,by show (7:Nat)+1∈[8,16,32,64,128,256]; decide,Nat.le_refl _,rfl⟩
 have na:s.heap.objs.size≠a:=by
  obtain⟨o,_,_,_,ho,_⟩:=ha
  exact Ne.symm (Nat.ne_of_lt (Heap.lt_size ho))
 have nb:s.heap.objs.size≠b:=by
  obtain⟨o,_,_,_,ho,_⟩:=hb
  exact Ne.symm (Nat.ne_of_lt (Heap.lt_size ho))
 refine wpAny_bind (wpAny_pure ?_)
 refine wpAny_bind (qc (s:={ s with heap:=g0 }) na x0 (ha.at' (fun o e=>k0 a o e) (fun _=>rfl) rfl) (by omega) fun g1 sb1 hz1 x1=>?_)
 refine wpAny_pure ?_
 rw[if_pos (by simpa using Ne.symm hab)]
 refine wpAny_bind (wpAny_pure ?_)
 have k1:∀ c o,s.heap.get? c=some o→g1.get? c=some o:=fun c o e=>by
  have hc:c≠s.heap.objs.size:=Nat.ne_of_lt (Heap.lt_size e)
  rw[sb1.2 c hc]; exact k0 c o e
 have hb1:=hb.at' (h':=g1) (fun o e=>k1 b o e) (fun _=>rfl) rfl
 refine wpAny_bind (wpAny_holding ?_)
 unfold Builtin.Frozenset.updateFrom;refine wpAny_bind (isA b _ _ (hb1.ty _ rfl) ?_)
 simp only[if_true]
 refine wpAny_bind (wpAny_pure ?_)
 unfold Builtin.Frozenset.merge;obtain⟨ob,eb,pb,tb',hob,Tb⟩:=id hb1
 have epo:∀ (s':Shared) (R:Nat→Shared→Prop),s'.heap.get? b=some ob→R pb s'→wpAny (model prog w) A.in1 (setEpoch b) R E s':=fun s' R hg hR=>by
  unfold setEpoch;exact wpAny_bind (wpAny_setState_of hg Tb.dat Tb.fit (wpAny_pure hR))
 refine wpAny_bind (epo _ _ hob ?_)
 have fin:∀ h' m,Heap.SameBut s.heap.objs.size g1 h'→m≤n1+n2→SetG knd (aT (aQ w)) h' s.heap.objs.size (fun k=>S1 k||S2 k) m→wpAny (model prog w) A.in1 (pure (Value.ref s.heap.objs.size)) (fun a s'=>wpAny (model prog w) A.in1 (ret a) (fun fin s'=>∃ v,fin=Fin.done (Flow.ret v)∧v≠Value.notImplemented∧Q v s') E s') E { s with heap:=h' }:=fun h' m sb hm x=>by
  refine wpAny_pure (wpAny_pure ⟨_,rfl,fun z=>(nomatch z),h h' m s.toks (fun c o e=>?_) hm x⟩)
  have hc:c≠s.heap.objs.size:=Nat.ne_of_lt (Heap.lt_size e)
  rw[sb.2 c hc]; exact k1 c o e
 by_cases hn0:n1=0
 ·have eg:=hz1 hn0
  have eg':g1=g0:=eg
  subst eg'
  have hS1:∀ k,S1 k=false:=fun k=>by
   obtain⟨o,es,ep,t,ho,T⟩:=x1
   cases q:S1 k with
   | false=>rfl
   | true=>
    obtain⟨x,hx,_⟩:=(T.mem k).mp q
    have:es = #[]:=by have:=T.num; rw[hn0]at this; simpa using this
    rw[this]at hx; cases hx
  refine qc (s:={ s with heap:=g1 }) nb x0 hb1 (by omega) fun h' sb _ x=>fin h' n2 sb (by omega) (x.at' (fun _ z=>z) (fun k=>by rw[hS1 k]; rfl) rfl)
 ·refine wn (s:={ s with heap:=g1 }) nb x1 hb1 (by omega) hn (fun s' R hg hR=>?_) fun h' m sb hm x=>fin h' m sb hm x
  unfold Builtin.Frozenset.unchanged;refine wpAny_bind (epo s' _ (hg ob hob) ?_)
  rw[if_neg (by simp)]
  exact wpAny_pure hR
end
def bD(P:Program)(w:World)(a:Addr)(ds:List Str):HO:=.ext fun h=>∃ S n,SetG (strKind P w) (aT (aQ w)) h a S n∧(∀ k,S k=true ↔ k∈ds)∧ds.Nodup∧ds.length=n
def ug(K:PySem.W.Frag)(SO:Addr→List Str→HO):List V→Hp→VK→Prop:=fun xs H Q=>∃ p,∃ ns:List Str,xs=[.ref p]∧SqL K H p (ns.map V.str)∧ns.length≤60∧∀ (l:Addr) (ds:List Str),H l=none→ds.Nodup→(∀ x,x∈ds ↔ x∈ns)→ds.length≤ns.length→Q (.ref l) (upd H l (SO l ds))
def xB(SO:Addr→List Str→HO):R2:=fun x y H Q=>∃ a b ds es,x = .ref a∧y = .ref b∧a≠b∧H a=some (SO a ds)∧H b=some (SO b es)∧ds.length+es.length≤60∧∀ (l:Addr) (us:List Str),H l=none→us.Nodup→(∀ x,x∈us ↔ x∈ds∨x∈es)→us.length≤ds.length+es.length→Q (.ref l) (upd H l (SO l us))
section
variable{X:Cx}
theorem m_{P:Program}{w:World}{H:Hp}{h:Heap}{a:Addr}{ds:List Str}{S:Str→Bool}{n:Nat}(x:SetG (strKind P w) (aT (aQ w)) h a S n)(hm:∀ k,S k=true ↔ k∈ds)(nd:ds.Nodup)(hl:ds.length=n):ObjOk P w H h a (bD P w a ds):=by
 obtain⟨o,es,ep,t,ho,T⟩:=id x
 exact⟨⟨S,n,x,hm,nd,hl⟩,⟨o,ho⟩,fun h1 h2 ⟨S,n,g,r⟩ k=>⟨S,n,g.at' (fun o e=>k o e) (fun _=>rfl) rfl,r⟩⟩
theorem pE{m:Nat}(hr:Room m X.A){K:PySem.W.Frag}(hK:X.K=K):CallR X (.type "set") (ug K (bD X.prog X.w)):=by
 subst hK;intro pins s σ H xs us Q I r h
 obtain⟨p,ns,rfl,hq,h60,q⟩:=h
 obtain⟨u,rfl,ru⟩:=b0 r
 cases ru;obtain⟨its,rv,pl,hz⟩:=I.list hq
 have hlen:its.length=ns.length:=by rw[← rv.length,List.length_map]
 refine kd (ns:=ns) hr.hd pl.isList (by simpa using gb rv) (by simp only[List.size_toArray]; unfold scanBound; omega) fun h' tk hS hk=>?_
 obtain⟨ds,hg,hnd,hmem,hdl⟩:=jj hS
 refine⟨.ref s.heap.objs.size,_,I.laid (fun b o e=>hk b o (Heap.lt_size e) e) (Nat.le_refl _) (show ObjOk X.prog X.w _ h' _ (bD X.prog X.w s.heap.objs.size ds) from m_ hS (fun k=>(hmem k).symm) hnd hdl),rfl,q _ ds (I.hok.fresh (Nat.le_refl _)) hnd (fun x=>?_) ?_⟩
 ·rw[hmem,jx]
  simp only[List.size_toArray,List.any_map,List.any_eq_true,List.mem_range]
  constructor
  ·rintro⟨i,hi,e⟩
   have e':ns.getD i "" = x:=by simpa using e
   rw[← e',List.getD_eq_getElem?_getD,List.getElem?_eq_getElem (by omega)]
   exact List.getElem_mem _
  ·intro hx
   obtain⟨i,hi,e⟩:=List.mem_iff_getElem.mp hx
   exact⟨i,by omega,by simp[List.getD_eq_getElem?_getD,List.getElem?_eq_getElem hi,e]⟩
 ·rw[hdl]
  have:=iB (fun i=>ns.getD i "") its.toArray.size
  simp only[List.size_toArray]at this ⊢
  omega
theorem wb:OpR X (binaryOp .BitOr) (xB (bD X.prog X.w)):=by
 intro pins s σ H x y v u Q I rx ry h
 obtain⟨a,b,ds,es,rfl,rfl,hab,ha,hb,hn,q⟩:=h
 cases rx
 cases ry;obtain⟨S1,n1,g1,m1,d1,l1⟩:=(show ObjOk X.prog X.w H s.heap a (bD X.prog X.w a ds) from I.hok a _ ha).1
 obtain⟨S2,n2,g2,m2,d2,l2⟩:=(show ObjOk X.prog X.w H s.heap b (bD X.prog X.w b es) from I.hok b _ hb).1
 refine wf hab g1 g2 (by omega) fun h' m tk hk hm hS=>?_
 obtain⟨us,hg,hnd,hmem,hul⟩:=jj hS
 refine⟨.ref s.heap.objs.size,_,I.laid (t':=tk) hk (Nat.le_refl _) (show ObjOk X.prog X.w _ h' _ (bD X.prog X.w s.heap.objs.size us) from m_ hS (fun k=>(hmem k).symm) hnd hul),rfl,q _ us (I.hok.fresh (Nat.le_refl _)) hnd (fun x=>?_) (by omega)⟩
 rw[hmem,Bool.or_eq_true,m1,m2]
theorem nM{m:Nat}(hr:Room m X.A):CallR X (.builtin "sorted") (f_ (bD X.prog X.w)):=by
 intro pins s σ H xs us Q I r h
 obtain⟨p,ds,rfl,e,h60,q⟩:=h
 obtain⟨u,rfl,ru⟩:=b0 r
 cases ru;obtain⟨S,n,g,hm,nd,hl⟩:=(show ObjOk X.prog X.w H s.heap p (bD X.prog X.w p ds) from I.hok p _ e).1
 obtain⟨es',hg,hnd,hmem,hul⟩:=jj g
 obtain⟨o,es,ep,t,ho,hx,hd,hfew,hf,hgd,hint,hds⟩:=hg
 have hpm:es'.Perm ds:=(List.perm_ext_iff_of_nodup hnd nd).mpr fun k=>by rw[hmem,hm]
 have hz:es.size≤60:=by
  have:=hpm.length_eq
  rw[← hds,List.length_map,Array.length_toList]at this
  omega
 have hs:sizeLine=16777216:=sizeLine_eq
 refine jh hr.hd ho hx hd hf (by omega) hgd hint fun h' d' tk qa out c ns' hk hq hc a1 a2 a3=>?_
 have hl:ns'.length≤60:=by rw[a2.length_eq,List.length_map,Array.length_toList]; exact hz
 have I2:=I.laid (t':=tk) (a:=qa) (o:=.lst (ns'.map V.str)) hk hq (show ObjOk X.prog X.w _ h' _ (.lst (ns'.map V.str)) from ⟨by rw[List.length_map]; omega,out.toList,c,gg a1,by simpa using hc⟩)
 refine⟨.ref qa,_,?_,rfl,q _ ns' (I.hok.fresh hq) ((by rw[← hds]at hpm; exact a2.trans hpm)) a3⟩
 exact⟨I2.ok,I2.os,I2.bare,I2.base,I2.loc,I2.cell,I2.free,I2.freeC,I2.pin,I2.hok,I2.len⟩
theorem jl{m:Nat}(K:PySem.W.Frag)(P:Program)(w:World)(hr:Room m X.A)(hK:X.K=K:=by rfl)(hw:X.w=w:=by rfl)(hP:X.prog=P:=by rfl):CallR X (.type "set") (ug K (bD P w)):=hP ▸ hw ▸ pE hr hK
theorem mD{m:Nat}(P:Program)(w:World)(hr:Room m X.A)(hw:X.w=w:=by rfl)(hP:X.prog=P:=by rfl):CallR X (.builtin "sorted") (f_ (bD P w)):=hP ▸ hw ▸ nM hr
theorem uM(P:Program)(w:World)(hw:X.w=w:=by rfl)(hP:X.prog=P:=by rfl):OpR X (binaryOp .BitOr) (xB (bD P w)):=hP ▸ hw ▸ wb
end
end L2
namespace L2
open PySem PySem.Spec PyProof.Rows PySem.SeqAt PySem.Builtin PySem.Builtin.Str PySem.StrLaws
end L2
namespace L2
open PySem PySem.Spec PyProof.Rows PySem.SeqAt
section
variable{X:Cx}{x n:Str}{C:Addr}{bmB:List Value}{B newId initId:String}{np hp pos:Pos}{body suite orelse:List Stmt}{b₀ : Stmt}{tb:XK→TS}{th te:TS}{rest:List ExceptHandler}
end
end L2
namespace L2
open PySem PySem.Spec PyProof.Rows
section
variable{M:Model}{A:Around}{E:Value→Shared→Prop}{s:Shared}
end
section
variable{X:Cx}{N0 T:List Str}{scope:Scope}{tg elt iter:Expr}{ifs:List Expr}{pos:Pos}{wi:TI}{g:TG}{tc:TT}{te:TE}
end
section
variable{X:Cx}{N0 T:List Str}{scope:Scope}{C:Addr}{fp:List Addr}{s:Shared}{H:Hp}{E1:XK}{x:Str}
end
end L2
namespace L2
open PySem PySem.Spec PyProof.Rows PySem.SeqAt
def eE(xs:List V)(lo hi st:Option Int):List V:=(sliceRange (sliceBounds lo hi st xs.length).1 (sliceBounds lo hi st xs.length).2.1 (sliceBounds lo hi st xs.length).2.2).filterMap fun i=>xs[i]?
theorem iq{xs:List V}{us:List Value}(r:Vals xs us):∀ is:List Nat,Vals (is.filterMap fun i=>xs[i]?) (is.filterMap fun i=>us.toArray[i]?)
 | []=>.nil
 | i::is=>by
  cases e:xs[i]? with
  | none=>
   have e':us.toArray[i]? = none:=by simpa using r.none_of e
   rw[List.filterMap_cons_none e,List.filterMap_cons_none e'];exact iq r is
  | some x=>
   obtain⟨u,hu,ru⟩:=r.get e
   have e':us.toArray[i]? = some u:=by simpa using hu
   rw[List.filterMap_cons_some e,List.filterMap_cons_some e'];exact .cons ru (iq r is)
theorem rL{xs:List V}{lo hi st:Option Int}{v:V}(h:v∈eE xs lo hi st):v∈xs:=by
 obtain⟨i,_,e⟩:=List.mem_filterMap.mp h
 exact List.mem_of_getElem? e
def Ai(K:PySem.W.Frag):V→Option Int→Option Int→Option Int→Hp→VK→Prop:=fun x lo hi st H Q=>∃ a xs,x = .ref a∧SqL K H a xs∧st≠some 0∧(eE xs lo hi st).length≤sizeLine∧∀ p,H p=none→Q (.ref p) (upd H p (.lst (eE xs lo hi st)))
def vI(r:V→Option Int→Option Int→Option Int→Hp→VK→Prop)(te:TE)(tl th ts:TO):TE:=fun σ H Q=>te σ H fun x H1=>tl σ H1 fun l H2=>th σ H2 fun u H3=>ts σ H3 fun k H4=>r x l u k H4 Q
theorem m6{r:V→Option Int→Option Int→Option Int→Hp→VK→Prop}{te:TE}{tl th ts:TO}{σ : St}{H:Hp}{Q:VK}:vI r te tl th ts σ H Q=te σ H fun x H1=>tl σ H1 fun l H2=>th σ H2 fun u H3=>ts σ H3 fun k H4=>r x l u k H4 Q:=rfl
section
variable{X:Cx}{e:Expr}{te:TE}{lo hi:Option Expr}{st:Expr}{tl th ts:TO}{pos p2:Pos}
theorem j5(K:PySem.W.Frag)(he:PE X e te)(hl:PO X lo tl)(hu:PO X hi th)(hst:PO X (some st) ts)(hK:X.K=K:=by rfl):PE X (.Subscript e (.Slice lo hi (some st) p2) pos) (vI (Ai K) te tl th ts):=by
 subst hK;intro pins s σ H Q I h
 refine Subscript_ (aL (he pins s σ H _ I h) fun v s1 ⟨x,H1,I1,r1,q1⟩=>?_)
 refine wpAny_Slice (aL (hl pins s1 σ H1 _ I1 q1) fun vl s2 ⟨l,H2,I2,pl,q2⟩=>aL (hu pins s2 σ H2 _ I2 q2) fun vu s3 ⟨u,H3,I3,pu,q3⟩=>aL (hst pins s3 σ H3 _ I3 q3) fun vs s4 ⟨k,H4,I4,ps,q4⟩=>?_)
 obtain⟨a,xs,rfl,hx,h0,hlen,q⟩:=q4
 cases r1;have I5:Inv X pins σ H4 { s4 with heap:=s4.heap.push { cls:=.type "slice", data:=.fields #[vl,vu,vs] } }:=I4.kept (t':=s4.toks) fun b ob q=>Heap.get?_push_of_some _ q
 obtain⟨its,r,ht,hz⟩:=I5.list hx
 have hln:=r.length;refine tail_any (ops:=[.ref a,.ref s4.heap.objs.size]) ht.isList.typeIs slot_list_getitem.lookup ?_ (by with_unfolding_all rfl)
 refine wpAny_getItem_list_slice ht.isList (Heap.IsSliceOf.new ..) pl pu ps h0 ?_ (by rw[List.size_toArray] <;> omega)
 have ev:Vals (eE xs l u k) ((sliceRange (sliceBounds l u k xs.length).1 (sliceBounds l u k xs.length).2.1 (sliceBounds l u k xs.length).2.2).filterMap fun i=>its.toArray[i]?):=iq r _
 have es:slicePick its.toArray l u k=((sliceRange (sliceBounds l u k xs.length).1 (sliceBounds l u k xs.length).2.1 (sliceBounds l u k xs.length).2.2).filterMap fun i=>its.toArray[i]?).toArray:=by
  unfold slicePick;rw[List.size_toArray,← hln]
 rw[es];exact⟨.ref _,_,I5.laid (t':=s4.toks) (o:=.lst (eE xs l u k)) (fun b ob q=>Heap.get?_push_of_some _ q) (Nat.le_refl _) ⟨hlen,_,0,ev,Heap.get?_push_size _ rfl⟩,rfl,q _ (I5.hok.fresh (Nat.le_refl _))⟩
end
section
variable{X:Cx}
end
end L2
namespace L2
open PySem PySem.Spec PyProof.Rows
section
variable{X:Cx}{n:Nat}(P:Program)(w:World)(hr:Room n X.A)
include hr
theorem uP(hP:X.prog=P:=by rfl)(hw:X.w=w:=by rfl):OpR X (compareOp .In) (wL P w):=by subst hP hw; exact vM hr
theorem hZ(hP:X.prog=P:=by rfl)(hw:X.w=w:=by rfl):OpR X (compareOp .NotIn) (nu P w):=by subst hP hw; exact p6 hr
theorem xX(hP:X.prog=P:=by rfl)(hw:X.w=w:=by rfl):IxR X (vo P w):=by subst hP hw; exact Az hr
theorem qD(hP:X.prog=P:=by rfl)(hw:X.w=w:=by rfl):PSet X (uk P w):=by subst hP hw; exact ub hr
theorem i_{ek ev:Expr}{tk tv:TE}{pos:Pos}(hk:PE X ek tk)(hv:PE X ev tv)(hP:X.prog=P:=by rfl)(hw:X.w=w:=by rfl):PE X (.Dict [some ek] [ev] pos) (mO P w tk tv):=by subst hP hw; exact oX hr hk hv
end
end L2
namespace L2
open PySem PySem.Spec PyProof.Rows
theorem jU:∀ (names:List (Str × NameKind)) (n:Nat) (acc:List (Str × Addr)) {x:Str} {c:Addr},(cellsFrom n names acc).lookup x=some c→acc.lookup x=some c∨(n≤c∧(x,NameKind.cell)∈names)
 | [],n,acc,x,c,h=>.inl h
 | (nm,k)::r,n,acc,x,c,h=>by
  unfold cellsFrom at h;split at h
  ·rename_i hk
   have hk':k = .cell:=by simpa using hk
   rcases jU r (n+1) _ h with z | ⟨z1,z2⟩
   ·rw[List.lookup_cons]at z
    cases hx:(x == nm) with
    | true=>
     rw[hx]at z
     have e1:x=nm:=by simpa using hx
     have e2:n=c:=Option.some.inj z
     rw[e1,hk']; exact .inr ⟨Nat.le_of_eq e2,List.mem_cons_self⟩
    | false=>rw[hx]at z; exact .inl z
   ·exact .inr ⟨by omega,List.mem_cons_of_mem _ z2⟩
  ·rcases jU r n _ h with z | ⟨z1,z2⟩
   ·exact .inl z
   ·exact .inr ⟨z1,List.mem_cons_of_mem _ z2⟩
theorem lK:∀ (names:List (Str × NameKind)) (n:Nat) (acc:List (Str × Addr)),(∀ (x:Str) (c:Nat),acc.lookup x=some c→c<n)→(∀ x y c,acc.lookup x=some c→acc.lookup y=some c→x=y)→
  ∀ x y c,(cellsFrom n names acc).lookup x=some c→(cellsFrom n names acc).lookup y=some c→x=y
 | [],n,acc,hb,hi=>hi
 | (nm,k)::r,n,acc,hb,hi=>by
  unfold cellsFrom;split
  ·refine lK r (n+1) _ (fun x c h=>?_) fun x y c h1 h2=>?_
   ·rw[List.lookup_cons]at h
    cases hx:(x == nm) with
    | true=>rw[hx]at h; have q:(n:Nat)=c:=Option.some.inj h; omega
    | false=>rw[hx]at h; have:=hb x c h; omega
   ·rw[List.lookup_cons]at h1 h2
    cases hx:(x == nm) with
    | true=>
     rw[hx]at h1
     have e:(n:Nat)=c:=Option.some.inj h1
     have ex:x=nm:=by simpa using hx
     cases hy:(y == nm) with
     | true=>
      have ey:y=nm:=by simpa using hy
      rw[ex,ey]
     | false=>rw[hy]at h2; have:=hb y c h2; omega
    | false=>
     rw[hx]at h1
     cases hy:(y == nm) with
     | true=>rw[hy]at h2; have e:(n:Nat)=c:=Option.some.inj h2; have:=hb x c h1; omega
     | false=>rw[hy]at h2; exact hi x y c h1 h2
  ·exact lK r n acc hb hi
theorem jH:∀ (names:List (Str × NameKind)) (h:Heap) (acc:List (Str × Addr)),(∀ x c,acc.lookup x=some c→∃ v,h.IsCell c v)→∀ x c,(cellsFrom h.objs.size names acc).lookup x=some c→∃ v,(pushCells h names).IsCell c v
 | [],h,acc,ha=>ha
 | (nm,k)::r,h,acc,ha=>by
  unfold cellsFrom pushCells;split
  ·have:=jH r (h.push { cls:=.type "cell", data:=.cell none }) ((nm,h.objs.size)::acc) fun x c e=>by
    rw[List.lookup_cons]at e
    cases hx:(x == nm) with
    | true=>rw[hx]at e; have e':h.objs.size=c:=Option.some.inj e; subst e'; exact⟨none,_,Heap.get?_push_size _ rfl,rfl⟩
    | false=>rw[hx]at e; obtain⟨v,z⟩:=ha x c e; exact⟨v,z.keeps fun b o q=>Heap.get?_push_of_some _ q⟩
   rwa [Heap.size_push]at this
  ·exact jH r h acc ha
theorem jg:∀ (names:List (Str × NameKind)) (n:Nat) (acc:List (Str × Addr)) {x:Str},(∃ c,acc.lookup x=some c)→∃ c,(cellsFrom n names acc).lookup x=some c
 | [],n,acc,x,h=>h
 | (nm,k)::r,n,acc,x,h=>by
  unfold cellsFrom;split
  ·refine jg r (n+1) _ ?_
   rw[List.lookup_cons]
   cases hx:(x == nm) with
   | true=>exact⟨_,rfl⟩
   | false=>exact h
  ·exact jg r n acc h
theorem lZ:∀ (names:List (Str × NameKind)) (n:Nat) (acc:List (Str × Addr)) {x:Str},(x,NameKind.cell)∈names→∃ c,(cellsFrom n names acc).lookup x=some c
 | (nm,k)::r,n,acc,x,h=>by
  unfold cellsFrom;rcases List.mem_cons.mp h with e | h
  ·have e1:x=nm:=congrArg (·.1) e
   have e2:NameKind.cell=k:=congrArg (·.2) e
   subst e1 e2;rw[if_pos (by rfl)]
   refine jg r (n+1) _ ⟨n,?_⟩
   rw[List.lookup_cons,beq_self_eq_true]
  ·split
   ·exact lZ r _ _ h
   ·exact lZ r _ _ h
theorem jQ:∀ (names:List (Str × NameKind)) (n:Nat) (acc:List (Str × Addr)) {x:Str},(x,NameKind.cell)∉names→(cellsFrom n names acc).lookup x=acc.lookup x
 | [],n,acc,x,h=>rfl
 | (nm,k)::r,n,acc,x,h=>by
  unfold cellsFrom;split
  ·rename_i hk
   have hk':k = .cell:=by simpa using hk
   rw[jQ r (n+1) _ fun z=>h (List.mem_cons_of_mem _ z),List.lookup_cons]
   cases hx:(x == nm) with
   | true=>exact absurd (by rw[show x=nm by simpa using hx,hk']; exact List.mem_cons_self) h
   | false=>rfl
  ·exact jQ r n acc fun z=>h (List.mem_cons_of_mem _ z)
theorem nE:∀ (names:List (Str × NameKind)) (n n0:Nat) (acc:List (Str × Addr)) {x:Str},n0≤n→(∀ c:Nat,acc.lookup x=some c→n0≤c)→∀ c:Nat,(cellsFrom n names acc).lookup x=some c→n0≤c
 | [],n,n0,acc,x,hn,h=>h
 | (nm,k)::r,n,n0,acc,x,hn,h=>by
  unfold cellsFrom;split
  ·refine nE r (n+1) n0 _ (by omega) fun c e=>?_
   rw[List.lookup_cons]at e
   cases hx:(x == nm) with
   | true=>rw[hx]at e; have q:(n:Nat)=c:=Option.some.inj e; omega
   | false=>rw[hx]at e; exact h c e
  ·exact nE r n n0 acc hn h
theorem lX:∀ (names:List (Str × NameKind)) (n:Nat) (acc:List (Str × Addr)) {x:Str},(x,NameKind.cell)∈names→∀ c:Nat,(cellsFrom n names acc).lookup x=some c→n≤c
 | (nm,k)::r,n,acc,x,h,c,e=>by
  unfold cellsFrom at e;rcases List.mem_cons.mp h with z | h
  ·have e1:x=nm:=congrArg (·.1) z
   have e2:NameKind.cell=k:=congrArg (·.2) z
   subst e1 e2;rw[if_pos (by rfl)]at e
   refine nE r (n+1) n _ (by omega) (fun c q=>?_) c e
   rw[List.lookup_cons,beq_self_eq_true]at q
   have q:(n:Nat)=c:=Option.some.inj q; omega
  ·split at e
   ·have:=lX r _ _ h c e; omega
   ·exact lX r _ _ h c e
theorem cP{env:Env}{x:Str}{k:NameKind}:∀ {names:List (Str × NameKind)},
  (names.map fun (n,k)=>if (k == NameKind.free&&env.scope.kind == .function&&env.kindOf n == some .cell) then (n,NameKind.cell) else (n,k)).lookup x=some k→(k = .cell∨k = .free)→(x,NameKind.free)∈names∨(x,NameKind.cell)∈names
 | [],h,_=>by simp at h
 | (n,k0)::r,h,hk=>by
  have ih:=@cP env x k r;rw[List.map_cons]at h
  by_cases hf:(k0 == NameKind.free&&env.scope.kind == .function&&env.kindOf n == some .cell)=true
  ·have hk0:k0 = .free:=by
    have:(k0 == NameKind.free)=true:=by
     rw[Bool.and_eq_true,Bool.and_eq_true]at hf; exact hf.1.1
    simpa using this
   dsimp only at h
   rw[if_pos hf,List.lookup_cons]at h
   cases hx:(x == n) with
   | true=>
    have:x=n:=by simpa using hx
    rw[this,hk0]; exact .inl List.mem_cons_self
   | false=>
    rw[hx]at h
    rcases ih h hk with z | z
    ·exact .inl (List.mem_cons_of_mem _ z)
    ·exact .inr (List.mem_cons_of_mem _ z)
  ·dsimp only at h
   rw[if_neg hf,List.lookup_cons]at h
   cases hx:(x == n) with
   | true=>
    rw[hx]at h
    have e:k0=k:=Option.some.inj h
    have:x=n:=by simpa using hx
    rcases hk with z | z
    ·rw[this,e,z]; exact .inr List.mem_cons_self
    ·rw[this,e,z]; exact .inl List.mem_cons_self
   | false=>
    rw[hx]at h
    rcases ih h hk with z | z
    ·exact .inl (List.mem_cons_of_mem _ z)
    ·exact .inr (List.mem_cons_of_mem _ z)
theorem mr{env:Env}{x:Str}:∀ {names:List (Str × NameKind)},(names.map fun (n,k)=>if (k == NameKind.free&&env.scope.kind == .function&&env.kindOf n == some .cell) then (n,NameKind.cell) else (n,k)).lookup x=some .local→(x,NameKind.local)∈names:=by
 intro names
 induction names with
 | nil=>intro z; simp at z
 | cons y r ih=>
  obtain⟨n,k⟩:=y
  intro z
  rw[List.map_cons]at z
  dsimp only at z
  by_cases hfk:(k == NameKind.free&&env.scope.kind == .function&&env.kindOf n == some .cell)=true
  ·rw[if_pos hfk,List.lookup_cons]at z
   cases hx:(x == n) with
   | true=>rw[hx]at z; cases z
   | false=>rw[hx]at z; exact List.mem_cons_of_mem _ (ih z)
  ·rw[if_neg hfk,List.lookup_cons]at z
   cases hx:(x == n) with
   | true=>
    rw[hx]at z
    have ek:k = .local:=Option.some.inj z
    have en:x=n:=by simpa using hx
    rw[ek,en]; exact List.mem_cons_self
   | false=>rw[hx]at z; exact List.mem_cons_of_mem _ (ih z)
theorem uD{M:Model}{A:Around}{E:Value→Shared→Prop}{s:Shared}{scope:Scope}{globals:Addr}{closure:List (Str × Addr)}{qual:Str}{func:Option Addr}{code:Value}{env:Env}{builtins:Addr}{Q:Env→Shared→Prop}
  (hQ:Q (newEnv scope s.heap.objs.size globals (cellsFrom (s.heap.objs.size+1) scope.names closure) qual func code (some env) builtins) { s with heap:=pushCells (s.heap.push { cls:=.type "dict", data:=.dict #[] }) scope.names }) :
  wpAny M A (newFunctionEnv scope globals closure [] qual func code (some env) builtins) Q E s:=by
 simp only[newFunctionEnv,Option.isSome_some,if_true]
 refine wpAny_bind (wpAny_alloc ?_)
 refine wpAny_bind (wpAny_layCells _ (fun name kind cells=>by cases hkc:kind == NameKind.cell <;> simp[hkc]) _ _ _ _ ?_)
 rw[show ({ s with heap:=s.heap.push { cls:=.type "dict", data:=.dict #[] } }:Shared).heap.objs.size=s.heap.objs.size+1 from Heap.size_push ..];refine wpAny_bind ?_
 rw[List.forIn_nil];exact wpAny_pure (wpAny_pure hQ)
def rV(scope:Scope)(x:Str):Bool:=scope.names.any fun y=>y.1 == x&&y.2 == .cell
def bn(X:Cx)(N0 T:List Str)(scope:Scope)(C:Addr)(fp:List Addr)(s:Shared)(H:Hp):Cx:=
 { X with N:=N0++T,s₀:=s,H₀:=H,env:=compEnvC scope (cellsFrom (C+1) scope.names (bI X.env.cells scope.names [])) C X.env,outer:=X.stack,stack:=X.stack,ex:=fp,fn:=rV scope,pn:=[],xe:=fun _ _=>False }
structure gU (X:Cx) (N0 T:List Str) (scope:Scope):Prop where
 kind:scope.kind = .function
 names:∀ y∈scope.names,y.2 = .local→scope.names.lookup y.1=some .local
 free:∀ y∈scope.names,y.2 = .free→X.env.kindOf y.1=some .cell∨X.env.kindOf y.1=some .free
 apart:∀ y∈scope.names,y.2 = .local∨y.2 = .cell→y.1∉N0
 len0:N0.length=X.N.length
 same:∀ (i:Nat) (x:Str) (k:NameKind),N0[i]? = some x→(x,k)∈scope.names→X.N[i]? = some x
section
variable{X:Cx}{N0 T:List Str}{scope:Scope}{tg elt iter:Expr}{ifs:List Expr}{pos:Pos}{wi:TI}{g:TG}{tc:TT}{te:TE}
theorem oJ{pins:List (Addr × Obj)}{σ : St}{H:Hp}{s:Shared}{E:Value→Shared→Prop}{it:Addr}{fp:List Addr}{tn:Nat→Heap→Prop}{J:It}{Q:VK}{RR:Value→Addr→Result→Shared→Prop}
  (S:gU X N0 T scope) (hc:X.calm=true)
  (hg:∀ C fp s H,PG (bn X N0 T scope C fp s H) tg g) (hfr:mI g X.N.length) (hi:∀ C fp s H,PIfs (bn X N0 T scope C fp s H) ifs tc) (he:∀ C fp s H,PE (bn X N0 T scope C fp s H) elt te)
  (I:Inv X pins σ H s) (Tn:iy X.prog X.w X.K tg J fp it tn) (st:tn 0 s.heap) (hf:∀ b∈fp,eQ X pins H b)
  (h:∀ D,H D=none→gf J g tc te T.length σ D Q (upd H D (.lst [])))
  (hRR:∀ D C s' H' m,s'.heap.Ns C m→H' C=none→C≠X.env.locals→(∀ x c,X.env.cells.lookup x=some c→c≠C)→(∀ p∈X.pn++pins,p.1≠C)→X.s₀.heap.objs.size≤C→Inv X pins σ H' s'→
   (∀ h',Heap.SameBut C s'.heap h'→Inv X pins σ H' { s' with heap:=h' })→Q (.ref D) H'→RR (.ref D) C (.ok .next) s') :
  wpAny (model X.prog X.w) X.A (newList []) (fun acc s₃=>wpAny (model X.prog X.w) X.A (newFunctionEnv scope X.env.globals (bI X.env.cells scope.names []) [] X.env.qual none .none (some X.env)) (fun cenv s₄=>
   codeAny (model X.prog X.w) X.A (.compStart (.ListComp elt [⟨tg,iter,ifs,0⟩] scope pos) 0 (.ref it) acc { cenv with scope:=relabel scope X.env }) (RR acc cenv.locals) s₄) E s₃) E s:=by
 refine wpAny_newObj_type (uD ?_)
 dsimp only
 generalize hH2:s.heap.push { cls:=.type "list", dict:=none,data:=.seq ([]:List Value).toArray }=P2 at ⊢;have hC:P2.objs.size=s.heap.objs.size+1:=by rw[← hH2,Heap.size_push]
 -- the new list D, the block's names C
 obtain⟨D,hD⟩ : ∃ D:Nat,D=s.heap.objs.size:=⟨_,rfl⟩
 obtain⟨C,hCC⟩ : ∃ C:Nat,C=P2.objs.size:=⟨_,rfl⟩
 obtain⟨h₁,hh1⟩ : ∃ h₁:Heap,h₁=pushCells (P2.push { cls:=.type "dict", data:=.dict #[] }) scope.names:=⟨_,rfl⟩
 have kp1:∀ b o,P2.get? b=some o→h₁.get? b=some o:=fun b o e=>hh1 ▸ pushCells_keeps _ _ b o (Heap.get?_push_of_some _ e)
 have hns₁:h₁.Ns C (fun _=>none):=by rw[hh1,hCC]; exact(Heap.Ns.new P2 (.type "dict")).keeps (pushCells_keeps _ _)
 have hsz1:(P2.push { cls:=.type "dict", data:=.dict #[] }).objs.size=C+1:=by rw[Heap.size_push,hCC]
 rw[← hh1,← hCC];rw[← hD]at hC ⊢
 rw[← hCC]at hC
 have hDC:D≠C:=by omega
 have hDlt:D<C:=by omega
 have neD:∀ b o,s.heap.get? b=some o→b≠D:=fun b o e=>hD ▸ Nat.ne_of_lt (Heap.lt_size e)
 have neC:∀ b o,s.heap.get? b=some o→b≠C:=fun b o e=>Nat.ne_of_lt (Nat.lt_trans (hD ▸ Heap.lt_size e) hDlt)
 have old:∀ b o,s.heap.get? b=some o→h₁.get? b=some o:=fun b o e=>kp1 b o (hH2 ▸ Heap.get?_push_of_some _ e)
 have hHD:H D=none:=I.hok.fresh (by omega)
 have hHC:H C=none:=I.hok.fresh (by omega)
 have dat:h₁.get? D=some { cls:=.type "list", data:=.seq ([]:List Value).toArray 0 }:=by
  refine kp1 _ _ ?_
  rw[← hH2,hD];exact Heap.get?_push_size _ rfl
 -- the block's context stands
 have hcl:∀ x c,(bI X.env.cells scope.names []).lookup x=some c→X.env.cells.lookup x=some c:=fun x c e=>
  gk (fun y hy hk=>I.ok.has y.1 (S.free y hy hk)) (fun y c z=>by simp at z) e
 have hlt:∀ (x:Str) (c:Nat),X.env.cells.lookup x=some c→c<D:=fun x c e=>by obtain⟨v,z⟩:=I.cell x c e; rw[hD]; exact z.lt
 have hcf:∀ (x:Str) (c:Nat),(cellsFrom (C+1) scope.names (bI X.env.cells scope.names [])).lookup x=some c→X.env.cells.lookup x=some c∨C<c:=fun x c e=>by
  rcases jU _ _ _ e with z | ⟨z,_⟩
  ·exact .inl (hcl x c z)
  ·exact .inr z
 have okC:(bn X N0 T scope C fp s H).Ok:=by
  refine⟨I.ok.mod,?_,I.ok.glob,I.ok.blt,?_,lK _ _ _ (fun x c e=>?_) (fun x y c e1 e2=>I.ok.inj x y c (hcl x c e1) (hcl y c e2)),fun x hx=>?_,fun x c z e=>?_,I.ok.hd,I.ok.frames,.inl rfl,fun b hb=>⟨?_,fun x c e=>?_⟩,
   I.bs,?_,fun b o e hb=>?_,fun b hb z=>?_,I.stack,I.stkFree⟩
  ·show (relabel scope X.env).kind = .function
   exact S.kind
  ·show s.heap.objs.size≤C
   omega
  ·have:=hlt x c (hcl x c e); omega
  ·have hx':(relabel scope X.env).names.lookup x=some .cell∨(relabel scope X.env).names.lookup x=some .free:=hx
   have m:(x,NameKind.free)∈scope.names∨(x,NameKind.cell)∈scope.names:=by
    rcases hx' with z | z
    ·exact cP z (.inl rfl)
    ·exact cP z (.inr rfl)
   rcases m with m | m
   ·exact jg _ _ _ (dv m)
   ·exact lZ _ _ _ m
  ·have m:(x,NameKind.cell)∈scope.names:=by
    obtain⟨y,hy,q⟩:=List.any_eq_true.mp (show rV scope x=true from z)
    rw[Bool.and_eq_true]at q
    have q1:y.1=x:=by simpa using q.1
    have q2:y.2 = .cell:=by simpa using q.2
    rw[← q1,← q2]; exact hy
   have:=lX _ _ _ m c e
   show s.heap.objs.size≤c
   omega
  ·show b≠C
   obtain⟨o,e,_⟩:=Tn.obj 0 _ st b hb
   exact neC b o e
  ·rcases hcf x c e with z | z
   ·exact(hf b hb).2.2.2.2.1 x c z
   ·obtain⟨o,e,_⟩:=Tn.obj 0 _ st b hb
    have q:@LT.lt Nat _ b s.heap.objs.size:=Heap.lt_size e
    intro ecb
    have ecb':@Eq Nat c b:=ecb
    have zz:C<c:=z
    omega
  ·exact Nat.le_trans I.ok.bsz I.sz
  ·obtain⟨_,_,_,z,_⟩:=hf b hb
   rcases z with z | z
   ·exact I.ok.noex b o e z
   ·exact absurd (Nat.lt_of_lt_of_le (Nat.lt_of_lt_of_le (Heap.lt_size e) I.ok.bsz) z) (Nat.lt_irrefl _)
  ·obtain⟨_,z1,z2,_⟩:=hf b hb
   rcases List.mem_cons.mp (I.stkSub b z) with q | q
   ·exact z1 q
   ·exact z2 q
 have I1:Inv (bn X N0 T scope C fp s H) [] (σ++List.replicate T.length none) (upd H D (.lst [])) { s with heap:=h₁ }:=by
  refine⟨okC,rfl,I.bare,Un.laid (h:=s.heap) old (by omega) hHD,⟨_,hns₁,fun i x v e1 e2 e3=>?_⟩,fun x c e=>?_,?_,fun x c e=>?_,fun p hp=>(by simp[bn]at hp),I.hok.laid old (by omega) ?_,?_⟩
  ·have e1':(N0++T)[i]? = some x:=e1
   have hl:=I.len;have hl0:=S.len0
   have hi:i<σ.length:=by
    rcases Nat.lt_or_ge i σ.length with z | z
    ·exact z
    ·rw[List.getElem?_append_right z]at e2
     rw[List.getElem?_replicate]at e2
     split at e2 <;> cases e2
   rw[List.getElem?_append_left hi]at e2
   rw[List.getElem?_append_left (by omega)]at e1'
   have hxN:x∈N0:=List.mem_of_getElem? e1'
   have e3':(relabel scope X.env).names.lookup x=some .local∨(relabel scope X.env).names.lookup x=some .cell∨(relabel scope X.env).names.lookup x=some .free:=e3
   have hnc:(x,NameKind.cell)∉scope.names:=fun m=>S.apart _ m (.inr rfl) hxN
   have fr:(relabel scope X.env).names.lookup x=some .cell∨(relabel scope X.env).names.lookup x=some .free:=by
    rcases e3' with z | z | z
    ·exact absurd hxN (S.apart (x,.local) (mr z) (.inl rfl))
    ·exact .inl z
    ·exact .inr z
   have m:(x,NameKind.free)∈scope.names:=by
    rcases fr with z | z
    ·exact(cP z (.inl rfl)).resolve_right hnc
    ·exact(cP z (.inr rfl)).resolve_right hnc
   have kX:=S.free _ m rfl;obtain⟨mm,hn,hl'⟩:=I.loc
   obtain⟨u,r,lk⟩:=hl' i x v (S.same i x _ e1' m) e2 (.inr kX)
   refine⟨u,r,.inr ⟨fr,?_⟩⟩
   rcases lk with ⟨z,_⟩ | ⟨_,c,ec,cc⟩
   ·rcases kX with q | q
    ·rw[q]at z; cases z
    ·rw[q]at z; cases z
   ·obtain⟨c',ec'⟩:=dv (cells:=X.env.cells) (acc:=[]) m
    have:=hcl x c' ec'
    rw[ec]at this; cases this
    exact⟨c,(jQ _ _ _ hnc).trans ec',cc.keeps old⟩
  ·have q:=jH scope.names (P2.push { cls:=.type "dict", data:=.dict #[] }) (bI X.env.cells scope.names []) (fun x c e=>by
    obtain⟨v,z⟩:=I.cell x c (hcl x c e)
    exact⟨v,z.keeps fun b o q=>Heap.get?_push_of_some _ (hH2 ▸ Heap.get?_push_of_some _ q)⟩) x c
   rw[hsz1,← hh1]at q
   exact q e
  ·show upd H D (.lst []) C=none
   rw[al (Ne.symm hDC)]; exact hHC
  ·rcases hcf x c e with e | e
   ·have q:=I.freeC x c e
    obtain⟨v,o,z,_⟩:=I.cell x c e
    rw[al (neD c o z)]; exact q
   ·have e':C<c:=e
    have q1:c≠D:=fun q=>by have q':@Eq Nat c D:=q; omega
    rw[al q1]; exact I.hok.fresh (by omega)
  ·exact⟨Nat.zero_le _,[],0,.nil,dat⟩
  ·show (σ++List.replicate T.length none).length=(N0++T).length
   rw[List.length_append,List.length_append,List.length_replicate,I.len,S.len0]
 have st1:tn 0 h₁:=Tn.keep _ _ _ st fun b _ o e=>old b o e
 have fp1:∀ {H':Hp},(∀ b∈fp,H' b=none)→∀ b∈fp,eQ (bn X N0 T scope C fp s H) [] H' b:=fun hn b hb=>
  ⟨hn b hb,(okC.exf b hb).1,okC.exfs b hb,.inl hb,(okC.exf b hb).2,fun p hp=>(by simp[bn]at hp)⟩
 have fp0:∀ b∈fp,upd H D (.lst []) b=none:=fun b hb=>by
  obtain⟨o,e,_⟩:=Tn.obj 0 _ st b hb
  rw[al (neD b o e)]; exact(hf b hb).1
 obtain⟨W,⟨m0,w0⟩,turn⟩:=h D hHD
 have loop:∀ s₃ : Shared,s₃={ s with heap:=h₁ }→
   codeAny (model X.prog X.w) X.A (.compLoop (.ListComp elt [⟨tg,iter,ifs,0⟩] scope pos) 0 (.ref it) (.ref D) (compEnvC scope (cellsFrom (C+1) scope.names (bI X.env.cells scope.names [])) C X.env)) (RR (.ref D) C) s₃:=by
  rintro s₃ rfl
  refine dy (fun n s'=>∃ i H' ys,Inv (bn X N0 T scope C fp s H) [] (σ++List.replicate T.length none) H' s'∧tn i s'.heap∧(∀ b∈fp,H' b=none)∧W i n ys H') ?_ m0 ⟨0,_,[],I1,st1,fp0,w0⟩
  rintro n s3 ⟨i,H3,ys,I3,st3,fr3,w3⟩
  rcases turn i n ys H3 w3 with ⟨stop,qn⟩ | ⟨go,step⟩
  ·refine aL (Tn.done (bn X N0 T scope C fp s H) rfl rfl rfl hc i [] s3 _ H3 (fun _ _=>False) I3 (fp1 fr3) st3 stop) fun r s4 ⟨hr,I4⟩=>?_
   subst hr;obtain⟨m,hm,_⟩:=I4.loc
   have hch:∀ b∈fp,(b∈X.ex∨X.s₀.heap.objs.size≤b)∧b≠X.env.locals∧(∀ x c,X.env.cells.lookup x=some c→c≠b)∧∀ p∈X.pn++pins,p.1≠b:=fun b hb=>
    ⟨(hf b hb).2.2.2.1,(hf b hb).2.1,(hf b hb).2.2.2.2.1,(hf b hb).2.2.2.2.2⟩
   have u4:Un (gJ X.stack) fp H H3 s.heap s4.heap:=I4.base
   refine hRR D C s4 H3 m hm I4.free (Ne.symm (Nat.ne_of_lt (Nat.lt_trans (hD ▸ I.lt) hDlt))) (fun x c e=>?_) (fun p hp=>?_) (Nat.le_trans (hD ▸ I.sz) (Nat.le_of_lt hDlt)) (I.call' (ch:=fp) I4.os u4 I4.hok I4.bare hch) (fun h' hs'=>?_) qn
   ·obtain⟨v,o,q,_⟩:=I.cell x c e
    exact neC c o q
   ·exact neC _ _ (I.pin p hp).1
   ·refine I.call' (ch:=fp) (s':={ s4 with heap:=h' }) I4.os ⟨fun b o q n' hb hx=>(hs'.2 b (neC b o q)).trans (u4.keep b o q n' hb hx),fun b o q n' hb hx=>?_,u4.free,fun b o q hx=>?_,u4.tups,u4.frzs,u4.tbls⟩ (I4.hok.sameBut hs' I4.free) I4.bare hch
    ·obtain⟨sl,e⟩:=u4.slot b o q n' hb hx
     exact⟨sl,(hs'.2 b (neC b o q)).trans e⟩
    ·obtain⟨o',e⟩:=u4.there b o q hx
     exact⟨o',(hs'.2 b (neC b o q)).trans e⟩
  ·refine aL (Tn.item (bn X N0 T scope C fp s H) rfl rfl rfl hc i [] s3 _ H3 (fun _ _=>False) I3 (fp1 fr3) st3 go) fun r s4 ⟨u,hr,h4⟩=>?_
   subst hr;refine aL h4 fun _ s5 ⟨x,H5,I5,r5,y5,st5,fr5⟩=>?_
   have I5':=I5.pinned (fp1 fr5) (Tn.obj _ _ st5);refine aL (hg C fp s H _ s5 _ H5 x u _ I5' r5 (hfr _ _ _ _ (step x H5 y5))) fun _ s6 ⟨σ6,H6,I6,q6,l6,k6⟩=>?_
   have back:∀ {H7:Hp} {s7:Shared},Inv (bn X N0 T scope C fp s H) ([]++gQ fp s5.heap) σ6 H7 s7→(∀ {m':Nat} {zs:List V},m'<n→W (i+1) m' zs H7→∃ m,m<n∧∃ i H' ys,Inv (bn X N0 T scope C fp s H) [] (σ++List.replicate T.length none) H' s7∧tn i s7.heap∧(∀ b∈fp,H' b=none)∧W i m ys H'):=fun {H7 s7} I7 {m' zs} hm w7=>by
    refine⟨m',hm,i+1,H7,zs,I7.unpinned.weak (by rw[l6]) (fun j v e=>?_),Tn.keep _ _ _ st5 fun b hb o e=>(I7.pin (b,o) (List.mem_append_right _ (List.mem_append_right _ (cL hb e)))).1,fun b hb=>?_,w7⟩
    ·have hj:j<σ.length:=by
      rcases Nat.lt_or_ge j σ.length with z | z
      ·exact z
      ·rw[List.getElem?_append_right z,List.getElem?_replicate]at e
       split at e <;> cases e
     rw[k6 j (by rw[← I.len]; exact hj)]
     exact e
    ·obtain⟨o,e,d⟩:=Tn.obj _ _ st5 b hb
     exact(I7.pin (b,o) (List.mem_append_right _ (List.mem_append_right _ (cL hb e)))).2.1
   refine aL (hi C fp s H _ s6 σ6 H6 _ I6 q6) fun b s7 ⟨H7,I7,q7⟩=>?_
   cases b with
   | false=>
    obtain⟨m',hm,w7⟩:=(show ∃ m',m'<n∧W (i+1) m' ys H7 from by simpa using q7)
    exact back I7 hm w7
   | true=>
    rw[if_pos rfl]at q7
    refine aL (he C fp s H _ s7 σ6 H7 _ I7 q7) fun v s8 ⟨y,H8,I8,r8,hD8,hz,m',hm,w8⟩=>?_
    refine aL (ir (X:=bn X N0 T scope C fp s H) _ s8 σ6 H8 (.ref D) [y] (.ref D) [v] (fun _ H9=>H9=upd H8 D (.lst (ys++[y]))) I8 rfl (.cons r8 .nil) ⟨D,ys,y,rfl,rfl,hD8,hz,rfl⟩) fun v9 s9 ⟨y9,H9,I9,_,e9⟩=>?_
    subst e9;exact back I9 hm w8
 exact codeAny_compStart_list (loop _ rfl) (Tn.self X.A 0 _ _ _ st1 (loop _ rfl))
theorem qP(S:gU X N0 T scope)(hc:X.calm=true)(hI:PI X tg iter wi)
  (hg:∀ C fp s H,PG (bn X N0 T scope C fp s H) tg g) (hfr:mI g X.N.length) (hi:∀ C fp s H,PIfs (bn X N0 T scope C fp s H) ifs tc) (he:∀ C fp s H,PE (bn X N0 T scope C fp s H) elt te)
  (hs:∀ x,foldedSetIterable iter X.env x=pure x:=by intro _; rfl):PE X (.ListComp elt [⟨tg,iter,ifs,0⟩] scope pos) (kG wi g tc te T.length):=by
 intro pins s σ H Q I h
 rw[eval_ListComp];refine wpAny_comprehension_free (use:=none) rfl hs (eP fun x hx hk=>I.ok.has x.1 (S.free x hx hk)) S.kind S.names (aL (hI pins s σ H _ I h) fun v s1 h1=>aL h1 fun itv s2 h2=>?_)
 obtain⟨it,fp,tn,J,H2,e,I2,Tn,st2,f2,q2⟩:=h2
 subst e;refine oJ (RR:=fun acc C=>compPost (model X.prog X.w) X.A X.xe none (EP X pins σ Q) acc C) S hc hg hfr hi he I2 Tn st2 f2 q2 ?_
 intro D C s' H' m hn hC hL hcells hpins hfresh I' hI' q
 exact⟨m,hn,fun h' hs'=>⟨.ref D,H',hI' h' hs',rfl,q⟩⟩
end
structure CompScO (fsc:Scope) (N N0 T:List Str) (scope:Scope):Prop where
 kind:scope.kind = .function
 names:∀ y∈scope.names,y.2 = .local→scope.names.lookup y.1=some .local
 free:∀ y∈scope.names,y.2 = .free→fsc.names.lookup y.1=some .cell∨fsc.names.lookup y.1=some .free
 apart:∀ y∈scope.names,y.2 = .local∨y.2 = .cell→y.1∉N0
 len0:N0.length=N.length
 same:((N0.zip N).all fun p=>p.1 == p.2 || !(scope.names.any fun y=>y.1 == p.1))=true
theorem CompScO.to{X:Cx}{fsc:Scope}{N N0 T:List Str}{scope:Scope}(S:CompScO fsc N N0 T scope)(h1:X.env.scope=fsc)(h2:X.N=N):gU X N0 T scope:=by
 subst h1 h2;refine⟨S.kind,S.names,S.free,S.apart,S.len0,fun i x k e m=>?_⟩
 have hl:=S.len0;have hi:i<N0.length:=(List.getElem?_eq_some_iff.mp e).1
 have hN:X.N[i]? = some X.N[i]:=List.getElem?_eq_getElem (by omega)
 have hz:(x,X.N[i])∈N0.zip X.N:=List.mem_of_getElem? (i:=i) (by rw[List.getElem?_zip_eq_some]; exact⟨e,hN⟩)
 have q:=List.all_eq_true.mp S.same _ hz;simp only[Bool.or_eq_true,beq_iff_eq,Bool.not_eq_true']at q
 rcases q with q | q
 ·rw[hN,← q]
 ·have:(scope.names.any fun y=>y.1 == x)=true:=List.any_eq_true.mpr ⟨_,m,by simp⟩
  rw[this]at q; cases q
section
variable{X:Cx}{N0 T:List Str}{scope:Scope}{C:Addr}{fp:List Addr}{s:Shared}{H:Hp}{x:Str}
theorem z7(fsc:Scope)(h:(aV scope fsc).names.lookup x=some .globalImplicit)(e:X.env.scope=fsc:=by rfl):Gl (bn X N0 T scope C fp s H) x:=by subst e; exact h
theorem ya(fsc:Scope)(h:((aV scope fsc).names.lookup x=some .local||(aV scope fsc).names.lookup x=some .cell||(aV scope fsc).names.lookup x=some .free)=true)(e:X.env.scope=fsc:=by rfl):aq (bn X N0 T scope C fp s H).env.scope x:=by
 subst e;simp only[Bool.or_eq_true,decide_eq_true_eq]at h
 rcases h with (h | h) | h
 ·exact .inl h
 ·exact .inr (.inl h)
 ·exact .inr (.inr h)
theorem yh(fsc:Scope)(h:((aV scope fsc).names.lookup x=some .local||(aV scope fsc).names.lookup x=some .cell)=true)(e:X.env.scope=fsc:=by rfl):aJ (bn X N0 T scope C fp s H).env.scope x:=by
 subst e;simp only[Bool.or_eq_true,decide_eq_true_eq]at h
 rcases h with h | h
 ·exact .inl h
 ·exact .inr h
theorem yW(fsc:Scope)(h:(rV scope x||(aV scope fsc).names.lookup x=some .local)=true)(e:X.env.scope=fsc:=by rfl):(bn X N0 T scope C fp s H).fn x=true∨(bn X N0 T scope C fp s H).env.scope.names.lookup x=some .local:=by
 subst e;simp only[Bool.or_eq_true,decide_eq_true_eq]at h
 rcases h with h | h
 ·exact .inl h
 ·exact .inr h
end
end L2
namespace L2
open PySem PySem.Spec PyProof.Rows
section
variable{X:Cx}
end
end L2
namespace L2
open PySem PySem.Spec PyProof PyProof.Rows
def RawE(h:Heap)(d:Addr)(es:Array DictEntry)(ep:Nat):Prop:=∃ o,h.get? d=some o∧o.ExactDict∧o.data = .dict es ep
section
variable{prog:Program}{w:World}{A:Around}{E:Value→Shared→Prop}{s:Shared}{d:Addr}{es:Array DictEntry}{ep:Nat}
theorem RawE.ty(x:RawE s.heap d es ep):s.TypeIs (.ref d) "dict" := let ⟨o,eo,ex,_⟩:=x; ⟨o,eo,ex.1⟩
theorem RawE.by{h h':Heap}(x:RawE h d es ep)(k:∀ o,h.get? d=some o→h'.get? d=some o):RawE h' d es ep:=let ⟨o,eo,r⟩:=x; ⟨o,k o eo,r⟩
end
section
variable{X:Cx}
theorem Inv.rawE{pins:List (Addr × Obj)}{σ : St}{H:Hp}{s:Shared}{d:Addr}{kvs:List (bj × V)}(I:Inv X pins σ H s)(h:DO X.prog X.w H d kvs):∃ es ep,∃ xs:List (bj × Addr × Value),RawE s.heap d es ep∧es.toList=xs.map (entryOfKey (MO X.prog X.w))∧Paired (ORow H) kvs xs∧(d == sysModules)=false:=by
 obtain⟨xs,h1,h2,h3,h4⟩:=h
 obtain⟨⟨o,es,ep,e1,e2,e3,e4,e5⟩,_,_⟩:=I.hok d _ h1
 exact⟨es,ep,xs,⟨o,e1,e2,e3⟩,e4,h4,h2⟩
end
end L2
namespace L2
open PySem PySem.Spec PyProof PyProof.Rows
section
variable{X:Cx}
end
end L2
namespace L2
open PySem PySem.Spec PyProof PyProof.Rows
section
variable{prog:Program}{w:World}{A:Around}{E:Value→Shared→Prop}{s:Shared}{d:Addr}{es:Array DictEntry}{ep:Nat}
theorem oY{Q:Value→Shared→Prop}(nd:(d == sysModules)=false)(x:RawE s.heap d es ep)
  (q:Q (.ref s.heap.objs.size) { s with heap:=s.heap.push { cls:=.type "dict_keyiterator", data:=.fields #[.ref d,.int 0 0,.int es.size 0,.int ep 0] } }):wpAny (model prog w) A (pyIter (.ref d)) Q E s:=by
 obtain⟨o,eo,ex,ed⟩:=id x
 have ty:=x.ty;refine wpAny_pyIter_slot ty PySem.F.slot_dict_iter (wpAny_call_entry PySem.F.slot_dict_iter ty PySem.F.entry_dict_iter ?_ (PySem.F.args_dict_iter_1 _))
 unfold Builtin.«dict.__iter__»
 refine wpAny_bind ?_
 unfold Builtin.Dict.dictSlotNone;refine wpAny_bind (wpAny_notOrdered_dict ty ?_)
 show wpAny _ _ (pure (Value.ref d)) _ _ s
 refine wpAny_pure ?_
 show wpAny _ _ (Builtin.Dict.showsAll d >>= _) _ _ s
 unfold Builtin.Dict.showsAll;rw[if_neg (by rw[nd]; exact Bool.false_ne_true)]
 refine wpAny_bind (wpAny_pure (wpAny_bind (wpAny_dictEntries eo ed (wpAny_bind (wpAny_dictEpoch eo ed ?_)))))
 refine wpAny_bind (wpAny_newObj_type (wpAny_pure ⟨_,rfl, "dict_keyiterator", _,⟨_,Heap.get?_push_size _ rfl,rfl⟩,PySem.F.slot_dict_keyiterator_next.lookup,?_⟩))
 simpa [rawInt] using q
theorem p8{it:Addr}{i:Nat}{Q:Option Value→Shared→Prop}(ki:s.heap.IsKeyIter it d i es.size ep)(x:RawE s.heap d es ep)(hi:i<es.size)
  (q:∀ h',h'.IsKeyIter it d (i+1) es.size ep→Heap.SameBut it s.heap h'→Q (some es[i].key) { s with heap:=h' }):wpAny (model prog w) A (pyNext (.ref it)) Q E s:=by
 obtain⟨u,eu,uc,ud⟩:=id ki
 obtain⟨o,eo,ex,ed⟩:=id x
 have ty:=ki.typeIs;unfold pyNext;refine wpAny_bind (wpAny_attempt (wpAny_callSpecial?_slot (name:=Str.ofString "__next__") ty PySem.F.slot_dict_keyiterator_next (wpAny_call_entry PySem.F.slot_dict_keyiterator_next ty PySem.F.entry_dict_keyiterator_next ?_ (PySem.F.args_dict_keyiterator_next_1 _))))
 refine wpAny_bind (wpAny_pure (wpAny_bind (wpAny_bind ?_)))
 refine wpAny_bind (wpAny_typeNameOfWhole_keyiter ty (wpAny_pure (wpAny_bind (wpAny_fieldsOf eu ud ?_))))
 have ow:Builtin.Dict_items.ownsTuple "dict_keyiterator" = false:=by decide
 simp only[ow,Bool.false_eq_true,if_false]
 show wpAny _ _ (if (Value.ref d == Value.none)=true then _ else _) _ _ s
 rw[if_neg (show ¬ (Value.ref d == Value.none)=true from fun z=>Bool.false_ne_true z)]
 refine wpAny_bind (wpAny_pure (wpAny_bind (wpAny_dictEntries eo ed ?_)))
 rw[if_neg (by simp)]
 refine wpAny_bind (wpAny_pure (wpAny_bind (wpAny_dictEpoch eo ed ?_)))
 rw[if_neg (by simp)]
 refine wpAny_pure ?_
 simp only[show ¬ ((i:Int)<0) by omega,if_false,Int.toNat_natCast,Array.getElem?_eq_getElem hi]
 refine wpAny_bind (wpAny_bind (wpAny_typeNameOfWhole_keyiter ty (wpAny_pure (wpAny_bind (wpAny_isOneOf_keyiter ty ?_)))))
 show wpAny _ _ (setField (.ref it) 1 (rawInt ((i:Int)+1)) >>= _) _ _ s
 refine wpAny_bind (wpAny_setField eu ud (by simp) ?_)
 have k':(s.heap.update it (Obj.mapFields (·.setIfInBounds 1 (rawInt ((i:Int)+1))))).IsKeyIter it d (i+1) es.size ep:=
  ⟨_,Heap.get?_update_self _ eu (Obj.isFreed_of_fields (Obj.data_mapFields ud _)),(Obj.cls_mapFields ..).trans uc,by rw[Obj.data_mapFields ud]; simp[rawInt]⟩
 generalize hz:s.heap.update it (Obj.mapFields (·.setIfInBounds 1 (rawInt ((i:Int)+1))))=h2 at k' ⊢;refine wpAny_bind (wpAny_holding (wpAny_bind (wpAny_isOneOf_keyiter (s:={ s with heap:=h2 }) k'.typeIs ?_)))
 show wpAny _ _ (pure es[i].key) _ _ _
 exact wpAny_pure (wpAny_pure ⟨_,rfl,wpAny_pure (q h2 k' (hz ▸ Heap.SameBut.update ..))⟩)
theorem q5{it:Addr}{i:Nat}{Q:Option Value→Shared→Prop}(hh:A.handled=none)(ki:s.heap.IsKeyIter it d i es.size ep)(x:RawE s.heap d es ep)(hi:es.size≤i)
  (q:∀ h',Heap.ExtBut it s.heap h'→Q none { s with heap:=h' }):wpAny (model prog w) A (pyNext (.ref it)) Q E s:=by
 obtain⟨u,eu,uc,ud⟩:=id ki
 obtain⟨o,eo,ex,ed⟩:=id x
 have ty:=ki.typeIs;unfold pyNext;refine wpAny_bind (wpAny_attempt (wpAny_callSpecial?_slot (name:=Str.ofString "__next__") ty PySem.F.slot_dict_keyiterator_next (wpAny_call_entry PySem.F.slot_dict_keyiterator_next ty PySem.F.entry_dict_keyiterator_next ?_ (PySem.F.args_dict_keyiterator_next_1 _))))
 refine wpAny_bind (wpAny_pure (wpAny_bind (wpAny_bind ?_)))
 refine wpAny_bind (wpAny_typeNameOfWhole_keyiter ty (wpAny_pure (wpAny_bind (wpAny_fieldsOf eu ud ?_))))
 have ow:Builtin.Dict_items.ownsTuple "dict_keyiterator" = false:=by decide
 simp only[ow,Bool.false_eq_true,if_false]
 show wpAny _ _ (if (Value.ref d == Value.none)=true then _ else _) _ _ s
 rw[if_neg (show ¬ (Value.ref d == Value.none)=true from fun z=>Bool.false_ne_true z)]
 refine wpAny_bind (wpAny_pure (wpAny_bind (wpAny_dictEntries eo ed ?_)))
 rw[if_neg (by simp)]
 refine wpAny_bind (wpAny_pure (wpAny_bind (wpAny_dictEpoch eo ed ?_)))
 rw[if_neg (by simp)]
 refine wpAny_pure ?_
 simp only[show ¬ ((i:Int)<0) by omega,if_false,Int.toNat_natCast,Array.getElem?_eq_none hi]
 refine wpAny_bind (wpAny_bind (wpAny_typeNameOfWhole_keyiter ty (wpAny_pure ?_)))
 show wpAny _ _ (setField (.ref it) 0 .none >>= _) _ _ s
 refine wpAny_bind (wpAny_setField eu ud (by simp) ?_)
 show wpAny _ _ (newExc (.type "StopIteration") [] >>= _) _ _ _
 simp only[newExc,newTuple]
 refine wpAny_bind (wpAny_bind (wpAny_newObj_type (wpAny_bind (m:=firstArgMember _ _) (wpAny_of_eq (a:=Value.none) (by first | rfl | (simp only[firstArgMember]; rfl)) ?_)) (by size_fits)))
 refine wpAny_newObj_type ?_ (by size_fits)
 simp only[raiseNew]
 refine wpAny_bind (wpAny_handled ?_)
 rw[show A.in1.handled=none from hh];refine wpAny_bind (wpAny_pure (wpAny_throw ?_))
 refine wpAny_bind (wpAny_isInstance (b:=true) (T := "StopIteration") ⟨_,Heap.get?_push_size _ rfl,rfl⟩ isSubtype_stop ?_)
 exact wpAny_pure (q _ (((Heap.SameBut.update ..).extBut.push _).push _))
theorem nZ(hh:A.handled=none)(I:Addr)(ne:d≠I):Walks prog w A I [I,d] [I] es.size (fun i v=>∃ e,es[i]? = some e∧v=e.key) (fun i h=>h.IsKeyIter I d i es.size ep∧RawE h d es ep) where
 sub:=fun b hb=>by simp at hb; simp[hb]
 frame:=fun i h h' st k=>⟨let ⟨o,e,r⟩:=st.1; ⟨o,k I (by simp) o e,r⟩,st.2.by fun o e=>k d (by simp) o e⟩
 item:=fun i s Q E hi st q=>p8 st.1 st.2 hi fun h' k' sb=>q _ h' s.toks ⟨_,Array.getElem?_eq_getElem hi,rfl⟩ ⟨k',st.2.by fun o e=>sb.extBut d o ne e⟩ fun b o hb e=>sb.extBut b o (fun z=>hb (by simp[z])) e
 done:=fun s Q E st q=>q5 hh st.1 st.2 (Nat.le_refl _) fun h' eb=>q h' s.toks fun b o hb e=>eb b o (fun z=>hb (by simp[z])) e
 self:=fun i s Q E st q=>wpAny_pyIter_keyiter st.1 q
theorem rf(nd:(d == sysModules)=false):PySem.W.KdlSrc prog w "dict" d d es.size (fun i v=>∃ e,es[i]? = some e∧v=e.key) (fun h=>RawE h d es ep) where
 type:=fun _ x=>x.ty
 there:=fun _ x=>⟨let ⟨_,e,_⟩:=x; Heap.lt_size e,let ⟨_,e,_⟩:=x; Heap.lt_size e⟩
 keep:=fun _ _ x k=>x.by fun o e=>k d (.inl rfl) o e
 notList:=by decide
 notTuple:=by decide
 hint:=fun _ _ _ _ x q=>PySem.W.kdl_hint_dict x.ty q
 iter:=fun _ s hh x=>⟨_,_,fun _ _ q=>oY nd x q,nZ hh _ (let ⟨_,e,_⟩:=x; Nat.ne_of_lt (Heap.lt_size e)),⟨_,Heap.get?_push_size _ rfl,rfl,rfl⟩,x.by fun o e=>Heap.get?_push_of_some _ e⟩
end
section
variable{X:Cx}
def u0(P:Program)(w:World):List V→Hp→VK→Prop:=fun xs H Q=>∃ d kvs,xs=[.ref d]∧DO P w H d kvs∧kvs.length≤60000∧∀ (l:Addr) (ts:List Addr),H l=none→ts.length=kvs.length→(∀ (j:Nat) t kv,ts[j]? = some t→kvs[j]? = some kv→KeyO H kv.1 t)→Q (.ref l) (upd H l (.lst (ts.map V.ref)))
theorem mz{m:Nat}(P:Program)(w:World)(hr:Room m X.A)(hP:X.prog=P:=by rfl)(hw:X.w=w:=by rfl):CallR X (.type "list") (u0 P w):=by
 subst hP hw;intro pins s σ H xs us Q I r h
 obtain⟨d,kvs,rfl,ed,hn,q⟩:=h
 obtain⟨u,rfl,ru⟩:=b0 r
 cases ru;obtain⟨es,ep,xs,x,he,rel,nd⟩:=I.rawE ed
 have hs:sizeLine=16777216:=sizeLine_eq
 have hl:kvs.length=xs.length:=Paired.length rel
 have hz:es.size=xs.length:=by rw[← Array.length_toList,he,List.length_map]
 refine PySem.W.kdl_call (rf (es:=es) (ep:=ep) nd) hr.hd x (by omega) fun h' tk acc' c' hk hS hacc=>?_
 refine⟨.ref s.heap.objs.size,_,I.laid hk (Nat.le_refl _) (show ObjOk X.prog X.w _ h' _ (.lst ((xs.map (·.2.1)).map V.ref)) from ⟨by simp; omega,acc'.toList,c',?_,by simpa using hS⟩),rfl,q _ (xs.map (·.2.1)) (I.hok.fresh (Nat.le_refl _)) (by simp[hl]) (fun j t kv e1 e2=>?_)⟩
 ·refine gE _ _ (by simp[hacc.1,hz]) fun j y w' e1 e2=>?_
  obtain⟨e,z1,z2⟩:=hacc.2 j w' (by rw[← Array.getElem?_toList]; exact e2)
  rw[← Array.getElem?_toList,he,List.getElem?_map]at z1
  rw[List.getElem?_map,List.getElem?_map]at e1
  cases hx:xs[j]? with
  | none=>rw[hx]at z1; cases z1
  | some xv=>
   rw[hx]at e1 z1
   cases e1; cases z1
   rw[z2]; rfl
 ·rw[List.getElem?_map]at e1
  cases hx:xs[j]? with
  | none=>rw[hx]at e1; cases e1
  | some xv=>
   rw[hx]at e1
   cases e1;exact(dj rel e2 hx).2.1
def nj(P:Program)(w:World)(td ty tx:TE):TE:=fun σ H Q=>td σ H fun x H1=>∃ a kvs,x = .ref a∧DO P w H1 a kvs∧ty σ H1 fun y H2=>tx σ H2 fun z H3=>∃ b k kvs',y = .ref b∧DO P w H3 a kvs'∧KeyO H3 k b∧Q ((aF kvs' k).getD z) H3
theorem eY(P:Program)(w:World)(td ty tx:TE){σ : St}{H:Hp}{Q:VK}:nj P w td ty tx σ H Q=td σ H fun x H1=>∃ a kvs,x = .ref a∧DO P w H1 a kvs∧ty σ H1 fun y H2=>tx σ H2 fun z H3=>∃ b k kvs',y = .ref b∧DO P w H3 a kvs'∧KeyO H3 k b∧Q ((aF kvs' k).getD z) H3:=rfl
theorem mo(P:Program)(w:World){n:Nat}(hr:Room n X.A){o e f:Expr}{td ty tx:TE}{apos cpos:Pos}(ho:PE X o td)(he:PE X e ty)(hf:PE X f tx)(m:M2 X o "get" apos e f cpos) (hP:X.prog=P:=by rfl) (hw:X.w=w:=by rfl):PE X (.Call (.Attribute o "get" apos) [e,f] [] cpos) (nj P w td ty tx):=by
 subst hP hw;intro pins s σ H Q I h
 refine wpAny_Call_method m.base m.few m.line PySem.F.plainAttrs_dict PySem.F.slot_dict_get PySem.F.type_dict_get (aL (ho pins s σ H _ I h) fun u s1 ⟨x,H1,I1,rx,a,kvs,ex,d,q1⟩=>?_)
 subst ex;obtain rfl:u=Value.ref a:=rx
 obtain⟨xs,h1,h2,h3,h4,mm⟩:=I1.dO d
 refine⟨mm.typeIs,fun b q=>?_,?_⟩
 ·cases q
  obtain⟨ob,_,_,g1,g2,_⟩:=mm
  exact⟨ob,g1,g2.2.1⟩
 rw[m.trees]
 refine Calls.callWith_builtin rfl (Calls.evalArgs_plain (Calls.spliced_cons (aL (he pins s1 σ H1 _ I1 q1) fun iv s2 ⟨y,H2,I2,ry,q2⟩=>
  Calls.spliced_cons (aL (hf pins s2 σ H2 _ I2 q2) fun fv s3 ⟨z,H3,I3,rz,b,k,kvs',ey,d2,kk,q3⟩=>Calls.spliced_nil ?_))))
 subst ey;obtain rfl:iv=Value.ref b:=ry
 obtain⟨xs2,g1,g2,g3,g4,m2⟩:=I3.dO d2
 refine call_meetsIn PySem.F.slot_dict_get m2.typeIs PySem.F.entry_dict_get (PySem.F.args_dict_get_3 _ _ _) (meetsH_dict_get_default (MO X.prog X.w) a b g2 fv) ⟨by show X.A.units+1+1<cLine; have:=hr.un; omega,k,xs2,I3.keyO kk,m2,?_⟩
 exact⟨_,H3,I3.tok _,(ORow.val k g4).getD (d:=z) rz,q3⟩
def vZ(P:Program)(w:World):ij:=fun o i v H Q=>∃ a b k kvs,o = .ref a∧i = .ref b∧DO P w H a kvs∧KeyO H k b∧((aF kvs k=none∧kvs.length<sizeLine∧∀ u,DO P w (upd H a u) a (kvs++[(k,v)])→Q (upd H a u))∨(aF kvs k=some v∧∀ u,DO P w (upd H a u) a kvs→Q (upd H a u)))
theorem i9{H H':Hp}{k:bj}{v:V}{u:Value}(rv:RelV v u)(keep:∀ c ys,H c=some (.tup ys)→H' c=some (.tup ys)):∀ {kvs:List (bj × V)} {xs:List (bj × Addr × Value)},Paired (ORow H) kvs xs→(xs.map (·.1)).Nodup→(∀ p∈kvs,p.1=k→p.2=v)→Paired (ORow H') kvs (xs.map (putAt k u))
 | _,_,.nil,_,_=>.nil
 | _,_,@Paired.cons _ _ _ p q kvs xs r t,nd,hk=>by
  rw[List.map_cons,List.nodup_cons]at nd
  rw[List.map_cons];refine .cons ?_ (i9 rv keep t nd.2 fun p hp=>hk p (List.mem_cons_of_mem _ hp))
  obtain⟨r1,r2,r3⟩:=r
  unfold putAt
  by_cases e:q.1=k
  ·rw[if_pos e]
   exact⟨r1,r2.mono keep,by rw[hk p List.mem_cons_self (r1 ▸ e)]; exact rv⟩
  ·rw[if_neg e]
   exact⟨r1,r2.mono keep,r3⟩
theorem iO{H:Hp}:∀ {kvs:List (bj × V)} {xs:List (bj × Addr × Value)},Paired (ORow H) kvs xs→kvs.map (·.1)=xs.map (·.1)
 | _,_,.nil=>rfl
 | _,_,.cons r t=>by rw[List.map_cons,List.map_cons,iO t,r.1]
theorem mi{k:bj}{v:V}:∀ {kvs:List (bj × V)},(kvs.map (·.1)).Nodup→aF kvs k=some v→∀ p∈kvs,p.1=k→p.2=v
 | [],_,h,_,hp,_=>nomatch hp
 | q::kvs,nd,h,p,hp,e=>by
  rw[List.map_cons,List.nodup_cons]at nd
  by_cases c:q.1=k
  ·rw[bi c]at h
   rcases List.mem_cons.mp hp with z | z
   ·rw[z]; exact Option.some.inj h
   ·exact absurd (List.mem_map.mpr ⟨p,z,e.trans c.symm⟩) nd.1
  ·rw[bo c]at h
   rcases List.mem_cons.mp hp with z | z
   ·exact absurd (z ▸ e) c
   ·exact mi nd.2 h p z e
theorem xR{n:Nat}(P:Program)(w:World)(hr:Room n X.A)(hP:X.prog=P:=by rfl)(hw:X.w=w:=by rfl):PSet X (vZ P w):=by
 subst hP hw;intro pins s σ H o i v ov iv u Q I ro ri rv h
 obtain⟨a,b,k,kvs,rfl,rfl,hd,hk,h⟩:=h
 rcases h with ⟨h1,h2,h3⟩ | ⟨hv,q⟩
 ·exact ub hr pins s σ H _ _ v ov iv u Q I ro ri rv ⟨a,b,k,kvs,rfl,rfl,hd,hk,h1,h2,h3⟩
 cases ro
 cases ri;obtain⟨xs,h1,h2,h3,h4,m⟩:=I.dO hd
 obtain⟨pp,hx⟩ : ∃ pp,atKey xs k=some pp:=by
  have e:=ORow.val k h4;rw[hv]at e
  cases hq:atKey xs k with
  | none=>rw[hq]at e; exact e.elim
  | some p=>exact⟨p,rfl⟩
 have nd:(xs.map (·.1)).Nodup:=let ⟨_,_,_,_,_,_,_,_,z⟩:=m; z
 refine wpAny_setItem_heap (hsz:=h3) (show (MO X.prog X.w).room X.A.in1 from by show X.A.units+1+1<cLine; have:=hr.un; omega) (I.keyO hk) m fun h' m' hs=>?_
 rw[storedH_old hx]at m'
 have keep:∀ c ys,H c=some (.tup ys)→upd H a (cS X.prog X.w a (xs.map (putAt k u))) c=some (.tup ys):=fun c ys e=>by
  rw[al (kH e h1 (fun z=>nomatch z))]; exact e
 refine⟨upd H a (cS X.prog X.w a (xs.map (putAt k u))),dC I (by rw[h1]; exact True.intro) hs (let ⟨o,_,_,e,_⟩:=m'; ⟨o,e⟩) (fV m'),q _ ⟨_,ae,h2,by rw[List.length_map]; exact h3,?_⟩⟩
 exact i9 rv keep h4 nd (mi (by rw[iO h4]; exact nd) hv)
theorem qM{pos:Pos}(P:Program)(w:World)(hP:X.prog=P:=by rfl)(hw:X.w=w:=by rfl):PE X (.Dict [] [] pos) (lz P w):=by subst hP hw; exact qV
theorem oW(P:Program)(w:World){σ : St}{H:Hp}{Q:VK}:lz P w σ H Q=∀ p,H p=none→∀ u,DO P w (upd H p u) p []→Q (.ref p) (upd H p u):=rfl
end
end L2
namespace L2
open PySem PySem.Spec PyProof PyProof.Rows
section
variable{X:Cx}
def yf:List V→Hp→VK→Prop:=fun xs H Q=>∃ i j,xs=[.int i,.int j]∧∀ p,H p=none→Q (.ref p) (upd H p (.rng i j))
theorem p_:CallR X (.type "range") yf:=by
 intro pins s σ H xs us Q I r h
 obtain⟨i,j,rfl,q⟩:=h
 obtain⟨u,u',rfl,⟨t,rfl⟩,⟨t',rfl⟩⟩:=jm r
 refine call_range_2 ?_
 exact⟨.ref s.heap.objs.size,_,I.laid (fun b o e=>Heap.get?_push_of_some _ e) (Nat.le_refl _) (show ObjOk X.prog X.w _ _ _ (.rng i j) from ⟨_,_,_,Heap.get?_push_size _ rfl⟩),rfl,q _ (I.hok.fresh (Nat.le_refl _))⟩
def pF:List V→Hp→VK→Prop:=fun xs H Q=>∃ p,∃ (i:Int) (n:Nat),xs=[.ref p]∧H p=some (.rng i (i+(n:Int)))∧n≤60000∧0≤i∧i≤60000∧∀ l,H l=none→Q (.ref l) (upd H l (.lst ((List.range n).map fun k:Nat=>V.int (i+(k:Int)))))
theorem kD{m:Nat}(hr:Room m X.A):CallR X (.type "list") pF:=by
 intro pins s σ H xs us Q I r h
 obtain⟨p,i,n,rfl,e,hn,hi0,hi1,q⟩:=h
 obtain⟨u,rfl,ru⟩:=b0 r
 cases ru;obtain⟨t,u,v,ep⟩ : ∃ t u v,s.heap.get? p=some { cls:=.type "range", data:=.fields #[.int i t,.int (i+(n:Int)) u,.int 1 v] }:=I.hok p _ e
 have hs:sizeLine=16777216:=sizeLine_eq
 refine call_list_range (n:=n) hr.hd (show IsRange s.heap p i (i+(n:Int)) 1 t u v from ep) (small_one (by omega) (by omega) (by omega) (by omega)) (by rw[rangeSize_one]; split <;> omega) (by omega) fun h' tk acc' c' hk hS hacc=>?_
 refine⟨.ref s.heap.objs.size,_,I.laid hk (Nat.le_refl _) (show ObjOk X.prog X.w _ h' _ (.lst ((List.range n).map fun k:Nat=>V.int (i+(k:Int)))) from ⟨by simp; omega,acc'.toList,c',?_,by simpa using hS⟩),rfl,q _ (I.hok.fresh (Nat.le_refl _))⟩
 refine gE _ _ (by simp[hacc.1]) fun j x w' e1 e2=>?_
 rw[List.getElem?_map]at e1
 have hj:j<n:=by
  refine Classical.byContradiction fun hj=>?_
  rw[List.getElem?_eq_none (by simp; omega)]at e1; cases e1
 rw[List.getElem?_range hj]at e1
 cases e1;obtain⟨t',ht⟩:=hacc.2 j w' (by rw[← Array.getElem?_toList]; exact e2)
 exact⟨t',by rw[ht]; simp⟩
def zC(K:PySem.W.Frag):R2:=fun x y H Q=>(nV x y H Q)∨oG K x y H Q
theorem wM{n:Nat}(K:PySem.W.Frag)(hr:Room n X.A)(hK:X.K=K:=by rfl):OpR X (compareOp .NotEq) (zC K):=by
 intro pins s σ H x y v u Q I rx ry h
 rcases h with h | h
 ·exact gN pins s σ H x y v u Q I rx ry h
 ·exact jz K hr hK pins s σ H x y v u Q I rx ry h
end
end L2
section
open PySem PySem.Spec PyProof.Rows L2
seal L2.PE L2.PT L2.PW L2.PA L2.PS L2.PSs L2.PG L2.PGs L2.PSet L2.PI L2.PIfs L2.OpR L2.UnR L2.CallR L2.IxR L2.MtR L2.SlR L2.PO L2.PPs
local macro_rules | `(tactic| walk_at "rd1")=>`(tactic| try simp only [fh,eB,cF,cy,dX,dN,fg,fF,dG,fk,dE,fN,d3,fm,fz,fA,iM,gA,dW,iK,fD,gK,fC,dS,gy,gC,dA,fO,eZ,fb,dU,gB,fw,gI,dP,cJ,dQ,fB,fj,eC,ee,fe,fq,dR,d_,eA,fI,cW,gH,iF,df,di,db,dg,dh,ft,d7,dF,d9,cI,dH,fu,fE,fK,de,cM,eh,dJ,dz,ef,cx,cA,c_,cZ,dL,dD,er,cN,fJ,ff,d6,ei,d8,fL,fc,fH,L2.start,List.map_cons,List.map_nil,List.length_cons,List.length_nil,List.replicate,List.cons_append,List.nil_append,List.append_nil,List.getElem?_cons_zero,List.getElem?_cons_succ,List.set_cons_zero,List.set_cons_succ,Nat.reduceAdd,Nat.reduceSub,Option.some.injEq,exists_eq_left',exists_eq_left,V.int.injEq,V.ref.injEq,V.str.injEq,V.bl.injEq,gL,gv,fM,and_true,true_and,decide_eq_true_eq,Bool.not_true,Bool.not_false,if_true,Bool.false_eq_true,if_false,ite_true,ite_false])
local macro_rules | `(tactic| walk_at "nx")=>`(tactic| ((first | rw [dB] | (dsimp only; rw [dB])); walk_at "rd1"))
local macro_rules | `(tactic| walk_at "lk")=>`(tactic| repeat (first | exact lk_hit | exact vy | rw [lk_miss (by decide +kernel)]))
local macro_rules | `(tactic| walk_at "pf")=>`(tactic| repeat (first | rw [putF_hit] | rw [sU] | rw [putF_miss (by decide +kernel)]))
namespace K15
open PySem L2
abbrev bu:Stmt:=top 4
theorem iY:aY ["one", "other"] ["one", "other"] (defScope bu):=mKk
abbrev gLk (s : Stmt) (n : Str) : Prop:=(defScope s).names.lookup n=some .globalImplicit
theorem oIn {a b : Prop} (h : a) : a ∨ b:=.inl h
abbrev ba:Stmt:=top 5
theorem i3:aY ["one", "other"] ["one", "other"] (defScope ba):=mKk
abbrev a_:Stmt:=top 6
theorem mG:aY ["words", "places", "number", "room"] ["words", "places", "number", "room"] (defScope a_):=mKk
abbrev ay:Stmt:=top 7
theorem sc_ways_by_room:aY ["rule", "words", "places", "place", "word", "ways", "number", "room"] ["rule", "words"] (defScope ay):=mKk
theorem yI:gLk ay "enumerate":=by decide +kernel
abbrev aX:Stmt:=top 8
theorem js:aY ["ones", "others", "pair"] ["ones", "others", "pair"] (defScope aX):=mKk
theorem AL:gLk aX "list":=by decide +kernel
theorem A6:gLk aX "zip":=by decide +kernel
abbrev bC:Stmt:=top 10
theorem sc_row_to:aY ["came", "at", "row", "place"] ["came", "at"] (defScope bC):=mKk
theorem Br:gLk bC "list":=by decide +kernel
theorem AJ:gLk bC "reversed":=by decide +kernel
abbrev au:Stmt:=top 11
theorem sc_row_apart:aY ["other", "one", "words", "others", "ones", "order", "came", "met", "at", "here", "word", "pair"] ["other", "one"] (defScope au):=mKk
theorem AO:gLk au "zip":=by decide +kernel
abbrev bx:Stmt:=top 13
theorem jL:aY ["_law_script", "_law_k"] ["_law_script", "_law_k"] (defScope bx):=mKk
abbrev bc:Stmt:=top 14
theorem sc_law_mixed:aY ["_law_cell", "_law_many", "_law_number", "_law_found", "_law_k"] ["_law_cell", "_law_many"] (defScope bc):=mKk
theorem Bw:gLk bc "range":=by decide +kernel
abbrev aD:Stmt:=top 15
theorem sc_law_words:aY ["_law_cell", "_law_many", "_law_sides", "_law_letters", "_law_xs", "_law_size", "_law_at", "_law_words_here", "_law_k", "_law_word", "_law_j"] ["_law_cell", "_law_many", "_law_sides"] (defScope aD):=mKk
theorem yA:gLk aD "range":=by decide +kernel
abbrev bX:Stmt:=top 16
theorem nH:aY ["_law_number", "_law_share", "_law_many"] ["_law_number", "_law_share", "_law_many"] (defScope bX):=mKk
abbrev av:Stmt:=top 17
theorem sc_law_rooms:aY ["_law_cells", "_law_size", "_law_many", "_law_cell", "_law_share", "_law_xs", "_law_k"] ["_law_cells", "_law_size", "_law_many", "_law_cell"] (defScope av):=mKk
theorem rQ:aq (defScope av) "_law_size" := Or.inr (Or.inl (by decide +kernel))
theorem xj:aq (defScope av) "_law_many" := Or.inr (Or.inl (by decide +kernel))
theorem Bg:aJ (defScope av) "_law_share" := Or.inr (by decide +kernel)
theorem AE:aq (defScope av) "_law_xs" := Or.inr (Or.inl (by decide +kernel))
theorem BL:aJ (defScope av) "_law_xs" := Or.inr (by decide +kernel)
theorem yy:gLk av "range":=by decide +kernel
abbrev ap:Stmt:=top 18
theorem sc_law_two:aY ["_law_script", "_law_first", "_law_sides", "_law_some", "_law_ones", "_law_step", "_law_others", "_law_sizes", "_law_rooms_here", "_law_one", "_law_way_here", "_law_xs", "_law_k", "_law_r"] ["_law_script"] (defScope ap):=mKk
theorem AT:(defScope ap).names.lookup ("_law_rooms_here" : Str)=some .local:=by decide +kernel
theorem A3:gLk ap "range":=by decide +kernel
abbrev b9:Stmt:=top 19
theorem pe:aY ["_law_rule", "_law_room", "_law_word"] ["_law_rule", "_law_room", "_law_word"] (defScope b9):=mKk
abbrev aN:Stmt:=top 20
theorem sc_law_pairs:aY ["_law_one", "_law_other", "_law_words_here", "_law_pairs_here", "_law_todo", "_law_pair", "_law_word", "_law_to_here"] ["_law_one", "_law_other", "_law_words_here"] (defScope aN):=mKk
abbrev aG:Stmt:=top 21
theorem sc_law_left:aY ["_law_one", "_law_other", "_law_words_here", "_law_pairs_here", "_law_left_here", "_law_few", "_law_more", "_law_pair", "_law_word", "_law_to_here", "_law_ends"] ["_law_one", "_law_other", "_law_words_here"] (defScope aG):=mKk
theorem zt:gLk aG "range":=by decide +kernel
abbrev aI:Stmt:=top 22
theorem sc_law_told:aY ["_law_found", "_law_one", "_law_other", "_law_words_here", "_law_left_here", "_law_pair", "_law_k", "_law_due", "_law_word", "_law_to_here"] ["_law_found", "_law_one", "_law_other", "_law_words_here", "_law_left_here"] (defScope aI):=mKk
theorem z8:gLk aI "range":=by decide +kernel
theorem zN:gLk aI "reversed":=by decide +kernel
abbrev aO:Stmt:=top 23
theorem sc_law_ring:aY ["_law_sides", "_law_words_here", "_law_size", "_law_closed", "_law_rooms_here", "_law_i", "_law_ways"] ["_law_sides", "_law_words_here", "_law_size", "_law_closed"] (defScope aO):=mKk
theorem AC:aq (defScope aO) "_law_ways" := Or.inr (Or.inl (by decide +kernel))
theorem zE:aJ (defScope aO) "_law_ways" := Or.inr (by decide +kernel)
theorem yV:gLk aO "range":=by decide +kernel
abbrev ai:Stmt:=top 24
theorem sc_law_rings_told:aY ["_law_script", "_law_sides", "_law_a", "_law_b", "_law_letters", "_law_words_here", "_law_one", "_law_other", "_law_at", "_law_left_here", "_law_right", "_law_dues", "_law_n", "_law_found", "_law_due"] ["_law_script", "_law_sides"] (defScope ai):=mKk
theorem wu:gLk ai "range":=by decide +kernel
theorem zJ:gLk ai "zip":=by decide +kernel
abbrev bw:Stmt:=top 25
theorem mw:aY ["_law_rule"] ["_law_rule"] (defScope bw):=mKk
abbrev bb:Stmt:=top 26
theorem sc_law:aY ["_law_script", "_law_one", "_law_other", "_law_words_here", "_law_left_here", "_law_right", "_law_handed", "_law_found", "_law_back"] ["_law_script"] (defScope bb):=mKk
abbrev letters:Str := "abcdefghijklmnopqrstuvwxyz"
def kF(K:PySem.W.Frag):Sp:=fun vs H Q _=>∃ (a:Addr) (ns:List Int),vs=[.ref a]∧SqL K H a (ns.map V.int)∧ns.length≤63∧∀ H',Q (.bl true) H'
def ja(K:PySem.W.Frag):Sp:=fun vs H Q _=>∃ (a:Addr) (ns:List Int) (k:Int),vs=[.ref a,.int k]∧SqL K H a (ns.map V.int)∧0≤k∧Q (.int (ns.getD k.toNat 0)) H
def iD:Sp:=fun vs H Q _=>∃ (c n:Int),vs=[.int c,.int n]∧0≤n∧n≤100000∧∀ (p:Addr) (H':Hp) (ms:List Int),Same H H'→H p=none→H' p=some (.lst (ms.map V.int))→(ms.length:Int)=n→(∀ m∈ms,0≤m∧m<2147483647)→Q (.ref p) H'
def aA:Option Nat→V
 | none=>.non
 | some n=>.int n
def tX:Sp:=fun vs H Q _=>∃ (m s n:Int),vs=[.int m,.int s,.int n]∧0<s∧s<1073741824∧0<n∧n<1073741824∧∀ o:Option Nat,(∀ k,o=some k→(k:Int)<n)→Q (aA o) H
theorem sv(x:Str)(c:Nat):(x++(⟨#[c]⟩ : Str)).length=x.length+1:=by rw[Str.length_append]; rfl
section
variable{P:Program}{w:World}{K:PySem.W.Frag}{mg:Str→Option Value}{base:Heap}
theorem um(D:DefAt K mg "_law_cell_at" bx) (z_len:mg "len" = none):bt P w K mg base 1 "_law_cell_at" ["_law_script", "_law_k"] (ja K):=by
 refine D.cal jL (fun _ _ _ _ _ _ us hl=>match us,hl with | [_,_],_=>rfl) (fun vs H Q E h=>by obtain⟨a,ns,k,rfl,_⟩:=h; rfl) (fun f cdv A outer s H vs Q E hr h=>?_)
 obtain⟨a,ns,k,rfl,hS,h0,q⟩:=h
 refine⟨_,(af (bd (ax kP (pv 1) (bh (bm K) z_len bO (aa (pv 0) ac)) (aH _)) (ak (aR (am (az K) (pv 0) (pv 1) (fun _ _=>rfl)))) aP)
   (ak (aR ab))),?_⟩
 try simp only[dB,fh,eB,cF,cy,dX,dN,fg,fF,dG,fk,dE,fN,d3,fm,fz,fA,iM,gA,dW,iK,fD,gK,fC,dS,gy,gC,dA,fO,eZ,fb,dU,gB,fw,gI,dP,cJ,dQ,fB,fj,eC,ee,fe,fq,dR,d_,eA,fI,cW,gH,iF,df,di,db,dg,dh,ft,d7,dF,d9,cI,dH,fu,fE,fK,de,cM,eh,dJ,dz,ef,cx,cA,c_,cZ,dL,dD,er,cN,fJ,ff,d6,ei,d8,fL,fc,fH,L2.start,List.map_cons,List.map_nil,List.length_cons,List.length_nil,List.replicate,List.cons_append,List.nil_append,List.append_nil,List.getElem?_cons_zero,List.getElem?_cons_succ,List.set_cons_zero,List.set_cons_succ,Nat.reduceAdd,Nat.reduceSub,Option.some.injEq,exists_eq_left',exists_eq_left,V.int.injEq,V.ref.injEq,V.str.injEq,V.bl.injEq,gL,gv,fM,and_true,true_and,decide_eq_true_eq,Bool.not_true,Bool.not_false,if_true,Bool.false_eq_true,if_false,ite_true,ite_false]
 refine⟨_,.inl hS,aw (fun c=>?_) (fun c=>?_)⟩
 ·rw[List.length_map]at c
  refine⟨_,.int (ns.getD k.toNat 0),.inl hS,qo h0 ?_,q⟩
  rw[List.getD_eq_getElem?_getD,List.getElem?_eq_getElem (by omega)]; rfl
 ·rw[List.length_map]at c
  have e:ns.getD k.toNat 0=0:=by
   rw[List.getD_eq_getElem?_getD,List.getElem?_eq_none (by omega)]; rfl
  rw[e]at q; exact q
theorem rb(D:DefAt K mg "_law_mixed" bc) (z_range:mg "range" = none):bt P w K mg base 1 "_law_mixed" ["_law_cell", "_law_many"] iD:=by
 refine D.cal sc_law_mixed (fun _ _ _ _ _ _ us hl=>match us,hl with | [_,_],_=>rfl) (fun vs H Q E h=>by obtain⟨c,n,rfl,_⟩:=h; rfl) (fun f cdv A outer s H vs Q E hr h=>?_)
 obtain⟨c,n,rfl,h0,h1,q⟩:=h
 refine⟨_,(af (ao 2 sc_law_mixed.nd (aj aK ab (aj aM (pv 0) ab)))
   (af (ao 3 sc_law_mixed.nd (br ac))
   (af (bJ PassesOwn.never rfl (bW Bw z_range (aa (pv 1) ac)) (aW 4 sc_law_mixed.nd) (af (ao 2 sc_law_mixed.nd (aj aM (aj cG (pv 2) ab) ab))
   (ak (ce (cQ K PySem.F.plainAttrs_list PySem.F.slot_list_append PySem.F.type_list_append bV (pv 3) (aa (pv 2) ac))))))
   (ak (aR (pv 3)))))),?_⟩
 try simp only[dB,fh,eB,cF,cy,dX,dN,fg,fF,dG,fk,dE,fN,d3,fm,fz,fA,iM,gA,dW,iK,fD,gK,fC,dS,gy,gC,dA,fO,eZ,fb,dU,gB,fw,gI,dP,cJ,dQ,fB,fj,eC,ee,fe,fq,dR,d_,eA,fI,cW,gH,iF,df,di,db,dg,dh,ft,d7,dF,d9,cI,dH,fu,fE,fK,de,cM,eh,dJ,dz,ef,cx,cA,c_,cZ,dL,dD,er,cN,fJ,ff,d6,ei,d8,fL,fc,fH,L2.start,List.map_cons,List.map_nil,List.length_cons,List.length_nil,List.replicate,List.cons_append,List.nil_append,List.append_nil,List.getElem?_cons_zero,List.getElem?_cons_succ,List.set_cons_zero,List.set_cons_succ,Nat.reduceAdd,Nat.reduceSub,Option.some.injEq,exists_eq_left',exists_eq_left,V.int.injEq,V.ref.injEq,V.str.injEq,V.bl.injEq,gL,gv,fM,and_true,true_and,decide_eq_true_eq,Bool.not_true,Bool.not_false,if_true,Bool.false_eq_true,if_false,ite_true,ite_false]
 refine⟨by decide,by decide,fun p hp=>⟨by omega,by omega,?_⟩⟩
 refine bU (fun i σ H'=>∃ (m:Int) (ms:List Int) (o:Option V),σ=[some (.int c),some (.int n),some (.int m),some (.ref p),o]∧Same H H'∧H' p=some (.lst (ms.map V.int))∧ms.length=i∧(∀ x∈ms,0≤x∧x<2147483647)∧0≤m∧m<2147483648)
  ⟨_,[],none,rfl,ah hp _,ae,rfl,(by simp),by omega,by omega⟩ ?_ ?_
 ·rintro i σ H' hi ⟨m,ms,o,rfl,sm,hl,hn,hb,m0,m1⟩
  try simp only[dB,fh,eB,cF,cy,dX,dN,fg,fF,dG,fk,dE,fN,d3,fm,fz,fA,iM,gA,dW,iK,fD,gK,fC,dS,gy,gC,dA,fO,eZ,fb,dU,gB,fw,gI,dP,cJ,dQ,fB,fj,eC,ee,fe,fq,dR,d_,eA,fI,cW,gH,iF,df,di,db,dg,dh,ft,d7,dF,d9,cI,dH,fu,fE,fK,de,cM,eh,dJ,dz,ef,cx,cA,c_,cZ,dL,dD,er,cN,fJ,ff,d6,ei,d8,fL,fc,fH,L2.start,List.map_cons,List.map_nil,List.length_cons,List.length_nil,List.replicate,List.cons_append,List.nil_append,List.append_nil,List.getElem?_cons_zero,List.getElem?_cons_succ,List.set_cons_zero,List.set_cons_succ,Nat.reduceAdd,Nat.reduceSub,Option.some.injEq,exists_eq_left',exists_eq_left,V.int.injEq,V.ref.injEq,V.str.injEq,V.bl.injEq,gL,gv,fM,and_true,true_and,decide_eq_true_eq,Bool.not_true,Bool.not_false,if_true,Bool.false_eq_true,if_false,ite_true,ite_false]
  refine⟨.inl ⟨by omega,by omega⟩,by decide,⟨_,SqL.of hl⟩,_,hl,by rw[List.length_map]; exact bT (by omega),?_⟩
  refine⟨_,ms++[m * 16807 % 2147483647],_,rfl,fun b o' e=>?_,?_,by simp[hn],fun x hx=>?_,by omega,by omega⟩
  ·rw[al (aE e hp)]; exact sm b o' e
  ·rw[ae,List.map_append]; rfl
  ·rcases List.mem_append.mp hx with z | z
   ·exact hb x z
   ·rw[List.mem_singleton.mp z]; omega
 ·rintro σ H' ⟨m,ms,o,rfl,sm,hl,hn,hb,m0,m1⟩
  try simp only[dB,fh,eB,cF,cy,dX,dN,fg,fF,dG,fk,dE,fN,d3,fm,fz,fA,iM,gA,dW,iK,fD,gK,fC,dS,gy,gC,dA,fO,eZ,fb,dU,gB,fw,gI,dP,cJ,dQ,fB,fj,eC,ee,fe,fq,dR,d_,eA,fI,cW,gH,iF,df,di,db,dg,dh,ft,d7,dF,d9,cI,dH,fu,fE,fK,de,cM,eh,dJ,dz,ef,cx,cA,c_,cZ,dL,dD,er,cN,fJ,ff,d6,ei,d8,fL,fc,fH,L2.start,List.map_cons,List.map_nil,List.length_cons,List.length_nil,List.replicate,List.cons_append,List.nil_append,List.append_nil,List.getElem?_cons_zero,List.getElem?_cons_succ,List.set_cons_zero,List.set_cons_succ,Nat.reduceAdd,Nat.reduceSub,Option.some.injEq,exists_eq_left',exists_eq_left,V.int.injEq,V.ref.injEq,V.str.injEq,V.bl.injEq,gL,gv,fM,and_true,true_and,decide_eq_true_eq,Bool.not_true,Bool.not_false,if_true,Bool.false_eq_true,if_false,ite_true,ite_false]
  exact q p H' ms sm hp hl (by omega) hb
theorem wq(D:DefAt K mg "_law_way" bX):bt P w K mg base 1 "_law_way" ["_law_number", "_law_share", "_law_many"] tX:=by
 refine D.cal nH (fun _ _ _ _ _ _ us hl=>match us,hl with | [_,_,_],_=>rfl) (fun vs H Q E h=>by obtain⟨m,s,n,rfl,_⟩:=h; rfl) (fun f cdv A outer s H vs Q E hr h=>?_)
 obtain⟨m,s,n,rfl,s0,s1,n0,n1,q⟩:=h
 refine⟨_,(af (bd (ax bH (aj aM (pv 0) (pv 1)) ab (aH _)) (ak (aR aZ)) aP)
   (ak (aR (aj aM (aj bL (pv 0) (pv 1)) (pv 2))))),?_⟩
 try simp only[dB,fh,eB,cF,cy,dX,dN,fg,fF,dG,fk,dE,fN,d3,fm,fz,fA,iM,gA,dW,iK,fD,gK,fC,dS,gy,gC,dA,fO,eZ,fb,dU,gB,fw,gI,dP,cJ,dQ,fB,fj,eC,ee,fe,fq,dR,d_,eA,fI,cW,gH,iF,df,di,db,dg,dh,ft,d7,dF,d9,cI,dH,fu,fE,fK,de,cM,eh,dJ,dz,ef,cx,cA,c_,cZ,dL,dD,er,cN,fJ,ff,d6,ei,d8,fL,fc,fH,L2.start,List.map_cons,List.map_nil,List.length_cons,List.length_nil,List.replicate,List.cons_append,List.nil_append,List.append_nil,List.getElem?_cons_zero,List.getElem?_cons_succ,List.set_cons_zero,List.set_cons_succ,Nat.reduceAdd,Nat.reduceSub,Option.some.injEq,exists_eq_left',exists_eq_left,V.int.injEq,V.ref.injEq,V.str.injEq,V.bl.injEq,gL,gv,fM,and_true,true_and,decide_eq_true_eq,Bool.not_true,Bool.not_false,if_true,Bool.false_eq_true,if_false,ite_true,ite_false]
 refine⟨s0,aw (fun c=>?_) (fun c=>?_)⟩
 ·exact q none (fun k e=>by cases e)
 ·refine⟨⟨s0,s1⟩,n0,?_⟩
  have a1:=Int.emod_nonneg (m / s) (show n≠0 by omega)
  have a2:=Int.emod_lt_of_pos (m / s) n0;have q':=q (some (m / s % n).toNat) (fun k e=>by cases e; omega)
  have e:V.int (m / s % n)=aA (some (m / s % n).toNat):=by
   show _=V.int (((m / s % n).toNat:Nat):Int)
   rw[show (((m / s % n).toNat:Nat):Int)=m / s % n by omega]
  rw[e]; exact q'
end
set_option genInjectivity false in
set_option genSizeOf false in
structure Rl where
 s:Int
 ws:List Str
 rs:List (List (Option Nat))
structure bP (r:Rl):Prop where
 s:r.s=1∨r.s=2
 nw:r.ws.length≤16
 n0:1≤r.rs.length
 n1:r.rs.length≤60
 row:∀ x∈r.rs,x.length=r.ws.length∧∀ k,some k∈x→k<r.rs.length
 lw:∀ w∈r.ws,w.length≤10
def RoomsAs(H:Hp)(p:Addr)(rs:List (List (Option Nat)))(as:List Addr):Prop:=
 H p=some (.lst (as.map V.ref))∧as.length=rs.length∧∀ (i:Nat) a x,as[i]? = some a→rs[i]? = some x→H a=some (.lst (x.map aA))
def RuleAt(H:Hp)(p:Addr)(r:Rl):Prop:=∃ pw pr as,H p=some (.tup [.int r.s,.ref pw,.ref pr])∧H pw=some (.lst (r.ws.map V.str))∧RoomsAs H pr r.rs as
theorem RoomsAs.mono{H H':Hp}{p:Addr}{rs:List (List (Option Nat))}{as:List Addr}(sm:Same H H')(h:RoomsAs H p rs as):RoomsAs H' p rs as:=by
 obtain⟨h1,h2,h3⟩:=h
 exact⟨sm _ _ h1,h2,fun i a x e1 e2=>sm _ _ (h3 i a x e1 e2)⟩
theorem RuleAt.mono{H H':Hp}{p:Addr}{r:Rl}(sm:Same H H')(h:RuleAt H p r):RuleAt H' p r:=by
 obtain⟨pw,pr,as,h1,h2,h3⟩:=h
 exact⟨pw,pr,as,sm _ _ h1,sm _ _ h2,h3.mono sm⟩
theorem j6(ss:List Str):(ss.map V.str).all bf=true:=by
 rw[List.all_eq_true]; intro x hx; obtain⟨s,_,rfl⟩:=List.mem_map.mp hx; rfl
theorem mP(y:Str)(ss:List Str):ib (.str y) (ss.map V.str)=decide (y∈ss):=by
 rw[Bool.eq_iff_iff];unfold ib;rw[List.any_eq_true,decide_eq_true_eq]
 constructor
 ·rintro⟨x,hx,e⟩
  obtain⟨s,hs,rfl⟩:=List.mem_map.mp hx
  have e':(s == y)=true:=e
  rw[← eq_of_beq e']; exact hs
 ·intro h
  exact⟨.str y,List.mem_map.mpr ⟨y,h,rfl⟩,by show (y == y)=true; simp⟩
theorem qj(x:List (Option Nat)):∀ v∈x.map aA,bf v=true:=by
 intro v hv
 obtain⟨o,_,rfl⟩:=List.mem_map.mp hv
 cases o <;> rfl
theorem qp(x:List Str):∀ v∈x.map V.str,bf v=true:=by
 intro v hv
 obtain⟨o,_,rfl⟩:=List.mem_map.mp hv
 rfl
theorem sI{K:PySem.W.Frag}{H:Hp}{p q:Addr}{rs:List (List (Option Nat))}{as bs:List Addr}(h1:RoomsAs H p rs as)(h2:RoomsAs H q rs bs):EqN K H 2 (.ref p) (.ref q) true:=by
 obtain⟨a1,a2,a3⟩:=h1
 obtain⟨b1,b2,b3⟩:=h2
 refine EqN.seq (.inl ⟨SqL.of a1,SqL.of b1⟩) (by simp; omega) fun i x y e1 e2=>?_
 rw[List.getElem?_map]at e1 e2
 cases qa:as[i]? with
 | none=>rw[qa]at e1; cases e1
 | some a=>
  cases qb:bs[i]? with
  | none=>rw[qb]at e2; cases e2
  | some b=>
   rw[qa]at e1; rw[qb]at e2
   cases e1; cases e2
   have hi:i<rs.length:=by have:=(List.getElem?_eq_some_iff.mp qa).1; omega
   exact EqN.seqFlat (.inl ⟨SqL.of (a3 i a _ qa (List.getElem?_eq_getElem hi)),SqL.of (b3 i b _ qb (List.getElem?_eq_getElem hi))⟩) (qj _)
theorem nv{K:PySem.W.Frag}{H:Hp}{p q:Addr}{r:Rl}(h1:RuleAt H p r)(h2:RuleAt H q r):EqN K H 3 (.ref p) (.ref q) true:=by
 obtain⟨pw,pr,as,a1,a2,a3⟩:=h1
 obtain⟨qw,qr,bs,b1,b2,b3⟩:=h2
 refine EqN.seq (.inr ⟨SqT.of a1,SqT.of b1⟩) rfl fun i x y e1 e2=>?_
 match i,e1,e2 with
 | 0,e1,e2=>cases e1; cases e2; exact EqN.refl rfl
 | 1,e1,e2=>cases e1; cases e2; exact EqN.seqFlat (.inl ⟨SqL.of a2,SqL.of b2⟩) (qp _)
 | 2,e1,e2=>cases e1; cases e2; exact sI a3 b3
 | i+3,e1,e2=>simp at e1
theorem jn{K:PySem.W.Frag}{pr L:Addr}{g:TG}{te:TE}{nT:Nat}{σ : L2.St}{Q:VK}{H:Hp}{rs:List (List (Option Nat))}{as:List Addr}(hR:RoomsAs H pr rs as)(hn:rs.length≤60)(hL:H L=none)
  (hs:∀ (a:Addr) (xs:List V) (H':Hp) (C:VK),H' a=some (.lst xs)→(∀ l,H' l=none→C (.ref l) (upd H' l (.lst xs)))→g (.ref a) (σ++List.replicate nT none) H' fun σ2 H2=>te σ2 H2 C)
  (q:∀ H' bs,Same H H'→RoomsAs H' L rs bs→(∀ b∈bs,H b=none∧b≠L)→bs.Nodup→Q (.ref L) H'):gf (jp K pr) g jM te nT σ L Q (upd H L (.lst [])):=by
 obtain⟨h1,h2,h3⟩:=hR
 refine eT (xs:=as.map V.ref) (fun i ys H'=>∃ bs:List Addr,Same H H'∧H' L=some (.lst ys)∧ys=bs.map V.ref∧bs.length=i∧(∀ b∈bs,H b=none∧b≠L∧∃ o,H' b=some o)∧bs.Nodup∧∀ (j:Nat) b x,bs[j]? = some b→rs[j]? = some x→H' b=some (.lst (x.map aA)))
  ⟨[],ah hL _,ae,rfl,rfl,by simp,List.nodup_nil,by simp⟩ (fun i ys H' _ h=>by obtain⟨_,sm,_⟩:=h; exact SqL.of (sm _ _ h1)) ?_ ?_
 ·rintro i ys H' x hx hi ⟨bs,sm,hl,rfl,hb,hbn,hnd,hbx⟩
  rw[List.getElem?_map]at hx
  cases qa:as[i]? with
  | none=>rw[qa]at hx; cases hx
  | some a=>
   rw[qa]at hx; cases hx
   have hi':i<rs.length:=by have:=(List.getElem?_eq_some_iff.mp qa).1; omega
   have ha:=h3 i a _ qa (List.getElem?_eq_getElem hi');have e:=hs a _ H' (iA (as.map V.ref).length i (fun i ys H'=>∃ bs:List Addr,Same H H'∧H' L=some (.lst ys)∧ys=bs.map V.ref∧bs.length=i∧(∀ b∈bs,H b=none∧b≠L∧∃ o,H' b=some o)∧bs.Nodup∧∀ (j:Nat) b x,bs[j]? = some b→rs[j]? = some x→H' b=some (.lst (x.map aA))) L (bs.map V.ref)) (sm _ _ ha) ?_
   ·have e2:(iH (as.map V.ref).length i (fun i ys H'=>∃ bs:List Addr,Same H H'∧H' L=some (.lst ys)∧ys=bs.map V.ref∧bs.length=i∧(∀ b∈bs,H b=none∧b≠L∧∃ o,H' b=some o)∧bs.Nodup∧∀ (j:Nat) b x,bs[j]? = some b→rs[j]? = some x→H' b=some (.lst (x.map aA))) L (bs.map V.ref) te)=fun σ2 H2=>te σ2 H2 (iA (as.map V.ref).length i (fun i ys H'=>∃ bs:List Addr,Same H H'∧H' L=some (.lst ys)∧ys=bs.map V.ref∧bs.length=i∧(∀ b∈bs,H b=none∧b≠L∧∃ o,H' b=some o)∧bs.Nodup∧∀ (j:Nat) b x,bs[j]? = some b→rs[j]? = some x→H' b=some (.lst (x.map aA))) L (bs.map V.ref)):=by
     funext σ2 H2; exact cW
    rw[e2]; exact e
   ·intro l hl0
    have nl:l≠L:=by
     rintro rfl
     rw[hl]at hl0; cases hl0
    have hl':upd H' l (.lst ((rs[i]).map aA)) L=some (.lst (bs.map V.ref)):=by rw[al (Ne.symm nl)]; exact hl
    refine iL hi (by rw[List.length_map]; exact hb) (by rw[List.length_map,h2]; exact bg (by omega)) hl' ⟨bs++[l],(sm.trans (ah hl0 _)).upd hL _,ae,by rw[List.map_append]; rfl,by simp[hb],?_,?_,?_⟩
    ·intro b hb'
     rcases List.mem_append.mp hb' with z | z
     ·obtain⟨z1,z2,o,z3⟩:=hbn b z
      exact⟨z1,z2,o,by rw[al z2]; exact(ah hl0 _) _ _ z3⟩
     ·rw[List.mem_singleton.mp z]
      exact⟨sm.free hl0,nl,_,by rw[al nl]; exact ae⟩
    ·rw[List.nodup_append]
     refine⟨hnd,by simp,fun b hb' c hc=>?_⟩
     rw[List.mem_singleton.mp hc];rintro rfl
     obtain⟨_,_,o,z⟩:=hbn b hb'
     rw[hl0]at z; cases z
    ·intro j b x e1 e2
     rcases Nat.lt_or_ge j bs.length with z | z
     ·rw[List.getElem?_append_left z]at e1
      have q1:=hbx j b x e1 e2;have q2:=(hbn b (List.mem_of_getElem? e1)).2.1;rw[al q2]; exact(ah hl0 _) _ _ q1
     ·rw[List.getElem?_append_right z]at e1
      have hj:j - bs.length=0:=by
       have:=(List.getElem?_eq_some_iff.mp e1).1
       simp at this; omega
      rw[hj]at e1
      have e1':l=b:=by simpa using e1
      subst e1';have hji:j=i:=by omega
      subst hji;rw[List.getElem?_eq_getElem hi']at e2
      cases e2;rw[al nl]; exact ae
 ·rintro ys H' ⟨bs,sm,hl,rfl,hb,hbn,hnd,hbx⟩
  exact q H' bs sm ⟨hl,by rw[hb,List.length_map,h2],hbx⟩ (fun b z=>⟨(hbn b z).1,(hbn b z).2.1⟩) hnd
theorem b_{α : Type}{l:List α}{i:Nat}{d:α}(h:i<l.length):l.getD i d=l[i]:=by rw[List.getD_eq_getElem?_getD,List.getElem?_eq_getElem h]; rfl
def ar(r:Rl)(k:Nat)(y:Str):Option Nat:=if y∈r.ws then (r.rs.getD k []).getD (r.ws.idxOf y) none else some k
theorem kT{r:Rl}(ok:bP r){k k':Nat}{y:Str}(hk:k<r.rs.length)(e:ar r k y=some k'):k'<r.rs.length:=by
 unfold ar at e
 by_cases h:y∈r.ws
 ·rw[if_pos h,b_ hk]at e
  have hx:=ok.row _ (List.getElem_mem hk);have hi:r.ws.idxOf y<(r.rs[k]).length:=by rw[hx.1]; exact List.idxOf_lt_length_iff.mpr h
  rw[b_ hi]at e
  exact hx.2 k' (e ▸ List.getElem_mem hi)
 ·rw[if_neg h]at e
  cases e; exact hk
def kY:Sp:=fun vs H Q _=>∃ (p q:Addr) (r r':Rl),vs=[.ref p,.ref q]∧RuleAt H p r∧RuleAt H q r'∧r.s=r'.s∧Q .non H
def iV(r r':Rl)(ws:List Str):Prop:=ws.Nodup∧(∀ y,y∈ws ↔ y∈r.ws∨y∈r'.ws)∧ws.length≤32
def pz:Sp:=fun vs H Q _=>∃ (p q:Addr) (r r':Rl),vs=[.ref p,.ref q]∧RuleAt H p r∧RuleAt H q r'∧bP r∧bP r'∧∀ (l:Addr) (H':Hp) (ws:List Str),Same H H'→H l=none→H' l=some (.lst (ws.map V.str))→iV r r' ws→sortedS ws=true→Q (.ref l) H'
section
variable{P:Program}{w:World}{K:PySem.W.Frag}{mg:Str→Option Value}{base:Heap}
theorem pH(D:DefAt K mg "refuse_unlike" bu):bt P w K mg base 1 "refuse_unlike" ["one", "other"] kY:=by
 refine D.cal (k:=0) iY (fun _ _ _ _ _ _ us hl=>match us,hl with | [_,_],_=>rfl) (fun vs H Q E h=>by obtain⟨p,q,r,r',rfl,_⟩:=h; rfl) (fun f cdv A outer s H vs Q E hr h=>?_)
 obtain⟨p,q,r,r',rfl,⟨pw,pr,as,h1,_⟩,⟨qw,qr,bs,g1,_⟩,e,hq⟩:=h
 refine⟨_,(ak (bd (ax gN (am (az K) (pv 0) ab (fun _ _=>rfl)) (am (az K) (pv 1) ab (fun _ _=>rfl)) (aH _)) (ak sq) aP)),?_⟩
 walk_at "rd1";refine⟨_,_,.inr (SqT.of h1),dn,?_⟩
 refine⟨_,_,.inr (SqT.of g1),dn,?_⟩
 walk_at "rd1";refine aw (fun c=>absurd c (by simp[e])) (fun _=>?_)
 exact hq
theorem u9(D:DefAt K mg "words_of_both" ba) (z_sorted:mg "sorted" = none) (z_set:mg "set" = none):bt P w K mg base 1 "words_of_both" ["one", "other"] pz:=by
 refine D.cal (k:=0) i3 (fun _ _ _ _ _ _ us hl=>match us,hl with | [_,_],_=>rfl) (fun vs H Q E h=>by obtain⟨p,q,r,r',rfl,_⟩:=h; rfl) (fun f cdv A outer s H vs Q E hr h=>?_)
 obtain⟨p,q,r,r',rfl,⟨pw,pr,as,h1,h2,h3⟩,⟨qw,qr,bs,g1,g2,g3⟩,ok,ok',hq⟩:=h
 have nw:=ok.nw;have nw':=ok'.nw;refine⟨_,(ak (aR (bh (mD P w hr) z_sorted cY (aa (aj (uM P w) (bR (jl K P w hr) z_set ie (aa (am (az K) (pv 0) ab (fun _ _=>rfl)) ac)) (bR (jl K P w hr) z_set ie (aa (am (az K) (pv 1) ab (fun _ _=>rfl)) ac))) ac)))),?_⟩
 walk_at "rd1";refine⟨_,_,.inr (SqT.of h1),aB (j:=1) rfl,?_⟩
 refine⟨pw,r.ws,rfl,SqL.of h2,by omega,fun a ds ha hd hda hdl=>?_⟩
 have s1:=ah ha (bD P w a ds);have e1:upd H a (bD P w a ds) a=some (bD P w a ds):=ae
 generalize upd H a (bD P w a ds)=H1 at s1 e1 ⊢;walk_at "rd1";refine⟨_,_,.inr (SqT.of (s1 _ _ g1)),aB (j:=1) rfl,?_⟩
 refine⟨qw,r'.ws,rfl,SqL.of (s1 _ _ g2),by omega,fun b es hb he hea hel=>?_⟩
 have s2:=ah hb (bD P w b es);have e2:upd H1 b (bD P w b es) b=some (bD P w b es):=ae
 have hab:a≠b:=aE e1 hb
 generalize upd H1 b (bD P w b es)=H2 at s2 e2 ⊢;refine⟨a,b,ds,es,rfl,rfl,hab,s2 _ _ e1,e2,by omega,fun c us hc hu hua hul=>?_⟩
 have s3:=ah hc (bD P w c us);have e3:upd H2 c (bD P w c us) c=some (bD P w c us):=ae
 generalize upd H2 c (bD P w c us)=H3 at s3 e3 ⊢;walk_at "rd1";refine⟨c,us,rfl,e3,by omega,fun l ts hl hp hs=>?_⟩
 have s123:=(s1.trans s2).trans s3;exact hq l _ ts (s123.trans (ah hl _)) (s123.free hl) ae ⟨hp.nodup_iff.mpr hu,fun y=>by rw[hp.mem_iff,hua,hda,hea],by rw[hp.length_eq]; omega⟩ hs
end
def PlAt(ws:List Str)(i:Nat)(kvs:List (aU × V)):Prop:=kvs.length≤i∧∀ y,aF kvs (.inr y)=if y∈ws.take i then some (V.int (ws.idxOf y:Nat)) else none
theorem oS{l:List Str}(nd:l.Nodup){i:Nat}(h:i<l.length):l.idxOf l[i]=i:=by
 have hm:=List.idxOf_lt_length_iff.mpr (List.getElem_mem h);exact(List.getElem_inj nd (h₀:=hm) (h₁:=h)).mp (List.getElem_idxOf hm)
theorem PlAt.put{ws:List Str}{i:Nat}{kvs:List (aU × V)}(nd:ws.Nodup)(h:PlAt ws i kvs)(hi:i<ws.length):PlAt ws (i+1) (bQ kvs (.inr ws[i]) (.int (i:Int))):=by
 refine⟨by have:=cv kvs (.inr ws[i]) (.int (i:Int)); have:=h.1; omega,fun y=>?_⟩
 have ht:∀ z,z∈ws.take (i+1) ↔ z∈ws.take i∨z=ws[i]:=fun z=>by
  rw[List.take_add_one,List.getElem?_eq_getElem hi,List.mem_append];show _∨z∈[ws[i]] ↔ _
  rw[List.mem_singleton]
 rw[hV,h.2 y]
 by_cases e:y=ws[i]
 ·rw[if_pos (by rw[e]),if_pos ((ht y).mpr (.inr e)),e,oS nd hi]
 ·rw[if_neg (fun z=>e (Sum.inr.inj z))]
  by_cases m:y∈ws.take i
  ·rw[if_pos m,if_pos ((ht y).mpr (.inl m))]
  ·rw[if_neg m,if_neg (fun z=>((ht y).mp z).elim m e)]
def tW:Sp:=fun vs H Q _=>∃ (wl pd ra:Addr) (ws:List Str) (kvs:List (aU × V)) (r:Rl) (k:Nat),vs=[.ref wl,.ref pd,.int (k:Int),.ref ra]∧H wl=some (.lst (ws.map V.str))∧ws.length≤32∧H pd=some (.dK kvs)∧PlAt r.ws r.ws.length kvs∧bP r∧k<r.rs.length∧H ra=some (.lst ((r.rs.getD k []).map aA))∧
 ∀ (L:Addr) (H':Hp),Same H H'→H L=none→H' L=some (.lst ((ws.map (ar r k)).map aA))→Q (.ref L) H'
section
variable{P:Program}{w:World}{K:PySem.W.Frag}{mg:Str→Option Value}{base:Heap}
theorem vb(D:DefAt K mg "ways_for" a_):bt P w K mg base 1 "ways_for" ["words", "places", "number", "room"] tW:=by
 refine D.cal (k:=0) mG (fun _ _ _ _ _ _ us hl=>match us,hl with | [_,_,_,_],_=>rfl) (fun vs H Q E h=>by obtain⟨_,_,_,_,_,_,_,rfl,_⟩:=h; rfl) (fun f cdv A outer s H vs Q E hr h=>?_)
 obtain⟨wl,pd,ra,ws,kvs,r,k,rfl,hw,hn,hd,hP,ok,hk,hra,q⟩:=h
 refine⟨_,(ak (aR (gO (CompSc.to (fsc:=(defScope a_)) (N:=["words", "places", "number", "room"]) (N0:=["words", "places", "number", "room"]) (T:=["word"]) ⟨by decide +kernel,by decide +kernel,by decide +kernel,by decide +kernel,by decide +kernel,by decide +kernel,by decide +kernel⟩ rfl rfl) rfl (cq K (pv 0)) (fun _ _ _ _=>(aW 4 (show (["words", "places", "number", "room", "word"]:List Str).Nodup from by decide +kernel) (hx:=(jB (defScope a_) (by decide +kernel))) (hf:=nr (defScope a_) (by decide +kernel)))) (cX (show (["words", "places", "number", "room"]:List Str).length≤4 from by decide)) (fun _ _ _ _=>cV) (fun _ _ _ _=>(rP (ax (v7 hr) (pv 4 (hv:=(cO (defScope a_) (by decide +kernel)))) (pv 1 (hv:=(cO (defScope a_) (by decide +kernel)))) (by with_unfolding_all rfl)) (am (az K) (pv 3 (hv:=(cO (defScope a_) (by decide +kernel)))) (am (xu K) (pv 1 (hv:=(cO (defScope a_) (by decide +kernel)))) (pv 4 (hv:=(cO (defScope a_) (by decide +kernel)))) (fun _ _=>rfl)) (fun _ _=>rfl)) (pv 2 (hv:=(cO (defScope a_) (by decide +kernel))))))))),?_⟩
 walk_at "rd1";refine⟨⟨_,SqL.of hw⟩,fun L hL=>?_⟩
 refine eT (xs:=ws.map V.str) (fun i ys H'=>Same H H'∧H' L=some (.lst ys)∧ys=((ws.take i).map (ar r k)).map aA) ⟨ah hL _,ae,rfl⟩ (fun i ys H' _ h=>SqL.of (h.1 _ _ hw)) ?_ ?_
 ·rintro i ys H' v hv hi ⟨sm,hl,rfl⟩
  rw[List.length_map]at hi
  rw[List.getElem?_map,List.getElem?_eq_getElem hi]at hv
  cases hv
  have next:∀ {v:V},v=aA (ar r k ws[i])→iA (ws.map V.str).length i (fun i ys H'=>Same H H'∧H' L=some (.lst ys)∧ys=((ws.take i).map (ar r k)).map aA) L (((ws.take i).map (ar r k)).map aA) v H':=fun {v} e=>by
   refine iL (by rw[List.length_map]; exact hi) (by simp; omega) (by rw[List.length_map]; exact bg (by omega)) hl ⟨sm.upd hL _,ae,?_⟩
   rw[e,List.take_add_one,List.getElem?_eq_getElem hi,List.map_append,List.map_append]; rfl
  walk_at "rd1";refine⟨pd,kvs,.inr ws[i],rfl,rfl,sm _ _ hd,?_⟩
  rw[hP.2,List.take_length]
  by_cases hm:ws[i]∈r.ws
  ·rw[if_pos hm]
   have hx:=ok.row _ (List.getElem_mem hk);have hj:r.ws.idxOf ws[i]<(r.rs.getD k []).length:=by rw[b_ hk,hx.1]; exact List.idxOf_lt_length_iff.mpr hm
   refine⟨_,rfl,aw (fun _=>?_) (fun c=>absurd rfl c)⟩
   refine .inr ⟨pd,kvs,.inr ws[i],_,rfl,rfl,sm _ _ hd,by rw[hP.2,List.take_length,if_pos hm],?_⟩
   walk_at "rd1";refine⟨_,_,.inl (SqL.of (sm _ _ hra)),aB (v:=aA ((r.rs.getD k []).getD (r.ws.idxOf ws[i]) none)) (by rw[List.getElem?_map,List.getElem?_eq_getElem hj,b_ hj]; rfl),?_⟩
   exact next (by unfold ar; rw[if_pos hm])
  ·rw[if_neg hm]
   refine⟨_,rfl,aw (fun c=>absurd c (by decide)) (fun _=>?_)⟩
   exact next (by unfold ar; rw[if_neg hm]; rfl)
 ·rintro ys H' ⟨sm,hl,rfl⟩
  rw[List.length_map,List.take_length]at hl
  exact q L H' sm hL hl
end
def WaysAt(P:Program)(w:World)(H:Hp)(d:Addr)(r:Rl)(ws:List Str):Prop:=∃ kvs,H d=some (gx P w d kvs)∧(∀ k,k<r.rs.length→∃ a,aF kvs (some (k:Int))=some (.ref a)∧H a=some (.lst ((ws.map (ar r k)).map aA)))∧∃ a,aF kvs none=some (.ref a)∧H a=some (.lst (ws.map fun _=>V.non))
theorem WaysAt.mono{P:Program}{w:World}{H H':Hp}{d:Addr}{r:Rl}{ws:List Str}(h:WaysAt P w H d r ws)(sm:Same H H'):WaysAt P w H' d r ws:=by
 obtain⟨kvs,h1,h2,a,h3,h4⟩:=h
 exact⟨kvs,sm _ _ h1,fun k hk=>by obtain⟨a,e1,e2⟩:=h2 k hk; exact⟨a,e1,sm _ _ e2⟩,a,h3,sm _ _ h4⟩
def lI(P:Program)(w:World):Sp:=fun vs H Q _=>∃ (p wl:Addr) (r:Rl) (ws:List Str),vs=[.ref p,.ref wl]∧RuleAt H p r∧bP r∧r.ws.Nodup∧H wl=some (.lst (ws.map V.str))∧ws.length≤32∧∀ (d:Addr) (H':Hp),Same H H'→WaysAt P w H' d r ws→Q (.ref d) H'
section
variable{P:Program}{w:World}{K:PySem.W.Frag}{mg:Str→Option Value}{base:Heap}
theorem pM(D:DefAt K mg "ways_by_room" ay) (z_enumerate:mg "enumerate" = none) (c_ways_for:bt P w K mg base 1 "ways_for" ["words", "places", "number", "room"] tW):bt P w K mg base 2 "ways_by_room" ["rule", "words"] (lI P w):=by
 refine D.cal (k:=1) sc_ways_by_room (fun _ _ _ _ _ _ us hl=>match us,hl with | [_,_],_=>rfl) (fun vs H Q E h=>by obtain⟨_,_,_,_,rfl,_⟩:=h; rfl) (fun f cdv A outer s H vs Q E hr h=>?_)
 obtain⟨p,wl,r,ws,rfl,⟨pw,pr,as,h1,h2,h3⟩,ok,nd,hw,hn,q⟩:=h
 have nw:=ok.nw;have n1:=ok.n1;have n0:=ok.n0
 refine⟨_,(af (ao 2 sc_ways_by_room.nd rW)
   (af (bJ PassesOwn.never rfl (lm K yI z_enumerate (aa (am (az K) (pv 0) ab (fun _ _=>rfl)) ac)) (gz K (n:=2) (b8 (aW 3 sc_ways_by_room.nd) (b8 (aW 4 sc_ways_by_room.nd) gR))) (ak (cg (pv 3) (cu (pv 2) (pv 4) (t_ hr)))))
   (af (ao 5 sc_ways_by_room.nd (nW P w))
   (af (bJ PassesOwn.never rfl (lm K yI z_enumerate (aa (am (az K) (pv 0) ab (fun _ _=>rfl)) ac)) (gz K (n:=2) (b8 (aW 6 sc_ways_by_room.nd) (b8 (aW 7 sc_ways_by_room.nd) gR))) (ak (cg (aC c_ways_for hr (aa (pv 1) (aa (pv 2) (aa (pv 6) (aa (pv 7) ac))))) (cu (pv 5) (pv 6) (ng P w)))))
   (af (cg (gO (CompSc.to (fsc:=(defScope ay)) (N:=["rule", "words", "places", "place", "word", "ways", "number", "room"]) (N0:=["rule", "words", "places", "place", "word'", "ways", "number", "room"]) (T:=["word"]) ⟨by decide +kernel,by decide +kernel,by decide +kernel,by decide +kernel,by decide +kernel,by decide +kernel,by decide +kernel⟩ rfl rfl) rfl (cq K (pv 1)) (fun _ _ _ _=>(aW 8 (show (["rule", "words", "places", "place", "word'", "ways", "number", "room", "word"]:List Str).Nodup from by decide +kernel) (hx:=(jB (defScope ay) (by decide +kernel))) (hf:=nr (defScope ay) (by decide +kernel)))) (cX (show (["rule", "words", "places", "place", "word", "ways", "number", "room"]:List Str).length≤8 from by decide)) (fun _ _ _ _=>cV) (fun _ _ _ _=>aZ)) (cu (pv 5) aZ (ng P w)))
   (ak (aR (pv 5)))))))),?_⟩
 walk_at "rd1";refine fun pd hpd=>?_
 have s1:=ah hpd (.dK []);have e1:upd H pd (.dK []) pd=some (.dK []):=ae
 generalize upd H pd (.dK [])=H1 at s1 e1 ⊢;walk_at "nx";refine⟨_,_,.inr (SqT.of (s1 _ _ h1)),aB (j:=1) rfl,?_⟩
 walk_at "rd1";refine⟨⟨_,s1 _ _ h2⟩,?_⟩
 refine ka (xs:=r.ws.map V.str) (fun i σ H'=>∃ (kvs:List (aU × V)) (o3 o4:Option V),σ=[some (.ref p),some (.ref wl),some (.ref pd),o3,o4,none,none,none]∧Same H H'∧H' pd=some (.dK kvs)∧PlAt r.ws i kvs)
  ⟨[],none,none,rfl,s1,e1,Nat.le_refl _,fun y=>by simp[sn]⟩ (fun i σ H' _ h=>by obtain⟨_,_,_,_,sm,_⟩:=h; exact SqL.of (sm _ _ h2)) ?_ ?_
 ·rintro i v t σ H' hv ⟨kvs,o3,o4,rfl,sm,hd,hP⟩ ht
  have hi:i<r.ws.length:=by have:=(List.getElem?_eq_some_iff.mp hv).1; simpa using this
  rw[List.getElem?_map,List.getElem?_eq_getElem hi]at hv
  cases hv;have st:=ah ht (.tup [.int (i:Int),.str r.ws[i]]);have et:upd H' t (.tup [.int (i:Int),.str r.ws[i]]) t=some (.tup [.int (i:Int),.str r.ws[i]]):=ae
  generalize upd H' t (.tup [.int (i:Int),.str r.ws[i]])=H2 at st et ⊢;walk_at "rd1";refine⟨t,_,rfl,SqT.of et,rfl,?_⟩
  walk_at "rd1";have hl:=hP.1;refine⟨pd,kvs,.inr r.ws[i],rfl,rfl,st _ _ hd,bT (by omega),?_⟩
  exact⟨_,_,_,rfl,(sm.trans st).upd hpd _,ae,hP.put nd hi⟩
 rintro σ H2 ⟨kvs,o3,o4,rfl,s2,hd2,hP⟩
 rw[List.length_map]at hP
 walk_at "nx";refine fun dd hdd=>?_
 have s3:=ah hdd (gx P w dd []);have e3:upd H2 dd (gx P w dd []) dd=some (gx P w dd []):=ae
 generalize upd H2 dd (gx P w dd [])=H3 at s3 e3 ⊢;have s03:=s2.trans s3;have hddH:H dd=none:=s2.free hdd
 have hdp:dd≠pd:=Ne.symm (aE hd2 hdd)
 walk_at "nx";refine⟨_,_,.inr (SqT.of (s03 _ _ h1)),aB (j:=2) rfl,?_⟩
 walk_at "rd1";have hal:=h3.2.1;refine⟨⟨_,(h3.mono s03).1⟩,?_⟩
 refine ka (xs:=as.map V.ref) (fun i σ H'=>∃ (kvs2:List (Option Int × V)) (o6 o7:Option V),σ=[some (.ref p),some (.ref wl),some (.ref pd),o3,o4,some (.ref dd),o6,o7]∧Same H H'∧H' pd=some (.dK kvs)∧H' dd=some (gx P w dd kvs2)∧kvs2.length≤i∧∀ k,k<i→∃ a,aF kvs2 (some (k:Int))=some (.ref a)∧a≠dd∧H' a=some (.lst ((ws.map (ar r k)).map aA)))
  ⟨[],none,none,rfl,s03,s3 _ _ hd2,e3,Nat.le_refl _,fun k hk=>absurd hk (Nat.not_lt_zero _)⟩ (fun i σ H' _ h=>by obtain⟨_,_,_,_,sm,_⟩:=h; exact SqL.of (h3.mono sm).1) ?_ ?_
 ·rintro i v t σ H' hv ⟨kvs2,o6,o7,rfl,sm,hd,hdd',hl,hk⟩ ht
  have hia:i<as.length:=by have:=(List.getElem?_eq_some_iff.mp hv).1; simpa using this
  have hi:i<r.rs.length:=by omega
  rw[List.getElem?_map,List.getElem?_eq_getElem hia]at hv
  cases hv;have hrow:=h3.2.2 i _ _ (List.getElem?_eq_getElem hia) (List.getElem?_eq_getElem hi);have st:=ah ht (.tup [.int (i:Int),.ref as[i]]);have et:upd H' t (.tup [.int (i:Int),.ref as[i]]) t=some (.tup [.int (i:Int),.ref as[i]]):=ae
  generalize upd H' t (.tup [.int (i:Int),.ref as[i]])=H4 at st et ⊢;have sm4:=sm.trans st;walk_at "rd1";refine⟨t,_,rfl,SqT.of et,rfl,?_⟩
  walk_at "rd1";refine⟨wl,pd,as[i],ws,kvs,r,i,rfl,sm4 _ _ hw,hn,st _ _ hd,hP,ok,hi,by rw[b_ hi]; exact sm4 _ _ hrow,fun L H5 s5 hL hL5=>?_⟩
  walk_at "rd1";have hdd5:=s5 _ _ (st _ _ hdd');have nL:L≠dd:=Ne.symm (aE (st _ _ hdd') hL)
  refine⟨dd,some (i:Int),kvs2,rfl,rfl,hdd5,bT (by omega),?_⟩
  refine⟨bQ kvs2 (some (i:Int)) (.ref L),_,_,rfl,(sm4.trans s5).upd hddH _,by rw[al (Ne.symm hdp)]; exact s5 _ _ (st _ _ hd),ae,by have:=cv kvs2 (some (i:Int)) (.ref L); omega,fun k hk'=>?_⟩
  rw[hV]
  by_cases e:k=i
  ·subst e
   exact⟨L,by rw[if_pos rfl],nL,by rw[al nL]; exact hL5⟩
  ·obtain⟨a,e1,e2,e3⟩:=hk k (by omega)
   exact⟨a,by rw[if_neg (fun z=>e (by have:=Option.some.inj z; omega))]; exact e1,e2,by rw[al e2]; exact s5 _ _ (st _ _ e3)⟩
 rintro σ H4 ⟨kvs2,o6,o7,rfl,sm4,hd4,hdd4,hl4,hk4⟩
 rw[List.length_map,hal]at hl4 hk4
 walk_at "nx";refine⟨⟨_,SqL.of (sm4 _ _ hw)⟩,fun L hL=>?_⟩
 refine eT (xs:=ws.map V.str) (fun i ys H'=>Same H4 H'∧H' L=some (.lst ys)∧ys=(ws.take i).map fun _=>V.non) ⟨ah hL _,ae,rfl⟩ (fun i ys H' _ h=>SqL.of (h.1 _ _ (sm4 _ _ hw))) ?_ ?_
 ·rintro i ys H' v hv hi ⟨sm,hl,rfl⟩
  rw[List.length_map]at hi
  rw[List.getElem?_map,List.getElem?_eq_getElem hi]at hv
  cases hv;walk_at "rd1";refine iL (by rw[List.length_map]; exact hi) (by simp; omega) (by rw[List.length_map]; exact bg (by omega)) hl ⟨sm.upd hL _,ae,?_⟩
  rw[List.take_add_one,List.getElem?_eq_getElem hi,List.map_append]; rfl
 rintro ys H5 ⟨s5,hl5,rfl⟩
 rw[List.length_map,List.take_length]at hl5
 have nL:L≠dd:=Ne.symm (aE hdd4 hL)
 walk_at "rd1";refine⟨dd,none,kvs2,rfl,rfl,s5 _ _ hdd4,bT (by omega),?_⟩
 walk_at "nx";refine q dd _ ((sm4.trans s5).upd hddH _) ⟨_,ae,fun k hk=>?_,L,by rw[hV,if_pos rfl],by rw[al nL]; exact hl5⟩
 obtain⟨a,e1,e2,e3⟩:=hk4 k hk
 exact⟨a,by rw[hV,if_neg (fun z=>nomatch z)]; exact e1,by rw[al e2]; exact s5 _ _ e3⟩
end
def uG(H:Hp)(l:Addr)(ps:List (Option Nat × Option Nat)):Prop:=∃ ts:List Addr,H l=some (.lst (ts.map V.ref))∧ts.length=ps.length∧∀ (j:Nat) t p,ts[j]? = some t→ps[j]? = some p→H t=some (.tup [aA p.1,aA p.2])
def gW(r r':Rl)(i j:Nat)(y:Str):Option Nat × Option Nat:=(ar r i y,ar r' j y)
def mS(P:Program)(w:World):Sp:=fun vs H Q _=>∃ (d d' t:Addr) (r r':Rl) (ws:List Str) (i j:Nat),vs=[.ref d,.ref d',.ref t]∧WaysAt P w H d r ws∧WaysAt P w H d' r' ws∧ws.length≤32∧H t=some (.tup [.int (i:Int),.int (j:Int)])∧i<r.rs.length∧j<r'.rs.length∧∀ (l:Addr) (H':Hp),Same H H'→H l=none→uG H' l (ws.map (gW r r' i j))→Q (.ref l) H'
section
variable{P:Program}{w:World}{K:PySem.W.Frag}{mg:Str→Option Value}{base:Heap}
theorem rg(D:DefAt K mg "pairs_behind" aX) (z_list:mg "list" = none) (z_zip:mg "zip" = none):bt P w K mg base 1 "pairs_behind" ["ones", "others", "pair"] (mS P w):=by
 refine D.cal (k:=0) js (fun _ _ _ _ _ _ us hl=>match us,hl with | [_,_,_],_=>rfl) (fun vs H Q E h=>by obtain⟨_,_,_,_,_,_,_,_,rfl,_⟩:=h; rfl) (fun f cdv A outer s H vs Q E hr h=>?_)
 obtain⟨d,d',t,r,r',ws,i,j,rfl,⟨kvs,h1,h2,_⟩,⟨kvs',g1,g2,_⟩,hn,ht,hi,hj,q⟩:=h
 obtain⟨a,a1,a2⟩:=h2 i hi
 obtain⟨b,b1,b2⟩:=g2 j hj
 refine⟨_,(ak (aR (nC K hr AL z_list A6 z_zip (aa (am (pK P w) (pv 0) (am (az K) (pv 2) ab (fun _ _=>rfl)) (fun _ _=>rfl)) (aa (am (pK P w) (pv 1) (am (az K) (pv 2) ab (fun _ _=>rfl)) (fun _ _=>rfl)) ac))))),?_⟩
 walk_at "rd1";unfold tT;walk_at "rd1";refine⟨_,_,.inr (SqT.of ht),dn,?_⟩
 refine⟨d,some (i:Int),kvs,_,rfl,rfl,h1,a1,?_⟩
 refine⟨_,_,.inr (SqT.of ht),aB (j:=1) rfl,?_⟩
 refine⟨d',some (j:Int),kvs',_,rfl,rfl,g1,b1,?_⟩
 walk_at "rd1";refine⟨a,b,_,_,rfl,SqL.of a2,SqL.of b2,by simp,by simp; omega,fun l ts H2 s2 hl hl2 htl hts=>?_⟩
 simp only[List.length_map]at htl
 refine q l H2 s2 hl ⟨ts,hl2,by rw[List.length_map]; exact htl,fun k u p e1 e2=>?_⟩
 obtain⟨x,y,ex,ey,hu,_⟩:=hts k u e1
 have hk:k<ws.length:=by have:=(List.getElem?_eq_some_iff.mp e1).1; omega
 simp only[List.getElem?_map,List.getElem?_eq_getElem hk]at ex ey e2
 cases ex; cases ey; cases e2
 exact hu
end
section
variable{r r':Rl}{ws:List Str}
def bZ(r r':Rl)(p:Nat × Nat)(y:Str):Prop:=ar r p.1 y≠none∧ar r' p.2 y=none
def Nxt(r r':Rl)(p:Nat × Nat)(y:Str)(q:Nat × Nat):Prop:=ar r p.1 y=some q.1∧ar r' p.2 y=some q.2
theorem Nxt.one{p q q':Nat × Nat}{y:Str}(h:Nxt r r' p y q)(h':Nxt r r' p y q'):q=q':=
 Prod.ext (Option.some.inj (h.1.symm.trans h'.1)) (Option.some.inj (h.2.symm.trans h'.2))
def ci(r r':Rl)(ws:List Str):Nat→Nat × Nat→Prop
 | 0,_=>False
 | 1,p=>∃ y∈ws,bZ r r' p y
 | n+2,p=>∃ y∈ws,∃ q,Nxt r r' p y q∧ci r r' ws (n+1) q
def Dist(r r':Rl)(ws:List Str)(n:Nat)(p:Nat × Nat):Prop:=ci r r' ws n p∧∀ l,l<n→¬ ci r r' ws l p
theorem Dist.pos{n:Nat}{p:Nat × Nat}(h:Dist r r' ws n p):1≤n:=by
 cases n with
 | zero=>exact absurd h.1 id
 | succ n=>omega
theorem Dist.one{n m:Nat}{p:Nat × Nat}(h:Dist r r' ws n p)(h':Dist r r' ws m p):n=m:=by
 rcases Nat.lt_trichotomy n m with c | c | c
 ·exact absurd h.1 (h'.2 n c)
 ·exact c
 ·exact absurd h'.1 (h.2 m c)
theorem jW{n:Nat}{p q:Nat × Nat}{y:Str}(hy:y∈ws)(hx:Nxt r r' p y q)(h:ci r r' ws n q):ci r r' ws (n+1) p:=by
 cases n with
 | zero=>exact absurd h id
 | succ n=>exact⟨y,hy,q,hx,h⟩
theorem Dist.next{n:Nat}{p q:Nat × Nat}{y:Str}(h:Dist r r' ws (n+1) p)(hy:y∈ws)(hx:Nxt r r' p y q)(hq:ci r r' ws n q):Dist r r' ws n q:=
 ⟨hq,fun l hl z=>h.2 (l+1) (by omega) (jW hy hx z)⟩
structure Bfs (r r':Rl) (ws:List Str) (ps es:List (Nat × Nat)) (now:Nat):Prop where
 z:ps[0]? = some (0,0)
 len:ps.length=es.length+1
 nd:ps.Nodup
 ent:∀ (i:Nat) a,es[i]? = some a→a.1≤i∧a.2<ws.length∧∃ x q y,ps[a.1]? = some x∧ws[a.2]? = some y∧ps[i+1]? = some q∧Nxt r r' x y q
 inc:∀ (i j:Nat) a b,i<j→es[i]? = some a→es[j]? = some b→a.1 * ws.length+a.2<b.1 * ws.length+b.2
 old:∀ (i:Nat) a,es[i]? = some a→a.1 * ws.length+a.2<now
 cl:∀ (i p:Nat) x y,ps[i]? = some x→ws[p]? = some y→i * ws.length+p<now→¬ bZ r r' x y∧∀ q,Nxt r r' x y q→∃ j,ps[j]? = some q∧(j=0∨∃ a,es[j - 1]? = some a∧a.1 * ws.length+a.2≤i * ws.length+p)
theorem jt{n x y x' y':Nat}(h1:y<n)(h2:y'<n)(e:x * n+y=x' * n+y'):x=x'∧y=y':=by
 have a1:(x * n+y) % n=y:=by rw[Nat.add_comm,Nat.add_mul_mod_self_right,Nat.mod_eq_of_lt h1]
 have a2:(x' * n+y') % n=y':=by rw[Nat.add_comm,Nat.add_mul_mod_self_right,Nat.mod_eq_of_lt h2]
 have ey:y=y':=by rw[← a1,← a2,e]
 subst ey;exact⟨Nat.eq_of_mul_eq_mul_right (by omega) (show x * n=x' * n by omega),rfl⟩
theorem mU{n x y x' y':Nat}(h1:y<n)(h2:y'<n)(e:x * n+y≤x' * n+y'):x≤x':=by
 refine Nat.le_of_not_lt fun c=>?_
 have:(x'+1) * n≤x * n:=Nat.mul_le_mul_right _ c
 rw[Nat.add_mul,Nat.one_mul]at this
 omega
theorem Bfs.new:Bfs r r' ws [(0,0)] [] 0:=
 ⟨rfl,rfl,by simp,fun i a e=>by simp at e,fun i j a b _ e=>by simp at e,fun i a e=>by simp at e,fun i p x y _ _ h=>absurd h (Nat.not_lt_zero _)⟩
theorem Bfs.skip{ps es:List (Nat × Nat)}{i p:Nat}{x:Nat × Nat}{y:Str}(h:Bfs r r' ws ps es (i * ws.length+p))(hx:ps[i]? = some x)(hy:ws[p]? = some y)(nb:¬ bZ r r' x y)(hq:∀ q,Nxt r r' x y q→q∈ps):Bfs r r' ws ps es (i * ws.length+(p+1)):=by
 refine⟨h.z,h.len,h.nd,h.ent,h.inc,fun i a e=>by have:=h.old i a e; omega,fun i' p' x' y' e1 e2 hn=>?_⟩
 rcases Nat.lt_or_ge (i' * ws.length+p') (i * ws.length+p) with c | c
 ·exact h.cl i' p' x' y' e1 e2 c
 ·have l1:=(List.getElem?_eq_some_iff.mp hy).1
  have l2:=(List.getElem?_eq_some_iff.mp e2).1;obtain⟨rfl,rfl⟩:=jt l2 l1 (show i' * ws.length+p'=i * ws.length+p by omega)
  rw[hx]at e1
  rw[hy]at e2
  cases e1; cases e2
  refine⟨nb,fun q z=>?_⟩
  obtain⟨j,hj,e⟩:=List.mem_iff_getElem.mp (hq q z)
  refine⟨j,by rw[List.getElem?_eq_getElem hj,e],?_⟩
  cases j with
  | zero=>exact .inl rfl
  | succ j=>
   have hl:=h.len;have hj':j<es.length:=by omega
   refine .inr ⟨es[j],List.getElem?_eq_getElem hj',?_⟩
   have:=h.old j _ (List.getElem?_eq_getElem hj')
   omega
theorem Bfs.push{ps es:List (Nat × Nat)}{i p:Nat}{x q:Nat × Nat}{y:Str}(h:Bfs r r' ws ps es (i * ws.length+p))(hx:ps[i]? = some x)(hy:ws[p]? = some y)(hq:Nxt r r' x y q)(hn:q∉ps):Bfs r r' ws (ps++[q]) (es++[(i,p)]) (i * ws.length+(p+1)):=by
 have hl:=h.len;have l1:=(List.getElem?_eq_some_iff.mp hy).1;have li:=(List.getElem?_eq_some_iff.mp hx).1;have up:∀ {k:Nat} {x:Nat × Nat},ps[k]? = some x→(ps++[q])[k]? = some x:=fun {k x} e=>by rw[List.getElem?_append_left (List.getElem?_eq_some_iff.mp e).1]; exact e
 have ue:∀ {k:Nat} {x:Nat × Nat},es[k]? = some x→(es++[(i,p)])[k]? = some x:=fun {k x} e=>by rw[List.getElem?_append_left (List.getElem?_eq_some_iff.mp e).1]; exact e
 have last:∀ {k:Nat} {a:Nat × Nat},(es++[(i,p)])[k]? = some a→es[k]? = some a∨(k=es.length∧a=(i,p)):=fun {k a} e=>by
  rcases Nat.lt_or_ge k es.length with c | c
  ·rw[List.getElem?_append_left c]at e; exact .inl e
  ·rw[List.getElem?_append_right c]at e
   have hk:k - es.length=0:=by have:=(List.getElem?_eq_some_iff.mp e).1; simp at this; omega
   rw[hk]at e
   cases e;exact .inr ⟨by omega,rfl⟩
 refine⟨up h.z,by simp[hl],List.nodup_append.mpr ⟨h.nd,by simp,fun a ha b hb e=>hn (by rw[List.mem_singleton.mp hb]at e; rw[← e]; exact ha)⟩,fun k a e=>?_,fun k j a b hkj e1 e2=>?_,fun k a e=>?_,fun i' p' x' y' e1 e2 hw=>?_⟩
 ·rcases last e with z | ⟨rfl,rfl⟩
  ·obtain⟨a1,a2,x1,q1,y1,b1,b2,b3,b4⟩:=h.ent k a z
   exact⟨a1,a2,x1,q1,y1,up b1,b2,up b3,b4⟩
  ·exact⟨by show i≤_; omega,l1,x,q,y,up hx,hy,by rw[← hl,List.getElem?_append_right (Nat.le_refl _),Nat.sub_self]; rfl,hq⟩
 ·rcases last e1 with z1 | ⟨rfl,rfl⟩
  ·rcases last e2 with z2 | ⟨rfl,rfl⟩
   ·exact h.inc k j a b hkj z1 z2
   ·exact h.old k a z1
  ·have:=(List.getElem?_eq_some_iff.mp e2).1
   simp at this
   omega
 ·rcases last e with z | ⟨rfl,rfl⟩
  ·have:=h.old k a z; omega
  ·show i * ws.length+p<_; omega
 ·rcases Nat.lt_or_ge i' ps.length with c | c
  ·rw[List.getElem?_append_left c]at e1
   rcases Nat.lt_or_ge (i' * ws.length+p') (i * ws.length+p) with c2 | c2
   ·obtain⟨z1,z2⟩:=h.cl i' p' x' y' e1 e2 c2
    refine⟨z1,fun q' hq'=>?_⟩
    obtain⟨j,g1,g2⟩:=z2 q' hq'
    refine⟨j,up g1,?_⟩
    rcases g2 with g2 | ⟨a,g2,g3⟩
    ·exact .inl g2
    ·exact .inr ⟨a,ue g2,g3⟩
   ·have l2:=(List.getElem?_eq_some_iff.mp e2).1
    obtain⟨rfl,rfl⟩:=jt l2 l1 (show i' * ws.length+p'=i * ws.length+p by omega)
    rw[hx]at e1
    rw[hy]at e2
    cases e1; cases e2
    refine⟨fun z=>(by have g:=hq.2; rw[z.2]at g; cases g),fun q' hq'=>?_⟩
    rw[hq'.one hq];refine⟨ps.length,by rw[List.getElem?_append_right (Nat.le_refl _),Nat.sub_self]; rfl,.inr ⟨(i',p'),?_,Nat.le_refl _⟩⟩
    rw[hl,Nat.add_sub_cancel,List.getElem?_append_right (Nat.le_refl _),Nat.sub_self]; rfl
  ·have hi':i+1≤i':=by omega
   have l2:=(List.getElem?_eq_some_iff.mp e2).1;have:(i+1) * ws.length≤i' * ws.length:=Nat.mul_le_mul_right _ hi'
   rw[Nat.add_mul,Nat.one_mul]at this
   omega
inductive jk (es:List (Nat × Nat)):Nat→Nat→Prop
 | z:jk es 0 0
 | s {i d:Nat} {a:Nat × Nat}:es[i]? = some a→jk es a.1 d→jk es (i+1) (d+1)
theorem Bfs.lev_le{ps es:List (Nat × Nat)}{now:Nat}(h:Bfs r r' ws ps es now){i d:Nat}(hi:jk es i d):∀ {j e:Nat},jk es j e→i≤j→d≤e:=by
 induction hi with
 | z=>intro j e _ _; exact Nat.zero_le _
 | s e1 _ ih=>
  intro j e hj hij
  cases hj with
  | z=>omega
  | @s j' e' b e2 hj'=>
   refine Nat.succ_le_succ (ih hj' ?_)
   rename_i i' d' a _
   rcases Nat.lt_or_ge i' j' with c | c
   ·exact mU (h.ent _ _ e1).2.1 (h.ent _ _ e2).2.1 (Nat.le_of_lt (h.inc i' j' _ _ c e1 e2))
   ·have:i'=j':=by omega
    subst this;rw[e1]at e2; cases e2; exact Nat.le_refl _
theorem Bfs.lev{ps es:List (Nat × Nat)}{now:Nat}(h:Bfs r r' ws ps es now):∀ (n i:Nat),i≤n→i<ps.length→∃ d,jk es i d
 | _,0,_,_=>⟨0,.z⟩
 | 0,i+1,hn,_=>absurd hn (Nat.not_succ_le_zero _)
 | n+1,i+1,hn,hl=>by
  have hi:i<es.length:=by have:=h.len; omega
  have e:=List.getElem?_eq_getElem hi;have h1:=(h.ent i _ e).1;obtain⟨d,hd⟩:=Bfs.lev h n es[i].1 (by omega) (by omega)
  exact⟨d+1,.s e hd⟩
theorem Bfs.ahead{ps es:List (Nat × Nat)}{F p b p':Nat}(h:Bfs r r' ws ps es (F * ws.length+p)){x:Nat × Nat}{y:Str}(hb:b<F)(hx:ps[b]? = some x)(hy:ws[p']? = some y):¬ bZ r r' x y∧∀ q,Nxt r r' x y q→∃ j,ps[j]? = some q∧(j=0∨∃ a,es[j - 1]? = some a∧a.1≤b∧a.1 * ws.length+a.2≤b * ws.length+p'):=by
 have l:=(List.getElem?_eq_some_iff.mp hy).1;have:(b+1) * ws.length≤F * ws.length:=Nat.mul_le_mul_right _ hb
 rw[Nat.add_mul,Nat.one_mul]at this
 obtain⟨z1,z2⟩:=h.cl b p' x y hx hy (by omega)
 refine⟨z1,fun q hq=>?_⟩
 obtain⟨j,g1,g2⟩:=z2 q hq
 refine⟨j,g1,?_⟩
 rcases g2 with g2 | ⟨a,g2,g3⟩
 ·exact .inl g2
 ·exact .inr ⟨a,g2,mU (h.ent _ _ g2).2.1 l g3,g3⟩
theorem Bfs.none_shorter{ps es:List (Nat × Nat)}{F p m:Nat}(h:Bfs r r' ws ps es (F * ws.length+p))(hF:jk es F m):∀ (l b d:Nat) (x:Nat × Nat),jk es b d→ps[b]? = some x→d+l≤m→¬ ci r r' ws l x
 | 0,b,d,x,_,_,_=>fun z=>z
 | 1,b,d,x,hb,hx,hd=>by
  rintro⟨y,hy,z⟩
  obtain⟨p',hp,e⟩:=List.mem_iff_getElem.mp hy
  have hbF:b<F:=Nat.lt_of_not_le fun c=>by have:=h.lev_le hF hb c; omega
  exact(h.ahead hbF hx (by rw[List.getElem?_eq_getElem hp,e])).1 z
 | l+2,b,d,x,hb,hx,hd=>by
  rintro⟨y,hy,q,hq,z⟩
  obtain⟨p',hp,e⟩:=List.mem_iff_getElem.mp hy
  have hbF:b<F:=Nat.lt_of_not_le fun c=>by have:=h.lev_le hF hb c; omega
  obtain⟨j,g1,g2⟩:=(h.ahead hbF hx (by rw[List.getElem?_eq_getElem hp,e])).2 q hq
  rcases g2 with rfl | ⟨a,g2,g3,_⟩
  ·exact Bfs.none_shorter h hF (l+1) 0 0 q .z g1 (by omega) z
  ·cases j with
   | zero=>exact Bfs.none_shorter h hF (l+1) 0 0 q .z g1 (by omega) z
   | succ j=>
    have hj:j<es.length:=(List.getElem?_eq_some_iff.mp g2).1
    have ha:=(h.ent j a g2).1;obtain⟨e',he⟩:=h.lev _ a.1 (Nat.le_refl _) (by have:=h.len; omega)
    have:=h.lev_le he hb g3
    exact Bfs.none_shorter h hF (l+1) (j+1) (e'+1) q (.s g2 he) g1 (by omega) z
def tY(ws:List Str)(P:Str→Prop)(y:Str):Prop:=∃ p:Nat,ws[p]? = some y∧P y∧∀ (p':Nat) y',p'<p→ws[p']? = some y'→¬ P y'
def Gr(r r':Rl)(ws:List Str):Nat × Nat→List Str→Prop
 | _,[]=>False
 | p,[y]=>tY ws (bZ r r' p) y
 | p,y::z::R=>∃ q,Nxt r r' p y q∧tY ws (fun y'=>∃ q',Nxt r r' p y' q'∧ci r r' ws (R.length+1) q') y∧Gr r r' ws q (z::R)
theorem Gr.bad:∀ (S:List Str) {p:Nat × Nat},Gr r r' ws p S→ci r r' ws S.length p
 | [],_,h=>h
 | [y],p,h=>by
  obtain⟨k,h1,h2,_⟩:=h
  exact⟨y,List.mem_of_getElem? h1,h2⟩
 | y::z::R,p,h=>by
  obtain⟨q,h1,⟨k,h2,_⟩,h3⟩:=h
  exact⟨y,List.mem_of_getElem? h2,q,h1,Gr.bad (z::R) h3⟩
inductive RowE (ws:List Str) (es:List (Nat × Nat)):Nat→List Str→Prop
 | z:RowE ws es 0 []
 | s {i:Nat} {a:Nat × Nat} {y:Str} {row:List Str}:es[i]? = some a→ws[a.2]? = some y→RowE ws es a.1 row→RowE ws es (i+1) (row++[y])
theorem RowE.lev{es:List (Nat × Nat)}{i:Nat}{row:List Str}(h:RowE ws es i row):jk es i row.length:=by
 induction h with
 | z=>exact .z
 | s e _ _ ih=>rw[List.length_append]; exact .s e ih
theorem Bfs.row{ps es:List (Nat × Nat)}{F p:Nat}(h:Bfs r r' ws ps es (F * ws.length+p)){i:Nat}{row:List Str}(hr:RowE ws es i row):∀ (S:List Str) (x:Nat × Nat),i≤F→ps[i]? = some x→Gr r r' ws x S→(∀ (b:Nat) x',b<i→ps[b]? = some x'→¬ ci r r' ws S.length x')→Gr r r' ws (0,0) (row++S):=by
 induction hr with
 | z=>
  intro S x _ hx hG _
  rw[h.z]at hx
  cases hx; exact hG
 | @s i a y row e ey _ ih=>
  intro S q hi hq hG nb
  obtain⟨a1,a2,x,q',y',g1,g2,g3,g4⟩:=h.ent i a e
  rw[ey]at g2
  cases g2;rw[hq]at g3
  cases g3
  match S,hG,nb with
  | z::R,hG,nb=>
   rw[List.append_assoc]
   have before:∀ (b p':Nat) x1 y1 q1,b<F→ps[b]? = some x1→ws[p']? = some y1→Nxt r r' x1 y1 q1→b * ws.length+p'<a.1 * ws.length+a.2→¬ ci r r' ws (R.length+1) q1:=fun b p' x1 y1 q1 hb hx1 hy1 hn hlt=>by
    obtain⟨j,k1,k2⟩:=(h.ahead hb hx1 hy1).2 q1 hn
    refine nb j q1 ?_ k1
    rcases k2 with k2 | ⟨c,k2,_,k3⟩
    ·omega
    ·refine Nat.lt_of_not_le fun hc=>?_
     rcases Nat.lt_or_ge i (j - 1) with z | z
     ·have:=h.inc i (j - 1) a c z e k2; omega
     ·have:j - 1=i:=by omega
      rw[this,e]at k2
      cases k2; omega
   refine ih ([y]++z::R) x (by omega) g1 ⟨q,g4,⟨a.2,ey,⟨q,g4,Gr.bad (z::R) hG⟩,fun p' y' hp hy'=>?_⟩,hG⟩ (fun b x' hb hx'=>?_)
   ·rintro⟨q1,n1,n2⟩
    exact before a.1 p' x y' q1 (by omega) g1 hy' n1 (by omega) n2
   ·rintro⟨y1,m1,q1,n1,n2⟩
    obtain⟨p',hp,ep⟩:=List.mem_iff_getElem.mp m1
    have hle:(b+1) * ws.length≤a.1 * ws.length:=Nat.mul_le_mul_right _ hb
    rw[Nat.add_mul,Nat.one_mul]at hle
    exact before b p' x' y1 q1 (by omega) hx' (by rw[List.getElem?_eq_getElem hp,ep]) n1 (by omega) n2
theorem Bfs.found{ps es:List (Nat × Nat)}{F p:Nat}(h:Bfs r r' ws ps es (F * ws.length+p)){row:List Str}{x:Nat × Nat}{y:Str}(hr:RowE ws es F row)(hx:ps[F]? = some x)(hy:ws[p]? = some y)(hb:bZ r r' x y):Gr r r' ws (0,0) (row++[y])∧Dist r r' ws (row++[y]).length (0,0):=by
 have g:Gr r r' ws (0,0) (row++[y]):=h.row hr [y] x (Nat.le_refl _) hx ⟨p,hy,hb,fun p' y' hp hy'=>(h.cl F p' x y' hx hy' (by omega)).1⟩ fun b x' hb' hx'=>by
  rintro⟨y1,m1,n1⟩
  obtain⟨p',hp,ep⟩:=List.mem_iff_getElem.mp m1
  exact(h.ahead hb' hx' (by rw[List.getElem?_eq_getElem hp,ep])).1 n1
 refine⟨g,g.bad,fun l hl=>?_⟩
 rw[List.length_append,List.length_singleton]at hl
 exact h.none_shorter hr.lev l 0 0 (0,0) .z h.z (by omega)
theorem Bfs.none{ps es:List (Nat × Nat)}{F:Nat}(h:Bfs r r' ws ps es (F * ws.length))(hF:ps.length≤F):∀ (n:Nat) (x:Nat × Nat),x∈ps→¬ ci r r' ws n x:=by
 have key:∀ x∈ps,∀ y∈ws,¬ bZ r r' x y∧∀ q,Nxt r r' x y q→q∈ps:=fun x hx y hy=>by
  obtain⟨b,hb,eb⟩:=List.mem_iff_getElem.mp hx
  obtain⟨p',hp,ep⟩:=List.mem_iff_getElem.mp hy
  obtain⟨z1,z2⟩:=Bfs.ahead (p:=0) h (show b<F by omega) (by rw[List.getElem?_eq_getElem hb,eb]) (by rw[List.getElem?_eq_getElem hp,ep])
  exact⟨z1,fun q hq=>by obtain⟨j,e,_⟩:=z2 q hq; exact List.mem_of_getElem? e⟩
 intro n
 induction n with
 | zero=>intro x _ z; exact z
 | succ n ih=>
  intro x hx z
  cases n with
  | zero=>
   obtain⟨y,hy,z⟩:=z
   exact(key x hx y hy).1 z
  | succ n=>
   obtain⟨y,hy,q,hq,z⟩:=z
   exact ih q ((key x hx y hy).2 q hq) z
end
inductive RowTo (cs:List (Option (Nat × Str))):Nat→List Str→Prop
 | z {i:Nat}:cs[i]? = some none→RowTo cs i []
 | s {i k:Nat} {w:Str} {row:List Str}:cs[i]? = some (some (k,w))→RowTo cs k row→RowTo cs i (row++[w])
def EntC(H:Hp)(v:V):Option (Nat × Str)→Prop
 | none=>v = .non
 | some (k,w)=>∃ t,v = .ref t∧H t=some (.tup [.int (k:Int),.str w])
def CameAt(H:Hp)(c:Addr)(cs:List (Option (Nat × Str))):Prop:=∃ vs:List V,H c=some (.lst vs)∧vs.length=cs.length∧(∀ (i:Nat) v e,vs[i]? = some v→cs[i]? = some e→EntC H v e)∧(∀ (i:Nat) k w,cs[i]? = some (some (k,w))→k<i)
theorem EntC.mono{H H':Hp}{v:V}{e:Option (Nat × Str)}(h:EntC H v e)(sm:∀ t xs,H t=some (.tup xs)→H' t=some (.tup xs)):EntC H' v e:=by
 cases e with
 | none=>exact h
 | some p=>obtain⟨k,w⟩:=p; obtain⟨t,e1,e2⟩:=h; exact⟨t,e1,sm _ _ e2⟩
theorem CameAt.mono{H H':Hp}{c:Addr}{cs:List (Option (Nat × Str))}(h:CameAt H c cs)(sm:Same H H'):CameAt H' c cs:=by
 obtain⟨vs,h1,h2,h3,h4⟩:=h
 exact⟨vs,sm _ _ h1,h2,fun i v e e1 e2=>(h3 i v e e1 e2).mono fun t xs z=>sm _ _ z,h4⟩
def mK:Sp:=fun vs H Q _=>∃ (c:Addr) (cs:List (Option (Nat × Str))) (k:Nat),vs=[.ref c,.int (k:Int)]∧CameAt H c cs∧k<cs.length∧cs.length≤4000∧∀ (l:Addr) (H':Hp) (row:List Str),Same H H'→H l=none→H' l=some (.lst (row.map V.str))→RowTo cs k row→row.length≤4000→Q (.ref l) H'
section
variable{P:Program}{w:World}{K:PySem.W.Frag}{mg:Str→Option Value}{base:Heap}
theorem sj(D:DefAt K mg "row_to" bC) (z_list:mg "list" = none) (z_reversed:mg "reversed" = none):bt P w K mg base 1 "row_to" ["came", "at"] mK:=by
 refine D.cal (k:=0) sc_row_to (fun _ _ _ _ _ _ us hl=>match us,hl with | [_,_],_=>rfl) (fun vs H Q E h=>by obtain⟨_,_,_,rfl,_⟩:=h; rfl) (fun f cdv A outer s H vs Q E hr h=>?_)
 obtain⟨c,cs,k,rfl,⟨us,h1,h2,h3,h4⟩,hk,h4000,q⟩:=h
 refine⟨_,(af (ao 2 sc_row_to.nd (br ac))
   (af (ao 3 sc_row_to.nd (pv 1))
   (af (i6 PassesOwn.never (ax b7 (am (az K) (pv 0) (pv 3) (fun _ _=>rfl)) aZ (aH _)) (af (ce (cQ K PySem.F.plainAttrs_list PySem.F.slot_list_append PySem.F.type_list_append bV (pv 2) (aa (am (az K) (am (az K) (pv 0) (pv 3) (fun _ _=>rfl)) ab (fun _ _=>rfl)) ac)))
   (ak (ao 3 sc_row_to.nd (am (az K) (am (az K) (pv 0) (pv 3) (fun _ _=>rfl)) ab (fun _ _=>rfl))))))
   (ak (aR (oy K hr Br z_list AJ z_reversed (aa (pv 2) ac))))))),?_⟩
 walk_at "rd1";refine⟨by decide,fun rp hrp=>?_⟩
 have s1:=ah hrp (.lst []);have e1:upd H rp (.lst []) rp=some (.lst (([]:List Str).map V.str)):=ae
 generalize upd H rp (.lst [])=H1 at s1 e1 ⊢;walk_at "nx";walk_at "nx"
 refine⟨fun mm σ H'=>∃ (p:Nat) (row:List Str),mm=p∧p+row.length≤k∧σ=[some (.ref c),some (.int (k:Int)),some (.ref rp),some (.int (p:Int))]∧Same H H'∧H' rp=some (.lst (row.map V.str))∧∀ row',RowTo cs p row'→RowTo cs k (row'++row.reverse),
  ⟨_,k,[],rfl,by simp,rfl,s1,e1,fun row' h=>by simpa using h⟩,?_⟩
 rintro mm σ H' ⟨p,row,em,hp,rfl,sm,hr',hrow⟩
 subst em;have hpl:mm<cs.length:=by omega
 obtain⟨v,hv⟩ : ∃ v,us[mm]? = some v:=⟨us[mm],List.getElem?_eq_getElem (by omega)⟩
 obtain⟨e,he⟩ : ∃ e,cs[mm]? = some e:=⟨cs[mm],List.getElem?_eq_getElem hpl⟩
 have hent:=(h3 mm v e hv he).mono (H':=H') fun t xs z=>sm _ _ z
 walk_at "rd1";refine⟨_,v,.inl (SqL.of (sm _ _ h1)),aB hv,?_⟩
 cases e with
 | none=>
  have ev:v = .non:=hent
  subst ev;walk_at "rd1";walk_at "nx";refine aw (fun c=>absurd c (by simp)) (fun _=>?_)
  rw[sX];walk_at "rd1";refine⟨_,SqL.of hr',by rw[List.length_map]; omega,fun l hl=>?_⟩
  rw[← List.map_reverse];exact q l _ row.reverse (sm.trans (ah hl _)) (sm.free hl) ae (by simpa using hrow [] (.z he)) (by simp; omega)
 | some kw=>
  obtain⟨k',wd⟩:=kw
  obtain⟨t,rfl,ht⟩:=hent
  have hlt:=h4 mm k' wd he;walk_at "rd1";refine aw (fun _=>?_) (fun c=>absurd (by simp) c)
  refine⟨fun σ' H'=>∃ m',m'<mm∧∃ (p:Nat) (row:List Str),m'=p∧p+row.length≤k∧σ'=[some (.ref c),some (.int (k:Int)),some (.ref rp),some (.int (p:Int))]∧Same H H'∧H' rp=some (.lst (row.map V.str))∧∀ row',RowTo cs p row'→RowTo cs k (row'++row.reverse),fun _ _ h=>h,⟨_,SqL.of hr'⟩,_,_,.inl (SqL.of (sm _ _ h1)),aB hv,?_⟩
  walk_at "rd1";refine⟨_,_,.inr (SqT.of ht),aB (j:=1) rfl,?_⟩
  refine⟨_,hr',by rw[List.length_map]; exact bT (by omega),?_⟩
  have sm2:=sm.upd hrp (.lst (row.map V.str++[.str wd]));have e2:upd H' rp (.lst (row.map V.str++[.str wd])) rp=some (.lst (row.map V.str++[.str wd])):=ae
  have ht2:upd H' rp (.lst (row.map V.str++[.str wd])) t=some (.tup [.int (k':Int),.str wd]):=by rw[al (fun z=>by subst z; rw[hr']at ht; cases ht)]; exact ht
  generalize upd H' rp (.lst (row.map V.str++[.str wd]))=H2 at sm2 e2 ht2 ⊢;walk_at "nx";refine⟨_,_,.inl (SqL.of (sm2 _ _ h1)),aB hv,?_⟩
  walk_at "rd1";refine⟨_,_,.inr (SqT.of ht2),dn,?_⟩
  refine⟨k',hlt,k',row++[wd],rfl,by simp; omega,rfl,sm2,by rw[e2,List.map_append]; rfl,fun row' h=>?_⟩
  have:=hrow _ (.s he h)
  simpa using this
end
theorem lv:∀ (n:Nat) (l:List Nat),l.Nodup→(∀ x∈l,x<n)→l.length≤n
 | 0,l,nd,h=>by
  cases l with
  | nil=>exact Nat.le_refl _
  | cons a t=>exact absurd (h a List.mem_cons_self) (Nat.not_lt_zero _)
 | n+1,l,nd,h=>by
  have h1:=lv n (l.filter (· ≠ n)) (nd.filter _) (fun x hx=>by
   rw[List.mem_filter]at hx
   have:=h x hx.1
   have h2:x≠n:=by simpa using hx.2
   omega)
  by_cases hn:n∈l
  ·have:(l.erase n).length=l.length - 1:=List.length_erase_of_mem hn
   have e:l.erase n=l.filter (· ≠ n):=by rw[List.Nodup.erase_eq_filter nd]; congr 1; funext x; by_cases z:x=n <;> simp[z,bne]
   rw[← e,this]at h1
   omega
  ·have e:l.filter (· ≠ n)=l:=List.filter_eq_self.mpr fun x hx=>by simpa using fun z:x=n=>hn (z ▸ hx)
   rw[e]at h1; omega
theorem rn{ps:List (Nat × Nat)}(nd:ps.Nodup)(h:∀ p∈ps,p.1<60∧p.2<60):ps.length≤3600:=by
 have:=lv 3600 (ps.map fun p=>60 * p.1+p.2) (List.pairwise_map.mpr (List.Pairwise.imp_of_mem (fun {p q} hp hq hpq e=>hpq (by
  have h1:=h p hp;have h2:=h q hq
  exact Prod.ext (by omega) (by omega))) nd)) (fun x hx=>by
   obtain⟨p,hp,rfl⟩:=List.mem_map.mp hx
   have:=h p hp
   omega)
 rwa [List.length_map]at this
def bE(ps:List (Nat × Nat)):List (bj × V):=ps.map fun p=>([some (p.1:Int),some (p.2:Int)],V.bl true)
theorem iX(a:Nat)(b:Option Nat):∀ (ps:List (Nat × Nat)),(aF (bE ps) [some (a:Int),b.map (fun n:Nat=>(n:Int))]).isSome=true ↔ ∃ j,b=some j∧(a,j)∈ps
 | []=>by
  constructor
  ·intro h; cases h
  ·rintro⟨j,_,h⟩; cases h
 | p::ps=>by
  have ih:=iX a b ps;show (aF (([some (p.1:Int),some (p.2:Int)],V.bl true)::bE ps) _).isSome=true ↔ _
  by_cases e:([some (p.1:Int),some (p.2:Int)]:bj)=[some (a:Int),b.map (fun n:Nat=>(n:Int))]
  ·rw[bi e]
   refine⟨fun _=>?_,fun _=>rfl⟩
   have e1:(p.1:Int)=(a:Int):=by injection e with z1 z2; exact Option.some.inj z1
   have e2:some (p.2:Int)=b.map (fun n:Nat=>(n:Int)):=by injection e with z1 z2; injection z2
   cases b with
   | none=>cases e2
   | some j=>
    have e2':(p.2:Int)=(j:Int):=Option.some.inj e2
    refine⟨j,rfl,?_⟩
    have:p=(a,j):=Prod.ext (by omega) (by omega)
    rw[← this]; exact List.mem_cons_self
  ·rw[bo e,ih]
   constructor
   ·rintro⟨j,e1,m⟩; exact⟨j,e1,List.mem_cons_of_mem _ m⟩
   ·rintro⟨j,rfl,m⟩
    rcases List.mem_cons.mp m with z | z
    ·exact absurd (by rw[← z]; rfl) e
    ·exact⟨j,rfl,z⟩
theorem DO.put{P:Program}{w:World}{H:Hp}{a c:Addr}{kvs:List (bj × V)}{xs:List V}{o:HO}(h:DO P w H a kvs)(hc:H c=some (.lst xs))(hne:a≠c):DO P w (upd H c o) a kvs:=by
 obtain⟨ys,h1,h2,h3,h4⟩:=h
 exact⟨ys,by rw[al hne]; exact h1,h2,h3,Paired.imp' (fun p q z=>⟨z.1,z.2.1.mono fun d zs e=>by rw[al (fun z=>by subst z; rw[hc]at e; cases e)]; exact e,z.2.2⟩) h4⟩
def OrdAt(H:Hp)(o:Addr)(ps:List (Nat × Nat)):Prop:=∃ ts:List Addr,H o=some (.lst (ts.map V.ref))∧ts.length=ps.length∧∀ (k:Nat) t p,ts[k]? = some t→ps[k]? = some p→H t=some (.tup [.int (p.1:Int),.int (p.2:Int)])
theorem OrdAt.mono{H H':Hp}{o:Addr}{ps:List (Nat × Nat)}(h:OrdAt H o ps)(sm:Same H H'):OrdAt H' o ps:=by
 obtain⟨ts,h1,h2,h3⟩:=h
 exact⟨ts,sm _ _ h1,h2,fun k t p e1 e2=>sm _ _ (h3 k t p e1 e2)⟩
theorem OrdAt.other{H:Hp}{o c:Addr}{ps:List (Nat × Nat)}{u:HO}(h:OrdAt H o ps)(hne:o≠c)(hc:∀ xs,H c≠some (.tup xs)):OrdAt (upd H c u) o ps:=by
 obtain⟨ts,h1,h2,h3⟩:=h
 exact⟨ts,by rw[al hne]; exact h1,h2,fun k t p e1 e2=>by rw[al (fun z=>by subst z; exact hc _ (h3 k t p e1 e2))]; exact h3 k t p e1 e2⟩
theorem OrdAt.push{H:Hp}{o t:Addr}{ps:List (Nat × Nat)}{p:Nat × Nat}{ts:List Addr}(h1:H o=some (.lst (ts.map V.ref)))(h2:ts.length=ps.length)(h3:∀ (k:Nat) t p,ts[k]? = some t→ps[k]? = some p→H t=some (.tup [.int (p.1:Int),.int (p.2:Int)]))(ht:H t=some (.tup [.int (p.1:Int),.int (p.2:Int)])):OrdAt (upd H o (.lst (ts.map V.ref++[.ref t]))) o (ps++[p]):=by
 have old:∀ {c:Addr} {xs:List V},H c=some (.tup xs)→upd H o (.lst (ts.map V.ref++[.ref t])) c=some (.tup xs):=fun {c xs} e=>by rw[al (fun z=>by subst z; rw[h1]at e; cases e)]; exact e
 refine⟨ts++[t],by rw[ae,List.map_append]; rfl,by simp[h2],fun k u q e1 e2=>?_⟩
 rcases Nat.lt_or_ge k ts.length with z | z
 ·rw[List.getElem?_append_left z]at e1
  rw[List.getElem?_append_left (by omega)]at e2
  exact old (h3 k u q e1 e2)
 ·rw[List.getElem?_append_right z]at e1
  rw[List.getElem?_append_right (by omega)]at e2
  have k0:k - ts.length=0:=by have:=(List.getElem?_eq_some_iff.mp e1).1; simp at this; omega
  have k1:k - ps.length=0:=by omega
  rw[k0]at e1
  rw[k1]at e2
  cases e1; cases e2
  exact old ht
theorem CameAt.other{H:Hp}{c d:Addr}{cs:List (Option (Nat × Str))}{u:HO}(h:CameAt H c cs)(hne:c≠d)(hc:∀ xs,H d≠some (.tup xs)):CameAt (upd H d u) c cs:=by
 obtain⟨vs,h1,h2,h3,h4⟩:=h
 exact⟨vs,by rw[al hne]; exact h1,h2,fun i v e e1 e2=>(h3 i v e e1 e2).mono fun t xs z=>by rw[al (fun y=>by subst y; exact hc _ z)]; exact z,h4⟩
theorem CameAt.push{H:Hp}{c t:Addr}{cs:List (Option (Nat × Str))}{k:Nat}{wd:Str}(h:CameAt H c cs)(hk:k<cs.length)(ht:H t=some (.tup [.int (k:Int),.str wd])):∃ vs:List V,H c=some (.lst vs)∧vs.length=cs.length∧CameAt (upd H c (.lst (vs++[.ref t]))) c (cs++[some (k,wd)]):=by
 obtain⟨vs,h1,h2,h3,h4⟩:=h
 have old:∀ (a:Addr) (xs:List V),H a=some (.tup xs)→upd H c (.lst (vs++[.ref t])) a=some (.tup xs):=fun a xs e=>by rw[al (fun z=>by subst z; rw[h1]at e; cases e)]; exact e
 refine⟨vs,h1,h2,vs++[.ref t],ae,by simp[h2],fun i v e e1 e2=>?_,fun i k' w' e=>?_⟩
 ·rcases Nat.lt_or_ge i vs.length with z | z
  ·rw[List.getElem?_append_left z]at e1
   rw[List.getElem?_append_left (by omega)]at e2
   exact(h3 i v e e1 e2).mono old
  ·rw[List.getElem?_append_right z]at e1
   rw[List.getElem?_append_right (by omega)]at e2
   have k0:i - vs.length=0:=by have:=(List.getElem?_eq_some_iff.mp e1).1; simp at this; omega
   have k1:i - cs.length=0:=by omega
   rw[k0]at e1
   rw[k1]at e2
   cases e1; cases e2
   exact⟨t,rfl,old _ _ ht⟩
 ·rcases Nat.lt_or_ge i cs.length with z | z
  ·rw[List.getElem?_append_left z]at e
   exact h4 i k' w' e
  ·rw[List.getElem?_append_right z]at e
   have k1:i - cs.length=0:=by have:=(List.getElem?_eq_some_iff.mp e).1; simp at this; omega
   rw[k1]at e
   cases e;omega
structure Srch (r r':Rl) (ps:List (Nat × Nat)):Prop where
 nd:ps.Nodup
 z:(0,0)∈ps
 rch:∀ p∈ps,p.1<r.rs.length∧p.2<r'.rs.length
theorem Srch.len{r r':Rl}{ps:List (Nat × Nat)}(h:Srch r r' ps)(ok:bP r)(ok':bP r'):ps.length≤3600:=rn h.nd fun p hp=>by
 have:=h.rch p hp
 have:=ok.n1
 have:=ok'.n1
 omega
theorem Srch.new{r r':Rl}(ok:bP r)(ok':bP r'):Srch r r' [(0,0)]:=⟨by simp,by simp,fun p hp=>by rw[List.mem_singleton.mp hp]; exact⟨ok.n0,ok'.n0⟩⟩
theorem Srch.push{r r':Rl}{ps:List (Nat × Nat)}(h:Srch r r' ps)(ok:bP r)(ok':bP r'){p:Nat × Nat}{i' j':Nat}{y:Str}(hp:p∈ps)(e1:ar r p.1 y=some i')(e2:ar r' p.2 y=some j')(hn:(i',j')∉ps):Srch r r' (ps++[(i',j')]):=by
 obtain⟨z2,z3⟩:=h.rch p hp
 refine⟨List.nodup_append.mpr ⟨h.nd,by simp,fun a ha b hb e=>hn ?_⟩,List.mem_append_left _ h.z,fun q hq=>?_⟩
 ·rw[List.mem_singleton]at hb
  rw[← hb,← e]; exact ha
 ·rcases List.mem_append.mp hq with z | z
  ·exact h.rch q z
  ·rw[List.mem_singleton.mp z]; exact⟨kT ok z2 e1,kT ok' z3 e2⟩
def fS(ws:List Str)(es:List (Nat × Nat)):List (Option (Nat × Str)):=none::es.map fun a=>some (a.1,ws.getD a.2 default)
theorem RowTo.toE{ws:List Str}{es:List (Nat × Nat)}(h2:∀ (i:Nat) a,es[i]? = some a→a.2<ws.length){i:Nat}{row:List Str}(h:RowTo (fS ws es) i row):RowE ws es i row:=by
 have key:∀ {i:Nat} {o:Option (Nat × Str)},(fS ws es)[i+1]? = some o→∃ a,es[i]? = some a∧o=some (a.1,ws.getD a.2 default):=fun {i o} e=>by
  have e':(es.map fun a=>some (a.1,ws.getD a.2 default))[i]? = some o:=e
  rw[List.getElem?_map]at e'
  cases ha:es[i]? with
  | none=>rw[ha]at e'; cases e'
  | some a=>rw[ha]at e'; cases e'; exact⟨a,rfl,rfl⟩
 induction h with
 | @z i e=>
  cases i with
  | zero=>exact .z
  | succ i=>obtain⟨a,_,z⟩:=key e; cases z
 | @s i k w row e _ ih=>
  cases i with
  | zero=>cases e
  | succ i=>
   obtain⟨a,ha,z⟩:=key e
   cases z;have hl:=h2 i a ha;exact .s ha (by rw[List.getElem?_eq_getElem hl,b_ hl]) ih
theorem qY(ws:List Str)(es:List (Nat × Nat)):(fS ws es).length=es.length+1:=by simp[fS]
theorem qe(ws:List Str)(es:List (Nat × Nat))(a:Nat × Nat):fS ws (es++[a])=fS ws es++[some (a.1,ws.getD a.2 default)]:=by simp[fS]
def jN:Sp:=fun vs H Q _=>∃ (p q:Addr) (r r':Rl),vs=[.ref p,.ref q]∧RuleAt H p r∧RuleAt H q r'∧bP r∧bP r'∧r.ws.Nodup∧r'.ws.Nodup∧r.s=r'.s∧∀ (v:V) (H':Hp) (ws:List Str),Same H H'→iV r r' ws→sortedS ws=true→(v = .non∧(∀ n,¬ ci r r' ws n (0,0))∨∃ l row,v = .ref l∧H l=none∧H' l=some (.lst (row.map V.str))∧Gr r r' ws (0,0) row∧Dist r r' ws row.length (0,0)∧row.length≤4001)→Q v H'
section
variable{P:Program}{w:World}{K:PySem.W.Frag}{mg:Str→Option Value}{base:Heap}
theorem rh(D:DefAt K mg "row_apart" au) (z_len:mg "len" = none) (z_zip:mg "zip" = none) (c_refuse_unlike:bt P w K mg base 1 "refuse_unlike" ["one", "other"] kY) (c_words_of_both:bt P w K mg base 1 "words_of_both" ["one", "other"] pz) (c_ways_by_room:bt P w K mg base 2 "ways_by_room" ["rule", "words"] (lI P w))
  (c_pairs_behind:bt P w K mg base 1 "pairs_behind" ["ones", "others", "pair"] (mS P w)) (c_row_to:bt P w K mg base 1 "row_to" ["came", "at"] mK):bt P w K mg base 3 "row_apart" ["other", "one"] jN:=by
 refine D.cal (k:=2) sc_row_apart (fun _ _ _ _ _ _ us hl=>match us,hl with | [_,_],_=>rfl) (fun vs H Q E h=>by obtain⟨_,_,_,_,rfl,_⟩:=h; rfl) (fun f cdv A outer s H vs Q E hr h=>?_)
 obtain⟨p,q,r,r',rfl,hR,hR',ok,ok',nd,nd',hs,fin⟩:=h
 refine⟨_,(af (ce (aC c_refuse_unlike hr (aa (pv 0) (aa (pv 1) ac))))
   (af (ao 2 sc_row_apart.nd (aC c_words_of_both hr (aa (pv 0) (aa (pv 1) ac))))
   (af (ao 3 sc_row_apart.nd (aC c_ways_by_room hr (aa (pv 0) (aa (pv 2) ac))))
   (af (ao 4 sc_row_apart.nd (aC c_ways_by_room hr (aa (pv 1) (aa (pv 2) ac))))
   (af (ao 5 sc_row_apart.nd (br (aa (bF (aa ab (aa ab ac))) ac)))
   (af (ao 6 sc_row_apart.nd (br (aa aZ ac)))
   (af (ao 7 sc_row_apart.nd ((i_ P w hr) (bF (aa ab (aa ab ac))) cD))
   (af (ao 8 sc_row_apart.nd ab)
   (af (i6 PassesOwn.never (ax kP (pv 8) (bh (bm K) z_len bO (aa (pv 5) ac)) (aH _)) (af (ao 9 sc_row_apart.nd (am (az K) (pv 5) (pv 8) (fun _ _=>rfl)))
   (af (bJ PassesOwn.never rfl (m3 K AO z_zip (aa (pv 2) (aa (aC c_pairs_behind hr (aa (pv 3) (aa (pv 4) (aa (pv 9) ac)))) ac))) (gz K (n:=2) (b8 (aW 10 sc_row_apart.nd) (b8 (aW 11 sc_row_apart.nd) gR))) (af (bd (PW.pt' (ga (ax cK (am (az K) (pv 11) ab (fun _ _=>rfl)) aZ (aH _)) (fX (ax (uP P w hr) (pv 11) (pv 7) (by with_unfolding_all rfl))))) (ak mH) aP)
   (af (bd (ax cK (am (az K) (pv 11) ab (fun _ _=>rfl)) aZ (aH _)) (ak (aR (aj aK (aC c_row_to hr (aa (pv 6) (aa (pv 8) ac))) (br (aa (pv 10) ac))))) aP)
   (af (cg cD (cu (pv 7) (pv 11) (qD P w hr)))
   (af (ce (cQ K PySem.F.plainAttrs_list PySem.F.slot_list_append PySem.F.type_list_append bV (pv 5) (aa (pv 11) ac)))
   (ak (ce (cQ K PySem.F.plainAttrs_list PySem.F.slot_list_append PySem.F.type_list_append bV (pv 6) (aa (bF (aa (pv 8) (aa (pv 10) ac))) ac)))))))))
   (ak (ao 8 sc_row_apart.nd (aj aK (pv 8) ab))))))
   (ak (aR aZ))))))))))),?_⟩
 walk_at "rd1";refine⟨p,q,r,r',rfl,hR,hR',hs,?_⟩
 walk_at "nx";refine⟨p,q,r,r',rfl,hR,hR',ok,ok',fun wl H1 ws s1 hwl hw hB hso=>?_⟩
 have hwn:=hB.2.2;walk_at "nx";refine⟨p,wl,r,ws,rfl,hR.mono s1,ok,nd,hw,hwn,fun d H2 s2 hd=>?_⟩
 walk_at "nx";refine⟨q,wl,r',ws,rfl,hR'.mono (s1.trans s2),ok',nd',s2 _ _ hw,hwn,fun d' H3 s3 hd'=>?_⟩
 have hd3:=hd.mono s3;have hw3:=(s2.trans s3) _ _ hw;have s03:=(s1.trans s2).trans s3;walk_at "nx";refine⟨by decide,fun t0 ht0=>⟨by decide,fun op hop=>?_⟩⟩
 have s4':=ah ht0 (.tup [V.int 0,V.int 0]);have e4':upd H3 t0 (.tup [V.int 0,V.int 0]) t0=some (.tup [V.int 0,V.int 0]):=ae
 generalize upd H3 t0 (.tup [V.int 0,V.int 0])=H4 at s4' e4' hop ⊢;have s5:=ah hop (.lst [V.ref t0]);have e5:upd H4 op (.lst [V.ref t0]) op=some (.lst ([t0].map V.ref)):=ae
 generalize upd H4 op (.lst [V.ref t0])=H5 at s5 e5 ⊢;walk_at "nx";refine⟨by decide,fun cp hcp=>?_⟩
 have s6:=ah hcp (.lst [V.non]);have e6:upd H5 cp (.lst [V.non]) cp=some (.lst [V.non]):=ae
 generalize upd H5 cp (.lst [V.non])=H6 at s6 e6 ⊢;walk_at "nx";refine fun mp hmp u hu=>?_
 have s7:=ah hmp u;generalize upd H6 mp u=H7 at s7 hu ⊢;walk_at "rd1";refine⟨by decide,fun t1 ht1=>?_⟩
 have s8:=ah ht1 (.tup [V.int 0,V.int 0]);have e8:upd H7 t1 (.tup [V.int 0,V.int 0]) t1=some (.tup [V.int 0,V.int 0]):=ae
 generalize upd H7 t1 (.tup [V.int 0,V.int 0])=H8 at s8 e8 ⊢;have s48:=((s5.trans s6).trans s7).trans s8;have s38:=s4'.trans s48;have hop3:H3 op=none:=s4'.free hop
 have hcp3:H3 cp=none:=(s4'.trans s5).free hcp
 have hmp3:H3 mp=none:=((s4'.trans s5).trans s6).free hmp
 have n1:op≠cp:=aE e5 hcp
 have n2:op≠mp:=aE (s6 _ _ e5) hmp
 have n3:cp≠mp:=aE e6 hmp
 have o8:OrdAt H8 op [(0,0)]:=⟨[t0],((s6.trans s7).trans s8) _ _ e5,rfl,fun k t p e1 e2=>by
  match k,e1,e2 with
  | 0,e1,e2=>cases e1; cases e2; exact s48 _ _ e4'
  | k+1,e1,e2=>simp at e1⟩
 have c8:CameAt H8 cp [none]:=⟨[.non],(s7.trans s8) _ _ e6,rfl,fun i v e e1 e2=>by
  match i,e1,e2 with
  | 0,e1,e2=>cases e1; cases e2; rfl
  | i+1,e1,e2=>simp at e1,fun i k w e=>by
  match i,e with
  | 0,e=>cases e
  | i+1,e=>simp at e⟩
 refine⟨t1,[some 0,some 0],rfl,e8,hu.mono s8,fun u' hu'=>?_⟩
 have om:=(o8.other (c:=mp) (u:=u') n2 (fun xs z=>by obtain⟨ys,e,_⟩:=hu.mono s8; rw[e]at z; cases z))
 have cm:=(c8.other (d:=mp) (u:=u') n3 (fun xs z=>by obtain⟨ys,e,_⟩:=hu.mono s8; rw[e]at z; cases z))
 have s39:=s38.upd hmp3 u';have hm9:DO P w (upd H8 mp u') mp (bE [(0,0)]):=hu'
 generalize upd H8 mp u'=H9 at om cm s39 hm9 ⊢;walk_at "nx";walk_at "nx"
 refine⟨fun mm σ H'=>∃ (at':Nat) (ps es:List (Nat × Nat)) (o9 o10 o11:Option V),mm=3601 - at'∧at'≤ps.length∧σ=[some (.ref p),some (.ref q),some (.ref wl),some (.ref d),some (.ref d'),some (.ref op),some (.ref cp),some (.ref mp),some (.int (at':Int)),o9,o10,o11]∧Same H3 H'∧OrdAt H' op ps∧CameAt H' cp (fS ws es)∧DO P w H' mp (bE ps)∧Srch r r' ps∧Bfs r r' ws ps es (at' * ws.length),
  ⟨_,0,[(0,0)],[],none,none,none,rfl,by simp,rfl,s39,om,cm,hm9,Srch.new ok ok',by rw[Nat.zero_mul]; exact Bfs.new⟩,?_⟩
 rintro mm σ H' ⟨at',ps,es,o9,o10,o11,em,hat,rfl,sm,hO,hC,hM,hS,hbf⟩
 have hlen:=hS.len ok ok';obtain⟨ts,t1',t2,t3⟩:=id hO
 walk_at "rd1";refine⟨_,.inl (SqL.of t1'),?_⟩
 rw[List.length_map,t2]
 by_cases hend:at'<ps.length
 rotate_left
 ·refine aw (fun c=>absurd (by omega) hend) (fun _=>?_)
  walk_at "nx";have hall:at'=ps.length:=by omega
  exact fin _ _ ws (s03.trans sm) hB hso (.inl ⟨rfl,fun n=>hbf.none (by omega) n (0,0) hS.z⟩)
 refine aw (fun _=>?_) (fun c=>absurd (by omega) c)
 obtain⟨x,hx⟩ : ∃ x,ps[at']? = some x:=⟨ps[at'],List.getElem?_eq_getElem hend⟩
 obtain⟨tx,htx⟩ : ∃ tx,ts[at']? = some tx:=⟨ts[at'],List.getElem?_eq_getElem (by omega)⟩
 have hxm:=List.mem_of_getElem? hx;obtain⟨hx2,hx3⟩:=hS.rch x hxm
 have etx:=t3 at' tx x htx hx;refine⟨fun σ' H'=>∃ m',m'<mm∧∃ (at':Nat) (ps es:List (Nat × Nat)) (o9 o10 o11:Option V),m'=3601 - at'∧at'≤ps.length∧σ'=[some (.ref p),some (.ref q),some (.ref wl),some (.ref d),some (.ref d'),some (.ref op),some (.ref cp),some (.ref mp),some (.int (at':Int)),o9,o10,o11]∧Same H3 H'∧OrdAt H' op ps∧CameAt H' cp (fS ws es)∧DO P w H' mp (bE ps)∧Srch r r' ps∧Bfs r r' ws ps es (at' * ws.length),fun _ _ h=>h,?_⟩
 refine⟨_,_,.inl (SqL.of t1'),aB (v:=.ref tx) (by rw[List.getElem?_map,htx]; rfl),?_⟩
 walk_at "nx";refine⟨d,d',tx,r,r',ws,x.1,x.2,rfl,hd3.mono sm,hd'.mono sm,hwn,etx,hx2,hx3,fun pl H10 s10 hpl hP=>?_⟩
 obtain⟨us,p1,p2,p3⟩:=hP
 rw[List.length_map]at p2
 have sm10:=sm.trans s10;walk_at "rd1";refine⟨⟨_,SqL.of (sm10 _ _ hw3)⟩,⟨_,SqL.of p1⟩,?_⟩
 have q1:op≠pl:=aE t1' hpl
 have q2:cp≠pl:=by obtain⟨vs,z,_⟩:=hC; exact aE z hpl
 have q3:mp≠pl:=by obtain⟨vs,z,_⟩:=hM; exact aE z hpl
 refine lq (xs:=ws.map V.str) (ys:=us.map V.ref) (fun k σ H''=>∃ (ps' es' more:List (Nat × Nat)) (o10 o11:Option V),σ=[some (.ref p),some (.ref q),some (.ref wl),some (.ref d),some (.ref d'),some (.ref op),some (.ref cp),some (.ref mp),some (.int (at':Int)),some (.ref tx),o10,o11]∧Same H3 H''∧H'' pl=some (.lst (us.map V.ref))∧(∀ (j:Nat) t x',us[j]? = some t→(ws.map (gW r r' x.1 x.2))[j]? = some x'→H'' t=some (.tup [aA x'.1,aA x'.2]))∧OrdAt H'' op ps'∧CameAt H'' cp (fS ws es')∧DO P w H'' mp (bE ps')∧Srch r r' ps'∧ps'=ps++more∧Bfs r r' ws ps' es' (at' * ws.length+k))
  (by rw[List.length_map,List.length_map]; exact p2.symm) ⟨ps,es,[],o10,o11,rfl,sm10,p1,p3,hO.mono s10,hC.mono s10,hM.mono s10,hS,by simp,hbf⟩ (fun k σ H'' _ h=>by obtain⟨_,_,_,_,_,_,sx,px,_⟩:=h; exact⟨SqL.of (sx _ _ hw3),SqL.of px⟩) ?_ ?_
 ·rintro k v v2 t σ H'' hv hv2 ⟨ps',es',more,o10,o11,rfl,sx,px,pt,hO',hC',hM',hS',hps,hbf'⟩ ht
  have hk:k<ws.length:=by have:=(List.getElem?_eq_some_iff.mp hv).1; simpa using this
  have hku:k<us.length:=by omega
  rw[List.getElem?_map,List.getElem?_eq_getElem hk]at hv
  rw[List.getElem?_map,List.getElem?_eq_getElem hku]at hv2
  cases hv; cases hv2
  have hwk:ws[k]? = some ws[k]:=List.getElem?_eq_getElem hk
  have hxk:ps'[at']? = some x:=by rw[hps,List.getElem?_append_left hend]; exact hx
  have hel:=hbf'.len;have hcl:=qY ws es';have hpt:=pt k us[k] (gW r r' x.1 x.2 ws[k]) (List.getElem?_eq_getElem hku) (by rw[List.getElem?_map,List.getElem?_eq_getElem hk]; rfl)
  have hlen':=hS'.len ok ok';have st:=ah ht (.tup [V.str ws[k],.ref us[k]]);have et:upd H'' t (.tup [V.str ws[k],.ref us[k]]) t=some (.tup [V.str ws[k],.ref us[k]]):=ae
  generalize upd H'' t (.tup [V.str ws[k],.ref us[k]])=G at st et ⊢;have hpG:=st _ _ hpt;have sxG:=sx.trans st;walk_at "rd1";refine⟨t,_,rfl,SqT.of et,rfl,?_⟩
  walk_at "rd1";refine⟨_,_,.inr (SqT.of hpG),dn,?_⟩
  have e1':(gW r r' x.1 x.2 ws[k]).1=ar r x.1 ws[k]:=rfl
  have e2':(gW r r' x.1 x.2 ws[k]).2=ar r' x.2 ws[k]:=rfl
  rw[e1',e2']at hpG
  rw[e1']
  cases ea:ar r x.1 ws[k] with
  | none=>
   walk_at "rd1";refine aw (fun _=>?_) (fun c=>absurd rfl c)
   exact⟨ps',es',more,_,_,rfl,sxG,st _ _ px,fun j t x' z1 z2=>st _ _ (pt j t x' z1 z2),hO'.mono st,hC'.mono st,hM'.mono st,hS',hps,hbf'.skip hxk hwk (fun z=>z.1 ea) (fun q z=>(by have g:=z.1; rw[ea]at g; cases g))⟩
  | some i'=>
   rw[ea]at hpG
   walk_at "rd1";refine aw (fun c=>absurd c (by simp[aA])) (fun _=>?_)
   refine⟨us[k],mp,[some (i':Int),(ar r' x.2 ws[k]).map (fun n:Nat=>(n:Int))],_,rfl,rfl,hM'.mono st,?_,?_⟩
   ·show G us[k]=some (.tup _)
    rw[hpG]
    cases ar r' x.2 ws[k] <;> rfl
   have hmv:=iX i' (ar r' x.2 ws[k]) ps'
   cases hin:(aF (bE ps') [some (i':Int),(ar r' x.2 ws[k]).map (fun n:Nat=>(n:Int))]).isSome with
   | true=>
    obtain⟨j',ej,hmem⟩:=hmv.mp hin
    refine⟨_,rfl,aw (fun _=>?_) (fun c=>absurd rfl c)⟩
    exact⟨ps',es',more,_,_,rfl,sxG,st _ _ px,fun j t x' z1 z2=>st _ _ (pt j t x' z1 z2),hO'.mono st,hC'.mono st,hM'.mono st,hS',hps,hbf'.skip hxk hwk (fun z=>(by have g:=z.2; rw[ej]at g; cases g)) (fun q z=>(by rw[z.one (q':=(i',j')) ⟨ea,ej⟩]; exact hmem))⟩
   | false=>
    have hnin:∀ j',ar r' x.2 ws[k]=some j'→(i',j')∉ps':=fun j' e m=>by rw[hmv.mpr ⟨j',e,m⟩]at hin; cases hin
    refine⟨_,rfl,aw (fun c=>absurd c (by decide)) (fun _=>?_)⟩
    walk_at "nx";refine⟨_,_,.inr (SqT.of hpG),aB (j:=1) rfl,?_⟩
    cases eb:ar r' x.2 ws[k] with
    | none=>
     walk_at "rd1";refine aw (fun _=>?_) (fun c=>absurd rfl c)
     refine⟨cp,fS ws es',at',rfl,hC'.mono st,by have:=congrArg List.length hps; rw[List.length_append]at this; omega,by omega,fun l Hl row sl hl0 hl hrow hrl=>?_⟩
     walk_at "rd1";refine⟨by decide,fun l2 hl2=>⟨_,_,ah hl2 _ _ _ hl,ae,by rw[List.length_map]; exact bg (by show _+1≤_; omega),fun l3 hl3=>?_⟩⟩
     obtain⟨g1,g2⟩:=hbf'.found (hrow.toE fun i a e=>(hbf'.ent i a e).2.1) hxk hwk ⟨(by rw[ea]; intro z; cases z),eb⟩
     have sl2:=ah hl2 (.lst [V.str ws[k]]);exact fin _ _ ws (s03.trans (((sxG.trans sl).trans sl2).trans (ah hl3 _))) hB hso (.inr ⟨l3,row++[ws[k]],rfl,(s03.trans ((sxG.trans sl).trans sl2)).free hl3,by rw[ae,List.map_append]; rfl,g1,g2,by rw[List.length_append,List.length_singleton]; omega⟩)
    | some j'=>
     rw[eb]at hpG
     have hni:=hnin j' eb;rw[eb]at hin
     walk_at "rd1";refine aw (fun c=>absurd c (by simp[aA])) (fun _=>?_)
     walk_at "nx";have hkey:KeyO G [some (i':Int),some (j':Int)] us[k]:=hpG
     have hvn:aF (bE ps') [some (i':Int),some (j':Int)]=none:=by
      cases hz:aF (bE ps') [some (i':Int),some (j':Int)] with
      | none=>rfl
      | some _=>
       have:(aF (bE ps') [some (i':Int),(some j').map (fun n:Nat=>(n:Int))]).isSome=true:=by show (aF (bE ps') [some (i':Int),some (j':Int)]).isSome=true; rw[hz]; rfl
       rw[this]at hin; cases hin
     refine⟨mp,us[k],_,_,rfl,rfl,hM'.mono st,hkey,hvn,by show (List.map _ _).length<_; rw[List.length_map]; exact bT (by omega),fun uu huu=>?_⟩
     have ntup:∀ xs,G mp≠some (.tup xs):=fun xs z=>by obtain⟨ys,e,_⟩:=hM'.mono st; rw[e]at z; cases z
     have hM2:DO P w (upd G mp uu) mp (bE (ps'++[(i',j')])):=by
      have:bE (ps'++[(i',j')])=bE ps'++[([some (i':Int),some (j':Int)],V.bl true)]:=by unfold bE; rw[List.map_append]; rfl
      rw[this]; exact huu
     have hO2:=(hO'.mono st).other (u:=uu) n2 ntup;have hC2:=(hC'.mono st).other (u:=uu) n3 ntup;have keepT:∀ {c:Addr} {xs:List V},G c=some (.tup xs)→upd G mp uu c=some (.tup xs):=fun {c xs} e=>by rw[al (fun z=>by subst z; exact ntup _ e)]; exact e
     have hp2:=keepT hpG;have pt2:∀ (j:Nat) t x',us[j]? = some t→(ws.map (gW r r' x.1 x.2))[j]? = some x'→upd G mp uu t=some (.tup [aA x'.1,aA x'.2]):=fun j t x' z1 z2=>keepT (st _ _ (pt j t x' z1 z2))
     have px2:upd G mp uu pl=some (.lst (us.map V.ref)):=by rw[al (Ne.symm q3)]; exact st _ _ px
     have sx2:=sxG.upd hmp3 uu;generalize upd G mp uu=G2 at hM2 hO2 hC2 hp2 pt2 px2 sx2 ⊢;obtain⟨ts2,a1,a2,a3⟩:=id hO2
     walk_at "nx";refine⟨⟨_,SqL.of a1⟩,_,a1,by rw[List.length_map]; exact bT (by omega),?_⟩
     have hO3:=OrdAt.push (t:=us[k]) (p:=(i',j')) a1 a2 a3 hp2;have ntop:∀ xs,G2 op≠some (.tup xs):=fun xs z=>by rw[a1]at z; cases z
     have hC3:=hC2.other (u:=.lst (ts2.map V.ref++[.ref us[k]])) (Ne.symm n1) ntop;have hM3:=DO.put hM2 (o:=.lst (ts2.map V.ref++[.ref us[k]])) a1 (Ne.symm n2);have keepT2:∀ {c:Addr} {xs:List V},G2 c=some (.tup xs)→upd G2 op (.lst (ts2.map V.ref++[.ref us[k]])) c=some (.tup xs):=fun {c xs} e=>by rw[al (fun z=>by subst z; exact ntop _ e)]; exact e
     have pt3:∀ (j:Nat) t x',us[j]? = some t→(ws.map (gW r r' x.1 x.2))[j]? = some x'→upd G2 op (.lst (ts2.map V.ref++[.ref us[k]])) t=some (.tup [aA x'.1,aA x'.2]):=fun j t x' z1 z2=>keepT2 (pt2 j t x' z1 z2)
     have px3:upd G2 op (.lst (ts2.map V.ref++[.ref us[k]])) pl=some (.lst (us.map V.ref)):=by rw[al (Ne.symm q1)]; exact px2
     have sx3:=sx2.upd hop3 (.lst (ts2.map V.ref++[.ref us[k]]));generalize upd G2 op (.lst (ts2.map V.ref++[.ref us[k]]))=G3 at hO3 hC3 hM3 pt3 px3 sx3 ⊢;walk_at "nx";refine⟨by obtain⟨vs,z,_⟩:=id hC3; exact⟨vs,SqL.of z⟩,by decide,fun t5 ht5=>?_⟩
     have s5':=ah ht5 (.tup [.int (at':Int),.str ws[k]]);have e5':upd G3 t5 (.tup [.int (at':Int),.str ws[k]]) t5=some (.tup [.int (at':Int),.str ws[k]]):=ae
     generalize upd G3 t5 (.tup [.int (at':Int),.str ws[k]])=G4 at s5' e5' ⊢
     obtain⟨vs,b1,b2,b3⟩:=(hC3.mono s5').push (k:=at') (wd:=ws[k]) (by have:=congrArg List.length hps; rw[List.length_append]at this; omega) e5'
     refine⟨vs,b1,bT (by omega),?_⟩
     have hO4:=(hO3.mono s5').other (u:=.lst (vs++[.ref t5])) n1 (fun xs z=>by rw[b1]at z; cases z)
     have hM4:=DO.put (hM3.mono s5') (o:=.lst (vs++[.ref t5])) b1 (Ne.symm n3);refine⟨ps'++[(i',j')],es'++[(at',k)],more++[(i',j')],_,_,rfl,(sx3.trans s5').upd hcp3 _,by rw[al (Ne.symm q2)]; exact s5' _ _ px3,fun j t x' z1 z2=>?_,hO4,by rw[qe,b_ hk]; exact b3,hM4,hS'.push ok ok' (by rw[hps]; exact List.mem_append_left _ hxm) ea eb hni,by rw[hps,List.append_assoc],hbf'.push hxk hwk ⟨ea,eb⟩ hni⟩
     rw[al (fun z=>by subst z; have:=s5' _ _ (pt3 j t x' z1 z2); rw[b1]at this; cases this)]
     exact s5' _ _ (pt3 j t x' z1 z2)
 ·rintro σ H'' ⟨ps',es',more,o10,o11,rfl,sx,px,pt,hO',hC',hM',hS',hps,hbf'⟩
  rw[List.length_map]at hbf'
  walk_at "nx";refine⟨3601 - (at'+1),by omega,at'+1,ps',es',_,_,_,rfl,by rw[hps]; simp; omega,rfl,sx,hO',hC',hM',hS',?_⟩
  rw[Nat.add_mul,Nat.one_mul]; exact hbf'
end
theorem mZ{K:PySem.W.Frag}{H:Hp}{a b:Addr}{xs:List V}(h1:H a=some (.lst xs))(h2:H b=some (.lst [])):EqN K H (0+1) (.ref a) (.ref b) (decide (xs=[])):=by
 cases xs with
 | nil=>exact EqN.seqFlat (.inl ⟨SqL.of h1,SqL.of h2⟩) (fun v hv=>by cases hv)
 | cons y t=>exact .inr ⟨a,b,_,_,rfl,rfl,.inl ⟨SqL.of h1,SqL.of h2⟩,.inr ⟨SqL.of h1,SqL.of h2,by simp,rfl⟩⟩
def nD:Sp:=fun vs H Q _=>∃ (p:Addr) (r:Rl) (k:Nat) (y:Str),vs=[.ref p,.int (k:Int),.str y]∧RuleAt H p r∧bP r∧k<r.rs.length∧Q (aA (ar r k y)) H
structure PrI (r r':Rl) (ws:List Str) (ps:List (Nat × Nat)):Prop where
 s:Srch r r' ps
 cl:∀ x∈ps,∀ y∈ws,∀ q,Nxt r r' x y q→q∈ps
def tO:Sp:=fun vs H Q _=>∃ (p q wl:Addr) (r r':Rl) (ws:List Str),vs=[.ref p,.ref q,.ref wl]∧RuleAt H p r∧RuleAt H q r'∧bP r∧bP r'∧H wl=some (.lst (ws.map V.str))∧ws.length≤32∧∀ (l:Addr) (H':Hp) (ps:List (Nat × Nat)),Same H H'→H l=none→OrdAt H' l ps→PrI r r' ws ps→Q (.ref l) H'
section
variable{P:Program}{w:World}{K:PySem.W.Frag}{mg:Str→Option Value}{base:Heap}
theorem yi(D:DefAt K mg "_law_to" b9):bt P w K mg base 1 "_law_to" ["_law_rule", "_law_room", "_law_word"] nD:=by
 refine D.cal (k:=0) pe (fun _ _ _ _ _ _ us hl=>match us,hl with | [_,_,_],_=>rfl) (fun vs H Q E h=>by obtain⟨p,r,k,y,rfl,_⟩:=h; rfl) (fun f cdv A outer s H vs Q E hr h=>?_)
 obtain⟨p,r,k,y,rfl,hR,ok,hk,q⟩:=h
 obtain⟨pw,pr,as,h1,h2,h3,h4,h5⟩:=hR
 refine⟨_,(af (bd (ax (pA K) (pv 2) (am (az K) (pv 0) ab (fun _ _=>rfl)) (by with_unfolding_all rfl)) (ak (aR (am (az K) (am (az K) (am (az K) (pv 0) ab (fun _ _=>rfl)) (pv 1) (fun _ _=>rfl)) (cQ K PySem.F.plainAttrs_list PySem.F.slot_list_index PySem.F.type_list_index (pj K) (am (az K) (pv 0) ab (fun _ _=>rfl)) (aa (pv 2) ac)) (fun _ _=>rfl)))) aP)
   (ak (aR (pv 1)))),?_⟩
 walk_at "rd1";refine⟨_,_,.inr (SqT.of h1),aB (j:=1) rfl,?_⟩
 walk_at "rd1";refine⟨_,.inl (SqL.of h2),rfl,j6 _,?_⟩
 rw[mP];refine aw (fun c=>?_) (fun c=>?_)
 ·have hy:y∈r.ws:=by simpa using c
  have hka:k<as.length:=by omega
  have hx:=ok.row _ (List.getElem_mem hk);have hj:r.ws.idxOf y<(r.rs[k]).length:=by rw[hx.1]; exact List.idxOf_lt_length_iff.mpr hy
  refine⟨_,_,.inr (SqT.of h1),aB (j:=2) rfl,?_⟩
  walk_at "rd1";refine⟨_,_,.inl (SqL.of h3),aB (v:=.ref as[k]) (by rw[List.getElem?_map,List.getElem?_eq_getElem hka]; rfl),?_⟩
  refine⟨_,_,.inr (SqT.of h1),aB (j:=1) rfl,?_⟩
  walk_at "rd1";refine⟨⟨_,SqL.of h2⟩,_,SqL.of h2,hy,?_⟩
  walk_at "rd1";refine⟨_,_,.inl (SqL.of (h5 k _ _ (List.getElem?_eq_getElem hka) (List.getElem?_eq_getElem hk))),aB (v:=aA (ar r k y)) ?_,q⟩
  rw[List.getElem?_map,List.getElem?_eq_getElem hj];unfold ar;rw[if_pos hy,b_ hk,b_ hj]; rfl
 ·have hy:y∉r.ws:=by simpa using c
  have e:ar r k y=some k:=by unfold ar; rw[if_neg hy]
  rw[e]at q
  walk_at "nx";exact q
theorem wY(D:DefAt K mg "_law_pairs" aN) (z_list:mg "list" = none) (c_law_to:bt P w K mg base 1 "_law_to" ["_law_rule", "_law_room", "_law_word"] nD):bt P w K mg base 2 "_law_pairs" ["_law_one", "_law_other", "_law_words_here"] tO:=by
 refine D.cal (k:=1) sc_law_pairs (fun _ _ _ _ _ _ us hl=>match us,hl with | [_,_,_],_=>rfl) (fun vs H Q E h=>by obtain⟨_,_,_,_,_,_,rfl,_⟩:=h; rfl) (fun f cdv A outer s H vs Q E hr h=>?_)
 obtain⟨p,q,wl,r,r',ws,rfl,hR,hR',ok,ok',hw,hwn,fin⟩:=h
 refine⟨_,(af (ao 3 sc_law_pairs.nd ((i_ P w hr) (bF (aa ab (aa ab ac))) cD))
   (af (ao 4 sc_law_pairs.nd (br (aa (bF (aa ab (aa ab ac))) ac)))
   (af (i6 PassesOwn.never (ax (jz K hr) (pv 4) (br ac) (aH _)) (af (ao 5 sc_law_pairs.nd (mW K PySem.F.plainAttrs_list PySem.F.slot_list_pop PySem.F.type_list_pop uO (pv 4)))
   (ak (bJ PassesOwn.never rfl (cq K (pv 2)) (aW 6 sc_law_pairs.nd) (af (ao 7 sc_law_pairs.nd (bF (aa (aC c_law_to hr (aa (pv 0) (aa (am (az K) (pv 5) ab (fun _ _=>rfl)) (aa (pv 6) ac)))) (aa (aC c_law_to hr (aa (pv 1) (aa (am (az K) (pv 5) ab (fun _ _=>rfl)) (aa (pv 6) ac)))) ac))))
   (ak (bd (PW.pt' (b6 (ax b7 (am (az K) (pv 7) ab (fun _ _=>rfl)) aZ (aH _)) (b6 (ax b7 (am (az K) (pv 7) ab (fun _ _=>rfl)) aZ (aH _)) (cz (ax (hZ P w hr) (pv 7) (pv 3) (by with_unfolding_all rfl)))))) (af (cg cD (cu (pv 3) (pv 7) (qD P w hr)))
   (ak (ce (cQ K PySem.F.plainAttrs_list PySem.F.slot_list_append PySem.F.type_list_append bV (pv 4) (aa (pv 7) ac))))) aP)))))))
   (ak (aR (bR (mz P w hr) z_list cw (aa (pv 3) ac))))))),?_⟩
 walk_at "rd1";refine fun mp hmp u hu=>?_
 have s4:=ah hmp u;generalize upd H mp u=H4 at s4 hu ⊢;walk_at "rd1";refine⟨by decide,fun t1 ht1=>?_⟩
 have s5:=ah ht1 (.tup [V.int 0,V.int 0]);have e5:upd H4 t1 (.tup [V.int 0,V.int 0]) t1=some (.tup [V.int 0,V.int 0]):=ae
 generalize upd H4 t1 (.tup [V.int 0,V.int 0])=H5 at s5 e5 ⊢;refine⟨t1,[some 0,some 0],rfl,e5,hu.mono s5,fun u' hu'=>?_⟩
 have s35:=(s4.trans s5).upd hmp u';have hm6:DO P w (upd H5 mp u') mp (bE [(0,0)]):=hu'
 generalize upd H5 mp u'=H6 at s35 hm6 ⊢;walk_at "nx";refine⟨by decide,fun t0 ht0=>⟨by decide,fun tp htp=>?_⟩⟩
 have s7:=ah ht0 (.tup [V.int 0,V.int 0]);have e7:upd H6 t0 (.tup [V.int 0,V.int 0]) t0=some (.tup [V.int 0,V.int 0]):=ae
 generalize upd H6 t0 (.tup [V.int 0,V.int 0])=H7 at s7 e7 htp ⊢;have s8:=ah htp (.lst [V.ref t0]);have e8:upd H7 tp (.lst [V.ref t0]) tp=some (.lst ([t0].map V.ref)):=ae
 generalize upd H7 tp (.lst [V.ref t0])=H8 at s8 e8 ⊢;have s38:=(s35.trans s7).trans s8;have hm8:=(hm6.mono s7).mono s8;have htp3:H tp=none:=(s35.trans s7).free htp
 have n1:mp≠tp:=by obtain⟨_,z,_⟩:=hm6.mono s7; exact aE z htp
 have o8:OrdAt H8 tp [(0,0)]:=⟨[t0],e8,rfl,fun k t p e1 e2=>by
  match k,e1,e2 with
  | 0,e1,e2=>cases e1; cases e2; exact s8 _ _ e7
  | k+1,e1,e2=>simp at e1⟩
 walk_at "nx"
 refine⟨fun mm σ H'=>∃ (ps qs:List (Nat × Nat)) (o5 o6 o7:Option V),mm=2 * (3600 - ps.length)+qs.length∧σ=[some (.ref p),some (.ref q),some (.ref wl),some (.ref mp),some (.ref tp),o5,o6,o7]∧Same H H'∧OrdAt H' tp qs∧DO P w H' mp (bE ps)∧Srch r r' ps∧qs.length≤ps.length∧(∀ x∈qs,x∈ps)∧∀ x∈ps,x∉qs→∀ y∈ws,∀ q',Nxt r r' x y q'→q'∈ps,
  ⟨_,[(0,0)],[(0,0)],none,none,none,rfl,rfl,s38,o8,hm8,Srch.new ok ok',by simp,fun x h=>h,fun x h1 h2=>absurd h1 h2⟩,?_⟩
 rintro mm σ H' ⟨ps,qs,o5,o6,o7,em,rfl,sm,hO,hM,hS,hql,hsub,hcl'⟩
 have hlen:=hS.len ok ok';obtain⟨ts,t1',t2,t3⟩:=id hO
 walk_at "rd1";refine⟨by decide,fun ep hep=>?_⟩
 have s9:=ah hep (.lst []);have e9:upd H' ep (.lst []) ep=some (.lst []):=ae
 generalize upd H' ep (.lst [])=H9 at s9 e9 ⊢;refine⟨0,_,by decide,mZ (s9 _ _ t1') e9,?_⟩
 by_cases hq0:qs=[]
 ·subst hq0
  have hts:ts=[]:=List.length_eq_zero_iff.mp t2
  subst hts;rw[decide_eq_true (show List.map V.ref ([]:List Addr)=[] from rfl)];walk_at "rd1";walk_at "nx";refine⟨mp,_,rfl,hM.mono s9,by show (List.map _ _).length≤_; rw[List.length_map]; omega,fun l us hl hul huk=>?_⟩
  have s10:=ah hl (.lst (us.map V.ref));have ml:(bE ps).length=ps.length:=by unfold bE; rw[List.length_map]
  refine fin l _ ps ((sm.trans s9).trans s10) ((sm.trans s9).free hl) ⟨us,ae,by rw[hul,ml],fun k t x e1 e2=>?_⟩ ⟨hS,fun x hx=>hcl' x hx (by simp)⟩
  exact s10 _ _ (huk k t ([some (x.1:Int),some (x.2:Int)],V.bl true) e1 (by unfold bE; rw[List.getElem?_map,e2]; rfl))
 have hts0:¬ ts.map V.ref=[]:=fun z=>hq0 (List.length_eq_zero_iff.mp (by rw[← t2]; simpa using z))
 rw[decide_eq_false hts0];obtain⟨qs',x,rfl⟩ : ∃ qs' x,qs=qs'++[x]:=⟨qs.dropLast,qs.getLast hq0,(List.dropLast_concat_getLast hq0).symm⟩
 obtain⟨ts',tx,rfl⟩ : ∃ ts' tx,ts=ts'++[tx]:=⟨ts.dropLast,ts.getLast (fun z=>hts0 (by rw[z]; rfl)),(List.dropLast_concat_getLast _).symm⟩
 have t2':ts'.length=qs'.length:=by simpa using t2
 have etx:H' tx=some (.tup [.int (x.1:Int),.int (x.2:Int)]):=t3 ts'.length tx x (by simp) (by rw[t2']; simp)
 have hxm:x∈ps:=hsub x (by simp)
 obtain⟨hx2,hx3⟩:=hS.rch x hxm
 walk_at "rd1";generalize hMM:mm=M at em;subst hMM;refine⟨fun σ' H'=>∃ m',m'<mm∧∃ (ps qs:List (Nat × Nat)) (o5 o6 o7:Option V),m'=2 * (3600 - ps.length)+qs.length∧σ'=[some (.ref p),some (.ref q),some (.ref wl),some (.ref mp),some (.ref tp),o5,o6,o7]∧Same H H'∧OrdAt H' tp qs∧DO P w H' mp (bE ps)∧Srch r r' ps∧qs.length≤ps.length∧(∀ x∈qs,x∈ps)∧∀ x∈ps,x∉qs→∀ y∈ws,∀ q',Nxt r r' x y q'→q'∈ps,fun _ _ h=>h,?_⟩
 walk_at "rd1";refine⟨⟨_,SqL.of (s9 _ _ t1')⟩,_,.ref tx,s9 _ _ t1',by simp,?_⟩
 have edl:((ts'++[tx]).map V.ref).dropLast=ts'.map V.ref:=by rw[List.map_append]; exact List.dropLast_concat
 rw[edl]
 have o10:OrdAt (upd H9 tp (.lst (ts'.map V.ref))) tp qs':=by
  refine⟨ts',ae,t2',fun k t y e1 e2=>?_⟩
  have hk1:=(List.getElem?_eq_some_iff.mp e1).1;have hk2:=(List.getElem?_eq_some_iff.mp e2).1;have:=s9 _ _ (t3 k t y (by rw[List.getElem?_append_left hk1]; exact e1) (by rw[List.getElem?_append_left hk2]; exact e2))
  rw[al (fun z=>by subst z; rw[s9 _ _ t1']at this; cases this)]; exact this
 have m10:DO P w (upd H9 tp (.lst (ts'.map V.ref))) mp (bE ps):=DO.put (hM.mono s9) (s9 _ _ t1') n1
 have sm10:Same H (upd H9 tp (.lst (ts'.map V.ref))):=(sm.trans s9).upd htp3 _
 have etx10:upd H9 tp (.lst (ts'.map V.ref)) tx=some (.tup [.int (x.1:Int),.int (x.2:Int)]):=by rw[al (fun z=>by subst z; rw[t1']at etx; cases etx)]; exact s9 _ _ etx
 generalize upd H9 tp (.lst (ts'.map V.ref))=H10 at o10 m10 sm10 etx10 ⊢;walk_at "nx";refine⟨⟨_,SqL.of (sm10 _ _ hw)⟩,?_⟩
 have hql':(qs'++[x]).length=qs'.length+1:=by simp
 refine fZ (xs:=ws.map V.str) (fun k σ H''=>∃ (more:List (Nat × Nat)) (o6 o7:Option V),σ=[some (.ref p),some (.ref q),some (.ref wl),some (.ref mp),some (.ref tp),some (.ref tx),o6,o7]∧Same H H''∧H'' tx=some (.tup [.int (x.1:Int),.int (x.2:Int)])∧OrdAt H'' tp (qs'++more)∧DO P w H'' mp (bE (ps++more))∧Srch r r' (ps++more)∧∀ (z:Nat) y,z<k→ws[z]? = some y→∀ q',Nxt r r' x y q'→q'∈ps++more)
  ⟨[],o6,o7,rfl,sm10,etx10,by simpa using o10,by simpa using m10,by simpa using hS,fun z y hz=>absurd hz (Nat.not_lt_zero _)⟩ (fun k σ H'' _ h=>by obtain⟨_,_,_,_,sx,_⟩:=h; exact SqL.of (sx _ _ hw)) ?_ ?_
 ·rintro k v σ H'' hv ⟨more,o6,o7,rfl,sx,etx',hO',hM',hS',hpr⟩
  have hk:k<ws.length:=by have:=(List.getElem?_eq_some_iff.mp hv).1; simpa using this
  rw[List.getElem?_map,List.getElem?_eq_getElem hk]at hv
  cases hv;have hlen':=hS'.len ok ok'
  have hpr':∀ (ps2:List (Nat × Nat)),(∀ y∈ps++more,y∈ps2)→(∀ q',Nxt r r' x ws[k] q'→q'∈ps2)→∀ (z:Nat) y,z<k+1→ws[z]? = some y→∀ q',Nxt r r' x y q'→q'∈ps2:=fun ps2 hsub hnew z y hz hzy q' e=>by
   rcases Nat.lt_or_ge z k with c | c
   ·exact hsub _ (hpr z y c hzy q' e)
   ·have ez:z=k:=by omega
    subst ez;rw[List.getElem?_eq_getElem hk]at hzy
    cases hzy;exact hnew q' e
  walk_at "rd1";refine⟨_,_,.inr (SqT.of etx'),dn,?_⟩
  refine⟨p,r,x.1,ws[k],rfl,hR.mono sx,ok,hx2,?_⟩
  walk_at "rd1";refine⟨_,_,.inr (SqT.of etx'),aB (j:=1) rfl,?_⟩
  refine⟨q,r',x.2,ws[k],rfl,hR'.mono sx,ok',hx3,?_⟩
  walk_at "rd1";refine⟨by decide,fun tt htt=>?_⟩
  have st:=ah htt (.tup [aA (ar r x.1 ws[k]),aA (ar r' x.2 ws[k])]);have et:upd H'' tt (.tup [aA (ar r x.1 ws[k]),aA (ar r' x.2 ws[k])]) tt=some (.tup [aA (ar r x.1 ws[k]),aA (ar r' x.2 ws[k])]):=ae
  generalize upd H'' tt (.tup [aA (ar r x.1 ws[k]),aA (ar r' x.2 ws[k])])=G at st et ⊢;have sxG:=sx.trans st;walk_at "nx";refine⟨_,_,.inr (SqT.of et),dn,?_⟩
  cases ea:ar r x.1 ws[k] with
  | none=>
   walk_at "rd1";refine aw (fun c=>absurd c (by simp[aA])) (fun _=>?_)
   exact⟨more,_,_,rfl,sxG,st _ _ etx',hO'.mono st,hM'.mono st,hS',hpr' _ (fun _ z=>z) (fun q' e=>(by have g:=e.1; rw[ea]at g; cases g))⟩
  | some i'=>
   rw[ea]at et
   walk_at "rd1";refine aw (fun _=>?_) (fun c=>absurd (by simp[aA]) c)
   refine⟨_,_,.inr (SqT.of et),aB (j:=1) rfl,?_⟩
   cases eb:ar r' x.2 ws[k] with
   | none=>
    walk_at "rd1";refine aw (fun c=>absurd c (by simp[aA])) (fun _=>?_)
    exact⟨more,_,_,rfl,sxG,st _ _ etx',hO'.mono st,hM'.mono st,hS',hpr' _ (fun _ z=>z) (fun q' e=>(by have g:=e.2; rw[eb]at g; cases g))⟩
   | some j'=>
    rw[eb]at et
    walk_at "rd1";refine aw (fun _=>?_) (fun c=>absurd (by simp[aA]) c)
    have hkey:KeyO G [some (i':Int),some (j':Int)] tt:=et
    refine⟨tt,mp,_,_,rfl,rfl,hM'.mono st,hkey,?_⟩
    have hmv:=iX i' (some j') (ps++more)
    have hmv':(aF (bE (ps++more)) [some (i':Int),some (j':Int)]).isSome=true ↔ (i',j')∈ps++more:=by
     refine hmv.trans ⟨?_,fun m=>⟨j',rfl,m⟩⟩
     rintro⟨j2,e2,m⟩
     cases e2; exact m
    by_cases hin:(i',j')∈ps++more
    ·rw[hmv'.mpr hin]
     refine⟨_,rfl,aw (fun c=>absurd c (by decide)) (fun _=>?_)⟩
     exact⟨more,_,_,rfl,sxG,st _ _ etx',hO'.mono st,hM'.mono st,hS',hpr' _ (fun _ z=>z) (fun q' e=>(by rw[e.one (q':=(i',j')) ⟨ea,eb⟩]; exact hin))⟩
    ·have hvn:aF (bE (ps++more)) [some (i':Int),some (j':Int)]=none:=by
      cases hz:aF (bE (ps++more)) [some (i':Int),some (j':Int)] with
      | none=>rfl
      | some _=>exact absurd (hmv'.mp (by rw[hz]; rfl)) hin
     rw[hvn];refine⟨_,rfl,aw (fun _=>?_) (fun c=>absurd rfl c)⟩
     walk_at "rd1";refine⟨mp,tt,_,_,rfl,rfl,hM'.mono st,hkey,hvn,by show (List.map _ _).length<_; rw[List.length_map]; exact bT (by omega),fun uu huu=>?_⟩
     have ntup:∀ xs,G mp≠some (.tup xs):=fun xs z=>by obtain⟨ys,e,_⟩:=hM'.mono st; rw[e]at z; cases z
     have hM2:DO P w (upd G mp uu) mp (bE (ps++(more++[(i',j')]))):=by
      have:bE (ps++(more++[(i',j')]))=bE (ps++more)++[([some (i':Int),some (j':Int)],V.bl true)]:=by unfold bE; rw[← List.append_assoc,List.map_append (l₁:=ps++more)]; rfl
      rw[this]; exact huu
     have hO2:=(hO'.mono st).other (u:=uu) (Ne.symm n1) ntup;have keepT:∀ {c:Addr} {xs:List V},G c=some (.tup xs)→upd G mp uu c=some (.tup xs):=fun {c xs} e=>by rw[al (fun z=>by subst z; exact ntup _ e)]; exact e
     have et2:=keepT et;have etx2:=keepT (st _ _ etx');have sx2:=sxG.upd hmp uu;generalize upd G mp uu=G2 at hM2 hO2 et2 etx2 sx2 ⊢;obtain⟨ts2,a1,a2,a3⟩:=id hO2
     walk_at "nx";have hqs2:ts2.length≤8000:=by rw[a2,List.length_append]; simp at hlen'; omega
     refine⟨⟨_,SqL.of a1⟩,_,a1,by rw[List.length_map]; exact bT (by omega),?_⟩
     have hO3:=OrdAt.push (t:=tt) (p:=(i',j')) a1 a2 a3 et2;have hM3:=DO.put hM2 (o:=.lst (ts2.map V.ref++[.ref tt])) a1 n1;refine⟨more++[(i',j')],_,_,rfl,sx2.upd htp3 _,by rw[al (fun z=>by subst z; rw[a1]at etx2; cases etx2)]; exact etx2,by rw[← List.append_assoc]; exact hO3,hM3,by rw[← List.append_assoc]; exact hS'.push ok ok' (List.mem_append_left _ hxm) ea eb hin,hpr' _ (fun y hy=>by rw[← List.append_assoc]; exact List.mem_append_left _ hy) (fun q' e=>(by rw[e.one (q':=(i',j')) ⟨ea,eb⟩]; simp))⟩
 ·rintro σ H'' ⟨more,o6,o7,rfl,sx,etx',hO',hM',hS',hpr⟩
  rw[List.length_map]at hpr
  have hlen':=hS'.len ok ok';rw[List.length_append]at hlen'
  refine⟨_,?_,ps++more,qs'++more,_,_,_,rfl,rfl,sx,hO',hM',hS',by simp at hql ⊢; omega,fun y hy=>?_,fun y hy hn=>?_⟩
  ·rw[em,hql',List.length_append,List.length_append]; omega
  ·rcases List.mem_append.mp hy with z | z
   ·exact List.mem_append_left _ (hsub y (List.mem_append_left _ z))
   ·exact List.mem_append_right _ z
  ·by_cases hyx:y=x
   ·subst hyx
    intro y' hy' q' e'
    obtain⟨z,hz,ez⟩:=List.mem_iff_getElem.mp hy'
    exact hpr z y' hz (by rw[← ez]; exact List.getElem?_eq_getElem hz) q' e'
   ·rcases List.mem_append.mp hy with z | z
    ·refine fun y' hy' q' e'=>List.mem_append_left _ (hcl' y z (fun hm=>?_) y' hy' q' e')
     rcases List.mem_append.mp hm with h1 | h1
     ·exact hn (List.mem_append_left _ h1)
     ·exact hyx (List.mem_singleton.mp h1)
    ·exact absurd (List.mem_append_right _ z) hn
end
theorem gZ:∀ {l m:List (Nat × Nat)},l.Nodup→(∀ x∈l,x∈m)→l.length≤m.length
 | [],_,_,_=>Nat.zero_le _
 | x::l,m,hn,hs=>by
  have hx:=hs x List.mem_cons_self;obtain⟨h1,h2⟩:=List.nodup_cons.mp hn
  have h3:=gZ (m:=m.erase x) h2 (fun y hy=>(List.mem_erase_of_ne (by rintro rfl; exact h1 hy)).mpr (hs y (List.mem_cons_of_mem _ hy)))
  rw[List.length_erase_of_mem hx]at h3
  have:=List.length_pos_of_mem hx
  rw[List.length_cons]; omega
theorem Dist.step{r r':Rl}{ws:List Str}{n:Nat}{p:Nat × Nat}(h:Dist r r' ws (n+2) p):∃ y∈ws,∃ q,Nxt r r' p y q∧Dist r r' ws (n+1) q:=by
 obtain⟨y,hy,q,hq,z⟩:=h.1
 exact⟨y,hy,q,hq,h.next hy hq z⟩
theorem PrI.row{r r':Rl}{ws:List Str}{ps:List (Nat × Nat)}(h:PrI r r' ws ps):∀ (n:Nat) (p:Nat × Nat),p∈ps→Dist r r' ws (n+1) p→∃ L:List (Nat × Nat),L.length=n+1∧L.Nodup∧(∀ x∈L,x∈ps∧∃ d,d≤n+1∧Dist r r' ws d x)∧∀ d,1≤d→d≤n+1→∃ x∈L,Dist r r' ws d x
 | 0,p,hp,hd=>⟨[p],rfl,by simp,fun x hx=>by rw[List.mem_singleton.mp hx]; exact⟨hp,1,Nat.le_refl _,hd⟩,fun d h1 h2=>⟨p,by simp,by rw[show d=1 by omega]; exact hd⟩⟩
 | n+1,p,hp,hd=>by
  obtain⟨y,hy,q,hq,hdq⟩:=hd.step
  obtain⟨L,l1,l2,l3,l4⟩:=PrI.row h n q (h.cl p hp y hy q hq) hdq
  refine⟨p::L,by simp[l1],List.nodup_cons.mpr ⟨fun z=>?_,l2⟩,fun x hx=>?_,fun d h1 h2=>?_⟩
  ·obtain⟨_,d,hdl,hd'⟩:=l3 p z
   have:=hd.one hd'
   omega
  ·rcases List.mem_cons.mp hx with z | z
   ·rw[z]; exact⟨hp,n+2,Nat.le_refl _,hd⟩
   ·obtain⟨z1,d,z2,z3⟩:=l3 x z
    exact⟨z1,d,by omega,z3⟩
  ·rcases Nat.lt_or_ge d (n+2) with c | c
   ·obtain⟨x,hx,z⟩:=l4 d h1 (by omega)
    exact⟨x,List.mem_cons_of_mem _ hx,z⟩
   ·exact⟨p,List.mem_cons_self,by rw[show d=n+2 by omega]; exact hd⟩
theorem PrI.far{r r':Rl}{ws:List Str}{ps:List (Nat × Nat)}(h:PrI r r' ws ps){d:Nat}{p:Nat × Nat}(hp:p∈ps)(hd:Dist r r' ws d p):d≤ps.length∧∀ e,1≤e→e≤d→∃ x∈ps,Dist r r' ws e x:=by
 have h1:=hd.pos;obtain⟨n,rfl⟩ : ∃ n,d=n+1:=⟨d - 1,by omega⟩
 obtain⟨L,l1,l2,l3,l4⟩:=h.row n p hp hd
 refine⟨by rw[← l1]; exact gZ l2 fun x hx=>(l3 x hx).1,fun e h1 h2=>?_⟩
 obtain⟨x,hx,z⟩:=l4 e h1 h2
 exact⟨x,(l3 x hx).1,z⟩
def bG(p:Nat × Nat):bj:=[some (p.1:Int),some (p.2:Int)]
theorem dZ{p q:Nat × Nat}(h:bG p=bG q):p=q:=by
 injection h with h1 h2
 injection h2 with h2 _
 have e1:=Option.some.inj h1;have e2:=Option.some.inj h2;exact Prod.ext (by omega) (by omega)
structure LfI (r r':Rl) (ws:List Str) (ps:List (Nat × Nat)) (n:Nat) (kvs:List (bj × V)):Prop where
 a:∀ p∈ps,∀ d,d≤n→Dist r r' ws d p→aF kvs (bG p)=some (.int (d:Int))
 b:∀ k v,aF kvs k=some v→∃ p d,p∈ps∧k=bG p∧v=V.int ((d:Nat):Int)∧Dist r r' ws d p∧d≤n
 l:∃ ks:List (Nat × Nat),kvs.map (·.1)=ks.map bG∧ks.Nodup∧∀ x∈ks,x∈ps
theorem sw{kvs:List (bj × V)}{k:bj}(h:aF kvs k=none):k∉kvs.map (·.1):=by
 induction kvs with
 | nil=>simp
 | cons q kvs ih=>
  by_cases c:q.1=k
  ·rw[bi c]at h; cases h
  ·rw[bo c]at h
   rw[List.map_cons,List.mem_cons,not_or];exact⟨Ne.symm c,ih h⟩
theorem g5{k k':bj}{v:V}:∀ {kvs:List (bj × V)},aF kvs k=none→aF (kvs++[(k,v)]) k'=if k'=k then some v else aF kvs k'
 | [],_=>by
  by_cases c:k'=k
  ·rw[if_pos c,List.nil_append,bi c.symm]
  ·rw[if_neg c,List.nil_append,bo (Ne.symm c)]
 | q::kvs,h=>by
  by_cases e:q.1=k
  ·rw[bi e]at h; cases h
  ·rw[bo e]at h
   rw[List.cons_append]
   by_cases c:q.1=k'
   ·rw[bi c,bi c,if_neg (fun z=>e (c.trans z))]
   ·rw[bo c,bo c,g5 h]
def rl(r r':Rl)(ws:List Str)(ps:List (Nat × Nat))(kvs:List (bj × V)):Prop:=(∀ p∈ps,∀ d,Dist r r' ws d p→aF kvs (bG p)=some (.int (d:Int)))∧∀ k v,aF kvs k=some v→∃ p d,p∈ps∧k=bG p∧v=V.int ((d:Nat):Int)∧Dist r r' ws d p
theorem LfI.fin{r r':Rl}{ws:List Str}{ps:List (Nat × Nat)}{n:Nat}{kvs:List (bj × V)}(h:LfI r r' ws ps n kvs)(hn:∀ p∈ps,∀ d,Dist r r' ws d p→d≤n):rl r r' ws ps kvs:=
 ⟨fun p hp d hd=>h.a p hp d (hn p hp d hd) hd,fun k v e=>by obtain⟨p,d,z1,z2,z3,z4,_⟩:=h.b k v e; exact⟨p,d,z1,z2,z3,z4⟩⟩
def qG(P:Program)(w:World):Sp:=fun vs H Q _=>∃ (p q wl:Addr) (r r':Rl) (ws:List Str),vs=[.ref p,.ref q,.ref wl]∧RuleAt H p r∧RuleAt H q r'∧bP r∧bP r'∧H wl=some (.lst (ws.map V.str))∧ws.length≤32∧∀ (d:Addr) (H':Hp) (kvs:List (bj × V)) (ps:List (Nat × Nat)),Same H H'→H d=none→DO P w H' d kvs→PrI r r' ws ps→rl r r' ws ps kvs→Q (.ref d) H'
section
variable{P:Program}{w:World}{K:PySem.W.Frag}{mg:Str→Option Value}{base:Heap}
theorem u_(D:DefAt K mg "_law_left" aG) (z_len:mg "len" = none) (z_range:mg "range" = none) (c_law_to:bt P w K mg base 1 "_law_to" ["_law_rule", "_law_room", "_law_word"] nD) (c_law_pairs:bt P w K mg base 2 "_law_pairs" ["_law_one", "_law_other", "_law_words_here"] tO):bt P w K mg base 3 "_law_left" ["_law_one", "_law_other", "_law_words_here"] (qG P w):=by
 refine D.cal (k:=2) sc_law_left (fun _ _ _ _ _ _ us hl=>match us,hl with | [_,_,_],_=>rfl) (fun vs H Q E h=>by obtain⟨_,_,_,_,_,_,rfl,_⟩:=h; rfl) (fun f cdv A outer s H vs Q E hr h=>?_)
 obtain⟨p,q,wl,r,r',ws,rfl,hR,hR',ok,ok',hw,hwn,fin⟩:=h
 refine⟨_,(af (ao 3 sc_law_left.nd (aC c_law_pairs hr (aa (pv 0) (aa (pv 1) (aa (pv 2) ac)))))
   (af (ao 4 sc_law_left.nd (qM P w))
   (af (bJ PassesOwn.never rfl (pL zt z_range (aa ab (aa (aj aK (bh (bm K) z_len bO (aa (pv 3) ac)) ab) ac))) (aW 5 sc_law_left.nd) (af (ao 6 sc_law_left.nd (br ac))
   (af (bJ PassesOwn.never rfl (cq K (pv 3)) (aW 7 sc_law_left.nd) (ak (bd (ax (hZ P w hr) (pv 7) (pv 4) (by with_unfolding_all rfl)) (ak (bJ PassesOwn.never rfl (cq K (pv 2)) (aW 8 sc_law_left.nd) (af (ao 9 sc_law_left.nd (bF (aa (aC c_law_to hr (aa (pv 0) (aa (am (az K) (pv 7) ab (fun _ _=>rfl)) (aa (pv 8) ac)))) (aa (aC c_law_to hr (aa (pv 1) (aa (am (az K) (pv 7) ab (fun _ _=>rfl)) (aa (pv 8) ac)))) ac))))
   (af (ao 10 sc_law_left.nd (pQ (gG b7 (am (az K) (pv 9) ab (fun _ _=>rfl)) aZ (aH _)) (pQ (gG cK (am (az K) (pv 9) ab (fun _ _=>rfl)) aZ (aH _)) (wU (gG bH (pv 5) ab (aH _))))))
   (ak (bd (PW.pt' (ga (fR (pv 10)) (fX (PW.pt' (b6 (ax bH (mo P w hr (pv 4) (pv 9) ab ⟨rfl,rfl,rfl,rfl⟩) (aj lC (pv 5) ab) (aH _)) (cz (ax ye (pv 5) ab (aH _)))))))) (ak (ce (cQ K PySem.F.plainAttrs_list PySem.F.slot_list_append PySem.F.type_list_append bV (pv 6) (aa (pv 7) ac)))) aP)))))) aP)))
   (af (bd (ax (uR K hr) (pv 6) (br ac) (aH _)) (ak (aR (pv 4))) aP)
   (ak (bJ PassesOwn.never rfl (cq K (pv 6)) (aW 7 sc_law_left.nd) (ak (cg (pv 5) (cu (pv 4) (pv 7) (xR P w hr))))))))))
   (ak (aR (pv 4)))))),?_⟩
 walk_at "rd1";refine⟨p,q,wl,r,r',ws,rfl,hR,hR',ok,ok',hw,hwn,fun pl H1 ps s1 hpl hO pi=>?_⟩
 have hlen:=pi.s.len ok ok';walk_at "nx";rw[oW];refine fun dp hdp u hu=>?_
 have s2:=ah hdp u;generalize upd H1 dp u=H2 at s2 hu ⊢;walk_at "nx";obtain⟨ts,t1,t2,t3⟩:=hO.mono s2
 refine⟨_,.inl (SqL.of t1),?_⟩
 rw[List.length_map,t2];refine⟨⟨by decide,by decide,by omega,by omega⟩,?_⟩
 rw[show (((ps.length:Int)+1 - 1)).toNat=ps.length by omega]
 have hts:∀ (k:Nat) (hk:k<ps.length),∃ (hk':k<ts.length),H2 ts[k]=some (.tup [.int ((ps[k]).1:Int),.int ((ps[k]).2:Int)]):=fun k hk=>⟨by omega,t3 k _ _ (List.getElem?_eq_getElem (by omega)) (List.getElem?_eq_getElem hk)⟩
 have hdp1:H1 dp=none:=hdp
 have s02:=s1.trans s2
 refine bU (fun i σ H'=>∃ (kvs:List (bj × V)) (o5 o6 o7 o8 o9 o10:Option V),σ=[some (.ref p),some (.ref q),some (.ref wl),some (.ref pl),some (.ref dp),o5,o6,o7,o8,o9,o10]∧Same H1 H'∧DO P w H' dp kvs∧LfI r r' ws ps i kvs)
  ⟨[],none,none,none,none,none,none,rfl,s2,hu,⟨fun p _ d hd h=>by have:=h.pos; omega,fun k v e=>(by cases e),[],rfl,by simp,fun x hx=>(by cases hx)⟩⟩ ?_ ?_
 rotate_left
 ·rintro σ H' ⟨kvs,o5,o6,o7,o8,o9,o10,rfl,sm,hD,hL⟩
  walk_at "nx";exact fin dp H' kvs ps (s1.trans sm) (s1.free hdp) hD pi (hL.fin fun p hp d hd=>(pi.far hp hd).1)
 rintro i σ H' hi ⟨kvs,o5,o6,o7,o8,o9,o10,rfl,sm,hD,hL⟩
 walk_at "rd1";refine⟨by decide,fun mp hmp=>?_⟩
 have s3:=ah hmp (.lst []);have e3:upd H' mp (.lst []) mp=some (.lst (([]:List Addr).map V.ref)):=ae
 generalize upd H' mp (.lst [])=H3 at s3 e3 ⊢;have hmp1:H1 mp=none:=sm.free hmp
 have hD3:=hD.mono s3;have sm3:=sm.trans s3;obtain⟨ts1,u1,u2,u3⟩:=hO
 have hts1:∀ (k:Nat) (hk:k<ps.length),∃ (hk':k<ts1.length),H1 ts1[k]=some (.tup [.int ((ps[k]).1:Int),.int ((ps[k]).2:Int)]):=fun k hk=>⟨by omega,u3 k _ _ (List.getElem?_eq_getElem (by omega)) (List.getElem?_eq_getElem hk)⟩
 walk_at "nx";refine⟨⟨_,SqL.of (sm3 _ _ u1)⟩,?_⟩
 refine fZ (xs:=ts1.map V.ref) (fun k σ H'=>∃ (ms:List (Nat × Nat)) (o7 o8 o9 o10:Option V),σ=[some (.ref p),some (.ref q),some (.ref wl),some (.ref pl),some (.ref dp),some (.int (1+(i:Int))),some (.ref mp),o7,o8,o9,o10]∧Same H1 H'∧DO P w H' dp kvs∧OrdAt H' mp ms∧ms.length≤32 * k∧(∀ x∈ms,x∈ps∧Dist r r' ws (i+1) x)∧∀ (j:Nat) x,j<k→ps[j]? = some x→Dist r r' ws (i+1) x→x∈ms)
  ⟨[],o7,o8,o9,o10,rfl,sm3,hD3,⟨[],e3,rfl,fun k t p e=>by simp at e⟩,by simp,fun x hx=>(by cases hx),fun j x h=>absurd h (Nat.not_lt_zero _)⟩ (fun k σ H' _ h=>by obtain⟨_,_,_,_,_,_,z,_⟩:=h; exact SqL.of (z _ _ u1)) ?_ ?_
 ·rintro k v σ H' hv ⟨ms,o7,o8,o9,o10,rfl,sx,hDx,hM,hml,hm1,hm2⟩
  have hk:k<ts1.length:=by have:=(List.getElem?_eq_some_iff.mp hv).1; simpa using this
  have hkp:k<ps.length:=by omega
  rw[List.getElem?_map,List.getElem?_eq_getElem hk]at hv
  cases hv;obtain⟨_,etx⟩:=hts1 k hkp
  have etx:=sx _ _ etx;have hpm:ps[k]∈ps:=List.getElem_mem hkp
  obtain⟨hx2,hx3⟩:=pi.s.rch ps[k] hpm
  walk_at "rd1";refine⟨ts1[k],dp,bG ps[k],kvs,rfl,rfl,hDx,etx,?_⟩
  have hkeep:∀ (ms':List (Nat × Nat)),(∀ x∈ms,x∈ms')→(Dist r r' ws (i+1) ps[k]→ps[k]∈ms')→∀ (j:Nat) x,j<k+1→ps[j]? = some x→Dist r r' ws (i+1) x→x∈ms':=fun ms' h1 h2 j x hj hx hd=>by
   rcases Nat.lt_or_ge j k with c | c
   ·exact h1 x (hm2 j x c hx hd)
   ·have:j=k:=by omega
    subst this;rw[List.getElem?_eq_getElem hkp]at hx
    cases hx;exact h2 hd
  cases hval:aF kvs (bG ps[k]) with
  | some v=>
   refine⟨_,rfl,aw (fun c=>absurd c (by simp)) (fun _=>?_)⟩
   refine⟨ms,_,_,_,_,rfl,sx,hDx,hM,by omega,hm1,hkeep ms (fun _ h=>h) fun hd=>?_⟩
   obtain⟨p',d,z1,z2,z3,z4,z5⟩:=hL.b _ _ hval
   rw[dZ z2]at hd
   have:=hd.one z4
   omega
  | none=>
  refine⟨_,rfl,aw (fun _=>?_) (fun c=>absurd (by simp) c)⟩
  have hnd:∀ d,d≤i→¬ Dist r r' ws d ps[k]:=fun d hd z=>by
   have:=hL.a _ hpm d hd z
   rw[hval]at this; cases this
  have hnb:∀ d,d≤i→¬ ci r r' ws d ps[k]:=by
   intro d
   induction d using Nat.strongRecOn with
   | ind d ih=>exact fun hd z=>hnd d hd ⟨z,fun l hl=>ih l hl (by omega)⟩
  refine⟨⟨_,SqL.of ((s1.trans sx) _ _ hw)⟩,?_⟩
  refine fZ (xs:=ws.map V.str) (fun z σ H'=>∃ (ms:List (Nat × Nat)) (o8 o9 o10:Option V),σ=[some (.ref p),some (.ref q),some (.ref wl),some (.ref pl),some (.ref dp),some (.int (1+(i:Int))),some (.ref mp),some (.ref ts1[k]),o8,o9,o10]∧Same H1 H'∧DO P w H' dp kvs∧OrdAt H' mp ms∧ms.length≤32 * k+z∧(∀ x∈ms,x∈ps∧Dist r r' ws (i+1) x)∧(∀ (j:Nat) x,j<k→ps[j]? = some x→Dist r r' ws (i+1) x→x∈ms)∧∀ (j:Nat) y,j<z→ws[j]? = some y→((i=0∧bZ r r' ps[k] y)∨(1≤i∧∃ q',Nxt r r' ps[k] y q'∧Dist r r' ws i q'))→ps[k]∈ms)
   ⟨ms,o8,o9,o10,rfl,sx,hDx,hM,by omega,hm1,hm2,fun j y h=>absurd h (Nat.not_lt_zero _)⟩ (fun z σ H' _ h=>by obtain⟨_,_,_,_,_,g,_⟩:=h; exact SqL.of ((s1.trans g) _ _ hw)) ?_ ?_
  rotate_left
  ·rintro σ H' ⟨ms,o8,o9,o10,rfl,sx,hDx,hM,hml,hm1,hm2,hm3⟩
   rw[List.length_map]at hml hm3
   refine⟨ms,_,_,_,_,rfl,sx,hDx,hM,by omega,hm1,fun j x hj hx hd=>?_⟩
   rcases Nat.lt_or_ge j k with c | c
   ·exact hm2 j x c hx hd
   ·have:j=k:=by omega
    subst this;rw[List.getElem?_eq_getElem hkp]at hx
    cases hx
    cases i with
    | zero=>
     obtain⟨y,hy,z⟩:=hd.1
     obtain⟨j',hj',e⟩:=List.mem_iff_getElem.mp hy
     exact hm3 j' y hj' (by rw[List.getElem?_eq_getElem hj',e]) (.inl ⟨rfl,z⟩)
    | succ i=>
     obtain⟨y,hy,q',hq,z⟩:=hd.step
     obtain⟨j',hj',e⟩:=List.mem_iff_getElem.mp hy
     exact hm3 j' y hj' (by rw[List.getElem?_eq_getElem hj',e]) (.inr ⟨by omega,q',hq,z⟩)
  rintro z v σ H' hv ⟨ms,o8,o9,o10,rfl,sx,hDx,hM,hml,hm1,hm2,hm3⟩
  have hz:z<ws.length:=by have:=(List.getElem?_eq_some_iff.mp hv).1; simpa using this
  rw[List.getElem?_map,List.getElem?_eq_getElem hz]at hv
  cases hv;obtain⟨_,etx⟩:=hts1 k hkp
  have etx:=sx _ _ etx;walk_at "rd1";refine⟨_,_,.inr (SqT.of etx),dn,?_⟩
  refine⟨p,r,(ps[k]).1,ws[z],rfl,hR.mono (s1.trans sx),ok,hx2,?_⟩
  walk_at "rd1";refine⟨_,_,.inr (SqT.of etx),aB (j:=1) rfl,?_⟩
  refine⟨q,r',(ps[k]).2,ws[z],rfl,hR'.mono (s1.trans sx),ok',hx3,?_⟩
  walk_at "rd1";refine⟨by decide,fun tt htt=>?_⟩
  have st:=ah htt (.tup [aA (ar r (ps[k]).1 ws[z]),aA (ar r' (ps[k]).2 ws[z])]);have et:upd H' tt (.tup [aA (ar r (ps[k]).1 ws[z]),aA (ar r' (ps[k]).2 ws[z])]) tt=some (.tup [aA (ar r (ps[k]).1 ws[z]),aA (ar r' (ps[k]).2 ws[z])]):=ae
  generalize upd H' tt (.tup [aA (ar r (ps[k]).1 ws[z]),aA (ar r' (ps[k]).2 ws[z])])=G at st et ⊢;have sxG:=sx.trans st;have hDG:=hDx.mono st;have hMG:=hM.mono st;walk_at "nx";refine⟨_,_,.inr (SqT.of et),dn,?_⟩
  have more:∀ (ms':List (Nat × Nat)),(∀ x∈ms,x∈ms')→(((i=0∧bZ r r' ps[k] ws[z])∨(1≤i∧∃ q',Nxt r r' ps[k] ws[z] q'∧Dist r r' ws i q'))→ps[k]∈ms')→∀ (j:Nat) y,j<z+1→ws[j]? = some y→((i=0∧bZ r r' ps[k] y)∨(1≤i∧∃ q',Nxt r r' ps[k] y q'∧Dist r r' ws i q'))→ps[k]∈ms':=fun ms' h1 h2 j y hj hy hq=>by
   rcases Nat.lt_or_ge j z with c | c
   ·exact h1 _ (hm3 j y c hy hq)
   ·have:j=z:=by omega
    subst this;rw[List.getElem?_eq_getElem hz]at hy
    cases hy;exact h2 hq
  have noKey:∀ (o:Option Int),aF kvs [none,o]=none:=fun o=>by
   cases hv:aF kvs [none,o] with
   | none=>rfl
   | some v=>obtain⟨p',d,_,z2,_⟩:=hL.b _ _ hv; injection z2 with z2 _; cases z2
  have noKey':∀ (o:Option Int),aF kvs [o,none]=none:=fun o=>by
   cases hv:aF kvs [o,none] with
   | none=>rfl
   | some v=>obtain⟨p',d,_,z2,_⟩:=hL.b _ _ hv; injection z2 with _ z2; injection z2 with z2 _; cases z2
  obtain⟨us,a1,a2,a3⟩:=id hMG
  have hMp:=OrdAt.push (t:=ts1[k]) (p:=ps[k]) a1 a2 a3 (st _ _ etx)
  have napp:¬ ((i=0∧bZ r r' ps[k] ws[z])∨(1≤i∧∃ q',Nxt r r' ps[k] ws[z] q'∧Dist r r' ws i q'))→∀ (o10:Option V),∃ (ms:List (Nat × Nat)) (o8 o9 o10':Option V),[some (V.ref p),some (.ref q),some (.ref wl),some (.ref pl),some (.ref dp),some (.int (1+(i:Int))),some (.ref mp),some (.ref ts1[k]),some (.str ws[z]),some (.ref tt),o10]=[some (.ref p),some (.ref q),some (.ref wl),some (.ref pl),some (.ref dp),some (.int (1+(i:Int))),some (.ref mp),some (.ref ts1[k]),o8,o9,o10']∧Same H1 G∧DO P w G dp kvs∧OrdAt G mp ms∧ms.length≤32 * k+(z+1)∧(∀ x∈ms,x∈ps∧Dist r r' ws (i+1) x)∧(∀ (j:Nat) x,j<k→ps[j]? = some x→Dist r r' ws (i+1) x→x∈ms)∧∀ (j:Nat) y,j<z+1→ws[j]? = some y→((i=0∧bZ r r' ps[k] y)∨(1≤i∧∃ q',Nxt r r' ps[k] y q'∧Dist r r' ws i q'))→ps[k]∈ms:=fun h o10=>
   ⟨ms,_,_,_,rfl,sxG,hDG,hMG,by omega,hm1,hm2,more ms (fun _ z=>z) fun z=>absurd z h⟩
  have app:((i=0∧bZ r r' ps[k] ws[z])∨(1≤i∧∃ q',Nxt r r' ps[k] ws[z] q'∧Dist r r' ws i q'))→∀ (o10:Option V),∃ (ms:List (Nat × Nat)) (o8 o9 o10':Option V),[some (V.ref p),some (.ref q),some (.ref wl),some (.ref pl),some (.ref dp),some (.int (1+(i:Int))),some (.ref mp),some (.ref ts1[k]),some (.str ws[z]),some (.ref tt),o10]=[some (.ref p),some (.ref q),some (.ref wl),some (.ref pl),some (.ref dp),some (.int (1+(i:Int))),some (.ref mp),some (.ref ts1[k]),o8,o9,o10']∧Same H1 (upd G mp (.lst (us.map V.ref++[.ref ts1[k]])))∧DO P w (upd G mp (.lst (us.map V.ref++[.ref ts1[k]]))) dp kvs∧OrdAt (upd G mp (.lst (us.map V.ref++[.ref ts1[k]]))) mp ms∧ms.length≤32 * k+(z+1)∧(∀ x∈ms,x∈ps∧Dist r r' ws (i+1) x)∧(∀ (j:Nat) x,j<k→ps[j]? = some x→Dist r r' ws (i+1) x→x∈ms)∧∀ (j:Nat) y,j<z+1→ws[j]? = some y→((i=0∧bZ r r' ps[k] y)∨(1≤i∧∃ q',Nxt r r' ps[k] y q'∧Dist r r' ws i q'))→ps[k]∈ms:=fun h o10=>by
   refine⟨ms++[ps[k]],_,_,_,rfl,sxG.upd hmp1 _,DO.put hDG a1 (fun e=>by obtain⟨ys,g,_⟩:=hDG; rw[e,a1]at g; cases g),hMp,by rw[List.length_append,List.length_singleton]; omega,fun x hx=>?_,fun j x h1 h2 h3=>List.mem_append_left _ (hm2 j x h1 h2 h3),more _ (fun _ z=>List.mem_append_left _ z) fun _=>by simp⟩
   rcases List.mem_append.mp hx with g | g
   ·exact hm1 x g
   ·rw[List.mem_singleton.mp g]
    refine⟨hpm,?_,fun l hl=>hnb l (by omega)⟩
    have hyw:ws[z]∈ws:=List.getElem_mem hz
    rcases h with ⟨rfl,h⟩ | ⟨h1,q',h2,h3⟩
    ·exact⟨ws[z],hyw,h⟩
    ·exact jW hyw h2 h3.1
  have hus:(us.map V.ref).length≤1000000:=by rw[List.length_map,a2]; omega
  cases ea:ar r (ps[k]).1 ws[z] with
  | none=>
   rw[ea]at et
   have nq:¬ ((i=0∧bZ r r' ps[k] ws[z])∨(1≤i∧∃ q',Nxt r r' ps[k] ws[z] q'∧Dist r r' ws i q')):=by
    rintro(⟨_,h⟩ | ⟨_,q',h,_⟩)
    ·exact h.1 ea
    ·have g:=h.1
     rw[ea]at g; cases g
   refine aw (fun c=>absurd c (by simp[aA])) (fun _=>?_)
   walk_at "nx";rw[eY];walk_at "rd1";refine⟨dp,kvs,rfl,hDG,tt,[none,(ar r' (ps[k]).2 ws[z]).map (fun n:Nat=>(n:Int))],kvs,rfl,hDG,by show G tt=some (.tup _); rw[et]; cases ar r' (ps[k]).2 ws[z] <;> rfl,?_⟩
   rw[noKey];show gq (V.int 0) _ _ _
   walk_at "rd1";exact aw (fun c=>aw (fun c2=>absurd c2 (by omega)) (fun _=>napp nq _)) (fun _=>napp nq _)
  | some i'=>
   rw[ea]at et
   refine aw (fun _=>?_) (fun c=>absurd (by simp[aA]) c)
   refine⟨_,_,.inr (SqT.of et),aB (j:=1) rfl,?_⟩
   cases eb:ar r' (ps[k]).2 ws[z] with
   | none=>
    rw[eb]at et
    have hbad:bZ r r' ps[k] ws[z]:=⟨(by rw[ea]; intro z; cases z),eb⟩
    refine aw (fun _=>?_) (fun c=>absurd rfl c)
    walk_at "nx"
    by_cases hi0:i=0
    ·refine aw (fun _=>?_) (fun c=>absurd (by omega) c)
     walk_at "rd1";exact⟨⟨_,SqL.of a1⟩,_,a1,bT hus,app (.inl ⟨hi0,hbad⟩) _⟩
    ·have nq:¬ ((i=0∧bZ r r' ps[k] ws[z])∨(1≤i∧∃ q',Nxt r r' ps[k] ws[z] q'∧Dist r r' ws i q')):=by
      rintro(⟨h,_⟩ | ⟨_,q',h,_⟩)
      ·exact hi0 h
      ·have g:=h.2
       rw[eb]at g; cases g
     refine aw (fun c=>absurd c (by omega)) (fun _=>?_)
     rw[eY];walk_at "rd1";refine⟨dp,kvs,rfl,hDG,tt,[some (i':Int),none],kvs,rfl,hDG,et,?_⟩
     rw[noKey'];show gq (V.int 0) _ _ _
     walk_at "rd1";exact aw (fun c=>absurd c (by omega)) (fun _=>napp nq _)
   | some j'=>
    rw[eb]at et
    have hnx:Nxt r r' ps[k] ws[z] (i',j'):=⟨ea,eb⟩
    have hmem:=pi.cl _ hpm _ (List.getElem_mem hz) _ hnx;refine aw (fun c=>absurd c (by simp[aA])) (fun _=>?_)
    walk_at "nx";rw[eY];walk_at "rd1";refine⟨dp,kvs,rfl,hDG,tt,bG (i',j'),kvs,rfl,hDG,et,?_⟩
    cases hvq:aF kvs (bG (i',j')) with
    | none=>
     have nq:¬ ((i=0∧bZ r r' ps[k] ws[z])∨(1≤i∧∃ q',Nxt r r' ps[k] ws[z] q'∧Dist r r' ws i q')):=by
      rintro(⟨_,h⟩ | ⟨_,q',h,h2⟩)
      ·have g:=h.2
       rw[eb]at g; cases g
      ·rw[h.one hnx]at h2
       have:=hL.a _ hmem i (Nat.le_refl _) h2
       rw[hvq]at this; cases this
     show gq (V.int 0) _ _ _
     walk_at "rd1";exact aw (fun c=>aw (fun c2=>absurd c2 (by omega)) (fun _=>napp nq _)) (fun _=>napp nq _)
    | some v=>
     obtain⟨p',d,z1,z2,z3,z4,z5⟩:=hL.b _ _ hvq
     have ep:=dZ z2;subst z3;rw[← ep]at z4
     have dpos:=z4.pos;show gq (V.int (d:Int)) _ _ _
     walk_at "rd1";refine aw (fun c=>aw (fun c2=>?_) (fun c2=>absurd (by omega) c2)) (fun c=>?_)
     ·have ed:d=i:=by omega
      subst ed;exact⟨⟨_,SqL.of a1⟩,_,a1,bT hus,app (.inr ⟨by omega,(i',j'),hnx,z4⟩) _⟩
     ·refine napp ?_ _
      rintro(⟨_,h⟩ | ⟨_,q',h,h2⟩)
      ·have g:=h.2
       rw[eb]at g; cases g
      ·rw[h.one hnx]at h2
       have:=z4.one h2
       omega
 rintro σ H4 ⟨ms,o7,o8,o9,o10,rfl,sx,hDx,hM,hml,hm1,hm2⟩
 rw[List.length_map]at hml
 obtain⟨us,a1,a2,a3⟩:=id hM
 walk_at "nx";refine⟨by decide,fun ep hep=>?_⟩
 have s5:=ah hep (.lst []);have e5:upd H4 ep (.lst []) ep=some (.lst []):=ae
 generalize upd H4 ep (.lst [])=H5 at s5 e5 ⊢;walk_at "rd1";refine⟨0,_,by decide,mZ (s5 _ _ a1) e5,?_⟩
 have sx5:=sx.trans s5
 by_cases hms:ms=[]
 ·have hul:us.length=0:=by rw[a2,hms]; rfl
  have hus:us.map V.ref=[]:=by rw[List.length_eq_zero_iff.mp hul]; rfl
  rw[decide_eq_true hus];refine aw (fun _=>?_) (fun c=>absurd rfl c)
  refine fin dp H5 kvs ps (s1.trans sx5) (s1.free hdp) (hDx.mono s5) pi (hL.fin fun p hp d hd=>?_)
  refine Nat.le_of_not_lt fun c=>?_
  obtain⟨x,hx,hdx⟩:=(pi.far hp hd).2 (i+1) (by omega) c
  obtain⟨j,hj,e⟩:=List.mem_iff_getElem.mp hx
  have:=hm2 j x (by rw[List.length_map]; omega) (by rw[List.getElem?_eq_getElem hj,e]) hdx
  rw[hms]at this; cases this
 have hus:¬ us.map V.ref=[]:=fun z=>hms (List.length_eq_zero_iff.mp (by rw[← a2]; simpa using z))
 rw[decide_eq_false hus];refine aw (fun c=>absurd c (by decide)) (fun _=>?_)
 walk_at "nx";refine⟨⟨_,SqL.of (s5 _ _ a1)⟩,?_⟩
 have hne:dp≠mp:=fun e=>by obtain⟨ys,g,_⟩:=hDx; rw[e,a1]at g; cases g
 refine fZ (xs:=us.map V.ref) (fun j σ H'=>∃ (kv:List (bj × V)) (o7:Option V),σ=[some (.ref p),some (.ref q),some (.ref wl),some (.ref pl),some (.ref dp),some (.int (1+(i:Int))),some (.ref mp),o7,o8,o9,o10]∧Same H1 H'∧DO P w H' dp kv∧OrdAt H' mp ms∧H' mp=some (.lst (us.map V.ref))∧(∀ x∈ps,∀ d,d≤i→Dist r r' ws d x→aF kv (bG x)=some (.int (d:Int)))∧(∀ k v,aF kv k=some v→∃ x d,x∈ps∧k=bG x∧v=V.int ((d:Nat):Int)∧Dist r r' ws d x∧d≤i+1)∧(∃ ks:List (Nat × Nat),kv.map (·.1)=ks.map bG∧ks.Nodup∧∀ x∈ks,x∈ps)∧∀ (j':Nat) x,j'<j→ms[j']? = some x→aF kv (bG x)=some (.int ((i+1:Nat):Int)))
  ⟨kvs,o7,rfl,sx5,hDx.mono s5,hM.mono s5,s5 _ _ a1,hL.a,fun k v e=>(by obtain⟨x,d,z1,z2,z3,z4,z5⟩:=hL.b k v e; exact⟨x,d,z1,z2,z3,z4,by omega⟩),hL.l,fun j' x h=>absurd h (Nat.not_lt_zero _)⟩ (fun j σ H' _ h=>by obtain⟨_,_,_,_,_,_,g,_⟩:=h; exact SqL.of g) ?_ ?_
 rotate_left
 ·rintro σ H' ⟨kv,o7,rfl,sy,hDy,hMy,_,f1,f2,f3,f4⟩
  rw[List.length_map]at f4
  refine⟨kv,_,_,_,_,_,_,rfl,sy,hDy,fun x hx d hd hdx=>?_,f2,f3⟩
  rcases Nat.lt_or_ge d (i+1) with c | c
  ·exact f1 x hx d (by omega) hdx
  ·have ed:d=i+1:=by omega
   subst ed;obtain⟨j,hj,e⟩:=List.mem_iff_getElem.mp hx
   have hm:=hm2 j x (by rw[List.length_map]; omega) (by rw[List.getElem?_eq_getElem hj,e]) hdx
   obtain⟨j',hj',e'⟩:=List.mem_iff_getElem.mp hm
   exact f4 j' x (by omega) (by rw[List.getElem?_eq_getElem hj',e'])
 rintro j v σ H' hv ⟨kv,o7,rfl,sy,hDy,hMy,hmy,f1,f2,f3,f4⟩
 have hj:j<us.length:=by have:=(List.getElem?_eq_some_iff.mp hv).1; simpa using this
 have hjm:j<ms.length:=by omega
 rw[List.getElem?_map,List.getElem?_eq_getElem hj]at hv
 cases hv
 have etj:H' us[j]=some (.tup [.int ((ms[j]).1:Int),.int ((ms[j]).2:Int)]):=by
  obtain⟨vs,v1,v2,v3⟩:=hMy
  have ev:vs=us:=by
   rw[hmy]at v1
   have:=(HO.lst.inj (Option.some.inj v1))
   exact(List.map_inj_right (fun a b h=>V.ref.inj h)).mp this.symm
  subst ev;exact v3 j _ _ (List.getElem?_eq_getElem hj) (List.getElem?_eq_getElem hjm)
 obtain⟨hxp,hxd⟩:=hm1 ms[j] (List.getElem_mem hjm)
 walk_at "rd1";refine⟨dp,us[j],bG ms[j],kv,rfl,rfl,hDy,etj,?_⟩
 have nt:∀ xs,H' dp≠some (.tup xs):=fun xs z=>by obtain⟨ys,e,_⟩:=hDy; rw[e]at z; cases z
 have e1i:(1+(i:Int))=((i+1:Nat):Int):=by omega
 rw[e1i]
 cases hvj:aF kv (bG ms[j]) with
 | some v=>
  obtain⟨x,d,z1,z2,z3,z4,z5⟩:=f2 _ _ hvj
  rw[dZ z2]at hxd
  have ed:=z4.one hxd;subst ed;subst z3;refine .inr ⟨rfl,fun u' hu'=>?_⟩
  refine⟨kv,_,rfl,sy.upd hdp u',hu',hMy.other (Ne.symm hne) nt,by rw[al (Ne.symm hne)]; exact hmy,f1,f2,f3,fun j' x' hj' hx'=>?_⟩
  rcases Nat.lt_or_ge j' j with c | c
  ·exact f4 j' x' c hx'
  ·have:j'=j:=by omega
   subst this;rw[List.getElem?_eq_getElem hjm]at hx'
   cases hx';exact hvj
 | none=>
  obtain⟨ks,k1,k2,k3⟩:=f3
  have kl:kv.length=ks.length:=by have:=congrArg List.length k1; simpa using this
  have kle:=gZ k2 k3;refine .inl ⟨rfl,bT (by omega),fun u' hu'=>?_⟩
  have hnk:ms[j]∉ks:=fun z=>sw hvj (by rw[k1]; exact List.mem_map.mpr ⟨_,z,rfl⟩)
  refine⟨_,_,rfl,sy.upd hdp u',hu',hMy.other (Ne.symm hne) nt,by rw[al (Ne.symm hne)]; exact hmy,fun x hx d hd hdx=>?_,fun k v e=>?_,⟨ks++[ms[j]],by rw[List.map_append,List.map_append,k1]; rfl,List.nodup_append.mpr ⟨k2,by simp,fun a ha b hb e=>hnk (by rw[List.mem_singleton.mp hb]at e; rw[← e]; exact ha)⟩,fun x hx=>?_⟩,fun j' x' hj' hx'=>?_⟩
  ·rw[g5 hvj]
   by_cases c:bG x=bG ms[j]
   ·rw[dZ c]at hdx
    have:=hxd.one hdx
    omega
   ·rw[if_neg c]; exact f1 x hx d hd hdx
  ·rw[g5 hvj]at e
   by_cases c:k=bG ms[j]
   ·rw[if_pos c]at e
    cases e;exact⟨ms[j],i+1,hxp,c,rfl,hxd,Nat.le_refl _⟩
   ·rw[if_neg c]at e
    exact f2 k v e
  ·rcases List.mem_append.mp hx with z | z
   ·exact k3 x z
   ·rw[List.mem_singleton.mp z]; exact hxp
  ·rw[g5 hvj]
   rcases Nat.lt_or_ge j' j with c | c
   ·by_cases c2:bG x'=bG ms[j]
    ·rw[if_pos c2]
    ·rw[if_neg c2]; exact f4 j' x' c hx'
   ·have:j'=j:=by omega
    subst this;rw[List.getElem?_eq_getElem hjm]at hx'
    cases hx';rw[if_pos rfl]
end
def jr(r r':Rl)(ws:List Str)(H:Hp)(v:V):Prop:=v = .non∧(∀ n,¬ ci r r' ws n (0,0))∨∃ l row,v = .ref l∧H l=some (.lst (row.map V.str))∧Gr r r' ws (0,0) row∧Dist r r' ws row.length (0,0)∧row.length≤4001
def cj(r r':Rl)(ws:List Str)(m:Nat)(x:Nat × Nat)(y:Str):Prop:=(m=0∧bZ r r' x y)∨(1≤m∧∃ q',Nxt r r' x y q'∧Dist r r' ws m q')
theorem Gr.first{r r':Rl}{ws:List Str}{x:Nat × Nat}{y:Str}{R:List Str}(h:Gr r r' ws x (y::R))(hd:Dist r r' ws (R.length+1) x):(∃ p:Nat,ws[p]? = some y∧cj r r' ws R.length x y∧∀ (p':Nat) y',p'<p→ws[p']? = some y'→¬ cj r r' ws R.length x y')∧(R≠[]→∃ q,Nxt r r' x y q∧Gr r r' ws q R∧Dist r r' ws R.length q):=by
 match R,h,hd with
 | [],h,hd=>
  obtain⟨p,h1,h2,h3⟩:=h
  refine⟨⟨p,h1,.inl ⟨rfl,h2⟩,fun p' y' hp hy'=>?_⟩,fun z=>absurd rfl z⟩
  rintro(⟨_,z⟩ | ⟨z,_⟩)
  ·exact h3 p' y' hp hy' z
  ·exact absurd z (by simp)
 | z::R,h,hd=>
  obtain⟨q,h1,⟨p,g1,g2,g3⟩,h3⟩:=h
  have hq:Dist r r' ws (R.length+1) q:=hd.next (List.mem_of_getElem? g1) h1 (Gr.bad (z::R) h3)
  refine⟨⟨p,g1,.inr ⟨by simp,q,h1,hq⟩,fun p' y' hp hy'=>?_⟩,fun _=>⟨q,h1,h3,hq⟩⟩
  rintro(⟨c,_⟩ | ⟨_,q',c1,c2⟩)
  ·exact absurd c (by simp)
  ·exact g3 p' y' hp hy' ⟨q',c1,c2.1⟩
def oU(P:Program)(w:World):Sp:=fun vs H Q _=>∃ (v:V) (p q wl dp:Addr) (r r':Rl) (ws:List Str) (ps:List (Nat × Nat)) (kvs:List (bj × V)),vs=[v,.ref p,.ref q,.ref wl,.ref dp]∧RuleAt H p r∧RuleAt H q r'∧bP r∧bP r'∧H wl=some (.lst (ws.map V.str))∧ws.length≤32∧DO P w H dp kvs∧PrI r r' ws ps∧rl r r' ws ps kvs∧jr r r' ws H v∧∀ H',Same H H'→Q (.bl true) H'
section
variable{P:Program}{w:World}{K:PySem.W.Frag}{mg:Str→Option Value}{base:Heap}
theorem u6(D:DefAt K mg "_law_told" aI) (z_len:mg "len" = none) (z_range:mg "range" = none) (z_isinstance:mg "isinstance" = none) (z_list:mg "list" = none) (z_str:mg "str" = none) (z_reversed:mg "reversed" = none) (c_law_to:bt P w K mg base 1 "_law_to" ["_law_rule", "_law_room", "_law_word"] nD):bt P w K mg base 2 "_law_told" ["_law_found", "_law_one", "_law_other", "_law_words_here", "_law_left_here"] (oU P w):=by
 refine D.cal (k:=1) sc_law_told (fun _ _ _ _ _ _ us hl=>match us,hl with | [_,_,_,_,_],_=>rfl) (fun vs H Q E h=>by obtain⟨_,_,_,_,_,_,_,_,_,_,rfl,_⟩:=h; rfl) (fun f cdv A outer s H vs Q E hr h=>?_)
 obtain⟨v,p,q,wl,dp,r,r',ws,ps,kvs,rfl,hR,hR',ok,ok',hw,hwn,hD,pi,hL,hF,fin⟩:=h
 refine⟨_,(af (bd (ax (hZ P w hr) (bF (aa ab (aa ab ac))) (pv 4) (by with_unfolding_all rfl)) (ak (aR (gG cK (pv 0) aZ (aH _)))) aP)
   (af (bd (PW.pt' (ga (gF (fR (bh i0 z_isinstance eO (aa (pv 0) (aa (lE z_list cw) ac))))) (fX (ax gN (bh (bm K) z_len bO (aa (pv 0) ac)) (am (xX P w hr) (pv 4) (bF (aa ab (aa ab ac))) (fun _ _=>rfl)) (aH _))))) (ak (aR cD)) aP)
   (af (ao 5 sc_law_told.nd (bF (aa ab (aa ab ac))))
   (af (bJ PassesOwn.never rfl (bW z8 z_range (aa (bh (bm K) z_len bO (aa (pv 0) ac)) ac)) (aW 6 sc_law_told.nd) (af (bd (PW.pt' (ga (gF (fR (bh i0 z_isinstance eO (aa (am (az K) (pv 0) (pv 6) (fun _ _=>rfl)) (aa (lE z_str jc) ac))))) (fX (ax (qI K) (am (az K) (pv 0) (pv 6) (fun _ _=>rfl)) (pv 3) (by with_unfolding_all rfl))))) (ak (aR cD)) aP)
   (af (ao 7 sc_law_told.nd aZ)
   (af (bJ PassesOwn.never rfl (vC K zN z_reversed (aa (pv 3) ac)) (aW 8 sc_law_told.nd) (af (ao 9 sc_law_told.nd (bF (aa (aC c_law_to hr (aa (pv 1) (aa (am (az K) (pv 5) ab (fun _ _=>rfl)) (aa (pv 8) ac)))) (aa (aC c_law_to hr (aa (pv 2) (aa (am (az K) (pv 5) ab (fun _ _=>rfl)) (aa (pv 8) ac)))) ac))))
   (af (bd (PW.pt' (b6 (ax bH (aj aK (pv 6) ab) (bh (bm K) z_len bO (aa (pv 0) ac)) (aH _)) (b6 (ax b7 (am (az K) (pv 9) ab (fun _ _=>rfl)) aZ (aH _)) (cz (ax cK (am (az K) (pv 9) ab (fun _ _=>rfl)) aZ (aH _)))))) (ak (ao 7 sc_law_told.nd (pv 8))) aP)
   (ak (bd (PW.pt' (b6 (ax kP (aj aK (pv 6) ab) (bh (bm K) z_len bO (aa (pv 0) ac)) (aH _)) (cz (ax bH (mo P w hr (pv 4) (pv 9) ab ⟨rfl,rfl,rfl,rfl⟩) (aj lC (aj lC (bh (bm K) z_len bO (aa (pv 0) ac)) (pv 6)) ab) (aH _))))) (ak (ao 7 sc_law_told.nd (pv 8))) aP)))))
   (af (bd (ax gN (am (az K) (pv 0) (pv 6) (fun _ _=>rfl)) (pv 7) (aH _)) (ak (aR cD)) aP)
   (ak (ao 5 sc_law_told.nd (bF (aa (aC c_law_to hr (aa (pv 1) (aa (am (az K) (pv 5) ab (fun _ _=>rfl)) (aa (pv 7) ac)))) (aa (aC c_law_to hr (aa (pv 2) (aa (am (az K) (pv 5) ab (fun _ _=>rfl)) (aa (pv 7) ac)))) ac))))))))))
   (ak (aR cD)))))),?_⟩
 walk_at "rd1";refine⟨by decide,fun t0 ht0=>?_⟩
 have s1:=ah ht0 (.tup [V.int 0,V.int 0]);have e1:upd H t0 (.tup [V.int 0,V.int 0]) t0=some (.tup [V.int 0,V.int 0]):=ae
 generalize upd H t0 (.tup [V.int 0,V.int 0])=H1 at s1 e1 ⊢;refine⟨t0,dp,bG (0,0),kvs,rfl,rfl,hD.mono s1,e1,?_⟩
 rcases hF with ⟨rfl,hn⟩ | ⟨l,row,rfl,hl,hG,hd,h4001⟩
 ·have hv:aF kvs (bG (0,0))=none:=by
   cases hv:aF kvs (bG (0,0)) with
   | none=>rfl
   | some v=>
    obtain⟨x,d,_,z2,_,z4⟩:=hL.2 _ _ hv
    rw[← dZ z2]at z4
    exact absurd z4.1 (hn d)
  rw[hv];refine⟨_,rfl,aw (fun _=>?_) (fun c=>absurd (by simp) c)⟩
  walk_at "rd1";exact fin H1 s1
 have hv:=hL.1 (0,0) pi.s.z _ hd;rw[hv];refine⟨_,rfl,aw (fun c=>absurd c (by simp)) (fun _=>?_)⟩
 walk_at "nx";have hl1:=s1 _ _ hl;refine⟨"list", by simp[bN,hl1],by decide,aw (fun c=>absurd c (by decide)) (fun _=>?_)⟩
 refine⟨_,.inl (SqL.of hl1),by decide,fun t2 ht2=>?_⟩
 have s2:=ah ht2 (.tup [V.int 0,V.int 0]);have e2:upd H1 t2 (.tup [V.int 0,V.int 0]) t2=some (.tup [V.int 0,V.int 0]):=ae
 generalize upd H1 t2 (.tup [V.int 0,V.int 0])=H2 at s2 e2 ⊢;have s02:=s1.trans s2;refine⟨dp,t2,bG (0,0),kvs,V.int (row.length:Int),rfl,rfl,hD.mono s02,e2,hv,?_⟩
 rw[List.length_map];walk_at "rd1";refine aw (fun c=>absurd c (by decide)) (fun _=>?_)
 walk_at "nx";refine⟨by decide,fun t3 ht3=>?_⟩
 have s3:=ah ht3 (.tup [V.int 0,V.int 0]);have e3:upd H2 t3 (.tup [V.int 0,V.int 0]) t3=some (.tup [V.int 0,V.int 0]):=ae
 generalize upd H2 t3 (.tup [V.int 0,V.int 0])=H3 at s3 e3 ⊢;have s03:=s02.trans s3;walk_at "nx";refine⟨_,.inl (SqL.of (s03 _ _ hl)),?_⟩
 rw[List.length_map];refine⟨by omega,by omega,?_⟩
 rw[Int.toNat_natCast]
 refine bU (fun k σ H'=>∃ (tx:Addr) (o6 o7 o8 o9:Option V),σ=[some (.ref l),some (.ref p),some (.ref q),some (.ref wl),some (.ref dp),some (.ref tx),o6,o7,o8,o9]∧Same H H'∧(k<row.length→∃ x:Nat × Nat,H' tx=some (.tup [.int (x.1:Int),.int (x.2:Int)])∧x∈ps∧Gr r r' ws x (row.drop k)∧Dist r r' ws (row.length - k) x))
  ⟨t3,none,none,none,none,rfl,s03,fun _=>⟨(0,0),e3,pi.s.z,hG,hd⟩⟩ ?_ ?_
 rotate_left
 ·rintro σ H' ⟨tx,o6,o7,o8,o9,rfl,sm,_⟩
  walk_at "nx";exact fin H' sm
 rintro k σ H' hk ⟨tx,o6,o7,o8,o9,rfl,sm,hx⟩
 obtain⟨x,etx,hxp,hGx,hdx⟩:=hx hk
 rw[List.drop_eq_getElem_cons hk]at hGx
 have hRl:(row.drop (k+1)).length=row.length - k - 1:=by rw[List.length_drop]; omega
 have hdx':Dist r r' ws ((row.drop (k+1)).length+1) x:=by rw[hRl,show row.length - k - 1+1=row.length - k by omega]; exact hdx
 obtain⟨⟨pp,hpp,hqual,hfirst⟩,hnext⟩:=hGx.first hdx'
 rw[hRl]at hqual hfirst hnext
 obtain⟨hx2,hx3⟩:=pi.s.rch x hxp
 have hll:=sm _ _ hl;have atk:ck (row.map V.str) (0+(k:Int))=some (V.str row[k]):=by rw[Int.zero_add]; exact aB (by rw[List.getElem?_map,List.getElem?_eq_getElem hk]; rfl)
 walk_at "rd1";refine⟨_,_,.inl (SqL.of hll),atk,?_⟩
 have hin:row[k]∈ws:=List.mem_of_getElem? hpp
 refine⟨"str", rfl,by decide,aw (fun c=>absurd c (by decide)) (fun _=>?_)⟩
 refine⟨_,_,.inl (SqL.of hll),atk,_,.inl (SqL.of (sm _ _ hw)),rfl,j6 _,?_⟩
 rw[mP];refine aw (fun c=>absurd hin (by simpa using c)) (fun _=>?_)
 walk_at "nx";walk_at "nx";refine⟨_,SqL.of (sm _ _ hw),?_⟩
 have noKey:∀ (o:Option Int),aF kvs [none,o]=none:=fun o=>by
  cases hv:aF kvs [none,o] with
  | none=>rfl
  | some v=>obtain⟨p',d,_,z2,_⟩:=hL.2 _ _ hv; injection z2 with z2 _; cases z2
 have noKey':∀ (o:Option Int),aF kvs [o,none]=none:=fun o=>by
  cases hv:aF kvs [o,none] with
  | none=>rfl
  | some v=>obtain⟨p',d,_,z2,_⟩:=hL.2 _ _ hv; injection z2 with _ z2; injection z2 with z2 _; cases z2
 refine sV (xs:=ws.map V.str) (fun z σ H'=>∃ (due:V) (o8 o9:Option V),σ=[some (.ref l),some (.ref p),some (.ref q),some (.ref wl),some (.ref dp),some (.ref tx),some (.int (0+(k:Int))),some due,o8,o9]∧Same H H'∧H' tx=some (.tup [.int (x.1:Int),.int (x.2:Int)])∧((∃ (j:Nat) (y:Str),ws.length - z≤j∧ws[j]? = some y∧cj r r' ws (row.length - k - 1) x y∧due = .str y∧∀ (j':Nat) y',ws.length - z≤j'→j'<j→ws[j']? = some y'→¬ cj r r' ws (row.length - k - 1) x y')∨∀ (j':Nat) y',ws.length - z≤j'→ws[j']? = some y'→¬ cj r r' ws (row.length - k - 1) x y'))
  ⟨.non,o8,o9,rfl,sm,etx,.inr fun j' y' h1 h2=>absurd (List.getElem?_eq_some_iff.mp h2).1 (by omega)⟩ (fun z σ H' _ h=>by obtain⟨_,_,_,_,g,_⟩:=h; exact SqL.of (g _ _ hw)) ?_ ?_
 rotate_left
 ·rintro σ H' ⟨due,o8,o9,rfl,sx,etx,hdue⟩
  rw[List.length_map]at hdue
  have hdue':due = .str row[k]:=by
   rcases hdue with ⟨j,y,_,h2,h3,h4,h5⟩ | h
   ·rcases Nat.lt_trichotomy j pp with c | c | c
    ·exact absurd h3 (hfirst j y c h2)
    ·rw[c,hpp]at h2
     cases h2; exact h4
    ·exact absurd hqual (h5 pp _ (by omega) c hpp)
   ·exact absurd hqual (h pp _ (by omega) hpp)
  subst hdue';walk_at "nx";refine⟨_,_,.inl (SqL.of (sx _ _ hl)),atk,?_⟩
  walk_at "rd1";refine aw (fun c=>absurd c (by simp)) (fun _=>?_)
  walk_at "nx";refine⟨_,_,.inr (SqT.of etx),dn,?_⟩
  refine⟨p,r,x.1,row[k],rfl,hR.mono sx,ok,hx2,?_⟩
  walk_at "rd1";refine⟨_,_,.inr (SqT.of etx),aB (j:=1) rfl,?_⟩
  refine⟨q,r',x.2,row[k],rfl,hR'.mono sx,ok',hx3,?_⟩
  walk_at "rd1";refine⟨by decide,fun tt htt=>?_⟩
  have st:=ah htt (.tup [aA (ar r x.1 row[k]),aA (ar r' x.2 row[k])]);refine⟨tt,_,_,_,_,rfl,sx.trans st,fun hk2=>?_⟩
  have hne:row.drop (k+1)≠[]:=fun e=>by have:=congrArg List.length e; rw[hRl]at this; simp at this; omega
  obtain⟨q',n1,n2,n3⟩:=hnext hne
  refine⟨q',by rw[ae,n1.1,n1.2]; rfl,pi.cl x hxp _ hin _ n1,n2,by rw[show row.length - (k+1)=row.length - k - 1 by omega]; exact n3⟩
 rintro z v σ H' hz hv ⟨due,o8,o9,rfl,sx,etx,hdue⟩
 rw[List.length_map]at hz hv
 have hj:ws.length - 1 - z<ws.length:=by omega
 rw[List.getElem?_map,List.getElem?_eq_getElem hj]at hv
 cases hv;generalize hJ:ws.length - 1 - z=J at hj;walk_at "rd1";refine⟨_,_,.inr (SqT.of etx),dn,?_⟩
 refine⟨p,r,x.1,ws[J],rfl,hR.mono sx,ok,hx2,?_⟩
 walk_at "rd1";refine⟨_,_,.inr (SqT.of etx),aB (j:=1) rfl,?_⟩
 refine⟨q,r',x.2,ws[J],rfl,hR'.mono sx,ok',hx3,?_⟩
 walk_at "rd1";refine⟨by decide,fun tt htt=>?_⟩
 have st:=ah htt (.tup [aA (ar r x.1 ws[J]),aA (ar r' x.2 ws[J])]);have et:upd H' tt (.tup [aA (ar r x.1 ws[J]),aA (ar r' x.2 ws[J])]) tt=some (.tup [aA (ar r x.1 ws[J]),aA (ar r' x.2 ws[J])]):=ae
 generalize upd H' tt (.tup [aA (ar r x.1 ws[J]),aA (ar r' x.2 ws[J])])=G at st et ⊢;have sxG:=sx.trans st;have hDG:=hD.mono sxG;have etxG:=st _ _ etx;walk_at "nx";have hJz:ws.length - (z+1)=J:=by omega
 have yes:cj r r' ws (row.length - k - 1) x ws[J]→∀ (o8 o9:Option V),∃ (due:V) (o8' o9':Option V),[some (V.ref l),some (.ref p),some (.ref q),some (.ref wl),some (.ref dp),some (.ref tx),some (.int (0+(k:Int))),some (.str ws[J]),o8,o9]=[some (.ref l),some (.ref p),some (.ref q),some (.ref wl),some (.ref dp),some (.ref tx),some (.int (0+(k:Int))),some due,o8',o9']∧Same H G∧G tx=some (.tup [.int (x.1:Int),.int (x.2:Int)])∧((∃ (j:Nat) (y:Str),ws.length - (z+1)≤j∧ws[j]? = some y∧cj r r' ws (row.length - k - 1) x y∧due = .str y∧∀ (j':Nat) y',ws.length - (z+1)≤j'→j'<j→ws[j']? = some y'→¬ cj r r' ws (row.length - k - 1) x y')∨∀ (j':Nat) y',ws.length - (z+1)≤j'→ws[j']? = some y'→¬ cj r r' ws (row.length - k - 1) x y'):=fun h o8 o9=>
  ⟨_,_,_,rfl,sxG,etxG,.inl ⟨J,ws[J],by omega,List.getElem?_eq_getElem hj,h,rfl,fun j' y' h1 h2=>by omega⟩⟩
 have no:¬ cj r r' ws (row.length - k - 1) x ws[J]→∀ (o8 o9:Option V),∃ (due':V) (o8' o9':Option V),[some (V.ref l),some (.ref p),some (.ref q),some (.ref wl),some (.ref dp),some (.ref tx),some (.int (0+(k:Int))),some due,o8,o9]=[some (.ref l),some (.ref p),some (.ref q),some (.ref wl),some (.ref dp),some (.ref tx),some (.int (0+(k:Int))),some due',o8',o9']∧Same H G∧G tx=some (.tup [.int (x.1:Int),.int (x.2:Int)])∧((∃ (j:Nat) (y:Str),ws.length - (z+1)≤j∧ws[j]? = some y∧cj r r' ws (row.length - k - 1) x y∧due' = .str y∧∀ (j':Nat) y',ws.length - (z+1)≤j'→j'<j→ws[j']? = some y'→¬ cj r r' ws (row.length - k - 1) x y')∨∀ (j':Nat) y',ws.length - (z+1)≤j'→ws[j']? = some y'→¬ cj r r' ws (row.length - k - 1) x y'):=fun h o8 o9=>by
  have step:∀ (j':Nat) y',ws.length - (z+1)≤j'→ws[j']? = some y'→(ws.length - z≤j'→¬ cj r r' ws (row.length - k - 1) x y')→¬ cj r r' ws (row.length - k - 1) x y':=fun j' y' h1 h2 h3=>by
   rcases Nat.lt_or_ge j' (ws.length - z) with c | c
   ·have:j'=J:=by omega
    subst this;rw[List.getElem?_eq_getElem hj]at h2
    cases h2; exact h
   ·exact h3 c
  refine⟨_,_,_,rfl,sxG,etxG,?_⟩
  rcases hdue with ⟨j,y,h1,h2,h3,h4,h5⟩ | h1
  ·exact .inl ⟨j,y,by omega,h2,h3,h4,fun j' y' g1 g2 g3=>step j' y' g1 g3 fun c=>h5 j' y' c g2 g3⟩
  ·exact .inr fun j' y' g1 g2=>step j' y' g1 g2 fun c=>h1 j' y' c g2
 clear hdue hfirst;have hlG:=sxG _ _ hl;refine⟨_,.inl (SqL.of hlG),?_⟩
 rw[List.length_map]
 by_cases hend:k+1=row.length
 ·have hm:row.length - k - 1=0:=by omega
  refine aw (fun _=>?_) (fun c=>absurd (by omega) c)
  refine⟨_,_,.inr (SqT.of et),dn,?_⟩
  cases ea:ar r x.1 ws[J] with
  | none=>
   have nq:¬ cj r r' ws (row.length - k - 1) x ws[J]:=by
    rw[hm];rintro(⟨_,h⟩ | ⟨h,_⟩)
    ·exact h.1 ea
    ·exact absurd h (by simp)
   refine aw (fun c=>absurd c (by simp[aA])) (fun _=>?_)
   walk_at "nx";refine⟨_,.inl (SqL.of hlG),?_⟩
   rw[List.length_map];refine aw (fun c=>absurd c (by omega)) (fun _=>?_)
   exact no nq _ _
  | some i'=>
   refine aw (fun _=>?_) (fun c=>absurd (by simp[aA]) c)
   refine⟨_,_,.inr (SqT.of et),aB (j:=1) rfl,?_⟩
   cases eb:ar r' x.2 ws[J] with
   | none=>
    refine aw (fun _=>?_) (fun c=>absurd rfl c)
    walk_at "nx";refine⟨_,.inl (SqL.of hlG),?_⟩
    rw[List.length_map];refine aw (fun c=>absurd c (by omega)) (fun _=>?_)
    exact yes (.inl ⟨hm,(by rw[ea]; intro z; cases z),eb⟩) _ _
   | some j'=>
    have nq:¬ cj r r' ws (row.length - k - 1) x ws[J]:=by
     rw[hm];rintro(⟨_,h⟩ | ⟨h,_⟩)
     ·have g:=h.2
      rw[eb]at g; cases g
     ·exact absurd h (by simp)
    refine aw (fun c=>absurd c (by simp[aA])) (fun _=>?_)
    walk_at "nx";refine⟨_,.inl (SqL.of hlG),?_⟩
    rw[List.length_map];refine aw (fun c=>absurd c (by omega)) (fun _=>?_)
    exact no nq _ _
 have hm1:1≤row.length - k - 1:=by have:=hk; omega
 refine aw (fun c=>absurd c (by omega)) (fun _=>?_)
 walk_at "nx";refine⟨_,.inl (SqL.of hlG),?_⟩
 rw[List.length_map];refine aw (fun _=>?_) (fun c=>absurd (by omega) c)
 rw[eY];walk_at "rd1"
 cases ea:ar r x.1 ws[J] with
 | none=>
  rw[ea]at et
  have nq:¬ cj r r' ws (row.length - k - 1) x ws[J]:=by
   rintro(⟨h,_⟩ | ⟨_,q',h,_⟩)
   ·omega
   ·have g:=h.1
    rw[ea]at g; cases g
  refine⟨dp,kvs,rfl,hDG,tt,[none,(ar r' x.2 ws[J]).map (fun n:Nat=>(n:Int))],kvs,rfl,hDG,by show G tt=some (.tup _); rw[et]; cases ar r' x.2 ws[J] <;> rfl,?_⟩
  rw[noKey];refine⟨_,.inl (SqL.of hlG),?_⟩
  rw[List.length_map];show gq (V.int 0) _ _ _
  walk_at "rd1";exact aw (fun c=>absurd c (by omega)) (fun _=>no nq _ _)
 | some i'=>
  rw[ea]at et
  cases eb:ar r' x.2 ws[J] with
  | none=>
   rw[eb]at et
   have nq:¬ cj r r' ws (row.length - k - 1) x ws[J]:=by
    rintro(⟨h,_⟩ | ⟨_,q',h,_⟩)
    ·omega
    ·have g:=h.2
     rw[eb]at g; cases g
   refine⟨dp,kvs,rfl,hDG,tt,[some (i':Int),none],kvs,rfl,hDG,et,?_⟩
   rw[noKey'];refine⟨_,.inl (SqL.of hlG),?_⟩
   rw[List.length_map];show gq (V.int 0) _ _ _
   walk_at "rd1";exact aw (fun c=>absurd c (by omega)) (fun _=>no nq _ _)
  | some j'=>
   rw[eb]at et
   have hnx:Nxt r r' x ws[J] (i',j'):=⟨ea,eb⟩
   have hmem:=pi.cl _ hxp _ (List.getElem_mem hj) _ hnx;refine⟨dp,kvs,rfl,hDG,tt,bG (i',j'),kvs,rfl,hDG,et,?_⟩
   refine⟨_,.inl (SqL.of hlG),?_⟩
   rw[List.length_map]
   cases hvq:aF kvs (bG (i',j')) with
   | none=>
    have nq:¬ cj r r' ws (row.length - k - 1) x ws[J]:=by
     rintro(⟨h,_⟩ | ⟨_,q',h,h2⟩)
     ·omega
     ·rw[h.one hnx]at h2
      have:=hL.1 _ hmem _ h2
      rw[hvq]at this; cases this
    show gq (V.int 0) _ _ _
    walk_at "rd1";exact aw (fun c=>absurd c (by omega)) (fun _=>no nq _ _)
   | some v=>
    obtain⟨p',d,z1,z2,z3,z4⟩:=hL.2 _ _ hvq
    have ep:=dZ z2;subst z3;rw[← ep]at z4
    show gq (V.int (d:Int)) _ _ _
    walk_at "rd1";refine aw (fun c=>?_) (fun c=>?_)
    ·have ed:d=row.length - k - 1:=by omega
     subst ed;exact yes (.inr ⟨hm1,(i',j'),hnx,z4⟩) _ _
    ·refine no ?_ _ _
     rintro(⟨h,_⟩ | ⟨_,q',h,h2⟩)
     ·omega
     ·rw[h.one hnx]at h2
      have:=z4.one h2
      omega
end
def T(x:Str):List Nat:=x.cps.toList
theorem eX(x y:Str):T (x++y)=T x++T y:=by
 show (x.cps++y.cps).toList=_
 simp[T]
theorem bA(x:Str):(T x).length=x.length:=by simp[T,Str.length]
section
variable{P:Program}{w:World}{K:PySem.W.Frag}{mg:Str→Option Value}{base:Heap}
theorem uU{n d:Nat}{z:Int}(h:0≤z):HT.sIx n d (some z)=min z.toNat n:=by
 have e:=HT.sIx_nat n d z.toNat
 rwa [show ((z.toNat:Nat):Int)=z by omega]at e
theorem lH{x:Str}{z:Int}(h0:0≤z)(h:z≤x.length):(Txt.slice x none (some z)).length=z.toNat:=by
 have e:=congrArg List.length (kn x none (some z));have hn:x.cps.toList.length=x.length:=by simp[Str.length]
 rw[List.length_take,List.length_drop,hn]at e
 have e2:(Txt.slice x none (some z)).length=(Txt.slice x none (some z)).cps.toList.length:=by simp[Str.length]
 rw[e2,e,uU h0,HT.sIx_none,Nat.min_eq_left (show z.toNat≤x.length by omega),Nat.sub_zero,Nat.sub_zero,Nat.min_eq_left (show z.toNat≤x.length by omega)]
theorem ju(x:Str)(lo:Option Int)(hi:Option Int):(Txt.slice x lo hi).length≤x.length:=by
 have e:=congrArg List.length (kn x lo hi);have hn:x.cps.toList.length=x.length:=by simp[Str.length]
 rw[List.length_take,List.length_drop,hn]at e
 have e2:(Txt.slice x lo hi).length=(Txt.slice x lo hi).cps.toList.length:=by simp[Str.length]
 rw[e2,e];exact Nat.le_trans (Nat.min_le_right _ _) (Nat.sub_le _ _)
theorem uB(y:Str):(Txt.slice y none (some 8)).length≤8:=by
 rcases Nat.lt_or_ge y.length 8 with c | c
 ·have:=ju y none (some 8)
  omega
 ·rw[lH (by decide) (by omega)]; decide
def dM(z:Int):Nat:=letters.cps.toList.getD (z % 26).toNat 0
theorem g7(z:Int):letters.length≤sizeLine∧ck letters.cps.toList (z % 26)=some (dM z):=by
 have hz:(z % 26).toNat<letters.cps.toList.length:=by
  show (z % 26).toNat<26
  omega
 refine⟨by decide,?_⟩
 have q:=aB (List.getElem?_eq_getElem hz);rw[show (((z % 26).toNat:Nat):Int)=z % 26 by omega]at q
 rw[q];unfold dM;rw[List.getD_eq_getElem?_getD,List.getElem?_eq_getElem hz]; rfl
def lg:Sp:=fun vs H Q _=>∃ (c:Int) (n:Nat) (sd:Int),vs=[.int c,.int n,.int sd]∧n≤8∧(sd=1∨sd=2)∧∀ (p:Addr) (H':Hp) (ss:List Str),Same H H'→H p=none→H' p=some (.lst (ss.map V.str))→ss.length=n→(∀ x∈ss,x.length≤8)→Q (.ref p) H'
theorem og(D:DefAt K mg "_law_words" aD) (z_range:mg "range" = none) (z_int:mg "int" = none) (z_str:mg "str" = none) (c_law_mixed:bt P w K mg base 1 "_law_mixed" ["_law_cell", "_law_many"] iD):bt P w K mg base 2 "_law_words" ["_law_cell", "_law_many", "_law_sides"] lg:=by
 refine D.cal sc_law_words (fun _ _ _ _ _ _ us hl=>match us,hl with | [_,_,_],_=>rfl) (fun vs H Q E h=>by obtain⟨c,n,sd,rfl,_⟩:=h; rfl) (fun f cdv A outer s H vs Q E hr h=>?_)
 obtain⟨c,n,sd,rfl,n26,hsd,q⟩:=h
 refine⟨_,(af (ao 3 sc_law_words.nd eF)
   (af (ao 4 sc_law_words.nd (aC c_law_mixed hr (aa (pv 0) (aa ab ac))))
   (af (ao 5 sc_law_words.nd (aj aK ab (aj aM (am (az K) (pv 4) ab (fun _ _=>rfl)) ab)))
   (af (ao 6 sc_law_words.nd (aj aM (am (az K) (pv 4) ab (fun _ _=>rfl)) (pv 5)))
   (af (ao 7 sc_law_words.nd (br ac))
   (af (bJ PassesOwn.never rfl (bW yA z_range (aa (pv 1) ac)) (aW 8 sc_law_words.nd) (af (ao 9 sc_law_words.nd eF)
   (af (bJ PassesOwn.never rfl (bW yA z_range (aa (pv 5) ac)) (aW 10 sc_law_words.nd) (ak (ao 9 sc_law_words.nd (aj aK (pv 9) (am (az K) (pv 3) (aj aM (aj aK (am (az K) (pv 4) (aj aK ab (pv 10)) (fun _ _=>rfl)) (aj cG (pv 8) (bR p7 z_int wD (aa (gG bH (pv 10) (pv 6) (aH _)) ac)))) ab) (fun _ _=>rfl))))))
   (af (bd (ax bH (aj aM (aj bL (am (az K) (pv 4) ab (fun _ _=>rfl)) ab) ab) ab (aH _)) (ak (ao 9 sc_law_words.nd (aj aK (hU qB (pv 9) gP (cH (aj aK ab (pv 8)))) eF))) aP)
   (af (bd (ax bH (pv 2) ab (aH _)) (ak (ao 9 sc_law_words.nd (aj aK (aj aK (bR iu z_str jc (aa (aj aK ab (aj aM (aj bL (am (az K) (pv 4) (aj aK ab (pv 8)) (fun _ _=>rfl)) ab) ab)) ac)) eF) (pv 9)))) aP)
   (ak (ce (cQ K PySem.F.plainAttrs_list PySem.F.slot_list_append PySem.F.type_list_append bV (pv 7) (aa (hU qB (pv 9) gP (cH ab)) ac)))))))))
   (ak (aR (pv 7))))))))),?_⟩
 walk_at "rd1";walk_at "nx";refine⟨c,10,rfl,by decide,by decide,fun xp H1 ms sm1 hxp hxl hxn hxb=>?_⟩
 have item:∀ {H':Hp} (i:Nat),Same H1 H'→i<10→∃ xs,(SqL K H' xp xs∨SqT K H' xp xs)∧ck xs (i:Int)=some (.int (ms.getD i 0)):=fun {H'} i sm h1=>
  ⟨_,.inl (SqL.of (sm _ _ hxl)),aB (by rw[List.getElem?_map,List.getD_eq_getElem?_getD,List.getElem?_eq_getElem (by omega)]; rfl)⟩
 walk_at "nx";obtain⟨xs,h1,h2⟩:=item 0 (Same.refl H1) (by decide)
 refine⟨xs,_,h1,h2,?_⟩
 walk_at "rd1";refine⟨by decide,?_⟩
 have hsz0:∃ z:Nat,1+ms.getD 0 0 % 8=(z:Int)∧1≤z∧z≤8:=⟨(1+ms.getD 0 0 % 8).toNat,by omega,by omega,by omega⟩
 obtain⟨sz,esz,sz0,sz1⟩:=hsz0
 rw[esz];walk_at "nx";obtain⟨xs,h1,h2⟩:=item 9 (Same.refl H1) (by decide)
 refine⟨xs,_,h1,h2,?_⟩
 walk_at "rd1";refine⟨by omega,?_⟩
 have hat0:∃ z:Nat,ms.getD 9 0 % (sz:Int)=(z:Int)∧z<sz:=⟨(ms.getD 9 0 % (sz:Int)).toNat,by have:=Int.emod_nonneg (ms.getD 9 0) (show (sz:Int)≠0 by omega); omega,by have:=Int.emod_lt_of_pos (ms.getD 9 0) (show (0:Int)<sz by omega); have:=Int.emod_nonneg (ms.getD 9 0) (show (sz:Int)≠0 by omega); omega⟩
 obtain⟨at',eat,hat⟩:=hat0
 rw[eat];walk_at "nx";refine⟨by decide,fun p hp=>?_⟩
 generalize hH2:upd H1 p _=H2
 have sm2:=uY hH2 hp;have e2:=x6 hH2;walk_at "nx";refine⟨by omega,by omega,?_⟩
 refine bU (fun i σ H'=>∃ (ss:List Str) (o7 o8 o9:Option V),σ=[some (.int c),some (.int n),some (.int sd),some (.str letters),some (.ref xp),some (.int sz),some (.int at'),some (.ref p),o7,o8,o9]∧Same H1 H'∧H' p=some (.lst (ss.map V.str))∧ss.length=i∧∀ x∈ss,x.length≤8)
  ⟨[],none,none,none,rfl,sm2,e2,rfl,by simp⟩ ?_ ?_
 ·rintro i σ H' hi ⟨ss,o7,o8,o9,rfl,sm,hl,hsn,hsl⟩
  rw[Int.toNat_natCast]at hi
  walk_at "rd1";walk_at "nx";refine⟨by omega,by omega,?_⟩
  refine bU (fun j σ H2=>∃ (x:Str) (o8:Option V),σ=[some (.int c),some (.int n),some (.int sd),some (.str letters),some (.ref xp),some (.int sz),some (.int at'),some (.ref p),some (.int (0+(i:Int))),some (.str x),o8]∧H'=H2∧x.length=j)
   ⟨_,_,rfl,rfl,rfl⟩ ?_ ?_
  ·rintro j σ H2 hj ⟨x,o8,rfl,rfl,hx⟩
   rw[Int.toNat_natCast]at hj
   walk_at "rd1";obtain⟨xs,h1,h2⟩:=item (1+j) sm (by omega)
   rw[show ((1+j:Nat):Int)=1+(0+(j:Int)) by omega]at h2
   refine⟨xs,_,h1,h2,.inl ⟨by omega,by omega⟩,?_⟩
   walk_at "rd1";obtain⟨l1,l2⟩:=g7 (ms.getD (1+j) 0+(0+(i:Int)) * if 0+(j:Int)=(at':Int) then 1 else 0)
   refine⟨by decide,_,l1,l2,?_,x++⟨#[dM (ms.getD (1+j) 0+(0+(i:Int)) * if 0+(j:Int)=(at':Int) then 1 else 0)]⟩,_,rfl,?_⟩
   ·show x.length+1≤sizeLine
    exact bg (by omega)
   ·rw[sv,hx]
  ·rintro σ H2 ⟨x,o8,rfl,rfl,hx⟩
   rw[Int.toNat_natCast]at hx
   dsimp only
   have nb:(Str.ofString "b").length=1:=by decide +kernel
   refine eM (fun σ' H2=>∃ (y:Str),σ'=[some (.int c),some (.int n),some (.int sd),some (.str letters),some (.ref xp),some (.int sz),some (.int at'),some (.ref p),some (.int (0+(i:Int))),some (.str y),o8]∧H'=H2∧y.length≤9) (fun k hk=>?_) ?_
   ·obtain⟨xs,h1,h2⟩:=item 9 sm (by decide)
    walk_at "rd1";refine⟨xs,_,h1,h2,?_⟩
    walk_at "rd1";refine⟨⟨by decide,by decide⟩,by decide,aw (fun _=>?_) (fun _=>hk _ _ ⟨x,rfl,rfl,by omega⟩)⟩
    have hsl2:=ju x none (some (1+(0+(i:Int))));refine⟨bg (by omega),by rw[nb]; exact bg (by omega),?_⟩
    exact hk _ _ ⟨_,rfl,rfl,by rw[← bA,eX,List.length_append,bA,bA,nb]; omega⟩
   rintro σ' H2 ⟨x,rfl,rfl,hx⟩
   refine eM (fun σ' H2=>∃ (y:Str),σ'=[some (.int c),some (.int n),some (.int sd),some (.str letters),some (.ref xp),some (.int sz),some (.int at'),some (.ref p),some (.int (0+(i:Int))),some (.str y),o8]∧H'=H2∧y.length≤11) (fun k hk=>?_) ?_
   ·rcases hsd with rfl | rfl
    ·walk_at "rd1"
     refine aw (fun c=>absurd c (by decide)) (fun _=>?_)
     exact hk _ _ ⟨x,rfl,rfl,by omega⟩
    ·walk_at "rd1"
     obtain⟨xs,h1,h2⟩:=item (1+i) sm (by omega)
     rw[show ((1+i:Nat):Int)=1+(0+(i:Int)) by omega]at h2
     refine⟨xs,_,h1,h2,?_⟩
     walk_at "rd1";have hd:1+ms.getD (1+i) 0 / 64 % 2=1∨1+ms.getD (1+i) 0 / 64 % 2=2:=by omega
     have hl1:(Str.ofString (toString (1+ms.getD (1+i) 0 / 64 % 2))).length=1:=by rcases hd with e | e <;> rw[e] <;> decide +kernel
     have hlg:(1+ms.getD (1+i) 0 / 64 % 2).natAbs.log2<1920:=by rcases hd with e | e <;> rw[e] <;> decide +kernel
     have hdot:(Str.ofString ".").length=1:=by decide +kernel
     have hpre:(Str.ofString (toString (1+ms.getD (1+i) 0 / 64 % 2))++Str.ofString ".").length=2:=by rw[← bA,eX,List.length_append,bA,bA,hl1,hdot]
     refine⟨⟨by decide,by decide⟩,by decide,hlg,by rw[hl1,hdot]; exact bg (by decide),by rw[hpre]; exact bg (by omega),?_⟩
     exact hk _ _ ⟨_,rfl,rfl,by rw[← bA,eX,List.length_append,bA,bA,hpre]; omega⟩
   rintro σ' H2 ⟨y,rfl,rfl,hy⟩
   walk_at "nx";refine⟨⟨_,SqL.of hl⟩,bg (by omega),_,hl,by rw[List.length_map]; exact bT (by omega),?_⟩
   refine⟨ss++[Txt.slice y none (some 8)],_,_,_,rfl,sm.upd hp _,by rw[ae,List.map_append]; rfl,by simp[hsn],fun z hz=>?_⟩
   rcases List.mem_append.mp hz with z' | z'
   ·exact hsl z z'
   ·rw[List.mem_singleton.mp z']; exact uB y
 ·rintro σ H' ⟨ss,o7,o8,o9,rfl,sm,hl,hsn,hsl⟩
  rw[Int.toNat_natCast]at hsn
  walk_at "nx";exact q p H' ss (sm1.trans sm) (sm1.free hp) hl hsn hsl
end
structure NR (H H':Hp) (mp:Addr) (rs:List (List (Option Nat))) (as:List Addr):Prop where
 at':RoomsAs H' mp rs as
 new:∀ a∈as,H a=none∧a≠mp
 nd:as.Nodup
theorem sP(l:List Int)(c:Int)(h:l.length=4)(hb:∀ x∈l,0<x∧x<1073741824):∃ v,ck (l.map V.int) (c % 4)=some (.int v)∧0<v∧v<1073741824:=by
 obtain⟨v,hv,_⟩:=xM (xs:=l) (i:=c % 4) (by omega) (by omega)
 exact⟨v,qo (by omega) hv,(hb v (List.mem_of_getElem? hv)).1,(hb v (List.mem_of_getElem? hv)).2⟩
theorem tZ{xs:List V}{i:Nat}(h:i<xs.length):ix xs.length (0+(i:Int))=some i:=by
 unfold ix;rw[if_pos (by omega),if_pos (by omega)]
 congr 1
 omega
section
variable{P:Program}{w:World}{K:PySem.W.Frag}{mg:Str→Option Value}{base:Heap}
def m4(K:PySem.W.Frag):Sp:=fun vs H Q _=>∃ (cp:Addr) (cs:List Int) (sz mn:Nat) (c:Int),vs=[.ref cp,.int sz,.int mn,.int c]∧SqL K H cp (cs.map V.int)∧1≤sz∧sz≤6∧mn≤3∧∀ (p:Addr) (H':Hp) (as:List Addr) (rs:List (List (Option Nat))),Same H H'→H p=none→NR H H' p rs as→rs.length=sz→(∀ x∈rs,x.length=mn∧∀ k,some k∈x→k<sz)→Q (.ref p) H'
theorem qW(D:DefAt K mg "_law_rooms" av) (z_range:mg "range" = none) (z_len:mg "len" = none) (z_min:mg "min" = none) (c_law_mixed:bt P w K mg base 1 "_law_mixed" ["_law_cell", "_law_many"] iD) (c_law_way:bt P w K mg base 1 "_law_way" ["_law_number", "_law_share", "_law_many"] tX):bt P w K mg base 2 "_law_rooms" ["_law_cells", "_law_size", "_law_many", "_law_cell"] (m4 K):=by
 refine D.cal sc_law_rooms (fun _ _ _ _ _ _ us hl=>match us,hl with | [_,_,_,_],_=>rfl) (fun vs H Q E h=>by obtain⟨_,_,_,_,_,rfl,_⟩:=h; rfl) (fun f cdv A outer s H vs Q E hr h=>?_)
 obtain⟨cp,cs,sz,mn,c,rfl,hcs,z0,z1,m1,q⟩:=h
 refine⟨_,(af (ao 4 sc_law_rooms.nd (am (az K) (br (aa ab (aa ab (aa ab (aa ab ac))))) (aj aM (pv 3) ab) (fun _ _=>rfl)) (hx:=Bg))
   (af (ao 5 sc_law_rooms.nd (aC c_law_mixed hr (aa (pv 3) (aa (aj cG (pv 2 (hv:=xj)) (pv 1 (hv:=rQ))) ac))) (hx:=BL))
   (af (bJ PassesOwn.never rfl (bW yy z_range (aa (bh pW z_min wB (aa (bh (bm K) z_len bO (aa (pv 0) ac)) (aa (aj cG (pv 2 (hv:=xj)) (pv 1 (hv:=rQ))) ac))) ac)) (aW 6 sc_law_rooms.nd) (ak (cg (aj aM (am (az K) (pv 0) (pv 6) (fun _ _=>rfl)) ab) (cu (pv 5 (hv:=AE)) (pv 6) jo))))
   (ak (aR (qP (CompScO.to (fsc:=(defScope av)) (N:=["_law_cells", "_law_size", "_law_many", "_law_cell", "_law_share", "_law_xs", "_law_k"]) (N0:=["_law_cells", "_law_size", "_law_many", "_law_cell", "_law_share", "_law_xs", "_law_k"]) (T:=["_law_r"]) ⟨by decide +kernel,by decide +kernel,by decide +kernel,by decide +kernel,by decide +kernel,by decide +kernel⟩ rfl rfl) rfl (bW yy z_range (aa (pv 1 (hv:=rQ)) ac)) (fun _ _ _ _=>(aW 7 (show (["_law_cells", "_law_size", "_law_many", "_law_cell", "_law_share", "_law_xs", "_law_k", "_law_r"]:List Str).Nodup from by decide +kernel) (hx:=(yh (defScope av) (by decide +kernel))) (hf:=yW (defScope av) (by decide +kernel)))) (cX (show (["_law_cells", "_law_size", "_law_many", "_law_cell", "_law_share", "_law_xs", "_law_k"]:List Str).length≤7 from by decide)) (fun _ _ _ _=>cV) (fun _ _ _ _=>(gO (CompSc.to (fsc:=(aV _ (defScope av))) (N:=["_law_cells", "_law_size", "_law_many", "_law_cell", "_law_share", "_law_xs", "_law_k", "_law_r"]) (N0:=["_law_cells", "_law_size", "_law_many", "_law_cell", "_law_share", "_law_xs", "_law_k", "_law_r"]) (T:=["_law_j"]) ⟨by decide +kernel,by decide +kernel,by decide +kernel,by decide +kernel,by decide +kernel,by decide +kernel,by decide +kernel⟩ rfl rfl) rfl (bW (z7 (defScope av) (by decide +kernel)) z_range (aa (pv 2 (hv:=(ya (defScope av) (by decide +kernel)))) ac)) (fun _ _ _ _=>(aW 8 (show (["_law_cells", "_law_size", "_law_many", "_law_cell", "_law_share", "_law_xs", "_law_k", "_law_r", "_law_j"]:List Str).Nodup from by decide +kernel) (hx:=(jB (aV _ (defScope av)) (e:=rfl) (by decide +kernel))) (hf:=nr (aV _ (defScope av)) (e:=rfl) (by decide +kernel)))) (cX (show (["_law_cells", "_law_size", "_law_many", "_law_cell", "_law_share", "_law_xs", "_law_k", "_law_r"]:List Str).length≤8 from by decide)) (fun _ _ _ _=>cV) (fun _ _ _ _=>(aC c_law_way hr (aa (am (az K) (pv 5 (hv:=(cO (aV _ (defScope av)) (e:=rfl) (by decide +kernel)))) (aj aK (aj cG (pv 2 (hv:=(cO (aV _ (defScope av)) (e:=rfl) (by decide +kernel)))) (pv 7 (hv:=(cO (aV _ (defScope av)) (e:=rfl) (by decide +kernel))))) (pv 8 (hv:=(cO (aV _ (defScope av)) (e:=rfl) (by decide +kernel))))) (fun _ _=>rfl)) (aa (pv 4 (hv:=(cO (aV _ (defScope av)) (e:=rfl) (by decide +kernel)))) (aa (pv 1 (hv:=(cO (aV _ (defScope av)) (e:=rfl) (by decide +kernel)))) ac))) (hg:=(v8 (aV _ (defScope av)) (e:=rfl) (by decide +kernel))))))))))))),?_⟩
 walk_at "rd1";refine⟨by decide,fun sp hsp=>?_⟩
 have s1:=ah hsp (.lst [V.int 4,V.int 9,V.int 19,V.int 101]);have e1:upd H sp (.lst [V.int 4,V.int 9,V.int 19,V.int 101]) sp=some (.lst ([4,9,19,101].map V.int)):=ae
 generalize upd H sp (.lst [V.int 4,V.int 9,V.int 19,V.int 101])=H1 at s1 e1 ⊢;obtain⟨sh,hsh,sh0,sh1⟩:=sP [4,9,19,101] c rfl (by decide)
 refine⟨by decide,_,_,.inl (SqL.of e1),hsh,?_⟩
 walk_at "nx";have hmz:(mn:Int) * sz=((mn * sz:Nat):Int):=by simp
 have hmz9:mn * sz≤18:=Nat.le_trans (Nat.mul_le_mul m1 z1) (by decide)
 refine⟨.inl ⟨by omega,by omega⟩,_,_,rfl,by rw[hmz]; omega,by rw[hmz]; omega,fun xp H2 ms s2 hxp hxl hxn hxb=>?_⟩
 walk_at "nx";have hcs2:=(s1.trans s2).seq hcs;refine⟨_,.inl hcs2,.inl ⟨by omega,by omega⟩,?_⟩
 have hb:∃ b:Nat,(if (mn:Int) * sz<((cs.map V.int).length:Int) then (mn:Int) * sz else ((cs.map V.int).length:Int))=(b:Int)∧b≤mn * sz∧b≤cs.length:=by
  rw[hmz,List.length_map];split
  ·exact⟨mn * sz,rfl,Nat.le_refl _,by omega⟩
  ·exact⟨cs.length,rfl,by omega,Nat.le_refl _⟩
 obtain⟨b,eb,hb1,hb2⟩:=hb
 rw[eb];have hxn':ms.length=mn * sz:=by rw[hmz]at hxn; omega
 refine⟨by omega,by omega,?_⟩
 refine bU (fun i σ H'=>∃ (ms':List Int) (o6:Option V),σ=[some (.ref cp),some (.int sz),some (.int mn),some (.int c),some (.int sh),some (.ref xp),o6]∧Same H H'∧H' xp=some (.lst (ms'.map V.int))∧ms'.length=mn * sz) ⟨ms,none,rfl,s1.trans s2,hxl,hxn'⟩ ?_ ?_
 ·rintro i σ H' hi ⟨ms',o6,rfl,sm,hl,hn⟩
  rw[Int.toNat_natCast]at hi
  walk_at "rd1"
  have hat:ck (cs.map V.int) (0+(i:Int))=some (.int (cs.getD i 0)):=by
   rw[Int.zero_add];exact aB (by rw[List.getElem?_map,List.getD_eq_getElem?_getD,List.getElem?_eq_getElem (by omega)]; rfl)
  refine⟨_,_,.inl (sm.seq hcs),hat,?_⟩
  walk_at "rd1";exact⟨by decide,_,i,hl,tZ (by rw[List.length_map]; omega),ms'.set i (cs.getD i 0 % 998244353),_,rfl,sm.upd (s1.free hxp) _,by rw[ae,List.map_set],by rw[List.length_set]; exact hn⟩
 rintro σ H3 ⟨ms',o6,rfl,s3,hl3,hn3⟩
 walk_at "nx";refine⟨by omega,by omega,fun L hL=>?_⟩
 refine iS (fun i ys H'=>∃ (as:List Addr) (rs:List (List (Option Nat))),Same H3 H'∧H' L=some (.lst ys)∧ys=as.map V.ref∧as.length=i∧rs.length=i∧(∀ (k:Nat) a x,as[k]? = some a→rs[k]? = some x→H' a=some (.lst (x.map aA))∧a≠L)∧(∀ a∈as,H3 a=none)∧as.Nodup∧∀ x∈rs,x.length=mn∧∀ k,some k∈x→k<sz) ⟨[],[],ah hL _,ae,rfl,rfl,rfl,by simp,by simp,List.nodup_nil,by simp⟩ ?_ ?_
 ·rintro i ys H' hi ⟨as,rs,sm,hl,rfl,hal,hrl,has,hfr,hnd,hrs⟩
  have hi':i<sz:=by omega
  walk_at "rd1";refine⟨by omega,by omega,fun L2 hL2=>?_⟩
  have nL:L2≠L:=Ne.symm (aE hl hL2)
  refine iS (fun j ys H''=>∃ x:List (Option Nat),Same H' H''∧H'' L2=some (.lst ys)∧ys=x.map aA∧x.length=j∧∀ k,some k∈x→k<sz) ⟨[],ah hL2 _,ae,rfl,rfl,by simp⟩ ?_ ?_
  ·rintro j ys H'' hj ⟨x,smx,hlx,rfl,hx,hxk⟩
   have hj':j<mn:=by omega
   have hix:mn * i+j<ms'.length:=by
    rw[hn3]
    calc mn * i+j<mn * i+mn:=by omega
     _=mn * (i+1):=by rw[Nat.mul_add,Nat.mul_one]
     _≤mn * sz:=Nat.mul_le_mul_left _ hi'
   have hat:ck (ms'.map V.int) ((mn:Int) * (0+(i:Int))+(0+(j:Int)))=some (.int ms'[mn * i+j]):=by
    rw[show (mn:Int) * (0+(i:Int))+(0+(j:Int))=((mn * i+j:Nat):Int) by simp]
    exact aB (by rw[List.getElem?_map,List.getElem?_eq_getElem hix]; rfl)
   walk_at "rd1";refine⟨.inl ⟨by omega,by omega⟩,_,_,.inl (SqL.of ((sm.trans smx) _ _ hl3)),hat,?_⟩
   refine⟨_,sh,sz,rfl,sh0,sh1,by omega,by omega,fun o ho=>?_⟩
   exact iL (by omega) (by rw[List.length_map]; exact hx) (bg (by omega)) hlx ⟨x++[o],smx.upd hL2 _,ae,by simp,by simp[hx],fun k hk=>by
    rcases List.mem_append.mp hk with z | z
    ·exact hxk k z
    ·have:=ho k (List.mem_singleton.mp z).symm
     omega⟩
  rintro ys H'' ⟨x,smx,hlx,rfl,hx,hxk⟩
  refine iL (by omega) (by rw[List.length_map]; exact hal) (bg (by omega)) (smx _ _ hl) ⟨as++[L2],rs++[x],(sm.trans smx).upd hL _,ae,by simp,by simp[hal],by simp[hrl],fun k a y e1 e2=>?_,fun a ha=>?_,?_,fun y hy=>?_⟩
  ·by_cases hk:k<as.length
   ·rw[List.getElem?_append_left hk]at e1
    rw[List.getElem?_append_left (by omega)]at e2
    obtain⟨g1,g2⟩:=has k a y e1 e2
    exact⟨by rw[al g2]; exact smx _ _ g1,g2⟩
   ·have hk':k=as.length:=by have:=(List.getElem?_eq_some_iff.mp e1).1; simp at this; omega
    subst hk';rw[List.getElem?_append_right (Nat.le_refl _)]at e1
    rw[show as.length=rs.length by omega,List.getElem?_append_right (Nat.le_refl _)]at e2
    simp at e1 e2
    subst e1 e2;exact⟨by rw[al nL]; exact hlx,nL⟩
  ·rcases List.mem_append.mp ha with z | z
   ·exact hfr a z
   ·rw[List.mem_singleton.mp z]; exact sm.free hL2
  ·refine List.nodup_append.mpr ⟨hnd,by simp,fun x hx y hy e=>?_⟩
   rw[List.mem_singleton.mp hy]at e
   obtain⟨i',hi',e'⟩:=List.mem_iff_getElem.mp hx
   have z:=(has i' x _ (by rw[List.getElem?_eq_getElem hi',e']) (List.getElem?_eq_getElem (by omega))).1
   rw[e,hL2]at z; cases z
  ·rcases List.mem_append.mp hy with z | z
   ·exact hrs y z
   ·rw[List.mem_singleton.mp z]; exact⟨by omega,hxk⟩
 rintro ys H4 ⟨as,rs,sm,hl,rfl,hal,hrl,has,hfr,hnd,hrs⟩
 refine q L H4 as rs (s3.trans sm) (s3.free hL) ⟨⟨hl,by omega,fun i a x e1 e2=>(has i a x e1 e2).1⟩,fun a ha=>⟨s3.free (hfr a ha),fun z=>?_⟩,hnd⟩ (by omega) hrs
 obtain⟨i',hi',e'⟩:=List.mem_iff_getElem.mp ha
 exact(has i' a _ (by rw[List.getElem?_eq_getElem hi',e']) (List.getElem?_eq_getElem (by omega))).2 z
end
theorem rR(xs:List V)(i j:Nat):g8 xs (some (i:Int)) (some (j:Int))=(xs.take j).drop i:=by
 unfold g8;rw[HT.sIx_nat,HT.sIx_nat,List.drop_take];rcases Nat.lt_or_ge xs.length i with h | h
 ·rw[List.drop_eq_nil_of_le (by omega),List.drop_eq_nil_of_le (by omega)]; simp
 ·rcases Nat.lt_or_ge xs.length j with h2 | h2
  ·rw[show min i xs.length=i by omega,show min j xs.length=xs.length by omega,List.take_of_length_le (by simp),List.take_of_length_le (by simp; omega)]
  ·rw[show min i xs.length=i by omega,show min j xs.length=j by omega]
theorem ii(xs:List V)(lo n:Nat)(hn:1≤n):(eE xs (some (lo:Int)) none (some (n:Int))).length≤xs.length:=by
 unfold eE;refine Nat.le_trans (List.length_filterMap_le _ _) ?_
 have hb:∃ st:Int,0≤st∧sliceBounds (some (lo:Int)) none (some (n:Int)) xs.length=(st,(xs.length:Int),(n:Int)):=by
  refine⟨max 0 (min (lo:Int) xs.length),by omega,?_⟩
  have hn':(n:Int)>0:=by omega
  show (_,_,_)=_
  simp only[sliceBounds,Option.getD_some,hn',if_true]
  rw[if_neg (by omega)]
 obtain⟨st,h0,e⟩:=hb
 rw[e];unfold sliceRange;rw[List.length_map,List.length_range]
 dsimp only
 rw[if_pos (by omega)]
 split
 ·rename_i h
  have:((xs.length:Int) - st+n - 1) / n≤xs.length - st:=by
   refine Int.le_of_lt_add_one (Int.ediv_lt_of_lt_mul (by omega) ?_)
   have h1:((xs.length:Int) - st+1) * n=((xs.length:Int) - st) * n+n:=by rw[Int.add_mul,Int.one_mul]
   have h2:((xs.length:Int) - st) * 1≤((xs.length:Int) - st) * n:=Int.mul_le_mul_of_nonneg_left (by omega) (by omega)
   rw[h1];omega
  omega
 ·simp
theorem kt{ns:List Int}{lo hi st:Option Int}:∃ cs:List Int,eE (ns.map V.int) lo hi st=cs.map V.int:=by
 have h:∀ vs:List V,(∀ v∈vs,v∈ns.map V.int)→∃ cs:List Int,vs=cs.map V.int:=by
  intro vs
  induction vs with
  | nil=>exact fun _=>⟨[],rfl⟩
  | cons v vs ih=>
   intro h
   obtain⟨cs,e⟩:=ih fun u hu=>h u (List.mem_cons_of_mem _ hu)
   obtain⟨z,_,e2⟩:=List.mem_map.mp (h v List.mem_cons_self)
   exact⟨z::cs,by rw[e,← e2]; rfl⟩
 exact h _ fun v hv=>rL hv
theorem RoomsAs.setRow{H:Hp}{p c:Addr}{rs:List (List (Option Nat))}{as:List Addr}{i:Nat}{y:List (Option Nat)}(h:RoomsAs H p rs as)(nd:as.Nodup)(hp:p∉as)(hc:as[i]? = some c):RoomsAs (upd H c (.lst (y.map aA))) p (rs.set i y) as:=by
 obtain⟨h1,h2,h3⟩:=h
 have hm:=List.mem_of_getElem? hc;refine⟨by rw[al (show p≠c from fun z=>hp (by rw[z]; exact hm))]; exact h1,by rw[List.length_set]; exact h2,fun k a x e1 e2=>?_⟩
 by_cases ek:k=i
 ·subst ek
  rw[hc]at e1; cases e1
  have hk:k<rs.length:=by have:=(List.getElem?_eq_some_iff.mp hc).1; omega
  rw[List.getElem?_set_self hk]at e2
  cases e2;exact ae
 ·rw[List.getElem?_set_ne (Ne.symm ek)]at e2
  have na:a≠c:=fun z=>by
   subst z;obtain⟨x1,f1⟩:=List.getElem?_eq_some_iff.mp hc
   obtain⟨x2,f2⟩:=List.getElem?_eq_some_iff.mp e1
   exact ek ((List.getElem_inj nd).mp (f2.trans f1.symm))
  rw[al na]; exact h3 k a x e1 e2
section
variable{P:Program}{w:World}{K:PySem.W.Frag}{mg:Str→Option Value}{base:Heap}
theorem yd{A B:Prop}[Decidable A][Decidable B]{X Y:Prop}(h:A∨B→X)(h':¬ (A∨B)→Y):if A then X else if B then X else Y:=by
 by_cases a:A
 ·rw[if_pos a]; exact h (.inl a)
 ·rw[if_neg a]
  by_cases b:B
  ·rw[if_pos b]; exact h (.inr b)
  ·rw[if_neg b]; exact h' fun c=>c.elim a b
structure xQ (r r':Rl):Prop where
 ok:bP r
 ok':bP r'
 nd:r.ws.Nodup
 nd':r'.ws.Nodup
 s:r.s=r'.s
 w3:r.ws.length≤3
 w3':r'.ws.length≤3
def tJ(K:PySem.W.Frag):Sp:=fun vs H Q _=>∃ (a:Addr) (ns:List Int),vs=[.ref a]∧SqL K H a (ns.map V.int)∧ns.length≤63∧∀ (t p q:Addr) (H':Hp) (r r':Rl),Same H H'→H' t=some (.tup [.ref p,.ref q])→RuleAt H' p r→RuleAt H' q r'→xQ r r'→Q (.ref t) H'
theorem xc(D:DefAt K mg "_law_two" ap) (z_range:mg "range" = none) (z_len:mg "len" = none) (z_sorted:mg "sorted" = none) (z_set:mg "set" = none) (z_list:mg "list" = none) (c_law_cell_at:bt P w K mg base 1 "_law_cell_at" ["_law_script", "_law_k"] (ja K)) (c_law_mixed:bt P w K mg base 1 "_law_mixed" ["_law_cell", "_law_many"] iD) (c_law_words:bt P w K mg base 2 "_law_words" ["_law_cell", "_law_many", "_law_sides"] lg) (c_law_rooms:bt P w K mg base 2 "_law_rooms" ["_law_cells", "_law_size", "_law_many", "_law_cell"] (m4 K)):bt P w K mg base 3 "_law_two" ["_law_script"] (tJ K):=by
 refine D.cal sc_law_two (fun _ _ _ _ _ _ us hl=>match us,hl with | [_],_=>rfl) (fun vs H Q E h=>by obtain⟨_,_,rfl,_⟩:=h; rfl) (fun f cdv A outer s H vs Q E hr h=>?_)
 obtain⟨a,ns,rfl,hS,h63,fin⟩:=h
 refine⟨_,(af (ao 1 sc_law_two.nd (aC c_law_cell_at hr (aa (pv 0) (aa ab ac))))
   (af (ao 2 sc_law_two.nd (aj aK ab (aj aM (pv 1) ab)))
   (af (ao 3 sc_law_two.nd (aC c_law_words hr (aa (aj bL (aC c_law_cell_at hr (aa (pv 0) (aa ab ac))) ab) (aa ab (aa (pv 2) ac)))))
   (af (ao 4 sc_law_two.nd (bh (dI w hr) z_sorted cY (aa (bR (gu K w hr) z_set ie (aa (hU (kM K) (pv 3) gP (cH (aj aM (aj bL (pv 1) ab) ab))) ac)) ac)))
   (af (ao 5 sc_law_two.nd (aj aM (aj bL (pv 1) ab) ab))
   (af (ao 6 sc_law_two.nd (bh (dI w hr) z_sorted cY (aa (bR (gu K w hr) z_set ie (aa (hU (kM K) (pv 3) (cH (pv 5)) (cH (aj aK (pv 5) (aj aM (aj bL (pv 1) ab) ab)))) ac)) ac)))
   (af (ao 7 sc_law_two.nd (br (aa (aj aK ab (aj aM (aj bL (aC c_law_cell_at hr (aa (pv 0) (aa ab ac))) ab) ab)) (aa (aj aK ab (aj aM (aj bL (aC c_law_cell_at hr (aa (pv 0) (aa ab ac))) ab) ab)) ac))))
   (af (ao 8 sc_law_two.nd (aC c_law_rooms hr (aa (j5 K (pv 0) (cH ab) gP (cH ab)) (aa (am (az K) (pv 7) ab (fun _ _=>rfl)) (aa (bh (bm K) z_len bO (aa (pv 4) ac)) (aa (aC c_law_cell_at hr (aa (pv 0) (aa ab ac))) ac))))))
   (af (ao 9 sc_law_two.nd (bF (aa (pv 2) (aa (pv 4) (aa (pv 8) ac)))))
   (af (ao 10 sc_law_two.nd (aj aM (aC c_law_cell_at hr (aa (pv 0) (aa ab ac))) ab))
   (af (bd (PW.pt' (ga (ax bH (pv 10) ab (aH _)) (fX (ax bH (pv 10) ab (aH _))))) (af (ao 11 sc_law_two.nd (aC c_law_mixed hr (aa (aC c_law_cell_at hr (aa (pv 0) (aa ab ac))) (aa (aj cG (bh (bm K) z_len bO (aa (pv 4) ac)) (am (az K) (pv 7) ab (fun _ _=>rfl))) ac))))
   (af (nO (CompSc.to (fsc:=(defScope ap)) (N:=["_law_script", "_law_first", "_law_sides", "_law_some", "_law_ones", "_law_step", "_law_others", "_law_sizes", "_law_rooms_here", "_law_one", "_law_way_here", "_law_xs", "_law_k", "_law_r"]) (N0:=["_law_script", "_law_first", "_law_sides", "_law_some", "_law_ones", "_law_step", "_law_others", "_law_sizes", "_law_rooms_here", "_law_one", "_law_way_here", "_law_xs", "_law_k", "_law_r"]) (T:=["_law_room"]) ⟨by decide +kernel,by decide +kernel,by decide +kernel,by decide +kernel,by decide +kernel,by decide +kernel,by decide +kernel⟩ rfl rfl) rfl sc_law_two.nd (i:=8) rfl AT (cq K (pv 8)) (fun _ _ _ _=>(aW 14 (show (["_law_script", "_law_first", "_law_sides", "_law_some", "_law_ones", "_law_step", "_law_others", "_law_sizes", "_law_rooms_here", "_law_one", "_law_way_here", "_law_xs", "_law_k", "_law_r", "_law_room"]:List Str).Nodup from by decide +kernel) (hx:=(jB (defScope ap) (by decide +kernel))) (hf:=nr (defScope ap) (by decide +kernel)))) (cX (show (["_law_script", "_law_first", "_law_sides", "_law_some", "_law_ones", "_law_step", "_law_others", "_law_sizes", "_law_rooms_here", "_law_one", "_law_way_here", "_law_xs", "_law_k", "_law_r"]:List Str).length≤14 from by decide)) (fun _ _ _ _=>cV) (fun _ _ _ _=>(bR (eV K) z_list cw (aa (pv 14 (hv:=(cO (defScope ap) (by decide +kernel)))) ac) (hg:=(v8 (defScope ap) (by decide +kernel))))))
   (af (bJ PassesOwn.never rfl (bW A3 z_range (aa (bh (bm K) z_len bO (aa (pv 11) ac)) ac)) (aW 12 sc_law_two.nd) (af (ao 13 sc_law_two.nd (aj bL (pv 12) (bh (bm K) z_len bO (aa (pv 4) ac))))
   (af (bd (PW.pt' (b6 (ax bH (pv 10) ab (aH _)) (cz (ax bH (aj aM (am (az K) (pv 11) (pv 12) (fun _ _=>rfl)) ab) ab (aH _))))) (ak (cg aZ (cu (am (az K) (pv 8) (pv 13) (fun _ _=>rfl)) (aj aM (pv 12) (bh (bm K) z_len bO (aa (pv 4) ac))) jo))) aP)
   (ak (bd (PW.pt' (b6 (ax bH (pv 10) ab (aH _)) (cz (ax cK (am (az K) (am (az K) (pv 8) (pv 13) (fun _ _=>rfl)) (aj aM (pv 12) (bh (bm K) z_len bO (aa (pv 4) ac))) (fun _ _=>rfl)) aZ (aH _))))) (ak (cg (aj aM (am (az K) (pv 11) (pv 12) (fun _ _=>rfl)) (am (az K) (pv 7) ab (fun _ _=>rfl))) (cu (am (az K) (pv 8) (pv 13) (fun _ _=>rfl)) (aj aM (pv 12) (bh (bm K) z_len bO (aa (pv 4) ac))) jo))) aP)))))
   (ak (aR (bF (aa (pv 9) (aa (bF (aa (pv 2) (aa (bR (eV K) z_list cw (aa (pv 4) ac)) (aa (pv 8) ac)))) ac)))))))) aP)
   (ak (aR (bF (aa (pv 9) (aa (bF (aa (pv 2) (aa (pv 6) (aa (aC c_law_rooms hr (aa (j5 K (pv 0) (cH ab) gP (cH ab)) (aa (am (az K) (pv 7) ab (fun _ _=>rfl)) (aa (bh (bm K) z_len bO (aa (pv 6) ac)) (aa (aC c_law_cell_at hr (aa (pv 0) (aa ab ac))) ac))))) ac)))) ac)))))))))))))))),?_⟩
 walk_at "rd1";refine⟨a,ns,0,rfl,hS,by decide,?_⟩
 generalize ns.getD (0:Int).toNat 0=fi
 walk_at "nx";refine⟨by decide,?_⟩
 obtain⟨sd,esd,hsd⟩ : ∃ sd:Int,1+fi % 2=sd∧(sd=1∨sd=2):=⟨_,rfl,by omega⟩
 rw[esd];walk_at "nx";refine⟨a,ns,1,rfl,hS,by decide,?_⟩
 walk_at "rd1";generalize ns.getD (1:Int).toNat 0=c1
 refine⟨⟨by decide,by decide⟩,_,6,_,rfl,by decide,hsd,fun wp H1 ss s1 hwp ew hsl hs8=>?_⟩
 walk_at "nx";refine⟨⟨by decide,by decide⟩,by decide,_,SqL.of ew,fun k1 hk1=>?_⟩
 obtain⟨m0,em0,hm0⟩ : ∃ z:Nat,fi / 2 % 4=(z:Int)∧z≤3:=⟨(fi / 2 % 4).toNat,by omega,by omega⟩
 rw[em0,uq,← List.map_take];have s2:=ah hk1 (.lst ((ss.take m0).map V.str));have e2:upd H1 k1 (.lst ((ss.take m0).map V.str)) k1=some (.lst ((ss.take m0).map V.str)):=ae
 generalize upd H1 k1 (.lst ((ss.take m0).map V.str))=H2 at s2 e2 ⊢;refine⟨k1,_,rfl,SqL.of e2,by simp; omega,fun sp ds hsp hds hda hdl=>?_⟩
 have s3:=ah hsp (bY w sp ds);have e3:upd H2 sp (bY w sp ds) sp=some (bY w sp ds):=ae
 generalize upd H2 sp (bY w sp ds)=H3 at s3 e3 ⊢;refine⟨sp,ds,rfl,e3,by simp at hdl; omega,fun w1 ts1 hw1 pm1 so1=>?_⟩
 have s4:=ah hw1 (.lst (ts1.map V.str));have e4:upd H3 w1 (.lst (ts1.map V.str)) w1=some (.lst (ts1.map V.str)):=ae
 generalize upd H3 w1 (.lst (ts1.map V.str))=H4 at s4 e4 ⊢;walk_at "nx";refine⟨⟨by decide,by decide⟩,by decide,?_⟩
 obtain⟨st,est,hst⟩ : ∃ z:Nat,fi / 32 % 4=(z:Int)∧z≤3:=⟨(fi / 32 % 4).toNat,by omega,by omega⟩
 rw[est];have s14:=s2.trans (s3.trans s4);walk_at "nx";refine⟨⟨by decide,by decide⟩,by decide,_,SqL.of (s14 _ _ ew),fun k2 hk2=>?_⟩
 obtain⟨m1,em1,hm1⟩ : ∃ z:Nat,fi / 8 % 4=(z:Int)∧z≤3:=⟨(fi / 8 % 4).toNat,by omega,by omega⟩
 rw[em1,show (st:Int)+(m1:Int)=((st+m1:Nat):Int) by omega,rR,← List.map_take,← List.map_drop]
 have s5:=ah hk2 (.lst (((ss.take (st+m1)).drop st).map V.str));have e5:upd H4 k2 (.lst (((ss.take (st+m1)).drop st).map V.str)) k2=some (.lst (((ss.take (st+m1)).drop st).map V.str)):=ae
 generalize upd H4 k2 (.lst (((ss.take (st+m1)).drop st).map V.str))=H5 at s5 e5 ⊢;refine⟨k2,_,rfl,SqL.of e5,by simp; omega,fun sp' ds' hsp' hds' hda' hdl'=>?_⟩
 have s6:=ah hsp' (bY w sp' ds');have e6:upd H5 sp' (bY w sp' ds') sp'=some (bY w sp' ds'):=ae
 generalize upd H5 sp' (bY w sp' ds')=H6 at s6 e6 ⊢;refine⟨sp',ds',rfl,e6,by simp at hdl'; omega,fun w2 ts2 hw2 pm2 so2=>?_⟩
 have s7:=ah hw2 (.lst (ts2.map V.str));have e7:upd H6 w2 (.lst (ts2.map V.str)) w2=some (.lst (ts2.map V.str)):=ae
 generalize upd H6 w2 (.lst (ts2.map V.str))=H7 at s7 e7 ⊢;have s47:=s5.trans (s6.trans s7);have l1:ts1.length≤3:=by rw[pm1.length_eq]; simp at hdl; omega
 have l2:ts2.length≤3:=by rw[pm2.length_eq]; simp at hdl'; omega
 have nd1:ts1.Nodup:=pm1.nodup_iff.mpr hds
 have nd2:ts2.Nodup:=pm2.nodup_iff.mpr hds'
 have lw1:∀ u∈ts1,u.length≤10:=fun u hu=>Nat.le_trans (hs8 u (List.mem_of_mem_take ((hda u).mp (pm1.mem_iff.mp hu)))) (by decide)
 have lw2:∀ u∈ts2,u.length≤10:=fun u hu=>Nat.le_trans (hs8 u (List.mem_of_mem_take (List.mem_of_mem_drop ((hda' u).mp (pm2.mem_iff.mp hu))))) (by decide)
 have s07:=s1.trans (s14.trans s47);walk_at "nx";refine⟨a,ns,2,rfl,s07.seq hS,by decide,?_⟩
 generalize ns.getD (2:Int).toNat 0=q2
 walk_at "rd1";refine⟨⟨by decide,by decide⟩,by decide,a,ns,3,rfl,s07.seq hS,by decide,?_⟩
 generalize ns.getD (3:Int).toNat 0=q3
 walk_at "rd1";refine⟨⟨by decide,by decide⟩,by decide,by decide,fun zp hzp=>?_⟩
 obtain⟨z0,ez0,hz0,hz0'⟩ : ∃ z:Nat,1+q2 / 4 % 6=(z:Int)∧1≤z∧z≤6:=⟨(1+q2 / 4 % 6).toNat,by omega,by omega,by omega⟩
 obtain⟨z1,ez1,hz1,hz1'⟩ : ∃ z:Nat,1+q3 / 4 % 6=(z:Int)∧1≤z∧z≤6:=⟨(1+q3 / 4 % 6).toNat,by omega,by omega,by omega⟩
 rw[ez0,ez1];have s8:=ah hzp (.lst [V.int (z0:Int),V.int (z1:Int)]);have e8:upd H7 zp (.lst [V.int (z0:Int),V.int (z1:Int)]) zp=some (.lst [V.int (z0:Int),V.int (z1:Int)]):=ae
 generalize upd H7 zp (.lst [V.int (z0:Int),V.int (z1:Int)])=H8 at s8 e8 ⊢;have zt0:∀ {G:Hp},Same H8 G→∃ xs,(SqL K G zp xs∨SqT K G zp xs)∧ck xs 0=some (V.int (z0:Int)):=fun {G} sm=>⟨_,.inl (SqL.of (sm _ _ e8)),aB (j:=0) rfl⟩
 have zt1:∀ {G:Hp},Same H8 G→∃ xs,(SqL K G zp xs∨SqT K G zp xs)∧ck xs 1=some (V.int (z1:Int)):=fun {G} sm=>⟨_,.inl (SqL.of (sm _ _ e8)),aB (j:=1) rfl⟩
 have s48:=s47.trans s8;have s08:=s07.trans s8;walk_at "nx";rw[m6];walk_at "rd1";obtain⟨cs1,ecs1⟩:=kt (ns:=ns) (lo:=some ((4:Nat):Int)) (hi:=none) (st:=some ((2:Nat):Int))
 have hp1:=ii (ns.map V.int) 4 2 (by decide)
 rw[List.length_map]at hp1
 refine⟨a,_,rfl,s08.seq hS,by decide,bg (Nat.le_trans hp1 (by omega)),fun v1 hv1=>?_⟩
 have ecs1':eE (ns.map V.int) (some 4) none (some 2)=cs1.map V.int:=ecs1
 rw[ecs1'];have s9:=ah hv1 (.lst (cs1.map V.int));have e9:upd H8 v1 (.lst (cs1.map V.int)) v1=some (.lst (cs1.map V.int)):=ae
 generalize upd H8 v1 (.lst (cs1.map V.int))=H9 at s9 e9 ⊢;obtain⟨xs,g1,g2⟩:=zt0 s9
 refine⟨xs,_,g1,g2,?_⟩
 refine⟨_,.inl (SqL.of ((s48.trans s9) _ _ e4)),?_⟩
 rw[List.length_map];refine⟨a,ns,2,rfl,(s08.trans s9).seq hS,by decide,?_⟩
 refine⟨v1,cs1,z0,ts1.length,_,rfl,SqL.of e9,hz0,hz0',l1,fun pr H10 as1 rs1 s10 hpr hN1 hr1 hrr1=>?_⟩
 walk_at "nx";refine⟨by decide,fun p1 hp1'=>?_⟩
 have s11:=ah hp1' (.tup [V.int sd,V.ref w1,V.ref pr]);have e11:upd H10 p1 (.tup [V.int sd,V.ref w1,V.ref pr]) p1=some (.tup [V.int sd,V.ref w1,V.ref pr]):=ae
 generalize upd H10 p1 (.tup [V.int sd,V.ref w1,V.ref pr])=H11 at s11 e11 ⊢;have s811:=(s9.trans s10).trans s11;have s411:=s48.trans s811;have s011:=s08.trans s811;have hR1:RuleAt H11 p1 ⟨sd,ts1,rs1⟩:=⟨w1,pr,as1,e11,s411 _ _ e4,hN1.at'.mono s11⟩
 have ok1:bP ⟨sd,ts1,rs1⟩:=⟨hsd,by show ts1.length≤16; omega,by show 1≤rs1.length; omega,by show rs1.length≤60; omega,fun x hx=>⟨(hrr1 x hx).1,fun k hk=>by rw[hr1]; exact(hrr1 x hx).2 k hk⟩,lw1⟩
 walk_at "nx";refine⟨a,ns,1,rfl,s011.seq hS,by decide,?_⟩
 walk_at "rd1";refine⟨by decide,?_⟩
 generalize ns.getD (1:Int).toNat 0 % 4=wy
 walk_at "nx";refine yd (fun hwy=>?_) (fun _=>?_)
 rotate_left
 ·walk_at "nx"
  rw[m6];walk_at "rd1";obtain⟨cs2,ecs2⟩:=kt (ns:=ns) (lo:=some ((5:Nat):Int)) (hi:=none) (st:=some ((2:Nat):Int))
  have hp2:=ii (ns.map V.int) 5 2 (by decide)
  rw[List.length_map]at hp2
  refine⟨a,_,rfl,s011.seq hS,by decide,bg (Nat.le_trans hp2 (by omega)),fun v2 hv2=>?_⟩
  have ecs2':eE (ns.map V.int) (some 5) none (some 2)=cs2.map V.int:=ecs2
  rw[ecs2'];have s12:=ah hv2 (.lst (cs2.map V.int));have e12:upd H11 v2 (.lst (cs2.map V.int)) v2=some (.lst (cs2.map V.int)):=ae
  generalize upd H11 v2 (.lst (cs2.map V.int))=H12 at s12 e12 ⊢;obtain⟨xs,g1,g2⟩:=zt1 (s811.trans s12)
  refine⟨xs,_,g1,g2,?_⟩
  have s712:=s8.trans (s811.trans s12);refine⟨_,.inl (SqL.of (s712 _ _ e7)),?_⟩
  rw[List.length_map];refine⟨a,ns,3,rfl,(s011.trans s12).seq hS,by decide,?_⟩
  refine⟨v2,cs2,z1,ts2.length,_,rfl,SqL.of e12,hz1,hz1',l2,fun pr2 H13 as2 rs2 s13 hpr2 hN2 hr2 hrr2=>?_⟩
  refine⟨by decide,fun p2 hp2'=>?_⟩
  have s14':=ah hp2' (.tup [V.int sd,V.ref w2,V.ref pr2]);have e14:upd H13 p2 (.tup [V.int sd,V.ref w2,V.ref pr2]) p2=some (.tup [V.int sd,V.ref w2,V.ref pr2]):=ae
  generalize upd H13 p2 (.tup [V.int sd,V.ref w2,V.ref pr2])=H14 at s14' e14 ⊢;refine⟨by decide,fun t ht=>?_⟩
  have s15:=ah ht (.tup [V.ref p1,V.ref p2]);have s1115:=(s12.trans s13).trans (s14'.trans s15);have ok2:bP ⟨sd,ts2,rs2⟩:=⟨hsd,by show ts2.length≤16; omega,by show 1≤rs2.length; omega,by show rs2.length≤60; omega,fun x hx=>⟨(hrr2 x hx).1,fun k hk=>by rw[hr2]; exact(hrr2 x hx).2 k hk⟩,lw2⟩
  exact fin t p1 p2 _ _ _ (s011.trans s1115) ae (hR1.mono s1115) ⟨w2,pr2,as2,s15 _ _ e14,((s712.trans s13).trans (s14'.trans s15)) _ _ e7,hN2.at'.mono (s14'.trans s15)⟩ ⟨ok1,ok2,nd1,nd2,rfl,l1,l2⟩
 walk_at "rd1";refine⟨a,ns,3,rfl,s011.seq hS,by decide,?_⟩
 refine⟨_,.inl (SqL.of (s411 _ _ e4)),?_⟩
 rw[List.length_map];obtain⟨xs,g1,g2⟩:=zt0 s811
 refine⟨xs,_,g1,g2,?_⟩
 walk_at "rd1";have hmz:(ts1.length:Int) * (z0:Int)=((ts1.length * z0:Nat):Int):=by simp
 have hmz18:ts1.length * z0≤18:=Nat.le_trans (Nat.mul_le_mul l1 hz0') (by decide)
 refine⟨.inl ⟨by omega,by omega⟩,_,_,rfl,by rw[hmz]; omega,by rw[hmz]; omega,fun xp H12 ms s12 hxp hxl hxn hxb=>?_⟩
 have hxn':ms.length=ts1.length * z0:=by rw[hmz]at hxn; omega
 walk_at "nx";have hN12:=(hN1.at'.mono s11).mono s12;refine⟨⟨_,SqL.of hN12.1⟩,fun L hL=>?_⟩
 refine jn hN12 ok1.n1 hL (fun a xs H' C y1 y2=>?_) (fun H13 bs s13 hB hbn hnd=>?_)
 ·walk_at "rd1"
  exact⟨_,.inl (SqL.of y1),y2⟩
 walk_at "nx";refine⟨_,.inl (SqL.of (s13 _ _ hxl)),?_⟩
 rw[List.length_map,hxn'];refine⟨by omega,by omega,?_⟩
 have hLb:L∉bs:=fun hm=>(hbn L hm).2 rfl
 have hbl:=hB.2.1;rw[Int.toNat_natCast]
 refine bU (fun i σ H'=>∃ (rows:List (List (Option Nat))) (o12 o13:Option V),σ=[some (.ref a),some (.int fi),some (.int sd),some (.ref wp),some (.ref w1),some (.int (st:Int)),some (.ref w2),some (.ref zp),some (.ref L),some (.ref p1),some (.int wy),some (.ref xp),o12,o13]∧Same H12 H'∧RoomsAs H' L rows bs∧rows.length=z0∧∀ x∈rows,x.length=ts1.length∧∀ k,some k∈x→k<z0)
  ⟨rs1,none,none,rfl,s13,hB,hr1,hrr1⟩ ?_ ?_
 rotate_left
 ·rintro σ H14 ⟨rows,o12,o13,rfl,s14',hRo,hrl,hrr⟩
  walk_at "nx";have s414:Same H4 H14:=s411.trans (s12.trans s14')
  refine⟨_,.inl (SqL.of (s414 _ _ e4)),fun wl hwl=>?_⟩
  have s15:=ah hwl (.lst (ts1.map V.str));have e15:upd H14 wl (.lst (ts1.map V.str)) wl=some (.lst (ts1.map V.str)):=ae
  generalize upd H14 wl (.lst (ts1.map V.str))=H15 at s15 e15 ⊢;refine⟨by decide,fun p2 hp2=>?_⟩
  have s16:=ah hp2 (.tup [V.int sd,V.ref wl,V.ref L]);have e16:upd H15 p2 (.tup [V.int sd,V.ref wl,V.ref L]) p2=some (.tup [V.int sd,V.ref wl,V.ref L]):=ae
  generalize upd H15 p2 (.tup [V.int sd,V.ref wl,V.ref L])=H16 at s16 e16 ⊢;refine⟨by decide,fun t ht=>?_⟩
  have s17:=ah ht (.tup [V.ref p1,V.ref p2]);have s1117:=(s12.trans s14').trans ((s15.trans s16).trans s17);exact fin t p1 p2 _ _ ⟨sd,ts1,rows⟩ (s011.trans s1117) ae (hR1.mono s1117) ⟨wl,L,bs,s17 _ _ e16,(s16.trans s17) _ _ e15,hRo.mono ((s15.trans s16).trans s17)⟩ ⟨ok1,⟨hsd,by show ts1.length≤16; omega,by show 1≤rows.length; omega,by show rows.length≤60; omega,fun x hx=>⟨(hrr x hx).1,fun k hk=>by rw[hrl]; exact(hrr x hx).2 k hk⟩,lw1⟩,nd1,nd1,rfl,l1,l1⟩
 rintro i σ H' hi ⟨rows,o12,o13,rfl,sm,hRo,hrl,hrr⟩
 have hm0p:0<ts1.length:=by
  rcases Nat.eq_zero_or_pos ts1.length with z | z
  ·rw[z]at hi; simp at hi
  ·exact z
 have hlen:∀ {G:Hp},Same H12 G→∃ ys,(SqL K G w1 ys∨SqT K G w1 ys)∧ys.length=ts1.length:=fun {G} sm=>⟨_,.inl (SqL.of ((s411.trans (s12.trans sm)) _ _ e4)),by rw[List.length_map]⟩
 walk_at "rd1";refine⟨_,.inl (SqL.of ((s411.trans (s12.trans sm)) _ _ e4)),?_⟩
 rw[List.length_map];refine⟨⟨by omega,by omega⟩,?_⟩
 rw[show (0+(i:Int)) / (ts1.length:Int)=((i / ts1.length:Nat):Int) by simp]
 have hd:i / ts1.length<z0:=by rw[Nat.div_lt_iff_lt_mul hm0p,Nat.mul_comm]; exact hi
 have hmd:i % ts1.length<ts1.length:=Nat.mod_lt _ hm0p
 have hmd':(0+(i:Int)) % (ts1.length:Int)=((i % ts1.length:Nat):Int):=by simp
 have hdb:i / ts1.length<bs.length:=by omega
 have hdr:i / ts1.length<rows.length:=by omega
 have hrow:=hRo.2.2 (i / ts1.length) bs[i / ts1.length] rows[i / ts1.length] (List.getElem?_eq_getElem hdb) (List.getElem?_eq_getElem hdr);obtain⟨hx1,hx2⟩:=hrr _ (List.getElem_mem hdr)
 have hix:i<ms.length:=by omega
 have atx:ck (ms.map V.int) (0+(i:Int))=some (.int ms[i]):=by rw[Int.zero_add]; exact aB (by rw[List.getElem?_map,List.getElem?_eq_getElem hix]; rfl)
 have atb:ck (bs.map V.ref) ((i / ts1.length:Nat):Int)=some (.ref bs[i / ts1.length]):=aB (by rw[List.getElem?_map,List.getElem?_eq_getElem hdb]; rfl)
 have done:∀ (v:Option Nat),(∀ k,v=some k→k<z0)→∀ (o12 o13:Option V),∃ (rows':List (List (Option Nat))) (o12' o13':Option V),[some (V.ref a),some (.int fi),some (.int sd),some (.ref wp),some (.ref w1),some (.int (st:Int)),some (.ref w2),some (.ref zp),some (.ref L),some (.ref p1),some (.int wy),some (.ref xp),o12,o13]=[some (.ref a),some (.int fi),some (.int sd),some (.ref wp),some (.ref w1),some (.int (st:Int)),some (.ref w2),some (.ref zp),some (.ref L),some (.ref p1),some (.int wy),some (.ref xp),o12',o13']∧Same H12 (upd H' bs[i / ts1.length] (.lst ((rows[i / ts1.length].map aA).set (i % ts1.length) (aA v))))∧RoomsAs (upd H' bs[i / ts1.length] (.lst ((rows[i / ts1.length].map aA).set (i % ts1.length) (aA v)))) L rows' bs∧rows'.length=z0∧∀ x∈rows',x.length=ts1.length∧∀ k,some k∈x→k<z0:=fun v hv o12 o13=>by
  have hset:(rows[i / ts1.length].map aA).set (i % ts1.length) (aA v)=((rows[i / ts1.length]).set (i % ts1.length) v).map aA:=by rw[List.map_set]
  rw[hset];refine⟨rows.set (i / ts1.length) ((rows[i / ts1.length]).set (i % ts1.length) v),_,_,rfl,sm.upd (hbn _ (List.getElem_mem hdb)).1 _,hRo.setRow hnd hLb (List.getElem?_eq_getElem hdb),by rw[List.length_set]; exact hrl,fun y hy=>?_⟩
  rcases List.mem_or_eq_of_mem_set hy with z | z
  ·exact hrr y z
  ·rw[z,List.length_set]
   refine⟨hx1,fun k hk=>?_⟩
   rcases List.mem_or_eq_of_mem_set hk with z' | z'
   ·exact hx2 k z'
   ·exact hv k z'.symm
 have ixo:ix (rows[i / ts1.length].map aA).length ((i % ts1.length:Nat):Int)=some (i % ts1.length):=by
  have:=tZ (show i % ts1.length<(rows[i / ts1.length].map aA).length by rw[List.length_map,hx1]; exact hmd)
  rwa [Int.zero_add]at this
 walk_at "nx";rcases hwy with rfl | rfl
 ·refine aw (fun _=>?_) (fun c=>absurd rfl c)
  refine⟨_,_,.inl (SqL.of (sm _ _ hxl)),atx,?_⟩
  walk_at "rd1";refine⟨by decide,aw (fun _=>?_) (fun _=>?_)⟩
  ·refine⟨_,_,.inl (SqL.of hRo.1),atb,?_⟩
   refine⟨_,.inl (SqL.of ((s411.trans (s12.trans sm)) _ _ e4)),?_⟩
   rw[List.length_map];refine⟨by omega,?_⟩
   rw[hmd'];walk_at "rd1";refine⟨_,_,hrow,ixo,?_⟩
   walk_at "nx";refine aw (fun c=>absurd c (by decide)) (fun _=>?_)
   exact done none (fun k e=>by cases e) _ _
  ·walk_at "nx"
   refine aw (fun c=>absurd c (by decide)) (fun _=>?_)
   exact⟨rows,_,_,rfl,sm,hRo,hrl,hrr⟩
 ·refine aw (fun c=>absurd c (by decide)) (fun _=>?_)
  walk_at "nx";refine⟨_,_,.inl (SqL.of hRo.1),atb,?_⟩
  refine⟨_,.inl (SqL.of ((s411.trans (s12.trans sm)) _ _ e4)),?_⟩
  rw[List.length_map];refine⟨by omega,?_⟩
  rw[hmd'];have hmr:i % ts1.length<(rows[i / ts1.length]).length:=by omega
  refine⟨_,_,.inl (SqL.of hrow),aB (v:=aA (rows[i / ts1.length])[i % ts1.length]) (by rw[List.getElem?_map,List.getElem?_eq_getElem hmr]; rfl),?_⟩
  refine aw (fun _=>?_) (fun _=>⟨rows,_,_,rfl,sm,hRo,hrl,hrr⟩)
  refine⟨_,_,.inl (SqL.of (sm _ _ hxl)),atx,?_⟩
  obtain⟨xs,g1,g2⟩:=zt0 (s811.trans (s12.trans sm))
  refine⟨xs,_,g1,g2,?_⟩
  walk_at "rd1";refine⟨by omega,_,_,.inl (SqL.of hRo.1),atb,?_⟩
  refine⟨_,.inl (SqL.of ((s411.trans (s12.trans sm)) _ _ e4)),?_⟩
  rw[List.length_map];refine⟨by omega,?_⟩
  rw[hmd'];walk_at "rd1";refine⟨_,_,hrow,ixo,?_⟩
  obtain⟨vv,ev,hvv⟩ : ∃ z:Nat,ms[i] % (z0:Int)=(z:Int)∧z<z0:=⟨(ms[i] % (z0:Int)).toNat,by have:=Int.emod_nonneg ms[i] (show (z0:Int)≠0 by omega); omega,by have:=Int.emod_nonneg ms[i] (show (z0:Int)≠0 by omega); have:=Int.emod_lt_of_pos ms[i] (show (0:Int)<z0 by omega); omega⟩
  rw[ev];exact done (some vv) (fun k e=>by cases e; exact hvv) _ _
end
theorem sk{x y:Str}(h:x.cps.toList=y.cps.toList):x=y:=by
 cases x; cases y
 have:=Array.ext' h
 simp_all
theorem jO:∀ (xs:List Str),sortedS xs=true→xs.Pairwise (fun a b=>a.cps.toList≤b.cps.toList)
 | [],_=>.nil
 | [x],_=>by simp
 | x::y::r,h=>by
  have h':(!ltCps y.cps.toList x.cps.toList&&sortedS (y::r))=true:=h
  rw[Bool.and_eq_true,ltCps_eq]at h'
  have h1:x.cps.toList≤y.cps.toList:=List.not_lt.mp (by simpa using h'.1)
  have ih:=jO (y::r) h'.2;refine List.pairwise_cons.mpr ⟨fun z hz=>?_,ih⟩
  rcases List.mem_cons.mp hz with rfl | hz
  ·exact h1
  ·exact List.le_trans h1 ((List.pairwise_cons.mp ih).1 z hz)
theorem ic{xs ys:List Str}(n1:xs.Nodup)(n2:ys.Nodup)(s1:sortedS xs=true)(s2:sortedS ys=true)(h:∀ x,x∈xs ↔ x∈ys):xs=ys:=
 ((List.perm_ext_iff_of_nodup n1 n2).mpr h).eq_of_pairwise (fun a b _ _ z1 z2=>sk (List.le_antisymm z1 z2)) (jO xs s1) (jO ys s2)
def KeptAt(H0 H:Hp)(p:Addr)(r:Rl):Prop:=∃ pw pr as,H p=some (.tup [.int r.s,.ref pw,.ref pr])∧H pw=some (.lst (r.ws.map V.str))∧RoomsAs H pr r.rs as∧H0 p=none∧H0 pw=none∧H0 pr=none∧∀ a∈as,H0 a=none
theorem KeptAt.at'{H0 H:Hp}{p:Addr}{r:Rl}(h:KeptAt H0 H p r):RuleAt H p r:=by
 obtain⟨pw,pr,as,h1,h2,h3,z⟩:=h
 exact⟨pw,pr,as,h1,h2,h3⟩
section
variable{P:Program}{w:World}{K:PySem.W.Frag}{mg:Str→Option Value}{base:Heap}
def qC:Sp:=fun vs H Q _=>∃ (p:Addr) (r:Rl),vs=[.ref p]∧RuleAt H p r∧r.rs.length≤60∧∀ (t:Addr) (H':Hp),Same H H'→KeptAt H H' t r→Q (.ref t) H'
theorem uH(D:DefAt K mg "_law_copy" bw) (z_list:mg "list" = none):bt P w K mg base 1 "_law_copy" ["_law_rule"] qC:=by
 refine D.cal (k:=0) mw (fun _ _ _ _ _ _ us hl=>match us,hl with | [_],_=>rfl) (fun vs H Q E h=>by obtain⟨p,r,rfl,_⟩:=h; rfl) (fun f cdv A outer s H vs Q E hr h=>?_)
 obtain⟨p,r,rfl,⟨pw,pr,as,h1,h2,h3⟩,n1,q⟩:=h
 refine⟨_,(ak (aR (bF (aa (am (az K) (pv 0) ab (fun _ _=>rfl)) (aa (bR (eV K) z_list cw (aa (am (az K) (pv 0) ab (fun _ _=>rfl)) ac)) (aa (gO (CompSc.to (fsc:=(defScope bw)) (N:=["_law_rule"]) (N0:=["_law_rule"]) (T:=["_law_room"]) ⟨by decide +kernel,by decide +kernel,by decide +kernel,by decide +kernel,by decide +kernel,by decide +kernel,by decide +kernel⟩ rfl rfl) rfl (cq K (am (az K) (pv 0) ab (fun _ _=>rfl))) (fun _ _ _ _=>(aW 1 (show (["_law_rule", "_law_room"]:List Str).Nodup from by decide +kernel) (hx:=(jB (defScope bw) (by decide +kernel))) (hf:=nr (defScope bw) (by decide +kernel)))) (cX (show (["_law_rule"]:List Str).length≤1 from by decide)) (fun _ _ _ _=>cV) (fun _ _ _ _=>(bR (eV K) z_list cw (aa (pv 1 (hv:=(cO (defScope bw) (by decide +kernel)))) ac) (hg:=(v8 (defScope bw) (by decide +kernel)))))) ac)))))),?_⟩
 walk_at "rd1";refine⟨_,_,.inr (SqT.of h1),dn,?_⟩
 refine⟨_,_,.inr (SqT.of h1),aB (j:=1) rfl,?_⟩
 walk_at "rd1";refine⟨_,.inl (SqL.of h2),fun wl hwl=>?_⟩
 have sm1:=ah hwl (.lst (r.ws.map V.str));have e1:upd H wl (.lst (r.ws.map V.str)) wl=some (.lst (r.ws.map V.str)):=ae
 generalize upd H wl (.lst (r.ws.map V.str))=H1 at sm1 e1 ⊢;refine⟨_,_,.inr (SqT.of (sm1 _ _ h1)),aB (j:=2) rfl,?_⟩
 have h31:=h3.mono sm1;walk_at "rd1";refine⟨⟨_,SqL.of h31.1⟩,fun L hL=>?_⟩
 refine jn h31 n1 hL (fun a xs H' C z1 z2=>?_) (fun H2 bs sm2 hB hbn hnd=>?_)
 ·walk_at "rd1"
  exact⟨_,.inl (SqL.of z1),z2⟩
 walk_at "rd1";refine⟨by decide,fun t ht=>?_⟩
 have sm3:=ah ht (.tup [.int r.s,.ref wl,.ref L]);have sm12:=sm1.trans sm2;exact q t _ (sm12.trans sm3) ⟨wl,L,bs,ae,sm3 _ _ (sm2 _ _ e1),hB.mono sm3,sm12.free ht,hwl,sm1.free hL,fun b hb=>sm1.free (hbn b hb).1⟩
theorem uA{K:PySem.W.Frag}{H:Hp}{l m a b c d:Addr}{r r':Rl}(h1:H l=some (.lst [.ref a,.ref b]))(h2:H m=some (.lst [.ref c,.ref d]))(ha:RuleAt H a r)(hb:RuleAt H b r')(hc:RuleAt H c r)(hd:RuleAt H d r'):EqN K H 4 (.ref l) (.ref m) true:=by
 refine EqN.seq (.inl ⟨SqL.of h1,SqL.of h2⟩) rfl fun i x y e1 e2=>?_
 match i,e1,e2 with
 | 0,e1,e2=>cases e1; cases e2; exact nv ha hc
 | 1,e1,e2=>cases e1; cases e2; exact nv hb hd
 | i+2,e1,e2=>simp at e1
theorem j_{r:Rl}{ws:List Str}:∀ (n i:Nat),¬ ci r r ws n (i,i)
 | 0,i=>fun z=>z
 | 1,i=>by rintro⟨y,_,z⟩; exact z.1 z.2
 | n+2,i=>by
  rintro⟨y,_,q,hq,z⟩
  have e:q=(q.1,q.1):=Prod.ext rfl (Option.some.inj (hq.2.symm.trans hq.1))
  rw[e]at z
  exact j_ (n+1) q.1 z
def mL(K:PySem.W.Frag):Sp:=fun vs H Q _=>∃ (a:Addr) (ns:List Int) (sd:Int),vs=[.ref a,.int sd]∧SqL K H a (ns.map V.int)∧ns.length≤63∧(sd=1∨sd=2)∧∀ H',Same H H'→Q (.bl true) H'
theorem xn{f:Addr}{fd:FuncData}(F:Fun K "law" "law" bb f fd) (z_sorted:mg "sorted" = none) (z_set:mg "set" = none) (c_law_cell_at:bt P w K mg base 1 "_law_cell_at" ["_law_script", "_law_k"] (ja K)) (c_law_two:bt P w K mg base 3 "_law_two" ["_law_script"] (tJ K)) (c_law_rings_told:bt P w K mg base 4 "_law_rings_told" ["_law_script", "_law_sides"] (mL K)) (c_law_left:bt P w K mg base 3 "_law_left" ["_law_one", "_law_other", "_law_words_here"] (qG P w)) (c_law_copy:bt P w K mg base 1 "_law_copy" ["_law_rule"] qC) (c_row_apart:bt P w K mg base 3 "row_apart" ["other", "one"] jN) (c_law_told:bt P w K mg base 2 "_law_told" ["_law_found", "_law_one", "_law_other", "_law_words_here", "_law_left_here"] (oU P w)):gn P w K mg base i8 5 f fd ["_law_script"] (kF K):=by
 refine F.ok sc_law (fun vs H Q E h=>by obtain⟨a,ns,rfl,_⟩:=h; rfl) (fun cdv A outer s H vs Q E hr h=>?_)
 obtain⟨a,ns,rfl,hS,h63,qf⟩:=h
 refine⟨_,(af (cg (aC c_law_two hr (aa (pv 0) ac)) (gz K (n:=2) (b8 (aW 1 sc_law.nd) (b8 (aW 2 sc_law.nd) gR))))
   (af (bd (ax bH (aj aM (aj bL (aC c_law_cell_at hr (aa (pv 0) (aa ab ac))) ab) ab) ab (aH _)) (ak (aR (aC c_law_rings_told hr (aa (pv 0) (aa (am (az K) (pv 1) ab (fun _ _=>rfl)) ac))))) aP)
   (af (ao 3 sc_law.nd (bh (dI w hr) z_sorted cY (aa (bR (gu K w hr) z_set ie (aa (aj aK (am (az K) (pv 1) ab (fun _ _=>rfl)) (am (az K) (pv 2) ab (fun _ _=>rfl))) ac)) ac)))
   (af (ao 4 sc_law.nd (aC c_law_left hr (aa (pv 1) (aa (pv 2) (aa (pv 3) ac)))))
   (af (ao 5 sc_law.nd (aC c_law_left hr (aa (pv 2) (aa (pv 1) (aa (pv 3) ac)))))
   (af (ao 6 sc_law.nd (br (aa (aC c_law_copy hr (aa (pv 1) ac)) (aa (aC c_law_copy hr (aa (pv 2) ac)) ac))))
   (af (ao 7 sc_law.nd (aC c_row_apart hr (aa (am (az K) (pv 6) ab (fun _ _=>rfl)) (aa (am (az K) (pv 6) ab (fun _ _=>rfl)) ac))))
   (af (ao 8 sc_law.nd (aC c_row_apart hr (aa (am (az K) (pv 6) ab (fun _ _=>rfl)) (aa (am (az K) (pv 6) ab (fun _ _=>rfl)) ac))))
   (af (bd (gF (fR (aC c_law_told hr (aa (pv 7) (aa (pv 1) (aa (pv 2) (aa (pv 3) (aa (pv 4) ac)))))))) (ak (aR cD)) aP)
   (af (bd (gF (fR (aC c_law_told hr (aa (pv 8) (aa (pv 2) (aa (pv 1) (aa (pv 3) (aa (pv 5) ac)))))))) (ak (aR cD)) aP)
   (af (bd (ax b7 (pv 7) aZ (aH _)) (ak (ce (cQ K PySem.F.plainAttrs_list PySem.F.slot_list_append PySem.F.type_list_append bV (pv 7) (aa eF ac)))) aP)
   (af (bd (ax b7 (pv 8) aZ (aH _)) (ak (ce (mW K PySem.F.plainAttrs_list PySem.F.slot_list_clear PySem.F.type_list_clear pN (pv 8)))) aP)
   (af (bd (gF (fR (aC c_law_told hr (aa (aC c_row_apart hr (aa (am (az K) (pv 6) ab (fun _ _=>rfl)) (aa (am (az K) (pv 6) ab (fun _ _=>rfl)) ac))) (aa (pv 1) (aa (pv 2) (aa (pv 3) (aa (pv 4) ac)))))))) (ak (aR cD)) aP)
   (af (bd (PW.pt' (ga (ax b7 (aC c_row_apart hr (aa (am (az K) (pv 6) ab (fun _ _=>rfl)) (aa (am (az K) (pv 6) ab (fun _ _=>rfl)) ac))) aZ (aH _)) (fX (ax (jz K hr) (pv 6) (br (aa (pv 1) (aa (pv 2) ac))) (aH _))))) (ak (aR cD)) aP)
   (ak (aR (aC c_law_told hr (aa (aC c_row_apart hr (aa (am (az K) (pv 6) ab (fun _ _=>rfl)) (aa (am (az K) (pv 6) ab (fun _ _=>rfl)) ac))) (aa (pv 2) (aa (pv 1) (aa (pv 3) (aa (pv 5) ac)))))))))))))))))))))),?_⟩
 walk_at "rd1";refine⟨a,ns,rfl,hS,h63,fun t p q H1 r r' s1 ht hR hR' dr=>?_⟩
 refine⟨t,_,rfl,SqT.of ht,rfl,_,_,rfl,_,_,rfl,rfl,?_⟩
 obtain⟨pw,pr,as,h1,h2,h3⟩:=id hR
 obtain⟨pw',pr',as',h1',h2',h3'⟩:=id hR'
 have w3:=dr.w3;have w3':=dr.w3';walk_at "nx";refine⟨a,ns,0,rfl,s1.seq hS,by decide,?_⟩
 walk_at "rd1";refine⟨⟨by decide,by decide⟩,by decide,aw (fun _=>?_) (fun _=>?_)⟩
 ·refine⟨_,_,.inr (SqT.of h1),dn,?_⟩
  exact⟨a,ns,r.s,rfl,s1.seq hS,h63,dr.ok.s,fun H' _=>qf H'⟩
 walk_at "nx";refine⟨_,_,.inr (SqT.of h1),aB (j:=1) rfl,?_⟩
 refine⟨_,_,.inr (SqT.of h1'),aB (j:=1) rfl,?_⟩
 walk_at "rd1";refine⟨_,_,h2,h2',by rw[List.length_map,List.length_map]; exact bg (by omega),fun cl hcl=>?_⟩
 rw[← List.map_append];have s2:=ah hcl (.lst ((r.ws++r'.ws).map V.str));have e2:upd H1 cl (.lst ((r.ws++r'.ws).map V.str)) cl=some (.lst ((r.ws++r'.ws).map V.str)):=ae
 generalize upd H1 cl (.lst ((r.ws++r'.ws).map V.str))=H2 at s2 e2 ⊢;refine⟨cl,_,rfl,SqL.of e2,by simp; omega,fun sp ds hsp hds hda hdl=>?_⟩
 have s3:=ah hsp (bY w sp ds);have e3:upd H2 sp (bY w sp ds) sp=some (bY w sp ds):=ae
 generalize upd H2 sp (bY w sp ds)=H3 at s3 e3 ⊢;refine⟨sp,ds,rfl,e3,by simp at hdl; omega,fun wl W hwl pm so=>?_⟩
 have s4:=ah hwl (.lst (W.map V.str));have e4:upd H3 wl (.lst (W.map V.str)) wl=some (.lst (W.map V.str)):=ae
 generalize upd H3 wl (.lst (W.map V.str))=H4 at s4 e4 ⊢;have s14:=s2.trans (s3.trans s4);have hWn:W.length≤32:=by rw[pm.length_eq]; simp at hdl; omega
 have hWd:W.Nodup:=pm.nodup_iff.mpr hds
 have hB:iV r r' W:=⟨hWd,fun y=>by rw[pm.mem_iff,hda,List.mem_append],hWn⟩
 have hB':iV r' r W:=⟨hWd,fun y=>by rw[hB.2.1]; exact Or.comm,hWn⟩
 have one:∀ {x y:Rl} {ws:List Str},iV x y W→iV x y ws→sortedS ws=true→ws=W:=fun {x y ws} b1 b2 s2=>ic b2.1 b1.1 s2 so fun u=>by rw[b2.2.1,b1.2.1]
 walk_at "nx";refine⟨p,q,wl,r,r',W,rfl,hR.mono s14,hR'.mono s14,dr.ok,dr.ok',e4,hWn,fun d1 H5 kv1 ps1 s5 hd1 hD1 pi1 lf1=>?_⟩
 have s15:=s14.trans s5;walk_at "nx";refine⟨q,p,wl,r',r,W,rfl,hR'.mono s15,hR.mono s15,dr.ok',dr.ok,s5 _ _ e4,hWn,fun d2 H6 kv2 ps2 s6 hd2 hD2 pi2 lf2=>?_⟩
 have s16:=s15.trans s6;walk_at "nx";refine⟨p,r,rfl,hR.mono s16,dr.ok.n1,fun c1 H7 s7 hk1=>?_⟩
 refine⟨q,r',rfl,(hR'.mono s16).mono s7,dr.ok'.n1,fun c2 H8 s8 hk2=>?_⟩
 refine⟨by decide,fun hp hhp=>?_⟩
 have s9:=ah hhp (.lst [V.ref c1,V.ref c2]);have e9:upd H8 hp (.lst [V.ref c1,V.ref c2]) hp=some (.lst [V.ref c1,V.ref c2]):=ae
 generalize upd H8 hp (.lst [V.ref c1,V.ref c2])=H9 at s9 e9 ⊢;have s69:=s7.trans (s8.trans s9);have hc1:RuleAt H9 c1 r:=hk1.at'.mono (s8.trans s9)
 have hc2:RuleAt H9 c2 r':=hk2.at'.mono s9
 have hp9:=hR.mono (s16.trans s69);have hq9:=hR'.mono (s16.trans s69);have hw9:=(s5.trans (s6.trans s69)) _ _ e4;have hD19:=hD1.mono (s6.trans s69);have hD29:=hD2.mono s69;have at0':∀ {G:Hp},Same H9 G→∃ xs,(SqL K G hp xs∨SqT K G hp xs)∧ck xs 0=some (V.ref c1):=fun {G} sm=>⟨_,.inl (SqL.of (sm _ _ e9)),aB (j:=0) rfl⟩
 have at1':∀ {G:Hp},Same H9 G→∃ xs,(SqL K G hp xs∨SqT K G hp xs)∧ck xs 1=some (V.ref c2):=fun {G} sm=>⟨_,.inl (SqL.of (sm _ _ e9)),aB (j:=1) rfl⟩
 walk_at "nx";obtain⟨xs,g1,g2⟩:=at0' (Same.refl _)
 refine⟨xs,_,g1,g2,?_⟩
 obtain⟨xs,g1,g2⟩:=at1' (Same.refl _)
 refine⟨xs,_,g1,g2,?_⟩
 refine⟨c1,c2,r,r',rfl,hc1,hc2,dr.ok,dr.ok',dr.nd,dr.nd',dr.s,fun fv HA ws sA b1 b2 hv=>?_⟩
 rw[one hB b1 b2]at hv
 walk_at "nx";obtain⟨xs,g1,g2⟩:=at1' sA
 refine⟨xs,_,g1,g2,?_⟩
 obtain⟨xs,g1,g2⟩:=at0' sA
 refine⟨xs,_,g1,g2,?_⟩
 refine⟨c2,c1,r',r,rfl,hc2.mono sA,hc1.mono sA,dr.ok',dr.ok,dr.nd',dr.nd,dr.s.symm,fun bv HB ws' sB b1' b2' hv'=>?_⟩
 rw[one hB' b1' b2']at hv'
 have sAB:=sA.trans sB
 have fo:∀ {x y:Rl} {v:V} {G G' G'':Hp},Same G' G''→(v = .non∧(∀ n,¬ ci x y W n (0,0))∨∃ l row,v = .ref l∧G l=none∧G' l=some (.lst (row.map V.str))∧Gr x y W (0,0) row∧Dist x y W row.length (0,0)∧row.length≤4001)→jr x y W G'' v:=fun {x y v G G' G''} sm h=>by
  rcases h with h | ⟨l,row,z1,z2,z3,z4⟩
  ·exact .inl h
  ·exact .inr ⟨l,row,z1,sm _ _ z3,z4⟩
 walk_at "nx";refine⟨fv,p,q,wl,d1,r,r',W,ps1,kv1,rfl,hp9.mono sAB,hq9.mono sAB,dr.ok,dr.ok',sAB _ _ hw9,hWn,hD19.mono sAB,pi1,lf1,fo sB hv,fun HC sC=>?_⟩
 refine⟨true,rfl,aw (fun c=>absurd c (by decide)) (fun _=>?_)⟩
 have sAC:=sAB.trans sC;walk_at "nx";refine⟨bv,q,p,wl,d2,r',r,W,ps2,kv2,rfl,hq9.mono sAC,hp9.mono sAC,dr.ok',dr.ok,sAC _ _ hw9,hWn,hD29.mono sAC,pi2,lf2,fo sC hv',fun HE sE=>?_⟩
 refine⟨true,rfl,aw (fun c=>absurd c (by decide)) (fun _=>?_)⟩
 have sBE:=sC.trans sE;have s9E:=sAB.trans sBE;refine eM (fun σ' G=>σ'=[some (.ref a),some (.ref p),some (.ref q),some (.ref wl),some (.ref d1),some (.ref d2),some (.ref hp),some fv,some bv]∧Same H9 G∧jr r' r W G bv) (fun k hk=>?_) ?_
 ·walk_at "rd1"
  rcases hv with ⟨rfl,_⟩ | ⟨l,row,rfl,z1,z2,z3,z4,z5⟩
  ·refine aw (fun c=>absurd c (by simp)) (fun _=>hk _ _ ⟨rfl,s9E,fo sBE hv'⟩)
  ·refine aw (fun _=>?_) (fun c=>absurd (by simp) c)
   have hl:=(sB.trans sBE) _ _ z2;walk_at "rd1";refine⟨⟨_,SqL.of hl⟩,_,hl,by rw[List.length_map]; exact bT (by omega),?_⟩
   refine hk _ _ ⟨rfl,s9E.upd z1 _,?_⟩
   rcases hv' with h | ⟨l',row',y1,y2,y3,y4⟩
   ·exact .inl h
   ·refine .inr ⟨l',row',y1,?_,y4⟩
    rw[al (fun e=>by rw[e,z2]at y2; cases y2)]
    exact sBE _ _ y3
 rintro σ' G ⟨rfl,sG,fG⟩
 refine eM (fun σ' G=>σ'=[some (.ref a),some (.ref p),some (.ref q),some (.ref wl),some (.ref d1),some (.ref d2),some (.ref hp),some fv,some bv]∧Same H9 G) (fun k hk=>?_) ?_
 ·walk_at "rd1"
  rcases fG with ⟨rfl,_⟩ | ⟨l,row,rfl,z2,z3⟩
  ·refine aw (fun c=>absurd c (by simp)) (fun _=>hk _ _ ⟨rfl,sG⟩)
  ·refine aw (fun _=>?_) (fun c=>absurd (by simp) c)
   have hl9:H9 l=none:=by
    rcases hv' with ⟨y,_⟩ | ⟨l',row',y1,y2,y3,y4⟩
    ·cases y
    ·cases y1; exact sA.free y2
   walk_at "rd1";refine⟨⟨_,SqL.of z2⟩,l,_,rfl,rfl,z2,?_⟩
   exact hk _ _ ⟨rfl,sG.upd hl9 _⟩
 rintro σ' G2 ⟨rfl,sG2⟩
 walk_at "nx";obtain⟨xs,g1,g2⟩:=at0' sG2
 refine⟨xs,_,g1,g2,?_⟩
 obtain⟨xs,g1,g2⟩:=at1' sG2
 refine⟨xs,_,g1,g2,?_⟩
 refine⟨c1,c2,r,r',rfl,hc1.mono sG2,hc2.mono sG2,dr.ok,dr.ok',dr.nd,dr.nd',dr.s,fun fv2 H10 ws sH b1 b2 hv2=>?_⟩
 rw[one hB b1 b2]at hv2
 have s9H:=sG2.trans sH;refine⟨fv2,p,q,wl,d1,r,r',W,ps1,kv1,rfl,hp9.mono s9H,hq9.mono s9H,dr.ok,dr.ok',s9H _ _ hw9,hWn,hD19.mono s9H,pi1,lf1,fo (Same.refl _) hv2,fun H11 s11=>?_⟩
 refine⟨true,rfl,aw (fun c=>absurd c (by decide)) (fun _=>?_)⟩
 have s9I:=s9H.trans s11;walk_at "nx";obtain⟨xs,g1,g2⟩:=at0' s9I
 refine⟨xs,_,g1,g2,?_⟩
 refine⟨xs,_,g1,g2,?_⟩
 refine⟨c1,c1,r,r,rfl,hc1.mono s9I,hc1.mono s9I,dr.ok,dr.ok,dr.nd,dr.nd,rfl,fun fv3 H12 ws3 s12 b3 _ hv3=>?_⟩
 have s9J:=s9I.trans s12
 have hn3:fv3 = .non:=by
  rcases hv3 with ⟨h,_⟩ | ⟨l,row,_,_,_,_,h,_⟩
  ·exact h
  ·exact absurd h.1 (j_ _ 0)
 subst hn3;walk_at "rd1";refine aw (fun c=>absurd c (by decide)) (fun _=>?_)
 refine⟨by decide,fun ol hol=>?_⟩
 have s13:=ah hol (.lst [V.ref p,V.ref q]);have e13:upd H12 ol (.lst [V.ref p,V.ref q]) ol=some (.lst [V.ref p,V.ref q]):=ae
 generalize upd H12 ol (.lst [V.ref p,V.ref q])=H13 at s13 e13 ⊢;have s9K:=s9J.trans s13;refine⟨3,true,by decide,uA (s9K _ _ e9) e13 (hc1.mono s9K) (hc2.mono s9K) (hp9.mono s9K) (hq9.mono s9K),?_⟩
 refine aw (fun c=>absurd c (by decide)) (fun _=>?_)
 walk_at "nx";obtain⟨xs,g1,g2⟩:=at1' s9K
 refine⟨xs,_,g1,g2,?_⟩
 obtain⟨xs,g1,g2⟩:=at0' s9K
 refine⟨xs,_,g1,g2,?_⟩
 refine⟨c2,c1,r',r,rfl,hc2.mono s9K,hc1.mono s9K,dr.ok',dr.ok,dr.nd',dr.nd,dr.s.symm,fun bv2 H14 ws4 s14' b4 b5 hv4=>?_⟩
 rw[one hB' b4 b5]at hv4
 have s9L:=s9K.trans s14';exact⟨bv2,q,p,wl,d2,r',r,W,ps2,kv2,rfl,hq9.mono s9L,hp9.mono s9L,dr.ok',dr.ok,s9L _ _ hw9,hWn,hD29.mono s9L,pi2,lf2,fo (Same.refl _) hv4,fun H15 _=>qf H15⟩
end
structure Ring (r:Rl) (n:Nat) (cl:Nat→Bool) (w0 w1:Str):Prop where
 n0:1≤n
 h0:∀ i,i<n→ar r i w0=some ((i+1) % n)
 h1:∀ i,i<n→ar r i w1=if cl i then none else some i
section
variable{r r':Rl}{n m:Nat}{cl cl':Nat→Bool}{w0 w1:Str}{ws:List Str}
def cC(n m x:Nat):Nat × Nat:=(x % n,x % m)
def cU(n m:Nat)(cl cl':Nat→Bool)(x:Nat):Bool:=!cl (x % n)&&cl' (x % m)
theorem lA{n:Nat}(x:Nat):(x % n+1) % n=(x+1) % n:=by rw[Nat.add_mod,Nat.mod_mod,← Nat.add_mod]
theorem Ring.go(a:Ring r n cl w0 w1)(b:Ring r' m cl' w0 w1)(x:Nat):Nxt r r' (cC n m x) w0 (cC n m (x+1)):=by
 have hn:=Nat.mod_lt x a.n0;have hm:=Nat.mod_lt x b.n0;exact⟨by show ar r (x % n) w0=some ((x+1) % n); rw[a.h0 _ hn,lA],by show ar r' (x % m) w0=some ((x+1) % m); rw[b.h0 _ hm,lA]⟩
theorem Ring.bad0(a:Ring r n cl w0 w1)(b:Ring r' m cl' w0 w1)(x:Nat):¬ bZ r r' (cC n m x) w0:=fun h=>by
 have g:=(a.go b x).2;rw[h.2]at g; cases g
theorem Ring.bad1(a:Ring r n cl w0 w1)(b:Ring r' m cl' w0 w1)(x:Nat):bZ r r' (cC n m x) w1 ↔ cU n m cl cl' x=true:=by
 have e1:ar r (cC n m x).1 w1=if cl (x % n) then none else some (x % n):=a.h1 _ (Nat.mod_lt x a.n0)
 have e2:ar r' (cC n m x).2 w1=if cl' (x % m) then none else some (x % m):=b.h1 _ (Nat.mod_lt x b.n0)
 unfold bZ cU;rw[e1,e2]
 cases cl (x % n) <;> cases cl' (x % m) <;> simp
theorem Ring.stay(a:Ring r n cl w0 w1)(b:Ring r' m cl' w0 w1){x:Nat}{q:Nat × Nat}(h:Nxt r r' (cC n m x) w1 q):q=cC n m x:=by
 have e1:ar r (cC n m x).1 w1=if cl (x % n) then none else some (x % n):=a.h1 _ (Nat.mod_lt x a.n0)
 have e2:ar r' (cC n m x).2 w1=if cl' (x % m) then none else some (x % m):=b.h1 _ (Nat.mod_lt x b.n0)
 have g1:=h.1;have g2:=h.2;rw[e1]at g1
 rw[e2]at g2
 cases c1:cl (x % n) with
 | true=>rw[c1]at g1; cases g1
 | false=>
  cases c2:cl' (x % m) with
  | true=>rw[c2]at g2; cases g2
  | false=>
   rw[c1]at g1
   rw[c2]at g2
   exact Prod.ext (Option.some.inj g1).symm (Option.some.inj g2).symm
theorem Ring.reach(a:Ring r n cl w0 w1)(b:Ring r' m cl' w0 w1)(m0:w0∈ws)(m1:w1∈ws):∀ (k x:Nat),cU n m cl cl' (x+k)=true→ci r r' ws (k+1) (cC n m x)
 | 0,x,h=>⟨w1,m1,(a.bad1 b x).mpr h⟩
 | k+1,x,h=>⟨w0,m0,cC n m (x+1),a.go b x,Ring.reach a b m0 m1 k (x+1) (by rw[show x+1+k=x+(k+1) by omega]; exact h)⟩
theorem Ring.row(a:Ring r n cl w0 w1)(b:Ring r' m cl' w0 w1)(hw:∀ y∈ws,y=w0∨y=w1):∀ (k x:Nat) (S:List Str),S.length=k+1→Gr r r' ws (cC n m x) S→Dist r r' ws (k+1) (cC n m x)→S=List.replicate k w0++[w1]∧cU n m cl cl' (x+k)=true
 | 0,x,S,hl,hG,hd=>by
  match S,hl,hG with
  | [y],_,hG=>
   obtain⟨p,h1,h2,_⟩:=hG
   rcases hw y (List.mem_of_getElem? h1) with rfl | rfl
   ·exact absurd h2 (a.bad0 b x)
   ·exact⟨rfl,(a.bad1 b x).mp h2⟩
 | k+1,x,S,hl,hG,hd=>by
  match S,hl,hG with
  | y::z::R,hl,hG=>
   have hRl:(z::R).length=k+1:=by simpa using hl
   obtain⟨q,h1,⟨p,g1,g2,g3⟩,h3⟩:=hG
   have hy:=List.mem_of_getElem? g1;have hdq:Dist r r' ws (k+1) q:=hd.next hy h1 (by rw[← hRl]; exact Gr.bad (z::R) h3)
   rcases hw y hy with e | e <;> rw[e]at h1
   ·rw[h1.one (a.go b x)]at h3 hdq
    obtain⟨e1,e2⟩:=Ring.row a b hw k (x+1) (z::R) hRl h3 hdq
    refine⟨by rw[e1,e]; rfl,by rw[show x+(k+1)=x+1+k by omega]; exact e2⟩
   ·rw[a.stay b h1]at hdq
    exact absurd hdq.1 (hd.2 (k+1) (by omega))
theorem Ring.found(a:Ring r n cl w0 w1)(b:Ring r' m cl' w0 w1)(hw:∀ y∈ws,y=w0∨y=w1)(m0:w0∈ws)(m1:w1∈ws){S:List Str}(hG:Gr r r' ws (0,0) S)(hd:Dist r r' ws S.length (0,0)):∃ N,S=List.replicate N w0++[w1]∧cU n m cl cl' N=true∧∀ x,x<N→cU n m cl cl' x=false:=by
 have hp:=hd.pos;obtain⟨k,hk⟩ : ∃ k,S.length=k+1:=⟨S.length - 1,by omega⟩
 have e0:((0,0):Nat × Nat)=cC n m 0:=by unfold cC; rw[Nat.zero_mod,Nat.zero_mod]
 rw[e0]at hG hd
 rw[hk]at hd
 obtain⟨h1,h2⟩:=a.row b hw k 0 S hk hG hd
 rw[Nat.zero_add]at h2
 refine⟨k,h1,h2,fun x hx=>?_⟩
 cases hb:cU n m cl cl' x with
 | false=>rfl
 | true=>exact absurd (a.reach b m0 m1 x 0 (by rw[Nat.zero_add]; exact hb)) (hd.2 (x+1) (by omega))
theorem Ring.none(a:Ring r n cl w0 w1)(b:Ring r' m cl' w0 w1)(m0:w0∈ws)(m1:w1∈ws)(h:∀ k,¬ ci r r' ws k (0,0))(x:Nat):cU n m cl cl' x=false:=by
 have e0:((0,0):Nat × Nat)=cC n m 0:=by unfold cC; rw[Nat.zero_mod,Nat.zero_mod]
 cases hb:cU n m cl cl' x with
 | false=>rfl
 | true=>exact absurd (a.reach b m0 m1 x 0 (by rw[Nat.zero_add]; exact hb)) (e0 ▸ h (x+1))
theorem sT(x:Nat):cU n m cl cl' (x % (n * m))=cU n m cl cl' x:=by
 unfold cU;rw[Nat.mod_mul_right_mod,Nat.mod_mul_left_mod]
end
section
variable{P:Program}{w:World}{K:PySem.W.Frag}{mg:Str→Option Value}{base:Heap}
theorem RoomsAs.push{H:Hp}{p a:Addr}{rs:List (List (Option Nat))}{as:List Addr}{x:List (Option Nat)}(h:RoomsAs H p rs as)(hp:p∉as)(ha:p≠a)(e:H a=some (.lst (x.map aA))):RoomsAs (upd H p (.lst (as.map V.ref++[.ref a]))) p (rs++[x]) (as++[a]):=by
 obtain⟨h1,h2,h3⟩:=h
 refine⟨by rw[ae]; simp,by simp[h2],fun i a' x' e1 e2=>?_⟩
 by_cases hi:i<as.length
 ·rw[List.getElem?_append_left hi]at e1
  rw[List.getElem?_append_left (by omega)]at e2
  rw[al (fun z=>by subst z; exact hp (List.mem_of_getElem? e1))]
  exact h3 i a' x' e1 e2
 ·have hi':i=as.length:=by have:=(List.getElem?_eq_some_iff.mp e1).1; simp at this; omega
  subst hi';rw[List.getElem?_append_right (Nat.le_refl _)]at e1
  rw[h2,List.getElem?_append_right (Nat.le_refl _)]at e2
  simp at e1 e2
  subst e1 e2;rw[al ha.symm]; exact e
theorem lP(x:Int)(hs:List Int):ib (.int x) (hs.map V.int)=true ↔ x∈hs:=by
 unfold ib;rw[List.any_map,List.any_eq_true]
 constructor
 ·rintro⟨y,hy,e⟩
  have e1:(y == x)=true:=e
  rw[beq_iff_eq]at e1; exact e1 ▸ hy
 ·intro h
  exact⟨x,h,show (x == x)=true from beq_self_eq_true x⟩
def bq(sz:Nat)(cl:Nat→Bool)(w0:Str)(i:Nat)(y:Str):Option Nat:=if y=w0 then some ((i+1) % sz) else if cl i then none else some i
def iE(sd:Int)(us:List Str)(sz:Nat)(cl:Nat→Bool)(w0:Str):Rl:=⟨sd,us,(List.range sz).map fun i=>us.map (bq sz cl w0 i)⟩
def pZ(K:PySem.W.Frag):Sp:=fun vs H Q _=>∃ (sd:Int) (wp cp:Addr) (sz:Nat) (w0 w1:Str) (cs:List Int),vs=[.int sd,.ref wp,.int (sz:Int),.ref cp]∧H wp=some (.lst ([w0,w1].map V.str))∧w0≠w1∧SqL K H cp (cs.map V.int)∧sz≤60∧∀ (t:Addr) (H':Hp) (us:List Str),Same H H'→us.Perm [w0,w1]→sortedS us=true→RuleAt H' t (iE sd us sz (fun i=>decide ((i:Int)∈cs)) w0)→Q (.ref t) H'
theorem uV(D:DefAt K mg "_law_ring" aO) (z_range:mg "range" = none) (z_sorted:mg "sorted" = none):bt P w K mg base 1 "_law_ring" ["_law_sides", "_law_words_here", "_law_size", "_law_closed"] (pZ K):=by
 refine D.cal (k:=0) sc_law_ring (fun _ _ _ _ _ _ us hl=>match us,hl with | [_,_,_,_],_=>rfl) (fun vs H Q E h=>by obtain⟨_,_,_,_,_,_,_,rfl,_⟩:=h; rfl) (fun f cdv A outer s H vs Q E hr h=>?_)
 obtain⟨sd,wp,cp,sz,w0,w1,cs,rfl,hw,hne,hc,h60,fin⟩:=h
 refine⟨_,(af (ao 4 sc_law_ring.nd (br ac))
   (af (bJ PassesOwn.never rfl (bW yV z_range (aa (pv 2) ac)) (aW 5 sc_law_ring.nd) (af (ao 6 sc_law_ring.nd (uw (ly (am (az K) (pv 1) ab (fun _ _=>rfl)) (aj aM (aj aK (pv 5) ab) (pv 2)) (ly (am (az K) (pv 1) ab (fun _ _=>rfl)) (pv 5) uE)) rfl rfl (by decide) (by decide)) (hx:=zE))
   (af (bd (ax (pA K) (pv 5) (pv 3) (by with_unfolding_all rfl)) (ak (cg aZ (cu (pv 6 (hv:=AC)) (am (az K) (pv 1) ab (fun _ _=>rfl)) (t_ hr)))) aP)
   (ak (ce (cQ K PySem.F.plainAttrs_list PySem.F.slot_list_append PySem.F.type_list_append bV (pv 4) (aa (gO (CompSc.to (fsc:=(defScope aO)) (N:=["_law_sides", "_law_words_here", "_law_size", "_law_closed", "_law_rooms_here", "_law_i", "_law_ways"]) (N0:=["_law_sides", "_law_words_here", "_law_size", "_law_closed", "_law_rooms_here", "_law_i", "_law_ways"]) (T:=["_law_word"]) ⟨by decide +kernel,by decide +kernel,by decide +kernel,by decide +kernel,by decide +kernel,by decide +kernel,by decide +kernel⟩ rfl rfl) rfl (cq K (bh (jw K) z_sorted cY (aa (pv 1) ac))) (fun _ _ _ _=>(aW 7 (show (["_law_sides", "_law_words_here", "_law_size", "_law_closed", "_law_rooms_here", "_law_i", "_law_ways", "_law_word"]:List Str).Nodup from by decide +kernel) (hx:=(jB (defScope aO) (by decide +kernel))) (hf:=nr (defScope aO) (by decide +kernel)))) (cX (show (["_law_sides", "_law_words_here", "_law_size", "_law_closed", "_law_rooms_here", "_law_i", "_law_ways"]:List Str).length≤7 from by decide)) (fun _ _ _ _=>cV) (fun _ _ _ _=>(am (xu K) (pv 6 (hv:=(cO (defScope aO) (by decide +kernel)))) (pv 7 (hv:=(cO (defScope aO) (by decide +kernel)))) (fun _ _=>rfl)))) ac)))))))
   (ak (aR (bF (aa (pv 0) (aa (bh (jw K) z_sorted cY (aa (pv 1) ac)) (aa (pv 4) ac)))))))),?_⟩
 walk_at "rd1";refine⟨by decide,fun rp hrp=>?_⟩
 have s1:=ah hrp (.lst []);have e1:upd H rp (.lst []) rp=some (.lst (([]:List Addr).map V.ref)):=ae
 generalize upd H rp (.lst [])=H1 at s1 e1 ⊢;walk_at "nx";refine⟨by omega,by omega,?_⟩
 rw[Int.toNat_natCast]
 refine bU (fun i σ H'=>∃ (as:List Addr) (o5 o6:Option V),σ=[some (.int sd),some (.ref wp),some (.int (sz:Int)),some (.ref cp),some (.ref rp),o5,o6]∧Same H H'∧H' rp=some (.lst (as.map V.ref))∧as.length=i∧rp∉as∧∀ us:List Str,us.Perm [w0,w1]→sortedS us=true→RoomsAs H' rp ((List.range i).map fun i=>us.map (bq sz (fun i=>decide ((i:Int)∈cs)) w0 i)) as)
  ⟨[],none,none,rfl,s1,e1,rfl,by simp,fun us _ _=>⟨e1,rfl,fun i a x e=>by simp at e⟩⟩ ?_ ?_
 rotate_left
 ·rintro σ H' ⟨as,o5,o6,rfl,sm,hl,hal,hrp',hR⟩
  walk_at "nx";refine⟨_,SqL.of (sm _ _ hw),by simp,fun w2 us hw2 pm so=>?_⟩
  have s2:=ah hw2 (.lst (us.map V.str));have e2:upd H' w2 (.lst (us.map V.str)) w2=some (.lst (us.map V.str)):=ae
  generalize upd H' w2 (.lst (us.map V.str))=H2 at s2 e2 ⊢;refine⟨by decide,fun t ht=>?_⟩
  have s3:=ah ht (.tup [V.int sd,V.ref w2,V.ref rp]);exact fin t _ us ((sm.trans s2).trans s3) pm so ⟨w2,rp,as,ae,s3 _ _ e2,(hR us pm so).mono (s2.trans s3)⟩
 rintro i σ H' hi ⟨as,o5,o6,rfl,sm,hl,hal,hrp',hR⟩
 walk_at "rd1";refine fun dp hdp=>?_
 have s2:=ah hdp (.dK []);refine⟨_,_,.inl (SqL.of ((sm.trans s2) _ _ hw)),dn,by omega,_,_,.inl (SqL.of ((sm.trans s2) _ _ hw)),aB (j:=1) rfl,ae,[(.inr w0,V.int ((0+(i:Int)+1) % (sz:Int))),(.inr w1,V.int (0+(i:Int)))],rfl,by simp,?_⟩
 have emk:eJ [] [((.inr w0:aU),V.int ((0+(i:Int)+1) % (sz:Int))),(.inr w1,V.int (0+(i:Int)))]=[(.inr w0,V.int ((0+(i:Int)+1) % (sz:Int))),(.inr w1,V.int (0+(i:Int)))]:=by
  simp[eJ,bQ,hne]
 rw[emk]
 have epk:bQ [((.inr w0:aU),V.int ((0+(i:Int)+1) % (sz:Int))),(.inr w1,V.int (0+(i:Int)))] (.inr w1) V.non=[(.inr w0,V.int ((0+(i:Int)+1) % (sz:Int))),(.inr w1,V.non)]:=by
  simp[bQ,hne]
 have s3:Same H' (upd (upd H' dp (.dK [])) dp (.dK [(.inr w0,V.int ((0+(i:Int)+1) % (sz:Int))),(.inr w1,V.int (0+(i:Int)))])):=s2.upd hdp _
 have e3:upd (upd H' dp (.dK [])) dp (.dK [((.inr w0:aU),V.int ((0+(i:Int)+1) % (sz:Int))),(.inr w1,V.int (0+(i:Int)))]) dp=some (.dK [(.inr w0,V.int ((0+(i:Int)+1) % (sz:Int))),(.inr w1,V.int (0+(i:Int)))]):=ae
 generalize upd (upd H' dp (.dK [])) dp (.dK [((.inr w0:aU),V.int ((0+(i:Int)+1) % (sz:Int))),(.inr w1,V.int (0+(i:Int)))])=H3 at s3 e3 ⊢;have hmodi:(0+(i:Int)+1) % (sz:Int)=(((i+1) % sz:Nat):Int):=by rw[Int.zero_add]; simp
 refine eM (fun σ' G=>σ'=[some (.int sd),some (.ref wp),some (.int (sz:Int)),some (.ref cp),some (.ref rp),some (.int (0+(i:Int))),some (.ref dp)]∧Same H' G∧G dp=some (.dK [(.inr w0,aA (bq sz (fun i=>decide ((i:Int)∈cs)) w0 i w0)),(.inr w1,aA (bq sz (fun i=>decide ((i:Int)∈cs)) w0 i w1))])) (fun k hk=>?_) ?_
 ·walk_at "rd1"
  refine⟨_,.inl ((sm.trans s3).seq hc),rfl,by simp[bf],?_⟩
  have w0v:aA (bq sz (fun i=>decide ((i:Int)∈cs)) w0 i w0)=V.int ((0+(i:Int)+1) % (sz:Int)):=by rw[hmodi]; unfold bq; rw[if_pos rfl]; rfl
  have e0i:(0+(i:Int))=(i:Int):=Int.zero_add _
  refine aw (fun c=>?_) (fun c=>?_)
  ·rw[lP,e0i]at c
   have w1v:aA (bq sz (fun i=>decide ((i:Int)∈cs)) w0 i w1)=V.non:=by unfold bq; rw[if_neg (Ne.symm hne),if_pos (decide_eq_true c)]; rfl
   refine⟨_,_,.inl (SqL.of ((sm.trans s3) _ _ hw)),aB (j:=1) rfl,dp,_,.inr w1,rfl,rfl,e3,bg (by simp),?_⟩
   rw[epk];refine hk _ _ ⟨rfl,s3.upd hdp _,?_⟩
   rw[ae,w0v,w1v]
  ·rw[lP,e0i]at c
   have w1v:aA (bq sz (fun i=>decide ((i:Int)∈cs)) w0 i w1)=V.int (0+(i:Int)):=by unfold bq; rw[if_neg (Ne.symm hne),if_neg (by simpa using c),e0i]; rfl
   refine hk _ _ ⟨rfl,s3,?_⟩
   rw[w0v,w1v]; exact e3
 rintro σ' G ⟨rfl,sG,eG⟩
 have hlG:=sG _ _ hl;walk_at "nx";refine⟨⟨_,SqL.of hlG⟩,_,SqL.of ((sm.trans sG) _ _ hw),by simp,fun l us hl2 pm so=>?_⟩
 have s4:=ah hl2 (.lst (us.map V.str));have e4:upd G l (.lst (us.map V.str)) l=some (.lst (us.map V.str)):=ae
 generalize upd G l (.lst (us.map V.str))=H4 at s4 e4 ⊢;refine⟨⟨_,SqL.of e4⟩,fun L hL=>?_⟩
 have s5:=ah hL (.lst []);have hul:us.length=2:=pm.length_eq
 refine eT (xs:=us.map V.str) (fun j ys H'=>Same H4 H'∧H' L=some (.lst ys)∧ys=((us.take j).map (bq sz (fun i=>decide ((i:Int)∈cs)) w0 i)).map aA) ⟨s5,ae,rfl⟩ (fun j ys H' _ h=>SqL.of (h.1 _ _ e4)) ?_ ?_
 ·rintro j ys H' v hv hj ⟨sx,hLx,rfl⟩
  have hju:j<us.length:=by simpa using hj
  rw[List.getElem?_map,List.getElem?_eq_getElem hju]at hv
  cases hv;walk_at "rd1";have hmem:us[j]=w0∨us[j]=w1:=by have:=pm.mem_iff.mp (List.getElem_mem hju); simpa using this
  refine .inr ⟨dp,_,.inr us[j],aA (bq sz (fun i=>decide ((i:Int)∈cs)) w0 i us[j]),rfl,rfl,(s4.trans sx) _ _ eG,?_,?_⟩
  ·rcases hmem with e | e <;> rw[e]
   ·exact bi rfl
   ·rw[bo (by simpa using hne)]; exact bi rfl
  ·refine iL hj (by simp; omega) (by rw[List.length_map]; exact bg (by omega)) hLx ⟨sx.upd hL _,ae,?_⟩
   rw[List.take_add_one,List.getElem?_eq_getElem hju,List.map_append,List.map_append]; rfl
 rintro ys H6 ⟨sx,hLx,rfl⟩
 have s46:=s4.trans sx;have hl6:=s46 _ _ hlG;rw[List.length_map,List.take_of_length_le (Nat.le_refl _)]at hLx
 have hLo:H' L=none:=sG.free (s4.free hL)
 refine⟨_,hl6,by rw[List.length_map]; exact bg (by omega),as++[L],_,_,rfl,((sm.trans sG).trans s46).upd hrp _,by rw[ae,List.map_append]; rfl,by simp[hal],?_,fun us' pm' so'=>?_⟩
 ·rw[List.mem_append,List.mem_singleton,not_or]
  exact⟨hrp',aE hl hLo⟩
 ·have nd2:[w0,w1].Nodup:=by simp[hne]
  have eu:us'=us:=ic (pm'.nodup_iff.mpr nd2) (pm.nodup_iff.mpr nd2) so' so fun x=>by rw[pm'.mem_iff,pm.mem_iff]
  subst eu;have:=((hR us' pm' so').mono (sG.trans s46)).push hrp' (aE hl hLo) hLx
  rw[List.range_succ,List.map_append];exact this
theorem lR{sd:Int}{us:List Str}{sz:Nat}{cl:Nat→Bool}{w0 w1:Str}(hn:1≤sz)(hne:w0≠w1)(pm:us.Perm [w0,w1]):Ring (iE sd us sz cl w0) sz cl w0 w1:=by
 have key:∀ i,i<sz→∀ y,y∈us→ar (iE sd us sz cl w0) i y=bq sz cl w0 i y:=fun i hi y hy=>by
  have hl:us.idxOf y<us.length:=List.idxOf_lt_length_iff.mpr hy
  unfold ar;rw[if_pos (show y∈(iE sd us sz cl w0).ws from hy)];show (((List.range sz).map fun i=>us.map (bq sz cl w0 i)).getD i []).getD (us.idxOf y) none=_
  have e:((List.range sz).map fun i=>us.map (bq sz cl w0 i)).getD i []=us.map (bq sz cl w0 i):=by
   rw[b_ (show i<((List.range sz).map fun i=>us.map (bq sz cl w0 i)).length by rw[List.length_map,List.length_range]; exact hi)]
   simp
  rw[e,b_ (show us.idxOf y<(us.map (bq sz cl w0 i)).length by rw[List.length_map]; exact hl)]
  simp only[List.getElem_map,List.getElem_idxOf hl]
 refine⟨hn,fun i hi=>?_,fun i hi=>?_⟩
 ·rw[key i hi w0 (pm.mem_iff.mpr (by simp))]
  unfold bq; rw[if_pos rfl]
 ·rw[key i hi w1 (pm.mem_iff.mpr (by simp))]
  unfold bq; rw[if_neg (Ne.symm hne)]
theorem ma{sd:Int}{us:List Str}{sz:Nat}{cl:Nat→Bool}{w0 w1:Str}(hs:sd=1∨sd=2)(hn:1≤sz)(h60:sz≤60)(pm:us.Perm [w0,w1])(h0:w0.length≤10)(h1:w1.length≤10):bP (iE sd us sz cl w0):=by
 have hl:us.length=2:=pm.length_eq
 refine⟨hs,by show us.length≤16; omega,by show 1≤(List.map _ _).length; simpa using hn,by show (List.map _ _).length≤60; simpa using h60,fun x hx=>?_,fun u hu=>?_⟩
 ·obtain⟨i,hi,rfl⟩:=List.mem_map.mp hx
  have hi':=List.mem_range.mp hi;refine⟨by simp[iE],fun k hk=>?_⟩
  obtain⟨y,_,e⟩:=List.mem_map.mp hk
  show k<(List.map _ _).length
  rw[List.length_map,List.length_range];unfold bq at e;split at e
  ·cases e; exact Nat.mod_lt _ hn
  ·split at e
   ·cases e
   ·cases e; exact hi'
 ·have:=pm.mem_iff.mp hu
  rcases List.mem_cons.mp this with e | e
  ·rw[e]; exact h0
  ·rw[List.mem_singleton.mp e]; exact h1
def DueAt(H:Hp)(w0 w1:Str)(b:Nat→Bool)(k:Nat)(d:V):Prop:=(d = .non∧∀ x,x<k→b x=false)∨∃ l N,d = .ref l∧N<k∧b N=true∧(∀ x,x<N→b x=false)∧H l=some (.lst ((List.replicate N w0++[w1]).map V.str))
theorem DueAt.mono{H H':Hp}{w0 w1:Str}{b:Nat→Bool}{k:Nat}{d:V}(h:DueAt H w0 w1 b k d)(sm:Same H H'):DueAt H' w0 w1 b k d:=by
 rcases h with h | ⟨l,N,z1,z2,z3,z4,z5⟩
 ·exact .inl h
 ·exact .inr ⟨l,N,z1,z2,z3,z4,sm _ _ z5⟩
theorem DueAt.put{H:Hp}{w0 w1:Str}{b:Nat→Bool}{k:Nat}{d v v':V}{dp:Addr}{u:HO}(h:DueAt H w0 w1 b k d)(e:H dp=some (.lst [v,v']))(hv:∀ s,v ≠ .str s):DueAt (upd H dp u) w0 w1 b k d:=by
 rcases h with h | ⟨l,N,z1,z2,z3,z4,z5⟩
 ·exact .inl h
 ·refine .inr ⟨l,N,z1,z2,z3,z4,?_⟩
  rw[al (fun z=>?_)]
  ·exact z5
  ·rw[z,e]at z5
   have e2:=HO.lst.inj (Option.some.inj z5)
   cases N with
   | zero=>simp at e2
   | succ N=>
    rw[List.replicate_succ,List.cons_append,List.map_cons]at e2
    injection e2 with e2 _
    exact hv _ e2
theorem DueAt.nstr{H:Hp}{w0 w1:Str}{b:Nat→Bool}{k:Nat}{d:V}(h:DueAt H w0 w1 b k d):∀ s,d ≠ .str s:=fun s e=>by
 rcases h with ⟨h,_⟩ | ⟨l,N,h,_⟩
 ·rw[e]at h; cases h
 ·rw[e]at h; cases h
theorem DueAt.skip{H:Hp}{w0 w1:Str}{b:Nat→Bool}{k:Nat}{d:V}(h:DueAt H w0 w1 b k d)(hb:d = .non→b k=false):DueAt H w0 w1 b (k+1) d:=by
 rcases h with ⟨h1,h2⟩ | ⟨l,N,z1,z2,z3⟩
 ·refine .inl ⟨h1,fun x hx=>?_⟩
  rcases Nat.lt_or_ge x k with c | c
  ·exact h2 x c
  ·rw[show x=k by omega]; exact hb h1
 ·exact .inr ⟨l,N,z1,by omega,z3⟩
theorem ls(v:V):∀ x:Nat,(List.replicate x [v]).flatten=List.replicate x v
 | 0=>rfl
 | x+1=>by rw[List.replicate_succ,List.flatten_cons,ls v x]; rfl
theorem lY{H:Hp}{r r':Rl}{n m M:Nat}{cl cl':Nat→Bool}{w0 w1:Str}{ws:List Str}{v d:V}{b:Nat→Bool}(x:Ring r n cl w0 w1)(y:Ring r' m cl' w0 w1)(hw:∀ y∈ws,y=w0∨y=w1)(m0:w0∈ws)(m1:w1∈ws)(hv:jr r r' ws H v)(hb:∀ z,cU n m cl cl' z=b z)(hd:DueAt H w0 w1 b M d)(hM:M=n * m):(v = .non∧d = .non)∨∃ l l',∃ row:List Str,v = .ref l∧d = .ref l'∧H l=some (.lst (row.map V.str))∧H l'=some (.lst (row.map V.str)):=by
 have hpos:0<n * m:=Nat.mul_pos x.n0 y.n0
 rcases hv with ⟨hv,hn⟩ | ⟨l,row,hv,hl,hG,hdi,_⟩
 ·rcases hd with ⟨hd,_⟩ | ⟨l',N,hd,_,hbN,_⟩
  ·exact .inl ⟨hv,hd⟩
  ·have:=x.none y m0 m1 hn N
   rw[hb,hbN]at this; cases this
 ·obtain⟨N0,e,g1,g2⟩:=x.found y hw m0 m1 hG hdi
  rcases hd with ⟨hd,hall⟩ | ⟨l',N,hd,_,hbN,hfN,hl'⟩
  ·have h1:=sT (n:=n) (m:=m) (cl:=cl) (cl':=cl') N0
   rw[g1,hb,hall _ (by rw[hM]; exact Nat.mod_lt _ hpos)]at h1
   cases h1
  ·have eN:N=N0:=by
    rcases Nat.lt_trichotomy N N0 with c | c | c
    ·have:=g2 N c
     rw[hb,hbN]at this; cases this
    ·exact c
    ·have:=hfN N0 c
     rw[← hb,g1]at this; cases this
   refine .inr ⟨l,l',row,hv,hd,hl,?_⟩
   rw[hl',e,eN]
theorem lQ{x y:Rl}{W:List Str}{v:V}{G G' G'':Hp}(sm:Same G' G'')(h:v = .non∧(∀ n,¬ ci x y W n (0,0))∨∃ l row,v = .ref l∧G l=none∧G' l=some (.lst (row.map V.str))∧Gr x y W (0,0) row∧Dist x y W row.length (0,0)∧row.length≤4001):jr x y W G'' v:=by
 rcases h with h | ⟨l,row,z1,z2,z3,z4⟩
 ·exact .inl h
 ·exact .inr ⟨l,row,z1,sm _ _ z3,z4⟩
theorem sr{y z:Int}(h:dM y=dM z):y % 26=z % 26:=by
 have key:∀ i j:Fin 26,letters.cps.toList.getD i.val 0=letters.cps.toList.getD j.val 0→i=j:=by decide +kernel
 have:=key ⟨(y % 26).toNat,by omega⟩ ⟨(z % 26).toNat,by omega⟩ h
 have:=congrArg Fin.val this
 simp only[]at this
 omega
theorem tK(c:Nat):∀ (k:Nat),1≤k→k≤8→T (Txt.mul (⟨#[c]⟩ : Str) (k:Int))=List.replicate k c
 | 1,_,_=>by simp[Txt.mul,T]
 | 2,_,_=>by simp[Txt.mul,T,Str.length,List.replicate]
 | 3,_,_=>by simp[Txt.mul,T,Str.length,List.replicate]
 | 4,_,_=>by simp[Txt.mul,T,Str.length,List.replicate]
 | 5,_,_=>by simp[Txt.mul,T,Str.length,List.replicate]
 | 6,_,_=>by simp[Txt.mul,T,Str.length,List.replicate]
 | 7,_,_=>by simp[Txt.mul,T,Str.length,List.replicate]
 | 8,_,_=>by simp[Txt.mul,T,Str.length,List.replicate]
theorem sZ(D:DefAt K mg "_law_rings_told" ai) (z_range:mg "range" = none) (z_list:mg "list" = none) (z_str:mg "str" = none) (z_zip:mg "zip" = none) (z_isinstance:mg "isinstance" = none) (c_law_cell_at:bt P w K mg base 1 "_law_cell_at" ["_law_script", "_law_k"] (ja K)) (c_law_ring:bt P w K mg base 1 "_law_ring" ["_law_sides", "_law_words_here", "_law_size", "_law_closed"] (pZ K)) (c_row_apart:bt P w K mg base 3 "row_apart" ["other", "one"] jN):bt P w K mg base 4 "_law_rings_told" ["_law_script", "_law_sides"] (mL K):=by
 refine D.cal (k:=3) sc_law_rings_told (fun _ _ _ _ _ _ us hl=>match us,hl with | [_,_],_=>rfl) (fun vs H Q E h=>by obtain⟨_,_,_,rfl,_⟩:=h; rfl) (fun f cdv A outer s H vs Q E hr h=>?_)
 obtain⟨a,ns,sd,rfl,hS,h63,hsd,fin⟩:=h
 refine⟨_,(af (ao 2 sc_law_rings_told.nd (aj aM (aC c_law_cell_at hr (aa (pv 0) (aa ab ac))) ab))
   (af (ao 3 sc_law_rings_told.nd (aj aM (aC c_law_cell_at hr (aa (pv 0) (aa ab ac))) ab))
   (af (ao 4 sc_law_rings_told.nd eF)
   (af (ao 5 sc_law_rings_told.nd (br (aa (aj cG (am (az K) (pv 4) (aj aM (pv 2) ab) (fun _ _=>rfl)) (aj aK ab (aj aM (aj bL (pv 2) ab) ab))) (aa (aj cG (am (az K) (pv 4) (aj aM (aj aK (aj aK (pv 2) ab) (aj aM (pv 3) ab)) ab) (fun _ _=>rfl)) (aj aK ab (aj aM (aj bL (pv 3) ab) ab))) ac))))
   (af (bd (ax bH (pv 1) ab (aH _)) (ak (ao 5 sc_law_rings_told.nd (br (aa (aj aK (aj aK (bR iu z_str jc (aa (aj aK ab (aj aM (aj bL (pv 2) ab) ab)) ac)) eF) (am (az K) (pv 5) ab (fun _ _=>rfl))) (aa (aj aK (aj aK (bR iu z_str jc (aa (aj aK ab (aj aM (aj bL (pv 3) ab) ab)) ac)) eF) (am (az K) (pv 5) ab (fun _ _=>rfl))) ac))))) aP)
   (af (ao 6 sc_law_rings_told.nd (aj aK ab (aj aM (aC c_law_cell_at hr (aa (pv 0) (aa ab ac))) ab)))
   (af (ao 7 sc_law_rings_told.nd (aj aK ab (aj aM (aC c_law_cell_at hr (aa (pv 0) (aa ab ac))) ab)))
   (af (bd (ax bH (pv 6) ab (aH _)) (ak (ao 7 sc_law_rings_told.nd (aj aK ab (aj aM (aC c_law_cell_at hr (aa (pv 0) (aa ab ac))) ab)))) aP)
   (af (ao 8 sc_law_rings_told.nd (aj aM (aC c_law_cell_at hr (aa (pv 0) (aa ab ac))) (pv 7)))
   (af (ao 9 sc_law_rings_told.nd (aC c_law_ring hr (aa (pv 1) (aa (pv 5) (aa (pv 6) (aa (bR (kD hr) z_list cw (aa (bR p_ z_range sW (aa ab (aa (pv 6) ac))) ac)) ac))))))
   (af (ao 10 sc_law_rings_told.nd (aC c_law_ring hr (aa (pv 1) (aa (pv 5) (aa (pv 7) (aa (br (aa (pv 8) ac)) ac))))))
   (af (ao 11 sc_law_rings_told.nd (br (aa aZ (aa aZ ac))))
   (af (bJ PassesOwn.never rfl (bW wu z_range (aa (aj cG (pv 6) (pv 7)) ac)) (aW 12 sc_law_rings_told.nd) (af (bd (PW.pt' (b6 (ax cK (am (az K) (pv 11) ab (fun _ _=>rfl)) aZ (aH _)) (b6 (ax bH (aj aM (pv 12) (pv 6)) ab (aH _)) (cz (ax bH (aj aM (pv 12) (pv 7)) (pv 8) (aH _)))))) (ak (cg (aj aK (aj oZ (br (aa (am (az K) (pv 5) ab (fun _ _=>rfl)) ac)) (pv 12)) (br (aa (am (az K) (pv 5) ab (fun _ _=>rfl)) ac))) (cu (pv 11) ab jo))) aP)
   (ak (bd (PW.pt' (b6 (ax cK (am (az K) (pv 11) ab (fun _ _=>rfl)) aZ (aH _)) (b6 (ax gN (aj aM (pv 12) (pv 6)) ab (aH _)) (cz (ax gN (aj aM (pv 12) (pv 7)) (pv 8) (aH _)))))) (ak (cg (aj aK (aj oZ (br (aa (am (az K) (pv 5) ab (fun _ _=>rfl)) ac)) (pv 12)) (br (aa (am (az K) (pv 5) ab (fun _ _=>rfl)) ac))) (cu (pv 11) ab jo))) aP))))
   (af (bJ PassesOwn.never rfl (m3 K zJ z_zip (aa (br (aa (aC c_row_apart hr (aa (pv 9) (aa (pv 10) ac))) (aa (aC c_row_apart hr (aa (pv 10) (aa (pv 9) ac))) ac))) (aa (pv 11) ac))) (gz K (n:=2) (b8 (aW 13 sc_law_rings_told.nd) (b8 (aW 14 sc_law_rings_told.nd) gR))) (ak (bd (PW.pt' (ga (PW.pt' (b6 (ax cK (pv 14) aZ (aH _)) (cz (ax b7 (pv 13) aZ (aH _))))) (ga (PW.pt' (b6 (ax b7 (pv 14) aZ (aH _)) (cz (gF (fR (bh i0 z_isinstance eO (aa (pv 13) (aa (lE z_list cw) ac)))))))) (fX (ax (wM K hr) (pv 13) (pv 14) (aH _)))))) (ak (aR cD)) aP)))
   (ak (aR cD)))))))))))))))),?_⟩
 walk_at "rd1";refine⟨a,ns,1,rfl,hS,by decide,?_⟩
 generalize ns.getD (1:Int).toNat 0=c1
 walk_at "rd1";refine⟨by decide,?_⟩
 walk_at "nx";refine⟨a,ns,2,rfl,hS,by decide,?_⟩
 generalize ns.getD (2:Int).toNat 0=c2
 walk_at "rd1";refine⟨by decide,?_⟩
 walk_at "nx";walk_at "nx";generalize c1 % 2147483647=x1
 generalize c2 % 2147483647=x2
 obtain⟨l1,l2⟩:=g7 x1
 obtain⟨l3,l4⟩:=g7 (x1+1+x2 % 25)
 obtain⟨k1,ek1,hk1,hk1'⟩ : ∃ z:Nat,1+x1 / 26 % 8=(z:Int)∧1≤z∧z≤8:=⟨(1+x1 / 26 % 8).toNat,by omega,by omega,by omega⟩
 obtain⟨k2,ek2,hk2,hk2'⟩ : ∃ z:Nat,1+x2 / 25 % 8=(z:Int)∧1≤z∧z≤8:=⟨(1+x2 / 25 % 8).toNat,by omega,by omega,by omega⟩
 refine⟨by decide,_,l1,l2,⟨by decide,by decide⟩,by decide,by omega,by omega,by show 1≤4096; decide,by decide,by decide,_,l3,l4,⟨by decide,by decide⟩,by decide,by omega,by omega,by show 1≤4096; decide,by decide,fun p1 hp1=>?_⟩
 rw[ek1,ek2];have hT1:=tK (dM x1) k1 hk1 hk1';have hT2:=tK (dM (x1+1+x2 % 25)) k2 hk2 hk2';have hlet:dM x1≠dM (x1+1+x2 % 25):=fun e=>by have:=sr e; omega
 generalize Txt.mul (⟨#[dM x1]⟩ : Str) (k1:Int)=u1 at hT1 ⊢;generalize Txt.mul (⟨#[dM (x1+1+x2 % 25)]⟩ : Str) (k2:Int)=u2 at hT2 ⊢;generalize dM x1=f1 at hT1 hlet;generalize dM (x1+1+x2 % 25)=f2 at hT2 hlet;have hl1:u1.length=k1:=by rw[← bA,hT1,List.length_replicate]
 have hl2:u2.length=k2:=by rw[← bA,hT2,List.length_replicate]
 have g1:(T u1)[0]? = some f1:=by rw[hT1,List.getElem?_replicate,if_pos (by omega)]
 have g2:(T u2)[0]? = some f2:=by rw[hT2,List.getElem?_replicate,if_pos (by omega)]
 have s1:=ah hp1 (.lst ([u1,u2].map V.str));have e1:upd H p1 (.lst [V.str u1,V.str u2]) p1=some (.lst ([u1,u2].map V.str)):=ae
 have s1:Same H (upd H p1 (.lst [V.str u1,V.str u2])):=s1
 generalize upd H p1 (.lst [V.str u1,V.str u2])=H1 at s1 e1 ⊢;refine eM (fun σ' G=>∃ (wp:Addr) (w0 w1:Str),σ'=[some (.ref a),some (.int sd),some (.int x1),some (.int x2),some (.str letters),some (.ref wp),none,none,none,none,none,none,none,none,none]∧Same H G∧G wp=some (.lst ([w0,w1].map V.str))∧w0≠w1∧w0.length≤10∧w1.length≤10) (fun k hk=>?_) ?_
 ·rcases hsd with rfl | rfl
  ·walk_at "rd1"
   refine aw (fun c=>absurd c (by decide)) (fun _=>?_)
   exact hk _ _ ⟨p1,u1,u2,rfl,s1,e1,fun e=>hlet (by rw[e,g2]at g1; exact(Option.some.inj g1).symm),by omega,by omega⟩
  ·walk_at "rd1"
   have d1:1+x1 / 208 % 2=1∨1+x1 / 208 % 2=2:=by omega
   have d2:1+x2 / 200 % 2=1∨1+x2 / 200 % 2=2:=by omega
   have hd1:(Str.ofString (toString (1+x1 / 208 % 2))).length=1:=by rcases d1 with e | e <;> rw[e] <;> decide +kernel
   have hd2:(Str.ofString (toString (1+x2 / 200 % 2))).length=1:=by rcases d2 with e | e <;> rw[e] <;> decide +kernel
   have hg1:(1+x1 / 208 % 2).natAbs.log2<1920:=by rcases d1 with e | e <;> rw[e] <;> decide +kernel
   have hg2:(1+x2 / 200 % 2).natAbs.log2<1920:=by rcases d2 with e | e <;> rw[e] <;> decide +kernel
   generalize Str.ofString (toString (1+x1 / 208 % 2))=v1 at hd1 ⊢;generalize Str.ofString (toString (1+x2 / 200 % 2))=v2 at hd2 ⊢;have hdot:(Str.ofString ".").length=1:=by decide +kernel
   have hq1:(v1++Str.ofString ".").length=2:=by rw[← bA,eX,List.length_append,bA,bA,hd1,hdot]
   have hq2:(v2++Str.ofString ".").length=2:=by rw[← bA,eX,List.length_append,bA,bA,hd2,hdot]
   refine⟨⟨by decide,by decide⟩,by decide,hg1,by rw[hd1,hdot]; exact bg (by decide),_,_,.inl (SqL.of e1),dn,?_⟩
   walk_at "rd1";refine⟨by rw[hq1]; exact bg (by omega),⟨by decide,by decide⟩,by decide,hg2,by rw[hd2,hdot]; exact bg (by decide),_,_,.inl (SqL.of e1),aB (j:=1) rfl,?_⟩
   walk_at "rd1";refine⟨by rw[hq2]; exact bg (by omega),by decide,fun p2 hp2=>?_⟩
   refine hk _ _ ⟨p2,v1++Str.ofString "." ++ u1,v2++Str.ofString "." ++ u2,rfl,s1.trans (ah hp2 _),ae,fun e=>?_,?_,?_⟩
   ·have e':=congrArg T e
    rw[eX,eX (v2++Str.ofString ".")]at e'
    have e2:=congrArg (fun l:List Nat=>l[2]?) e'
    have e2:(T (v1++Str.ofString ".")++T u1)[2]? = (T (v2++Str.ofString ".")++T u2)[2]?:=e2
    rw[List.getElem?_append_right (by rw[bA,hq1]; omega),List.getElem?_append_right (by rw[bA,hq2]; omega),bA,bA,hq1,hq2,Nat.sub_self,g1,g2]at e2
    exact hlet (Option.some.inj e2)
   ·rw[← bA,eX,List.length_append,bA,bA,hq1]; omega
   ·rw[← bA,eX,List.length_append,bA,bA,hq2]; omega
 rintro σ' G ⟨wp,w0,w1,rfl,sG,eW,hne,hw0,hw1⟩
 walk_at "nx";refine⟨a,ns,3,rfl,sG.seq hS,by decide,?_⟩
 generalize ns.getD (3:Int).toNat 0=c3
 walk_at "rd1";refine⟨by decide,?_⟩
 walk_at "nx";refine⟨a,ns,4,rfl,sG.seq hS,by decide,?_⟩
 generalize hc4:ns.getD (4:Int).toNat 0=c4
 walk_at "rd1";refine⟨by decide,?_⟩
 obtain⟨n,en,hn,hn'⟩ : ∃ z:Nat,1+c3 % 14=(z:Int)∧1≤z∧z≤14:=⟨(1+c3 % 14).toNat,by omega,by omega,by omega⟩
 obtain⟨m,em,hm,hm'⟩ : ∃ z:Nat,1+c4 % 14=(z:Int)∧1≤z∧z≤14:=⟨(1+c4 % 14).toNat,by omega,by omega,by omega⟩
 rw[en,em];refine eM (fun σ' G'=>∃ m:Nat,σ'=[some (.ref a),some (.int sd),some (.int x1),some (.int x2),some (.str letters),some (.ref wp),some (.int (n:Int)),some (.int (m:Int)),none,none,none,none,none,none,none]∧G'=G∧1≤m∧m≤60) (fun k hk=>?_) ?_
 ·walk_at "rd1"
  refine aw (fun _=>?_) (fun _=>hk _ _ ⟨m,rfl,rfl,hm,by omega⟩)
  refine⟨a,ns,4,rfl,sG.seq hS,by decide,?_⟩
  rw[hc4];walk_at "rd1";refine⟨by decide,?_⟩
  obtain⟨m',em',hm1,hm2⟩ : ∃ z:Nat,1+c4 % 60=(z:Int)∧1≤z∧z≤60:=⟨(1+c4 % 60).toNat,by omega,by omega,by omega⟩
  rw[em'];exact hk _ _ ⟨m',rfl,rfl,hm1,hm2⟩
 clear hm hm' em;rintro σ' G' ⟨m,rfl,rfl,hm,hm'⟩
 walk_at "nx";refine⟨a,ns,5,rfl,sG.seq hS,by decide,?_⟩
 generalize ns.getD (5:Int).toNat 0=c5
 walk_at "rd1";refine⟨by omega,?_⟩
 obtain⟨at',eat,hat⟩ : ∃ z:Nat,c5 % (m:Int)=(z:Int)∧z<m:=⟨(c5 % (m:Int)).toNat,by have:=Int.emod_nonneg c5 (show (m:Int)≠0 by omega); omega,by have:=Int.emod_nonneg c5 (show (m:Int)≠0 by omega); have:=Int.emod_lt_of_pos c5 (show (0:Int)<m by omega); omega⟩
 rw[eat];walk_at "nx";refine⟨1,(n:Int),rfl,fun rp hrp=>?_⟩
 have s2:=ah hrp (.rng 1 (n:Int));have e2:upd G' rp (.rng 1 (n:Int)) rp=some (.rng 1 (n:Int)):=ae
 generalize upd G' rp (.rng 1 (n:Int))=H2 at s2 e2 ⊢;refine⟨rp,1,n - 1,rfl,by rw[e2,show (1:Int)+((n - 1:Nat):Int)=(n:Int) by omega],by omega,by decide,by decide,fun cp hcp=>?_⟩
 have s3:=ah hcp (.lst ((List.range (n - 1)).map fun k:Nat=>V.int (1+(k:Int))))
 have e3:upd H2 cp (.lst ((List.range (n - 1)).map fun k:Nat=>V.int (1+(k:Int)))) cp=some (.lst (((List.range (n - 1)).map fun k:Nat=>(1+(k:Int))).map V.int)):=by rw[ae,List.map_map]; rfl
 generalize upd H2 cp (.lst ((List.range (n - 1)).map fun k:Nat=>V.int (1+(k:Int))))=H3 at s3 e3 ⊢
 have sG3:=s2.trans s3;refine⟨sd,wp,cp,n,w0,w1,_,rfl,sG3 _ _ eW,hne,SqL.of e3,by omega,fun r1 H4 us s4 pm so hR1=>?_⟩
 walk_at "nx";refine⟨by decide,fun cp2 hcp2=>?_⟩
 have s5:=ah hcp2 (.lst [V.int (at':Int)]);have e5:upd H4 cp2 (.lst [V.int (at':Int)]) cp2=some (.lst ([(at':Int)].map V.int)):=ae
 generalize upd H4 cp2 (.lst [V.int (at':Int)])=H5 at s5 e5 ⊢
 have sG5:=sG3.trans (s4.trans s5);refine⟨sd,wp,cp2,m,w0,w1,_,rfl,sG5 _ _ eW,hne,SqL.of e5,hm',fun r2 H6 us' s6 pm' so' hR2=>?_⟩
 have nd2:[w0,w1].Nodup:=by simp[hne]
 have eu:us'=us:=ic (pm'.nodup_iff.mpr nd2) (pm.nodup_iff.mpr nd2) so' so fun x=>by rw[pm'.mem_iff,pm.mem_iff]
 subst eu;have sG6:=sG5.trans s6;have hR1:=hR1.mono (s5.trans s6);walk_at "nx";refine⟨by decide,fun dp hdp=>?_⟩
 have s7:=ah hdp (.lst [V.non,V.non]);have e7:upd H6 dp (.lst [V.non,V.non]) dp=some (.lst [V.non,V.non]):=ae
 generalize upd H6 dp (.lst [V.non,V.non])=H7 at s7 e7 ⊢;have hR2:=hR2;walk_at "nx";refine⟨.inl ⟨by omega,by omega⟩,?_⟩
 have hnm:(n:Int) * (m:Int)=((n * m:Nat):Int):=by simp
 have hnm9:n * m≤900:=Nat.le_trans (Nat.mul_le_mul hn' hm') (by decide)
 rw[hnm];refine⟨by omega,by omega,?_⟩
 rw[Int.toNat_natCast]
 refine bU (fun x σ H'=>∃ (d0 d1:V) (o12:Option V),σ=[some (.ref a),some (.int sd),some (.int x1),some (.int x2),some (.str letters),some (.ref wp),some (.int (n:Int)),some (.int (m:Int)),some (.int (at':Int)),some (.ref r1),some (.ref r2),some (.ref dp),o12,none,none]∧Same H6 H'∧H' dp=some (.lst [d0,d1])∧DueAt H' w0 w1 (fun x=>decide (x % n=0∧x % m=at')) x d0∧DueAt H' w0 w1 (fun x=>decide (x % n≠0∧x % m≠at')) x d1)
  ⟨.non,.non,none,rfl,s7,e7,.inl ⟨rfl,fun x h=>absurd h (Nat.not_lt_zero _)⟩,.inl ⟨rfl,fun x h=>absurd h (Nat.not_lt_zero _)⟩⟩ ?_ ?_
 ·rintro x σ H' hx ⟨d0,d1,o12,rfl,sx,ed,hd0,hd1⟩
  have hxn:x≤900:=by omega
  have m0':(0+(x:Int)) % (n:Int)=((x % n:Nat):Int):=by simp
  have m1':(0+(x:Int)) % (m:Int)=((x % m:Nat):Int):=by simp
  have eWx:∀ {G2:Hp},Same H6 G2→G2 wp=some (.lst ([w0,w1].map V.str)):=fun {G2} sm=>(sG6.trans sm) _ _ eW
  have row:∀ (v:Str),(List.replicate (0+(x:Int)).toNat [V.str v]).flatten=(List.replicate x v).map V.str:=fun v=>by
   rw[Int.zero_add,Int.toNat_natCast,List.map_replicate,ls]
  dsimp only
  refine eM (fun σ' G2=>∃ d0:V,σ'=[some (.ref a),some (.int sd),some (.int x1),some (.int x2),some (.str letters),some (.ref wp),some (.int (n:Int)),some (.int (m:Int)),some (.int (at':Int)),some (.ref r1),some (.ref r2),some (.ref dp),some (.int (0+(x:Int))),none,none]∧Same H6 G2∧G2 dp=some (.lst [d0,d1])∧DueAt G2 w0 w1 (fun x=>decide (x % n=0∧x % m=at')) (x+1) d0∧DueAt G2 w0 w1 (fun x=>decide (x % n≠0∧x % m≠at')) x d1) (fun k hk=>?_) ?_
  ·walk_at "rd1"
   refine⟨_,_,.inl (SqL.of ed),dn,?_⟩
   refine aw (fun cn=>?_) (fun cn=>hk _ _ ⟨d0,rfl,sx,ed,hd0.skip fun e=>absurd e cn,hd1⟩)
   refine⟨by omega,?_⟩
   rw[m0'];refine aw (fun c1=>?_) (fun c1=>hk _ _ ⟨d0,rfl,sx,ed,hd0.skip fun _=>decide_eq_false (fun z=>c1 (by omega)),hd1⟩)
   refine⟨by omega,?_⟩
   rw[m1'];refine aw (fun c2=>?_) (fun c2=>hk _ _ ⟨d0,rfl,sx,ed,hd0.skip fun _=>decide_eq_false (fun z=>c2 (by omega)),hd1⟩)
   refine⟨_,_,.inl (SqL.of (eWx sx)),dn,by decide,fun q1 hq1=>?_⟩
   have t1:=ah hq1 (.lst [V.str w0]);have f1:upd H' q1 (.lst [V.str w0]) q1=some (.lst [V.str w0]):=ae
   generalize upd H' q1 (.lst [V.str w0])=G1 at t1 f1 ⊢;refine⟨q1,_,_,rfl,rfl,f1,by omega,by omega,bg (by simp; omega),fun q2 hq2=>?_⟩
   rw[row w0];have t2:=ah hq2 (.lst ((List.replicate x w0).map V.str));have f2:upd G1 q2 (.lst ((List.replicate x w0).map V.str)) q2=some (.lst ((List.replicate x w0).map V.str)):=ae
   generalize upd G1 q2 (.lst ((List.replicate x w0).map V.str))=G2 at t2 f2 ⊢;refine⟨_,_,.inl (SqL.of (eWx (sx.trans (t1.trans t2)))),aB (j:=1) rfl,by decide,fun q3 hq3=>?_⟩
   have t3:=ah hq3 (.lst [V.str w1]);have f3:upd G2 q3 (.lst [V.str w1]) q3=some (.lst [V.str w1]):=ae
   generalize upd G2 q3 (.lst [V.str w1])=G3 at t3 f3 ⊢;refine⟨_,_,t3 _ _ f2,f3,by rw[List.length_map,List.length_replicate]; exact bg (by show x+1≤_; omega),fun q4 hq4=>?_⟩
   have t4:=ah hq4 (.lst ((List.replicate x w0).map V.str++[V.str w1]));have f4:upd G3 q4 (.lst ((List.replicate x w0).map V.str++[V.str w1])) q4=some (.lst ((List.replicate x w0++[w1]).map V.str)):=by rw[ae,List.map_append]; rfl
   generalize upd G3 q4 (.lst ((List.replicate x w0).map V.str++[V.str w1]))=G4 at t4 f4 ⊢;have tt:=t1.trans (t2.trans (t3.trans t4));have ed4:=tt _ _ ed;refine⟨_,0,ed4,rfl,?_⟩
   have hnew:DueAt G4 w0 w1 (fun x=>decide (x % n=0∧x % m=at')) (x+1) (.ref q4):=by
    rcases hd0 with ⟨_,h⟩ | ⟨l,N,h,_⟩
    ·exact .inr ⟨q4,x,rfl,by omega,decide_eq_true ⟨by omega,by omega⟩,h,f4⟩
    ·rw[cn]at h; cases h
   refine hk _ _ ⟨.ref q4,rfl,(sx.trans tt).upd hdp _,ae,hnew.put ed4 (by rw[cn]; intro s z; cases z),(hd1.mono tt).put ed4 (by rw[cn]; intro s z; cases z)⟩
  rintro σ' G0 ⟨d0,rfl,sx,ed,hd0,hd1⟩
  walk_at "nx";refine⟨_,_,.inl (SqL.of ed),aB (j:=1) rfl,?_⟩
  refine aw (fun cn=>?_) (fun cn=>⟨d0,d1,_,rfl,sx,ed,hd0,hd1.skip fun e=>absurd e cn⟩)
  refine⟨by omega,?_⟩
  rw[m0'];refine aw (fun c1=>?_) (fun c1=>⟨d0,d1,_,rfl,sx,ed,hd0,hd1.skip fun _=>decide_eq_false (fun z=>c1 (by simp; omega))⟩)
  have c1:x % n≠0:=by intro z; rw[z]at c1; simp at c1
  refine⟨by omega,?_⟩
  rw[m1'];refine aw (fun c2=>?_) (fun c2=>⟨d0,d1,_,rfl,sx,ed,hd0,hd1.skip fun _=>decide_eq_false (fun z=>c2 (by simp; omega))⟩)
  have c2:x % m≠at':=by intro z; rw[z]at c2; simp at c2
  refine⟨_,_,.inl (SqL.of (eWx sx)),dn,by decide,fun q1 hq1=>?_⟩
  have t1:=ah hq1 (.lst [V.str w0]);have f1:upd G0 q1 (.lst [V.str w0]) q1=some (.lst [V.str w0]):=ae
  generalize upd G0 q1 (.lst [V.str w0])=G1 at t1 f1 ⊢;refine⟨q1,_,_,rfl,rfl,f1,by omega,by omega,bg (by simp; omega),fun q2 hq2=>?_⟩
  rw[row w0];have t2:=ah hq2 (.lst ((List.replicate x w0).map V.str));have f2:upd G1 q2 (.lst ((List.replicate x w0).map V.str)) q2=some (.lst ((List.replicate x w0).map V.str)):=ae
  generalize upd G1 q2 (.lst ((List.replicate x w0).map V.str))=G2 at t2 f2 ⊢;refine⟨_,_,.inl (SqL.of (eWx (sx.trans (t1.trans t2)))),aB (j:=1) rfl,by decide,fun q3 hq3=>?_⟩
  have t3:=ah hq3 (.lst [V.str w1]);have f3:upd G2 q3 (.lst [V.str w1]) q3=some (.lst [V.str w1]):=ae
  generalize upd G2 q3 (.lst [V.str w1])=G3 at t3 f3 ⊢;refine⟨_,_,t3 _ _ f2,f3,by rw[List.length_map,List.length_replicate]; exact bg (by show x+1≤_; omega),fun q4 hq4=>?_⟩
  have t4:=ah hq4 (.lst ((List.replicate x w0).map V.str++[V.str w1]));have f4:upd G3 q4 (.lst ((List.replicate x w0).map V.str++[V.str w1])) q4=some (.lst ((List.replicate x w0++[w1]).map V.str)):=by rw[ae,List.map_append]; rfl
  generalize upd G3 q4 (.lst ((List.replicate x w0).map V.str++[V.str w1]))=G4 at t4 f4 ⊢;have tt:=t1.trans (t2.trans (t3.trans t4));have ed4:=tt _ _ ed;refine⟨_,1,ed4,rfl,?_⟩
  have hnew:DueAt G4 w0 w1 (fun x=>decide (x % n≠0∧x % m≠at')) (x+1) (.ref q4):=by
   rcases hd1 with ⟨_,h⟩ | ⟨l,N,h,_⟩
   ·exact .inr ⟨q4,x,rfl,by omega,decide_eq_true ⟨c1,c2⟩,h,f4⟩
   ·rw[cn]at h; cases h
  exact⟨d0,.ref q4,_,rfl,(sx.trans tt).upd hdp _,ae,(hd0.mono tt).put ed4 hd0.nstr,hnew.put ed4 hd0.nstr⟩
 rintro σ H8 ⟨d0,d1,o12,rfl,s8,ed,hd0,hd1⟩
 walk_at "nx";have hnd:us'.Nodup:=pm.nodup_iff.mpr nd2
 have ok1:=ma (cl:=fun i=>decide ((i:Int)∈((List.range (n - 1)).map fun k:Nat=>(1+(k:Int))))) hsd hn (by omega) pm hw0 hw1
 have ok2:=ma (cl:=fun i=>decide ((i:Int)∈[(at':Int)])) hsd hm hm' pm hw0 hw1
 have ring1:=lR (sd:=sd) (cl:=fun i=>decide ((i:Int)∈((List.range (n - 1)).map fun k:Nat=>(1+(k:Int))))) hn hne pm
 have ring2:=lR (sd:=sd) (cl:=fun i=>decide ((i:Int)∈[(at':Int)])) hm hne pm
 have cl1:∀ i,i<n→(decide ((i:Int)∈((List.range (n - 1)).map fun k:Nat=>(1+(k:Int)))))=decide (i≠0):=fun i hi=>by
  rw[Bool.eq_iff_iff,decide_eq_true_eq,decide_eq_true_eq,List.mem_map]
  constructor
  ·rintro⟨k,_,e⟩; omega
  ·intro h; exact⟨i - 1,List.mem_range.mpr (by omega),by omega⟩
 have cl2:∀ i:Nat,(decide ((i:Int)∈[(at':Int)]))=decide (i=at'):=fun i=>by
  rw[Bool.eq_iff_iff,decide_eq_true_eq,decide_eq_true_eq,List.mem_singleton]; omega
 have hb0:∀ z,cU n m (fun i=>decide ((i:Int)∈((List.range (n - 1)).map fun k:Nat=>(1+(k:Int))))) (fun i=>decide ((i:Int)∈[(at':Int)])) z=decide (z % n=0∧z % m=at'):=fun z=>by
  show (!(decide (((z % n:Nat):Int)∈_))&&decide (((z % m:Nat):Int)∈_))=_
  rw[cl1 _ (Nat.mod_lt _ hn),cl2]
  by_cases h1:z % n=0 <;> by_cases h2:z % m=at' <;> simp[h1,h2]
 have hb1:∀ z,cU m n (fun i=>decide ((i:Int)∈[(at':Int)])) (fun i=>decide ((i:Int)∈((List.range (n - 1)).map fun k:Nat=>(1+(k:Int))))) z=decide (z % n≠0∧z % m≠at'):=fun z=>by
  show (!(decide (((z % m:Nat):Int)∈_))&&decide (((z % n:Nat):Int)∈_))=_
  rw[cl1 _ (Nat.mod_lt _ hn),cl2]
  by_cases h1:z % n=0 <;> by_cases h2:z % m=at' <;> simp[h1,h2]
 have wsW:∀ {x y:Rl} {ws:List Str},x.ws=us'→y.ws=us'→iV x y ws→(∀ y∈ws,y=w0∨y=w1)∧w0∈ws∧w1∈ws:=fun {x y ws} e1 e2 hB=>by
  have hm:∀ u,u∈ws ↔ u=w0∨u=w1:=fun u=>by rw[hB.2.1,e1,e2,or_self_iff,pm.mem_iff]; simp
  exact⟨fun u hu=>(hm u).mp hu,(hm w0).mpr (.inl rfl),(hm w1).mpr (.inr rfl)⟩
 refine⟨r1,r2,_,_,rfl,hR1.mono s8,hR2.mono s8,ok1,ok2,hnd,hnd,rfl,fun v0 H9 ws s9 hB1 _ hv0=>?_⟩
 refine⟨r2,r1,_,_,rfl,hR2.mono (s8.trans s9),hR1.mono (s8.trans s9),ok2,ok1,hnd,hnd,rfl,fun v1 H10 ws' s10 hB2 _ hv1=>?_⟩
 obtain⟨w1',w2',w3'⟩:=wsW rfl rfl hB1
 obtain⟨w4',w5',w6'⟩:=wsW rfl rfl hB2
 have p0:=lY ring1 ring2 w1' w2' w3' (lQ s10 hv0) hb0 (hd0.mono (s9.trans s10)) rfl;have p1:=lY ring2 ring1 w4' w5' w6' (lQ (Same.refl _) hv1) hb1 (hd1.mono (s9.trans s10)) (Nat.mul_comm _ _);refine⟨by decide,fun lp hlp=>?_⟩
 have s11:=ah hlp (.lst [v0,v1]);have e11:upd H10 lp (.lst [v0,v1]) lp=some (.lst [v0,v1]):=ae
 generalize upd H10 lp (.lst [v0,v1])=H11 at s11 e11 ⊢;have ed11:=((s9.trans s10).trans s11) _ _ ed;refine⟨⟨_,SqL.of e11⟩,⟨_,SqL.of ed11⟩,?_⟩
 refine lq (xs:=[v0,v1]) (ys:=[d0,d1]) (fun k σ H'=>∃ (o13 o14:Option V),σ=[some (.ref a),some (.int sd),some (.int x1),some (.int x2),some (.str letters),some (.ref wp),some (.int (n:Int)),some (.int (m:Int)),some (.int (at':Int)),some (.ref r1),some (.ref r2),some (.ref dp),o12,o13,o14]∧Same H11 H') rfl ⟨none,none,rfl,Same.refl _⟩ (fun k σ H' _ h=>by obtain⟨_,_,_,z⟩:=h; exact⟨SqL.of (z _ _ e11),SqL.of (z _ _ ed11)⟩) ?_ ?_
 rotate_left
 ·rintro σ H' ⟨o13,o14,rfl,sz⟩
  walk_at "nx";exact fin H' (sG.trans (sG6.trans (s8.trans ((s9.trans s10).trans (s11.trans sz)))))
 rintro k v d t σ H' hv hd ⟨o13,o14,rfl,sz⟩ ht
 have st:=ah ht (.tup [v,d]);have et:upd H' t (.tup [v,d]) t=some (.tup [v,d]):=ae
 generalize upd H' t (.tup [v,d])=G8 at st et ⊢
 have hmatch:(v = .non∧d = .non)∨∃ l l',∃ row:List Str,v = .ref l∧d = .ref l'∧G8 l=some (.lst (row.map V.str))∧G8 l'=some (.lst (row.map V.str)):=by
  have key:∀ {v d:V},((v = .non∧d = .non)∨∃ l l',∃ row:List Str,v = .ref l∧d = .ref l'∧H10 l=some (.lst (row.map V.str))∧H10 l'=some (.lst (row.map V.str)))→(v = .non∧d = .non)∨∃ l l',∃ row:List Str,v = .ref l∧d = .ref l'∧G8 l=some (.lst (row.map V.str))∧G8 l'=some (.lst (row.map V.str)):=fun {v d} h=>by
   have ss:=(s11.trans sz).trans st;rcases h with h | ⟨l,l',row,z1,z2,z3,z4⟩
   ·exact .inl h
   ·exact .inr ⟨l,l',row,z1,z2,ss _ _ z3,ss _ _ z4⟩
  match k,hv,hd with
  | 0,hv,hd=>cases hv; cases hd; exact key p0
  | 1,hv,hd=>cases hv; cases hd; exact key p1
  | k+2,hv,hd=>simp at hv
 walk_at "rd1";refine⟨t,_,rfl,SqT.of et,rfl,_,_,rfl,_,_,rfl,rfl,?_⟩
 walk_at "rd1";rcases hmatch with ⟨rfl,rfl⟩ | ⟨l,l',row,rfl,rfl,z3,z4⟩
 ·refine aw (fun _=>?_) (fun c=>absurd rfl c)
  refine aw (fun c=>absurd c (by decide)) (fun _=>?_)
  refine aw (fun c=>absurd c (by decide)) (fun _=>?_)
  refine .inl ?_
  walk_at "rd1";exact⟨rfl,_,rfl,aw (fun c=>absurd c (by decide)) (fun _=>⟨_,_,rfl,sz.trans st⟩)⟩
 ·refine aw (fun c=>by cases c) (fun _=>?_)
  refine aw (fun _=>?_) (fun c=>absurd (by simp) c)
  refine⟨"list", by simp[bN,z3],by decide,aw (fun c=>absurd c (by decide)) (fun _=>?_)⟩
  have eq:=EqN.strs (K:=K) (H:=G8) (n:=0) (SqL.of z3) (SqL.of z4);rw[decide_eq_true rfl]at eq
  refine .inr ⟨l,l',0,true,rfl,rfl,by decide,eq,?_⟩
  exact⟨_,rfl,aw (fun c=>absurd c (by decide)) (fun _=>⟨_,_,rfl,sz.trans st⟩)⟩
end
theorem all_mk{l:PySem.W.OpenLaw}{w:World}{K:PySem.W.Frag}{h:Heap}{mg:Str→Option Value}{fa:Addr}(X:K.In h)(G:h.Ns mainGlobals mg)(hfa:mg "law" = some (.ref fa))
  {f0:Addr} {od0 an0:Option Addr} {sl0:Array (Option Value)} {oc0 kV0 dc0 pm0 cd0 ct0:Value} {f1:Addr} {od1 an1:Option Addr} {sl1:Array (Option Value)} {oc1 kV1 dc1 pm1 cd1 ct1:Value} {f2:Addr} {od2 an2:Option Addr} {sl2:Array (Option Value)} {oc2 kV2 dc2 pm2 cd2 ct2:Value} {f3:Addr} {od3 an3:Option Addr} {sl3:Array (Option Value)} {oc3 kV3 dc3 pm3 cd3 ct3:Value} {f4:Addr} {od4 an4:Option Addr} {sl4:Array (Option Value)} {oc4 kV4 dc4 pm4 cd4 ct4:Value} {f5:Addr} {od5 an5:Option Addr} {sl5:Array (Option Value)} {oc5 kV5 dc5 pm5 cd5 ct5:Value} {f6:Addr} {od6 an6:Option Addr} {sl6:Array (Option Value)} {oc6 kV6 dc6 pm6 cd6 ct6:Value} {f7:Addr} {od7 an7:Option Addr} {sl7:Array (Option Value)} {oc7 kV7 dc7 pm7 cd7 ct7:Value} {f8:Addr} {od8 an8:Option Addr} {sl8:Array (Option Value)} {oc8 kV8 dc8 pm8 cd8 ct8:Value} {f9:Addr} {od9 an9:Option Addr} {sl9:Array (Option Value)} {oc9 kV9 dc9 pm9 cd9 ct9:Value} {f10:Addr} {od10 an10:Option Addr} {sl10:Array (Option Value)} {oc10 kV10 dc10 pm10 cd10 ct10:Value} {f11:Addr} {od11 an11:Option Addr} {sl11:Array (Option Value)} {oc11 kV11 dc11 pm11 cd11 ct11:Value} {f12:Addr} {od12 an12:Option Addr} {sl12:Array (Option Value)} {oc12 kV12 dc12 pm12 cd12 ct12:Value} {f13:Addr} {od13 an13:Option Addr} {sl13:Array (Option Value)} {oc13 kV13 dc13 pm13 cd13 ct13:Value} {f14:Addr} {od14 an14:Option Addr} {sl14:Array (Option Value)} {oc14 kV14 dc14 pm14 cd14 ct14:Value} {f15:Addr} {od15 an15:Option Addr} {sl15:Array (Option Value)} {oc15 kV15 dc15 pm15 cd15 ct15:Value} {f16:Addr} {od16 an16:Option Addr} {sl16:Array (Option Value)} {oc16 kV16 dc16 pm16 cd16 ct16:Value} {f17:Addr} {od17 an17:Option Addr} {sl17:Array (Option Value)} {oc17 kV17 dc17 pm17 cd17 ct17:Value} {f18:Addr} {od18 an18:Option Addr} {sl18:Array (Option Value)} {oc18 kV18 dc18 pm18 cd18 ct18:Value} {f19:Addr} {od19 an19:Option Addr} {sl19:Array (Option Value)} {oc19 kV19 dc19 pm19 cd19 ct19:Value} {f20:Addr} {od20 an20:Option Addr} {sl20:Array (Option Value)} {oc20 kV20 dc20 pm20 cd20 ct20:Value}
  (a0:PySem.W.nsIn K mainGlobals "refuse_unlike" = some (some (.ref f0))) (l0:K.lookup f0=some ⟨oc0,od0,.func (PySem.W.fnOf "refuse_unlike" "refuse_unlike" (defArgs bu) (defBody bu) (defScope bu) .none kV0 dc0 pm0 an0 cd0 ct0),sl0⟩) (c0:PySem.W.codeIn K cd0 "refuse_unlike" = true) (k0:PySem.W.keepIn K (.ref f0)=true)
  (a1:PySem.W.nsIn K mainGlobals "words_of_both" = some (some (.ref f1))) (l1:K.lookup f1=some ⟨oc1,od1,.func (PySem.W.fnOf "words_of_both" "words_of_both" (defArgs ba) (defBody ba) (defScope ba) .none kV1 dc1 pm1 an1 cd1 ct1),sl1⟩) (c1:PySem.W.codeIn K cd1 "words_of_both" = true) (k1:PySem.W.keepIn K (.ref f1)=true)
  (a2:PySem.W.nsIn K mainGlobals "ways_for" = some (some (.ref f2))) (l2:K.lookup f2=some ⟨oc2,od2,.func (PySem.W.fnOf "ways_for" "ways_for" (defArgs a_) (defBody a_) (defScope a_) .none kV2 dc2 pm2 an2 cd2 ct2),sl2⟩) (c2:PySem.W.codeIn K cd2 "ways_for" = true) (k2:PySem.W.keepIn K (.ref f2)=true)
  (a3:PySem.W.nsIn K mainGlobals "ways_by_room" = some (some (.ref f3))) (l3:K.lookup f3=some ⟨oc3,od3,.func (PySem.W.fnOf "ways_by_room" "ways_by_room" (defArgs ay) (defBody ay) (defScope ay) .none kV3 dc3 pm3 an3 cd3 ct3),sl3⟩) (c3:PySem.W.codeIn K cd3 "ways_by_room" = true) (k3:PySem.W.keepIn K (.ref f3)=true)
  (a4:PySem.W.nsIn K mainGlobals "pairs_behind" = some (some (.ref f4))) (l4:K.lookup f4=some ⟨oc4,od4,.func (PySem.W.fnOf "pairs_behind" "pairs_behind" (defArgs aX) (defBody aX) (defScope aX) .none kV4 dc4 pm4 an4 cd4 ct4),sl4⟩) (c4:PySem.W.codeIn K cd4 "pairs_behind" = true) (k4:PySem.W.keepIn K (.ref f4)=true)
  (a5:PySem.W.nsIn K mainGlobals "row_to" = some (some (.ref f5))) (l5:K.lookup f5=some ⟨oc5,od5,.func (PySem.W.fnOf "row_to" "row_to" (defArgs bC) (defBody bC) (defScope bC) .none kV5 dc5 pm5 an5 cd5 ct5),sl5⟩) (c5:PySem.W.codeIn K cd5 "row_to" = true) (k5:PySem.W.keepIn K (.ref f5)=true)
  (a6:PySem.W.nsIn K mainGlobals "row_apart" = some (some (.ref f6))) (l6:K.lookup f6=some ⟨oc6,od6,.func (PySem.W.fnOf "row_apart" "row_apart" (defArgs au) (defBody au) (defScope au) .none kV6 dc6 pm6 an6 cd6 ct6),sl6⟩) (c6:PySem.W.codeIn K cd6 "row_apart" = true) (k6:PySem.W.keepIn K (.ref f6)=true)
  (a7:PySem.W.nsIn K mainGlobals "_law_cell_at" = some (some (.ref f7))) (l7:K.lookup f7=some ⟨oc7,od7,.func (PySem.W.fnOf "_law_cell_at" "_law_cell_at" (defArgs bx) (defBody bx) (defScope bx) .none kV7 dc7 pm7 an7 cd7 ct7),sl7⟩) (c7:PySem.W.codeIn K cd7 "_law_cell_at" = true) (k7:PySem.W.keepIn K (.ref f7)=true)
  (a8:PySem.W.nsIn K mainGlobals "_law_mixed" = some (some (.ref f8))) (l8:K.lookup f8=some ⟨oc8,od8,.func (PySem.W.fnOf "_law_mixed" "_law_mixed" (defArgs bc) (defBody bc) (defScope bc) .none kV8 dc8 pm8 an8 cd8 ct8),sl8⟩) (c8:PySem.W.codeIn K cd8 "_law_mixed" = true) (k8:PySem.W.keepIn K (.ref f8)=true)
  (a9:PySem.W.nsIn K mainGlobals "_law_words" = some (some (.ref f9))) (l9:K.lookup f9=some ⟨oc9,od9,.func (PySem.W.fnOf "_law_words" "_law_words" (defArgs aD) (defBody aD) (defScope aD) .none kV9 dc9 pm9 an9 cd9 ct9),sl9⟩) (c9:PySem.W.codeIn K cd9 "_law_words" = true) (k9:PySem.W.keepIn K (.ref f9)=true)
  (a10:PySem.W.nsIn K mainGlobals "_law_way" = some (some (.ref f10))) (l10:K.lookup f10=some ⟨oc10,od10,.func (PySem.W.fnOf "_law_way" "_law_way" (defArgs bX) (defBody bX) (defScope bX) .none kV10 dc10 pm10 an10 cd10 ct10),sl10⟩) (c10:PySem.W.codeIn K cd10 "_law_way" = true) (k10:PySem.W.keepIn K (.ref f10)=true)
  (a11:PySem.W.nsIn K mainGlobals "_law_rooms" = some (some (.ref f11))) (l11:K.lookup f11=some ⟨oc11,od11,.func (PySem.W.fnOf "_law_rooms" "_law_rooms" (defArgs av) (defBody av) (defScope av) .none kV11 dc11 pm11 an11 cd11 ct11),sl11⟩) (c11:PySem.W.codeIn K cd11 "_law_rooms" = true) (k11:PySem.W.keepIn K (.ref f11)=true)
  (a12:PySem.W.nsIn K mainGlobals "_law_two" = some (some (.ref f12))) (l12:K.lookup f12=some ⟨oc12,od12,.func (PySem.W.fnOf "_law_two" "_law_two" (defArgs ap) (defBody ap) (defScope ap) .none kV12 dc12 pm12 an12 cd12 ct12),sl12⟩) (c12:PySem.W.codeIn K cd12 "_law_two" = true) (k12:PySem.W.keepIn K (.ref f12)=true)
  (a13:PySem.W.nsIn K mainGlobals "_law_to" = some (some (.ref f13))) (l13:K.lookup f13=some ⟨oc13,od13,.func (PySem.W.fnOf "_law_to" "_law_to" (defArgs b9) (defBody b9) (defScope b9) .none kV13 dc13 pm13 an13 cd13 ct13),sl13⟩) (c13:PySem.W.codeIn K cd13 "_law_to" = true) (k13:PySem.W.keepIn K (.ref f13)=true)
  (a14:PySem.W.nsIn K mainGlobals "_law_pairs" = some (some (.ref f14))) (l14:K.lookup f14=some ⟨oc14,od14,.func (PySem.W.fnOf "_law_pairs" "_law_pairs" (defArgs aN) (defBody aN) (defScope aN) .none kV14 dc14 pm14 an14 cd14 ct14),sl14⟩) (c14:PySem.W.codeIn K cd14 "_law_pairs" = true) (k14:PySem.W.keepIn K (.ref f14)=true)
  (a15:PySem.W.nsIn K mainGlobals "_law_left" = some (some (.ref f15))) (l15:K.lookup f15=some ⟨oc15,od15,.func (PySem.W.fnOf "_law_left" "_law_left" (defArgs aG) (defBody aG) (defScope aG) .none kV15 dc15 pm15 an15 cd15 ct15),sl15⟩) (c15:PySem.W.codeIn K cd15 "_law_left" = true) (k15:PySem.W.keepIn K (.ref f15)=true)
  (a16:PySem.W.nsIn K mainGlobals "_law_told" = some (some (.ref f16))) (l16:K.lookup f16=some ⟨oc16,od16,.func (PySem.W.fnOf "_law_told" "_law_told" (defArgs aI) (defBody aI) (defScope aI) .none kV16 dc16 pm16 an16 cd16 ct16),sl16⟩) (c16:PySem.W.codeIn K cd16 "_law_told" = true) (k16:PySem.W.keepIn K (.ref f16)=true)
  (a17:PySem.W.nsIn K mainGlobals "_law_ring" = some (some (.ref f17))) (l17:K.lookup f17=some ⟨oc17,od17,.func (PySem.W.fnOf "_law_ring" "_law_ring" (defArgs aO) (defBody aO) (defScope aO) .none kV17 dc17 pm17 an17 cd17 ct17),sl17⟩) (c17:PySem.W.codeIn K cd17 "_law_ring" = true) (k17:PySem.W.keepIn K (.ref f17)=true)
  (a18:PySem.W.nsIn K mainGlobals "_law_rings_told" = some (some (.ref f18))) (l18:K.lookup f18=some ⟨oc18,od18,.func (PySem.W.fnOf "_law_rings_told" "_law_rings_told" (defArgs ai) (defBody ai) (defScope ai) .none kV18 dc18 pm18 an18 cd18 ct18),sl18⟩) (c18:PySem.W.codeIn K cd18 "_law_rings_told" = true) (k18:PySem.W.keepIn K (.ref f18)=true)
  (a19:PySem.W.nsIn K mainGlobals "_law_copy" = some (some (.ref f19))) (l19:K.lookup f19=some ⟨oc19,od19,.func (PySem.W.fnOf "_law_copy" "_law_copy" (defArgs bw) (defBody bw) (defScope bw) .none kV19 dc19 pm19 an19 cd19 ct19),sl19⟩) (c19:PySem.W.codeIn K cd19 "_law_copy" = true) (k19:PySem.W.keepIn K (.ref f19)=true)
  (a20:PySem.W.nsIn K mainGlobals "law" = some (some (.ref f20))) (l20:K.lookup f20=some ⟨oc20,od20,.func (PySem.W.fnOf "law" "law" (defArgs bb) (defBody bb) (defScope bb) .none kV20 dc20 pm20 an20 cd20 ct20),sl20⟩) (c20:PySem.W.codeIn K cd20 "law" = true) (k20:PySem.W.keepIn K (.ref f20)=true)
  (y_isinstance:PySem.W.nsIn K mainGlobals "isinstance" = some none)
  (y_str:PySem.W.nsIn K mainGlobals "str" = some none)
  (y_len:PySem.W.nsIn K mainGlobals "len" = some none)
  (y_range:PySem.W.nsIn K mainGlobals "range" = some none)
  (y_int:PySem.W.nsIn K mainGlobals "int" = some none)
  (y_list:PySem.W.nsIn K mainGlobals "list" = some none)
  (y_sorted:PySem.W.nsIn K mainGlobals "sorted" = some none)
  (y_min:PySem.W.nsIn K mainGlobals "min" = some none)
  (y_enumerate:PySem.W.nsIn K mainGlobals "enumerate" = some none)
  (y_set:PySem.W.nsIn K mainGlobals "set" = some none)
  (y_zip:PySem.W.nsIn K mainGlobals "zip" = some none)
  (y_reversed:PySem.W.nsIn K mainGlobals "reversed" = some none) :
  ∃ fd:FuncData,(∀ (s:Shared) (v:Value),BindsTo s fd ⟨[v],[]⟩ [("_law_script", v)])∧∀ base:Heap,K.In base→base.Ns mainGlobals mg→gn l.prog w K mg base i8 5 fa fd ["_law_script"] (kF K):=by
 have e:=hfa.symm.trans (PySem.W.mg_of X G a20)
 cases e;have D_refuse_unlike:DefAt K mg "refuse_unlike" bu:=⟨f0,_,bB (st:=bu) l0 c0 k0,PySem.W.mg_of X G a0⟩
 have D_words_of_both:DefAt K mg "words_of_both" ba:=⟨f1,_,bB (st:=ba) l1 c1 k1,PySem.W.mg_of X G a1⟩
 have D_ways_for:DefAt K mg "ways_for" a_:=⟨f2,_,bB (st:=a_) l2 c2 k2,PySem.W.mg_of X G a2⟩
 have D_ways_by_room:DefAt K mg "ways_by_room" ay:=⟨f3,_,bB (st:=ay) l3 c3 k3,PySem.W.mg_of X G a3⟩
 have D_pairs_behind:DefAt K mg "pairs_behind" aX:=⟨f4,_,bB (st:=aX) l4 c4 k4,PySem.W.mg_of X G a4⟩
 have D_row_to:DefAt K mg "row_to" bC:=⟨f5,_,bB (st:=bC) l5 c5 k5,PySem.W.mg_of X G a5⟩
 have D_row_apart:DefAt K mg "row_apart" au:=⟨f6,_,bB (st:=au) l6 c6 k6,PySem.W.mg_of X G a6⟩
 have D_law_cell_at:DefAt K mg "_law_cell_at" bx:=⟨f7,_,bB (st:=bx) l7 c7 k7,PySem.W.mg_of X G a7⟩
 have D_law_mixed:DefAt K mg "_law_mixed" bc:=⟨f8,_,bB (st:=bc) l8 c8 k8,PySem.W.mg_of X G a8⟩
 have D_law_words:DefAt K mg "_law_words" aD:=⟨f9,_,bB (st:=aD) l9 c9 k9,PySem.W.mg_of X G a9⟩
 have D_law_way:DefAt K mg "_law_way" bX:=⟨f10,_,bB (st:=bX) l10 c10 k10,PySem.W.mg_of X G a10⟩
 have D_law_rooms:DefAt K mg "_law_rooms" av:=⟨f11,_,bB (st:=av) l11 c11 k11,PySem.W.mg_of X G a11⟩
 have D_law_two:DefAt K mg "_law_two" ap:=⟨f12,_,bB (st:=ap) l12 c12 k12,PySem.W.mg_of X G a12⟩
 have D_law_to:DefAt K mg "_law_to" b9:=⟨f13,_,bB (st:=b9) l13 c13 k13,PySem.W.mg_of X G a13⟩
 have D_law_pairs:DefAt K mg "_law_pairs" aN:=⟨f14,_,bB (st:=aN) l14 c14 k14,PySem.W.mg_of X G a14⟩
 have D_law_left:DefAt K mg "_law_left" aG:=⟨f15,_,bB (st:=aG) l15 c15 k15,PySem.W.mg_of X G a15⟩
 have D_law_told:DefAt K mg "_law_told" aI:=⟨f16,_,bB (st:=aI) l16 c16 k16,PySem.W.mg_of X G a16⟩
 have D_law_ring:DefAt K mg "_law_ring" aO:=⟨f17,_,bB (st:=aO) l17 c17 k17,PySem.W.mg_of X G a17⟩
 have D_law_rings_told:DefAt K mg "_law_rings_told" ai:=⟨f18,_,bB (st:=ai) l18 c18 k18,PySem.W.mg_of X G a18⟩
 have D_law_copy:DefAt K mg "_law_copy" bw:=⟨f19,_,bB (st:=bw) l19 c19 k19,PySem.W.mg_of X G a19⟩
 have z_isinstance:mg "isinstance" = none:=PySem.W.mg_none_of X G y_isinstance
 have z_str:mg "str" = none:=PySem.W.mg_none_of X G y_str
 have z_len:mg "len" = none:=PySem.W.mg_none_of X G y_len
 have z_range:mg "range" = none:=PySem.W.mg_none_of X G y_range
 have z_int:mg "int" = none:=PySem.W.mg_none_of X G y_int
 have z_list:mg "list" = none:=PySem.W.mg_none_of X G y_list
 have z_sorted:mg "sorted" = none:=PySem.W.mg_none_of X G y_sorted
 have z_min:mg "min" = none:=PySem.W.mg_none_of X G y_min
 have z_enumerate:mg "enumerate" = none:=PySem.W.mg_none_of X G y_enumerate
 have z_set:mg "set" = none:=PySem.W.mg_none_of X G y_set
 have z_zip:mg "zip" = none:=PySem.W.mg_none_of X G y_zip
 have z_reversed:mg "reversed" = none:=PySem.W.mg_none_of X G y_reversed
 have F:=bB (st:=bb) l20 c20 k20;refine⟨PySem.W.fnOf "law" "law" (defArgs bb) (defBody bb) (defScope bb) .none kV20 dc20 pm20 an20 cd20 ct20,fun s v=>.of_eq rfl,fun base _ _=>?_⟩
 have c1:=um (P:=l.prog) (w:=w) (base:=base) D_law_cell_at z_len;have c2:=rb (P:=l.prog) (w:=w) (base:=base) D_law_mixed z_range;have c3:=xc D_law_two z_range z_len z_sorted z_set z_list c1 c2 (og D_law_words z_range z_int z_str c2) (qW D_law_rooms z_range z_len z_min c2 (wq D_law_way));have a1:=rh (P:=l.prog) (w:=w) (base:=base) D_row_apart z_len z_zip (pH D_refuse_unlike) (u9 D_words_of_both z_sorted z_set) (pM D_ways_by_room z_enumerate (vb D_ways_for)) (rg D_pairs_behind z_list z_zip) (sj D_row_to z_list z_reversed);have e1:=yi (P:=l.prog) (w:=w) (base:=base) D_law_to;have e2:=u_ D_law_left z_len z_range e1 (wY D_law_pairs z_list e1);have e3:=u6 D_law_told z_len z_range z_isinstance z_list z_str z_reversed e1;have e4:=sZ D_law_rings_told z_range z_list z_str z_zip z_isinstance c1 (uV D_law_ring z_range z_sorted) a1;exact xn F z_sorted z_set c1 c3 e4 e2 (uH D_law_copy z_list) a1 e3
theorem walk{l:PySem.W.OpenLaw}{q:Program}{loose:List Str}{XP:(Str→Option Value)→Heap→Prop}{YP:World→Heap→Prop}{d:DefRec}{K:Params→PySem.W.Frag}(hn:l.most=some 63)(hdf:d.params.defaults=[])
  (hY:∀ (w:World) (h:Heap),YP w h→(K w.params).In h)
  (F:∀ (w:World) (mg:Str→Option Value) (fa:Addr) (h:Heap),(K w.params).In h→h.Ns mainGlobals mg→mg d.name=some (.ref fa)→
   ∃ fd:FuncData,(∀ (s:Shared) (u:Value),BindsTo s fd ⟨[u],[]⟩ [("_law_script", u)])∧∀ base:Heap,(K w.params).In base→base.Ns mainGlobals mg→gn l.prog w (K w.params) mg base i8 5 fa fd ["_law_script"] (kF (K w.params))) :
  PySem.W.WalkO q loose XP YP l.row.toRowW d [] (fun f vs=>PySem.call f vs):=
 L2.walk_of (n:=63) (k:=5) (x := "_law_script") (CX:=fun _=>i8) (sp:=fun w=>kF (K w.params)) hn (by decide) hdf ⟨rfl,by decide,by decide⟩ hY F (fun _ _ a ns hl _ hS=>⟨a,ns,rfl,hS,hl,fun _=>rfl⟩) fun _ _ _ _ _ z=>z
end K15
end
open PySem PySem.W PyProof.Rows
set_option maxRecDepth 100000 in
set_option maxHeartbeats 0 in
theorem PySem.Challenge.cw_usewarden_k15_a_row_apart_holds : PySem.Challenge.rw_usewarden_k15_a_row_apart.Holds := by
 w_on
 refine holds_law (by decide +kernel) fun said=>?_
 refine holds_open (q:=K15.qq) (loose:=K15.loo) (Xt:=K15.xt) (XP:=XL K15.qq []) (Yf:=Hook.obs (kHook K15.KK K15.kk K15.kk_eq)) (Ya:=Hook.val (kHook K15.KK K15.kk K15.kk_eq)) (YP:=Hook.says (kHook K15.KK K15.kk K15.kk_eq)) (N:=2348) K15.hl (Hook.of (kHook K15.KK K15.kk K15.kk_eq)) (Hook.keeps (kHook K15.KK K15.kk K15.kk_eq)) (fun s e=>xl_of s (Bool.and_eq_true_iff.mp e).1) XL.keeps (by rfl) (by rfl) (by rfl) (fun s e=>recFacts_of (Bool.and_eq_true_iff.mp e).2) (by rfl) said (by decide +kernel) ⟨rfl,rfl,rfl,rfl,rfl,by decide +kernel⟩ ?hw ?hc
 (case hw=>w_witness2)
 k_fill
 refine K15.walk (l:=PySem.Challenge.rw_usewarden_k15_a_row_apart) rfl rfl (fun w h Y=>PySem.W.kIn_of Y) ?F
 case F=>
  intro w mg fa h KX G hmg
  refine' K15.all_mk KX G hmg ?a0 ?l0 ?c0 ?k0 ?a1 ?l1 ?c1 ?k1 ?a2 ?l2 ?c2 ?k2 ?a3 ?l3 ?c3 ?k3 ?a4 ?l4 ?c4 ?k4 ?a5 ?l5 ?c5 ?k5 ?a6 ?l6 ?c6 ?k6 ?a7 ?l7 ?c7 ?k7 ?a8 ?l8 ?c8 ?k8 ?a9 ?l9 ?c9 ?k9 ?a10 ?l10 ?c10 ?k10 ?a11 ?l11 ?c11 ?k11 ?a12 ?l12 ?c12 ?k12 ?a13 ?l13 ?c13 ?k13 ?a14 ?l14 ?c14 ?k14 ?a15 ?l15 ?c15 ?k15 ?a16 ?l16 ?c16 ?k16 ?a17 ?l17 ?c17 ?k17 ?a18 ?l18 ?c18 ?k18 ?a19 ?l19 ?c19 ?k19 ?a20 ?l20 ?c20 ?k20 ?y_isinstance ?y_str ?y_len ?y_range ?y_int ?y_list ?y_sorted ?y_min ?y_enumerate ?y_set ?y_zip ?y_reversed
  (case a0=>k_is)
  (case l0=>k_is)
  (case c0=>k_is)
  (case k0=>k_is)
  (case a1=>k_is)
  (case l1=>k_is)
  (case c1=>k_is)
  (case k1=>k_is)
  (case a2=>k_is)
  (case l2=>k_is)
  (case c2=>k_is)
  (case k2=>k_is)
  (case a3=>k_is)
  (case l3=>k_is)
  (case c3=>k_is)
  (case k3=>k_is)
  (case a4=>k_is)
  (case l4=>k_is)
  (case c4=>k_is)
  (case k4=>k_is)
  (case a5=>k_is)
  (case l5=>k_is)
  (case c5=>k_is)
  (case k5=>k_is)
  (case a6=>k_is)
  (case l6=>k_is)
  (case c6=>k_is)
  (case k6=>k_is)
  (case a7=>k_is)
  (case l7=>k_is)
  (case c7=>k_is)
  (case k7=>k_is)
  (case a8=>k_is)
  (case l8=>k_is)
  (case c8=>k_is)
  (case k8=>k_is)
  (case a9=>k_is)
  (case l9=>k_is)
  (case c9=>k_is)
  (case k9=>k_is)
  (case a10=>k_is)
  (case l10=>k_is)
  (case c10=>k_is)
  (case k10=>k_is)
  (case a11=>k_is)
  (case l11=>k_is)
  (case c11=>k_is)
  (case k11=>k_is)
  (case a12=>k_is)
  (case l12=>k_is)
  (case c12=>k_is)
  (case k12=>k_is)
  (case a13=>k_is)
  (case l13=>k_is)
  (case c13=>k_is)
  (case k13=>k_is)
  (case a14=>k_is)
  (case l14=>k_is)
  (case c14=>k_is)
  (case k14=>k_is)
  (case a15=>k_is)
  (case l15=>k_is)
  (case c15=>k_is)
  (case k15=>k_is)
  (case a16=>k_is)
  (case l16=>k_is)
  (case c16=>k_is)
  (case k16=>k_is)
  (case a17=>k_is)
  (case l17=>k_is)
  (case c17=>k_is)
  (case k17=>k_is)
  (case a18=>k_is)
  (case l18=>k_is)
  (case c18=>k_is)
  (case k18=>k_is)
  (case a19=>k_is)
  (case l19=>k_is)
  (case c19=>k_is)
  (case k19=>k_is)
  (case a20=>k_is)
  (case l20=>k_is)
  (case c20=>k_is)
  (case k20=>k_is)
  (case y_isinstance=>k_is)
  (case y_str=>k_is)
  (case y_len=>k_is)
  (case y_range=>k_is)
  (case y_int=>k_is)
  (case y_list=>k_is)
  (case y_sorted=>k_is)
  (case y_min=>k_is)
  (case y_enumerate=>k_is)
  (case y_set=>k_is)
  (case y_zip=>k_is)
  (case y_reversed=>k_is)
#print axioms PySem.Challenge.cw_usewarden_k15_a_row_apart_holds
