import PyProof.Rows.All
import Wide.All
import OpenK.AllK
import Wide.FinOn
import Lean
import PyProof.EqAt
import PyProof.EqKinds
import PyProof.TupleCall
import PyProof.SetScanFacts
import PyProof.SetKind
import PyProof.SetRoads
import PyProof.Rows.SetFrom
import PyProof.FactsBase
import PyProof.TableTree
import PyProof.FactsTree
import PyProof.PlainAttrs
import PyProof.FactsAll.set_1
import PyProof.CollectIter
import PyProof.FactsAll.set
import PyProof.ZipIter
import PyProof.EnumIter
import PyProof.TupleIter
import KE.KRevIter
import KE.KDictList
import PyProof.Rows.SumAny
import KE.KIntText
import PyProof.StrLawsTight
import PyProof.StrLawsChain
import PyProof.Rows.SortStr
import PyProof.Rows.StrNews2
import PyProof.StrLawsFirst
import PyProof.AutoSeq1
import OpenK.KOwn
import PyProof.Rows.CatchOwn
import KE.KDictOf
import PyProof.DictItems
import PyProof.NeKinds
import KE.KPairComp
import PyProof.FactsAll.tuple_2
import PyProof.FactsAll.tuple_3
import KE.KDictLaws
import PyProof.FactsAll.dict_3
import PyProof.MinMaxWalk
import PyProof.WalkInts
import PyProof.Cells
import PySem.Challenge.RW_usewarden_k12_whole_like_rules_one_list
set_option Elab.async false
set_option linter.all false
set_option maxRecDepth 100000
set_option maxHeartbeats 4000000
namespace L2
open PySem
def Af(s:Stmt)(j:Nat):Stmt:=match s with
 | .ClassDef _ _ _ body _ _ _ _ _ _ _=>body.getD j (.Pass ⟨0,0,0,0⟩)
 | _=>.Pass ⟨0,0,0,0⟩
def defArgs(s:Stmt):Arguments:=match s with
 | .FunctionDef _ a _ _ _ _ _ _ _ _=>a
 | _=>{ posonlyargs:=[],args:=[],vararg:=none,kwonlyargs:=[],kw_defaults:=[],kwarg:=none,defaults:=[] }
def defBody(s:Stmt):List Stmt:=match s with
 | .FunctionDef _ _ b _ _ _ _ _ _ _=>b
 | _=>[]
def defScope(s:Stmt):Scope:=match s with
 | .FunctionDef _ _ _ _ _ _ sc _ _ _=>sc
 | _=>{ kind:=.function,names:=[],isGenerator:=false,isCoroutine:=false }
end L2
namespace K12
open PySem PySem.W
def top (i:Nat):Stmt:=PySem.Challenge.pw_usewarden_k12_whole_like_rules_one_list.main.body.getD i (.Pass ⟨0,0,0,0⟩)
abbrev tUp(x:Array Value):Obj:=⟨.type "tuple", none,.seq x 0,#[]⟩
abbrev cOd(n:Str)(a b c:Nat)(l g:Int)(p q r s u:Addr)(i:Int)(d:Nat):Obj:=⟨.type "code", none,.fields #[.str n a,.str n b,.str "/claim/cut.py" c,.int l 0,.int g 0,.int 0 0,.int 0 0,.int 3 0,.ref p,.bool true,.int 181 0,.ref q,.none,.ref r,.ref s,.ref u,.int i 0,.int l 0,.str "/claim/cut.py" d],#[]⟩
abbrev fUn(n:Str)(i:Nat)(m:Str)(a:Nat)(c:Addr):Obj:=⟨.type "function", none,.func ⟨n,n,L2.defArgs (top i),.stmts (L2.defBody (top i)),L2.defScope (top i),3,[],.none,.none,.none,.str m a,none,.ref c,.none,0⟩,#[]⟩
noncomputable def KK(P:Params):Frag:=
 (nat_lit 2,⟨.none,none,.dict #[] 0,#[]⟩) ::
 (nat_lit 3,⟨.type "dict", none,.dict #[⟨PyData.keyHash P "__name__", .str "__name__" 165,.str "law_usewarden_k12_whole_like_rules_one_list" 268⟩,⟨PyData.keyHash P "__doc__", .str "__doc__" 166,.none⟩,⟨PyData.keyHash P "__package__", .str "__package__" 167,.none⟩,⟨PyData.keyHash P "__loader__", .str "__loader__" 168,.builtin "__main__.__loader__#opaque"⟩,⟨PyData.keyHash P "__spec__", .str "__spec__" 169,.none⟩,⟨PyData.keyHash P "__annotations__", .str "__annotations__" 170,.ref 6⟩,⟨PyData.keyHash P "__builtins__", .str "__builtins__" 171,.ref 4⟩,⟨PyData.keyHash P "__file__", .str "__file__" 173,.str "/claim/cut.py" 172⟩,⟨PyData.keyHash P "__cached__", .str "__cached__" 174,.none⟩,⟨PyData.keyHash P "ways_by", .str "ways_by" 194,.ref 19⟩,⟨PyData.keyHash P "finer_kinds", .str "finer_kinds" 207,.ref 26⟩,⟨PyData.keyHash P "kinds_upto", .str "kinds_upto" 213,.ref 31⟩,⟨PyData.keyHash P "merged_rooms", .str "merged_rooms" 224,.ref 38⟩,⟨PyData.keyHash P "rooms_led_to", .str "rooms_led_to" 236,.ref 45⟩,⟨PyData.keyHash P "numbered_rooms", .str "numbered_rooms" 242,.ref 50⟩,⟨PyData.keyHash P "does_something", .str "does_something" 248,.ref 55⟩,⟨PyData.keyHash P "picked", .str "picked" 254,.ref 60⟩,⟨PyData.keyHash P "least_upto", .str "least_upto" 260,.ref 65⟩,⟨PyData.keyHash P "least_rule", .str "least_rule" 267,.ref 72⟩,⟨PyData.keyHash P "_law_cell_at", .str "_law_cell_at" 277,.ref 79⟩,⟨PyData.keyHash P "_law_mixed", .str "_law_mixed" 288,.ref 86⟩,⟨PyData.keyHash P "_law_words", .str "_law_words" 305,.ref 93⟩,⟨PyData.keyHash P "_law_way", .str "_law_way" 314,.ref 100⟩,⟨PyData.keyHash P "_law_rule", .str "_law_rule" 320,.ref 105⟩,⟨PyData.keyHash P "_law_strange", .str "_law_strange" 332,.ref 112⟩,⟨PyData.keyHash P "_law_stand", .str "_law_stand" 345,.ref 119⟩,⟨PyData.keyHash P "_law_dressed", .str "_law_dressed" 351,.ref 124⟩,⟨PyData.keyHash P "_law_spoiled", .str "_law_spoiled" 357,.ref 129⟩,⟨PyData.keyHash P "_law_to", .str "_law_to" 366,.ref 136⟩,⟨PyData.keyHash P "_law_like", .str "_law_like" 381,.ref 143⟩,⟨PyData.keyHash P "_law_copy", .str "_law_copy" 387,.ref 148⟩,⟨PyData.keyHash P "law", .str "law" 401,.ref 155⟩] 32,#[]⟩) ::
 (nat_lit 15,tUp #[]) ::
 (nat_lit 18,⟨.type "code", none,.fields #[.str "ways_by" 189,.str "ways_by" 190,.str "/claim/cut.py" 191,.int 2 0,.int 2 0,.int 0 0,.int 0 0,.int 3 0,.ref 15,.bool true,.int 181 0,.ref 16,.none,.none,.none,.ref 17,.int 192 0,.int 2 0,.str "/claim/cut.py" 193],#[]⟩) ::
 (nat_lit 19,fUn "ways_by" 1 "usewarden.leastrules" 187 18) ::
 (nat_lit 20,tUp #[]) ::
 (nat_lit 22,tUp #[.str "rooms" 198,.str "kinds" 199,.str "seen" 200,.str "finer" 201,.str "at" 202,.str "room" 203,.str "mark" 204]) ::
 (nat_lit 23,tUp #[]) ::
 (nat_lit 25,cOd "finer_kinds" 195 196 197 4 2 20 21 22 23 24 205 206) ::
 (nat_lit 26,fUn "finer_kinds" 2 "usewarden.leastrules" 187 25) ::
 (nat_lit 27,tUp #[]) ::
 (nat_lit 30,⟨.type "code", none,.fields #[.str "kinds_upto" 208,.str "kinds_upto" 209,.str "/claim/cut.py" 210,.int 13 0,.int 2 0,.int 0 0,.int 0 0,.int 3 0,.ref 27,.bool true,.int 181 0,.ref 28,.none,.none,.none,.ref 29,.int 211 0,.int 13 0,.str "/claim/cut.py" 212],#[]⟩) ::
 (nat_lit 31,fUn "kinds_upto" 3 "usewarden.leastrules" 187 30) ::
 (nat_lit 32,tUp #[]) ::
 (nat_lit 34,tUp #[.str "rooms" 217,.str "kinds" 218,.str "merged" 219,.str "at" 220,.str "room" 221]) ::
 (nat_lit 35,tUp #[]) ::
 (nat_lit 37,cOd "merged_rooms" 214 215 216 22 2 32 33 34 35 36 222 223) ::
 (nat_lit 38,fUn "merged_rooms" 4 "usewarden.leastrules" 187 37) ::
 (nat_lit 39,tUp #[]) ::
 (nat_lit 41,tUp #[.str "rooms" 228,.str "order" 229,.str "met" 230,.str "at" 231,.str "room" 232,.str "way" 233]) ::
 (nat_lit 42,tUp #[]) ::
 (nat_lit 44,cOd "rooms_led_to" 225 226 227 28 1 39 40 41 42 43 234 235) ::
 (nat_lit 45,fUn "rooms_led_to" 5 "usewarden.leastrules" 187 44) ::
 (nat_lit 46,tUp #[]) ::
 (nat_lit 49,⟨.type "code", none,.fields #[.str "numbered_rooms" 237,.str "numbered_rooms" 238,.str "/claim/cut.py" 239,.int 40 0,.int 1 0,.int 0 0,.int 0 0,.int 3 0,.ref 46,.bool true,.int 181 0,.ref 47,.none,.none,.none,.ref 48,.int 240 0,.int 40 0,.str "/claim/cut.py" 241],#[]⟩) ::
 (nat_lit 50,fUn "numbered_rooms" 6 "usewarden.leastrules" 187 49) ::
 (nat_lit 51,tUp #[]) ::
 (nat_lit 54,⟨.type "code", none,.fields #[.str "does_something" 243,.str "does_something" 244,.str "/claim/cut.py" 245,.int 46 0,.int 2 0,.int 0 0,.int 0 0,.int 3 0,.ref 51,.bool true,.int 181 0,.ref 52,.none,.none,.none,.ref 53,.int 246 0,.int 46 0,.str "/claim/cut.py" 247],#[]⟩) ::
 (nat_lit 55,fUn "does_something" 7 "usewarden.leastrules" 187 54) ::
 (nat_lit 56,tUp #[]) ::
 (nat_lit 59,⟨.type "code", none,.fields #[.str "picked" 249,.str "picked" 250,.str "/claim/cut.py" 251,.int 48 0,.int 2 0,.int 0 0,.int 0 0,.int 3 0,.ref 56,.bool true,.int 181 0,.ref 57,.none,.none,.none,.ref 58,.int 252 0,.int 48 0,.str "/claim/cut.py" 253],#[]⟩) ::
 (nat_lit 60,fUn "picked" 8 "usewarden.leastrules" 187 59) ::
 (nat_lit 61,tUp #[]) ::
 (nat_lit 64,⟨.type "code", none,.fields #[.str "least_upto" 255,.str "least_upto" 256,.str "/claim/cut.py" 257,.int 50 0,.int 2 0,.int 0 0,.int 0 0,.int 3 0,.ref 61,.bool true,.int 181 0,.ref 62,.none,.none,.none,.ref 63,.int 258 0,.int 50 0,.str "/claim/cut.py" 259],#[]⟩) ::
 (nat_lit 65,fUn "least_upto" 9 "usewarden.leastrules" 187 64) ::
 (nat_lit 66,tUp #[]) ::
 (nat_lit 68,tUp #[.str "rule" 264]) ::
 (nat_lit 69,tUp #[]) ::
 (nat_lit 71,cOd "least_rule" 261 262 263 58 1 66 67 68 69 70 265 266) ::
 (nat_lit 72,fUn "least_rule" 10 "usewarden.leastrules" 187 71) ::
 (nat_lit 73,tUp #[]) ::
 (nat_lit 75,tUp #[.str "_law_script" 273,.str "_law_k" 274]) ::
 (nat_lit 76,tUp #[]) ::
 (nat_lit 78,cOd "_law_cell_at" 270 271 272 61 2 73 74 75 76 77 275 276) ::
 (nat_lit 79,fUn "_law_cell_at" 12 "law_usewarden_k12_whole_like_rules_one_list" 268 78) ::
 (nat_lit 80,tUp #[]) ::
 (nat_lit 82,tUp #[.str "_law_cell" 281,.str "_law_many" 282,.str "_law_number" 283,.str "_law_found" 284,.str "_law_k" 285]) ::
 (nat_lit 83,tUp #[]) ::
 (nat_lit 85,cOd "_law_mixed" 278 279 280 65 2 80 81 82 83 84 286 287) ::
 (nat_lit 86,fUn "_law_mixed" 13 "law_usewarden_k12_whole_like_rules_one_list" 268 85) ::
 (nat_lit 87,tUp #[]) ::
 (nat_lit 89,tUp #[.str "_law_cell" 292,.str "_law_many" 293,.str "_law_sides" 294,.str "_law_letters" 295,.str "_law_xs" 296,.str "_law_size" 297,.str "_law_at" 298,.str "_law_words_here" 299,.str "_law_k" 300,.str "_law_word" 301,.str "_law_j" 302]) ::
 (nat_lit 90,tUp #[]) ::
 (nat_lit 92,cOd "_law_words" 289 290 291 72 3 87 88 89 90 91 303 304) ::
 (nat_lit 93,fUn "_law_words" 14 "law_usewarden_k12_whole_like_rules_one_list" 268 92) ::
 (nat_lit 94,tUp #[]) ::
 (nat_lit 96,tUp #[.str "_law_number" 309,.str "_law_share" 310,.str "_law_many" 311]) ::
 (nat_lit 97,tUp #[]) ::
 (nat_lit 99,cOd "_law_way" 306 307 308 86 3 94 95 96 97 98 312 313) ::
 (nat_lit 100,fUn "_law_way" 15 "law_usewarden_k12_whole_like_rules_one_list" 268 99) ::
 (nat_lit 101,tUp #[]) ::
 (nat_lit 104,⟨.type "code", none,.fields #[.str "_law_rule" 315,.str "_law_rule" 316,.str "/claim/cut.py" 317,.int 90 0,.int 1 0,.int 0 0,.int 0 0,.int 3 0,.ref 101,.bool true,.int 181 0,.ref 102,.none,.none,.none,.ref 103,.int 318 0,.int 90 0,.str "/claim/cut.py" 319],#[]⟩) ::
 (nat_lit 105,fUn "_law_rule" 16 "law_usewarden_k12_whole_like_rules_one_list" 268 104) ::
 (nat_lit 106,tUp #[]) ::
 (nat_lit 108,tUp #[.str "_law_words_here" 324,.str "_law_sides" 325,.str "_law_many" 326,.str "_law_found" 327,.str "_law_size" 328,.str "_law_word" 329]) ::
 (nat_lit 109,tUp #[]) ::
 (nat_lit 111,cOd "_law_strange" 321 322 323 107 3 106 107 108 109 110 330 331) ::
 (nat_lit 112,fUn "_law_strange" 17 "law_usewarden_k12_whole_like_rules_one_list" 268 111) ::
 (nat_lit 113,tUp #[]) ::
 (nat_lit 115,tUp #[.str "_law_size" 336,.str "_law_xs" 337,.str "_law_stand_here" 338,.str "_law_x" 339,.str "_law_k" 340,.str "_law_at" 341,.str "_law_mine" 342]) ::
 (nat_lit 116,tUp #[]) ::
 (nat_lit 118,cOd "_law_stand" 333 334 335 116 2 113 114 115 116 117 343 344) ::
 (nat_lit 119,fUn "_law_stand" 18 "law_usewarden_k12_whole_like_rules_one_list" 268 118) ::
 (nat_lit 120,tUp #[]) ::
 (nat_lit 123,⟨.type "code", none,.fields #[.str "_law_dressed" 346,.str "_law_dressed" 347,.str "/claim/cut.py" 348,.int 129 0,.int 2 0,.int 0 0,.int 0 0,.int 3 0,.ref 120,.bool true,.int 181 0,.ref 121,.none,.none,.none,.ref 122,.int 349 0,.int 129 0,.str "/claim/cut.py" 350],#[]⟩) ::
 (nat_lit 124,fUn "_law_dressed" 19 "law_usewarden_k12_whole_like_rules_one_list" 268 123) ::
 (nat_lit 125,tUp #[]) ::
 (nat_lit 128,⟨.type "code", none,.fields #[.str "_law_spoiled" 352,.str "_law_spoiled" 353,.str "/claim/cut.py" 354,.int 148 0,.int 2 0,.int 0 0,.int 0 0,.int 3 0,.ref 125,.bool true,.int 181 0,.ref 126,.none,.none,.none,.ref 127,.int 355 0,.int 148 0,.str "/claim/cut.py" 356],#[]⟩) ::
 (nat_lit 129,fUn "_law_spoiled" 20 "law_usewarden_k12_whole_like_rules_one_list" 268 128) ::
 (nat_lit 130,tUp #[]) ::
 (nat_lit 132,tUp #[.str "_law_rule_here" 361,.str "_law_room" 362,.str "_law_word" 363]) ::
 (nat_lit 133,tUp #[]) ::
 (nat_lit 135,cOd "_law_to" 358 359 360 157 3 130 131 132 133 134 364 365) ::
 (nat_lit 136,fUn "_law_to" 21 "law_usewarden_k12_whole_like_rules_one_list" 268 135) ::
 (nat_lit 137,tUp #[]) ::
 (nat_lit 139,tUp #[.str "_law_one" 370,.str "_law_other" 371,.str "_law_words_here" 372,.str "_law_known" 373,.str "_law_todo" 374,.str "_law_here" 375,.str "_law_there" 376,.str "_law_word" 377,.str "_law_pair" 378]) ::
 (nat_lit 140,tUp #[]) ::
 (nat_lit 142,cOd "_law_like" 367 368 369 161 2 137 138 139 140 141 379 380) ::
 (nat_lit 143,fUn "_law_like" 22 "law_usewarden_k12_whole_like_rules_one_list" 268 142) ::
 (nat_lit 144,tUp #[]) ::
 (nat_lit 147,⟨.type "code", none,.fields #[.str "_law_copy" 382,.str "_law_copy" 383,.str "/claim/cut.py" 384,.int 175 0,.int 1 0,.int 0 0,.int 0 0,.int 3 0,.ref 144,.bool true,.int 181 0,.ref 145,.none,.none,.none,.ref 146,.int 385 0,.int 175 0,.str "/claim/cut.py" 386],#[]⟩) ::
 (nat_lit 148,fUn "_law_copy" 23 "law_usewarden_k12_whole_like_rules_one_list" 268 147) ::
 (nat_lit 149,tUp #[]) ::
 (nat_lit 151,tUp #[.str "_law_script" 391,.str "_law_rule_here" 392,.str "_law_dressed_here" 393,.str "_law_spoiled_here" 394,.str "_law_handed" 395,.str "_law_one" 396,.str "_law_other" 397,.str "_law_third" 398]) ::
 (nat_lit 152,tUp #[]) ::
 (nat_lit 154,cOd "law" 388 389 390 177 1 149 150 151 152 153 399 400) ::
 (nat_lit 155,fUn "law" 24 "law_usewarden_k12_whole_like_rules_one_list" 268 154)::[]
def kk:List Addr:=[2,3,15,18,19,20,22,23,25,26,27,30,31,32,34,35,37,38,39,41,42,44,45,46,49,50,51,54,55,56,59,60,61,64,65,66,68,69,71,72,73,75,76,78,79,80,82,83,85,86,87,89,90,92,93,94,96,97,99,100,101,104,105,106,108,109,111,112,113,115,116,118,119,120,123,124,125,128,129,130,132,133,135,136,137,139,140,142,143,144,147,148,149,151,152,154,155]
theorem kk_eq:∀ P,kk=(KK P).map (·.1):=fun _=>by kernel_rfl
noncomputable abbrev HH:Hook:=kHook KK kk kk_eq
def qq:Program:=view PySem.Challenge.pw_usewarden_k12_whole_like_rules_one_list [1,2,3,4,5,6,7,8,9,10,12,13,14,15,16,17,18,19,20,21,22,23,24]
def loo:List Str:=[]
noncomputable def xt(s:Shared):Bool:=xlAt qq [] s&&recOk (RowW.records (OpenRow.toRowW (OpenLaw.row PySem.Challenge.rw_usewarden_k12_whole_like_rules_one_list))) s
def yq(w:World):Prop:=(openEnds treeTable PySem.Challenge.pw_usewarden_k12_whole_like_rules_one_list w 1556).map (fun s=>openSeen qq loo (importedModules (Program.main PySem.Challenge.pw_usewarden_k12_whole_like_rules_one_list).body) xt true s)=some (openGood qq loo)
def yC(w:World):Prop:=(openEnds treeTable PySem.Challenge.pw_usewarden_k12_whole_like_rules_one_list w 1556).map (fun s=>Hook.obs HH s)=some (Hook.val HH w)
set_option maxRecDepth 1000000 in
theorem z6(w:World):yq w:=by unfold yq; kernel_rfl
set_option maxRecDepth 1000000 in
theorem y7(w:World):yC w:=by unfold yC; kernel_rfl
theorem tG{α β γ : Type}{o:Option α}{f:α→β}{g:α→γ}{a:β}{b:γ}(h1:o.map f=some a)(h2:o.map g=some b):o.map (fun s=>(f s,g s))=some (a,b):=by
 cases o with
 | none=>cases h1
 | some s=>cases h1; cases h2; rfl
theorem hl(w:World):(openEnds treeTable PySem.Challenge.pw_usewarden_k12_whole_like_rules_one_list w 1556).map (fun s=>(openSeen qq loo (importedModules (Program.main PySem.Challenge.pw_usewarden_k12_whole_like_rules_one_list).body) xt true s,Hook.obs HH s))=some (openGood qq loo,Hook.val HH w):=tG (z6 w) (y7 w)
end K12
-- CHANGE: your row's module here, as the last of these rows
namespace L2
open PySem PySem.Spec PyProof.Rows
abbrev bc:=Sum Int Str
def i6:bc→Value→Bool
 | .inl k,v=>Value.isInt k v
 | .inr x,v=>Value.isStrOf x v
def zA(w:World):bc→Int
 | .inl k=>hashInt k
 | .inr x=>hashStr w x
theorem bX:∀ {k:bc} {v:Value},i6 k v=true→(∃ i t,k=Sum.inl i∧v=Value.int i t)∨(∃ x t,k=Sum.inr x∧v=Value.str x t)
 | .inl i,v,h=>by
  obtain⟨t,e⟩:=Value.isInt_shape (k:=i) (v:=v) h
  exact .inl ⟨i,t,rfl,e⟩
 | .inr x,v,h=>by
  obtain⟨t,e⟩:=Value.isStrOf_shape (x:=x) (v:=v) h
  exact .inr ⟨x,t,rfl,e⟩
theorem rq(i:Int)(t:Tok):i6 (.inl i) (.int i t)=true:=by simp[i6,Value.isInt]
theorem rA(x:Str)(t:Tok):i6 (.inr x) (.str x t)=true:=by simp[i6,Value.isStrOf]
theorem wH(a b:Int):decide ((Sum.inl a:bc)=Sum.inl b)=(a == b):=by
 by_cases e:a=b
 ·subst e; simp
 ·have h:¬ (Sum.inl a:bc)=Sum.inl b:=fun q=>e (Sum.inl.inj q)
  rw[decide_eq_false h];exact(beq_eq_false_iff_ne.mpr e).symm
theorem wj(a b:Str):decide ((Sum.inr a:bc)=Sum.inr b)=decide (a=b):=by
 by_cases e:a=b
 ·subst e; simp
 ·have h:¬ (Sum.inr a:bc)=Sum.inr b:=fun q=>e (Sum.inr.inj q)
  rw[decide_eq_false h,decide_eq_false e]
theorem xI(a:Int)(b:Str):decide ((Sum.inl a:bc)=Sum.inr b)=false:=decide_eq_false (fun q=>nomatch q)
theorem vE(a:Str)(b:Int):decide ((Sum.inr a:bc)=Sum.inl b)=false:=decide_eq_false (fun q=>nomatch q)
def bT(prog:Program)(w:World):PySem.KeyKind prog w bc where
 is:=i6
 hash:=zA w
 inj:=fun v a b ha hb=>by
  rcases bX ha with ⟨i,t,rfl,rfl⟩ | ⟨x,t,rfl,rfl⟩
  ·rcases bX hb with ⟨j,u,rfl,e⟩ | ⟨y,u,rfl,e⟩
   ·injection e with e1 _; rw[e1]
   ·exact nomatch e
  ·rcases bX hb with ⟨j,u,rfl,e⟩ | ⟨y,u,rfl,e⟩
   ·exact nomatch e
   ·injection e with e1 _; rw[e1]
 byValue:=fun k v h=>by
  rcases bX h with ⟨i,t,rfl,rfl⟩ | ⟨x,t,rfl,rfl⟩ <;> rfl
 pyHash:=fun hv h=>by
  rcases bX hv with ⟨i,t,rfl,rfl⟩ | ⟨x,t,rfl,rfl⟩
  ·exact wpAny_pyHash_int h
  ·exact wpAny_pyHash_str h
 eqBool:=fun hu hv h=>by
  rcases bX hu with ⟨i,t,rfl,rfl⟩ | ⟨x,t,rfl,rfl⟩
  ·rcases bX hv with ⟨j,u,rfl,rfl⟩ | ⟨y,u,rfl,rfl⟩
   ·rw[wH]at h; exact wpAny_eqBool_int h
   ·rw[xI]at h; exact SeqAt.EqAt.int_str i t y u _ _ _ _ h
  ·rcases bX hv with ⟨j,u,rfl,rfl⟩ | ⟨y,u,rfl,rfl⟩
   ·rw[vE]at h; exact SeqAt.EqAt.str_int x t j u _ _ _ _ h
   ·rw[wj]at h; exact wpAny_eqBool_str h
 «strs»:=fun k x t v h=>by
  rcases bX h with ⟨i,u,rfl,e⟩ | ⟨y,u,rfl,e⟩
  ·exact nomatch e
  ·injection e with e1 _
   subst e1
   cases v <;> rfl
theorem m9(prog:Program)(w:World)(i:Int)(t:Tok):(bT prog w).is (.inl i) (.int i t)=true:=rq i t
theorem nu(prog:Program)(w:World)(x:Str)(t:Tok):(bT prog w).is (.inr x) (.str x t)=true:=rA x t
end L2
namespace L2
open PySem PySem.Spec PyProof.Rows
set_option genSizeOf false in
inductive V where
 | non | bl (b:Bool) | int (i:Int) | str (x:Str) | byt (b:Array UInt8) | flt (b:UInt64) | ref (a:Addr) | ty (n:String)
 deriving DecidableEq
def RelV:V→Value→Prop
 | .non,u=>u=Value.none
 | .bl b,u=>u=Value.bool b
 | .int i,u=>∃ t,u=Value.int i t
 | .str x,u=>∃ t,u=Value.str x t
 | .byt b,u=>∃ t,u=Value.bytes b t
 | .flt b,u=>∃ t,u=Value.float b t
 | .ref a,u=>u=Value.ref a
 | .ty n,u=>u=Value.type n
abbrev Vals:List V→List Value→Prop:=Paired RelV
theorem Vals.length{xs:List V}{us:List Value}(r:Vals xs us):xs.length=us.length:=Paired.length r
theorem Vals.get:∀ {xs:List V} {us:List Value} {i:Nat} {x:V},Vals xs us→xs[i]? = some x→∃ u,us[i]? = some u∧RelV x u
 | _,_,_,_,.nil,e=>by simp at e
 | _,_,0,_,.cons r _,e=>by simp at e; subst e; exact⟨_,rfl,r⟩
 | _,_,i+1,x,.cons _ t,e=>by
  obtain⟨u,h1,h2⟩:=Vals.get (i:=i) (x:=x) t (by simpa using e)
  exact⟨u,by simpa using h1,h2⟩
theorem Vals.set{x:V}{u:Value}(r:RelV x u):∀ {xs:List V} {us:List Value} (i:Nat),Vals xs us→Vals (xs.set i x) (us.set i u)
 | _,_,_,.nil=>.nil
 | _,_,0,.cons _ t=>.cons r t
 | _,_,i+1,.cons q t=>.cons q (Vals.set r i t)
theorem Vals.append:∀ {xs ys:List V} {us ws:List Value},Vals xs us→Vals ys ws→Vals (xs++ys) (us++ws)
 | _,_,_,_,.nil,s=>s
 | _,_,_,_,.cons r t,s=>.cons r (Vals.append t s)
theorem Vals.take:∀ {xs:List V} {us:List Value} (n:Nat),Vals xs us→Vals (xs.take n) (us.take n)
 | _,_,0,_=>.nil
 | _,_,_+1,.nil=>.nil
 | _,_,n+1,.cons r t=>.cons r (Vals.take n t)
theorem Vals.drop:∀ {xs:List V} {us:List Value} (n:Nat),Vals xs us→Vals (xs.drop n) (us.drop n)
 | _,_,0,r=>r
 | _,_,_+1,.nil=>.nil
 | _,_,n+1,.cons _ t=>Vals.drop n t
def RelO:Option V→Option Value→Prop
 | some v,some u=>RelV v u
 | none,none=>True
 | _,_=>False
def KV{κ : Type}:List (κ × V)→List (κ × Value)→Prop:=Paired fun (p:κ × V) (q:κ × Value)=>p.1=q.1∧RelV p.2 q.2
def kV:bc→V
 | .inl i=>.int i
 | .inr x=>.str x
set_option genSizeOf false in
inductive HO where
 /-- a list -/
 | lst (xs:List V)
 /-- a tuple (never changes) -/
 | tup (xs:List V)
 /-- a dict whose keys are ints and texts; one whose keys are tuples of ints and texts (the empty one is both) -/
 | dK (kvs:List (bc × V)) | dT (kvs:List (List bc × V))
 /-- a set of ints: its members, its size -/
 | set (S:Int→Bool) (n:Nat)
 /-- an instance of the class at C, its dict at dx, its attributes -/
 | ins (C dx:Addr) (fs:List (Str × V))
 /-- the dict of the instance at x -/
 | own (x:Addr)
 /-- the dict of an exception -/
 | xd (fs:List (Str × V))
 /-- a bound method, f of x -/
 | met (f x:Addr)
 /-- a range object lo, lo+1, .. below hi -/
 | rng (lo hi:Int)
 /-- a thing that is known to the object (the script; a dict while a loop walks it): read, never written while it is so -/
 | frz (o:Obj) (u:HO)
 /-- a code object's table -/
 | tbl (ps:Array Value)
 /-- any other thing, by what is true of its one object (a def of one's own: SetO a S n := HO.ext fun h => ..) -/
 | ext (φ : Heap→Prop)
abbrev Hp:=Addr→Option HO
def upd(H:Hp)(a:Addr)(o:HO):Hp:=fun b=>if b=a then some o else H b
theorem ai{H:Hp}{a:Addr}{o:HO}:upd H a o a=some o:=by unfold upd; rw[if_pos rfl]
theorem am{H:Hp}{a b:Addr}{o:HO}(h:b≠a):upd H a o b=H b:=by unfold upd; rw[if_neg h]
theorem uL{H:Hp}{a:Addr}{o u:HO}:upd (upd H a o) a u=upd H a u:=by
 funext b; unfold upd; split <;> rfl
theorem fF{H:Hp}{a b:Addr}{o u:HO}(h:H a=some o)(h':H b=some u)(d:o≠u):a≠b:=by
 intro e; subst e; rw[h]at h'; exact d (Option.some.inj h')
theorem aV{H:Hp}{a b:Addr}{o:HO}(h:H a=some o)(h':H b=none):a≠b:=by
 intro e; subst e; rw[h]at h'; cases h'
def IsTupN(h:Heap)(a:Addr)(items:Array Value):Prop:=∃ o,h.get? a=some o∧o.cls = .type "tuple" ∧ o.dict=none∧∃ n,o.data = .seq items n
theorem IsTupN.tup{h:Heap}{a:Addr}{items:Array Value}(x:IsTupN h a items):IsTup h a items:=let ⟨o,e,c,_,d⟩:=x; ⟨o,e,c,d⟩
theorem IsTupN.lt{h:Heap}{a:Addr}{items:Array Value}(x:IsTupN h a items):a<h.objs.size:=let ⟨_,e,_⟩:=x; Heap.lt_size e
theorem IsTupN.new(h:Heap)(items:Array Value):IsTupN (h.push { cls:=.type "tuple", data:=.seq items }) h.objs.size items:=⟨_,Heap.get?_push_size _ rfl,rfl,rfl,_,rfl⟩
section
variable(P:Program)(w:World)
def ObjOk(H:Hp)(h:Heap)(a:Addr):HO→Prop
 | .lst xs=>xs.length≤sizeLine∧∃ (its:List Value) (n:Nat),Vals xs its∧h.get? a=some { cls:=.type "list", data:=.seq its.toArray n }
 | .tup xs=>xs.length≤sizeLine∧∃ its:List Value,Vals xs its∧IsTupN h a its.toArray
 | .dK kvs=>kvs.length≤sizeLine∧(a == sysModules)=false∧∃ vs,KV kvs vs∧h.DictOf (bT P w) a vs
 | .dT kvs=>kvs.length≤sizeLine∧(a == sysModules)=false∧∃ xs:List (List bc × Addr × Value),
   Paired (fun (p:List bc × V) (q:List bc × Addr × Value)=>p.1=q.1∧H q.2.1=some (.tup (p.1.map kV))∧RelV p.2 q.2.2) kvs xs∧
   ∃ o es ep,h.get? a=some o∧o.ExactDict∧o.data = .dict es ep∧es.toList=xs.map (entryOfKey (tupleKind (bT P w)))∧(xs.map (·.1)).Nodup
 | .set S n=>h.SetOf (intKind P w) a S n
 | .ins C dx fs=>H dx=some (.own a)∧fs.length≤1000∧dx≠a∧h.get? a=some (PySem.W.instObj C dx)∧
   ∃ mA,h.Ns1 dx mA∧(∀ f,RelO (fs.lookup f) (mA f))∧PySem.Within mA (fs.map (·.1))
 | .own _=>∃ o,h.get? a=some o
 | .xd fs=>∃ mA,h.Ns1 a mA∧∀ f,RelO (fs.lookup f) (mA f)
 | .rng lo hi=>∃ t u v,h.get? a=some { cls:=.type "range", data:=.fields #[.int lo t,.int hi u,.int 1 v] }
 | .frz o u=>h.get? a=some o∧ObjOk H h a u
 | .tbl ps=>h.get? a=some { cls:=.none,data:=.fields ps }
 | .met f x=>h.get? a=some (PySem.W.methodObj (.ref f) (.ref x))
 | .ext φ=>φ h∧(∃ o,h.get? a=some o)∧∀ h1 h2:Heap,φ h1→(∀ o,h1.get? a=some o→h2.get? a=some o)→φ h2
def HOk(H:Hp)(h:Heap):Prop:=∀ a o,H a=some o→ObjOk P w H h a o
end
section
variable{P:Program}{w:World}{H H':Hp}{h h':Heap}{a:Addr}{o:HO}
theorem ObjOk.lt(x:ObjOk P w H h a o):a<h.objs.size:=by
 cases o with
 | lst xs=>obtain⟨_,_,_,_,e⟩:=x; exact Heap.lt_size e
 | tup xs=>obtain⟨_,_,_,p⟩:=x; exact p.lt
 | dK kvs=>obtain⟨_,_,_,_,o,_,_,e,_⟩:=x; exact Heap.lt_size e
 | dT kvs=>obtain⟨_,_,_,_,o,_,_,e,_⟩:=x; exact Heap.lt_size e
 | set S n=>obtain⟨o,_,_,_,e,_⟩:=x; exact Heap.lt_size e
 | ins C dx fs=>obtain⟨_,_,_,e,_⟩:=x; exact Heap.lt_size e
 | own y=>obtain⟨_,e⟩:=x; exact Heap.lt_size e
 | xd fs=>obtain⟨_,⟨_,_,_,e,_⟩,_⟩:=x; exact Heap.lt_size e
 | rng lo hi=>obtain⟨_,_,_,e⟩:=x; exact Heap.lt_size e
 | frz ob u=>obtain⟨e,_⟩:=x; exact Heap.lt_size e
 | tbl ps=>exact Heap.lt_size (show h.get? a=some _ from x)
 | met f y=>exact Heap.lt_size (show h.get? a=some _ from x)
 | ext φ=>obtain⟨_,⟨_,e⟩,_⟩:=x; exact Heap.lt_size e
theorem Paired.mapP{α β : Type}{F G:α→β→Prop}:∀ {l₁:List α} {l₂:List β},Paired F l₁ l₂→(∀ a b,F a b→G a b)→Paired G l₁ l₂
 | _,_,.nil,_=>.nil
 | _,_,.cons r t,f=>.cons (f _ _ r) (Paired.mapP t f)
theorem Paired.imp'{α β : Type}{F G:α→β→Prop}(f:∀ a b,F a b→G a b){l₁:List α}{l₂:List β}(r:Paired F l₁ l₂):Paired G l₁ l₂:=Paired.mapP r f
theorem ObjOk.stay(x:ObjOk P w H h a o)(k:∀ b u,(b=a∨H b=some (.own a))→h.get? b=some u→h'.get? b=some u)
  (ho:∀ b,H b=some (.own a)→H' b=some (.own a)) (ht:∀ b xs,H b=some (.tup xs)→H' b=some (.tup xs)):ObjOk P w H' h' a o:=by
 induction o with
 | lst xs=>obtain⟨z,its,n,r,e⟩:=x; exact⟨z,its,n,r,k _ _ (.inl rfl) e⟩
 | tup xs=>obtain⟨z,its,r,ob,e,c⟩:=x; exact⟨z,its,r,ob,k _ _ (.inl rfl) e,c⟩
 | dK kvs=>obtain⟨z,y,vs,r,ob,es,ep,e,c⟩:=x; exact⟨z,y,vs,r,ob,es,ep,k _ _ (.inl rfl) e,c⟩
 | dT kvs=>
  obtain⟨z,y,xs,r,ob,es,ep,e,c⟩:=x
  exact⟨z,y,xs,Paired.mapP r fun p q z=>⟨z.1,ht _ _ z.2.1,z.2.2⟩,ob,es,ep,k _ _ (.inl rfl) e,c⟩
 | set S n=>obtain⟨ob,es,ep,t,e,c⟩:=x; exact⟨ob,es,ep,t,k _ _ (.inl rfl) e,c⟩
 | ins C dx fs=>
  obtain⟨d,z,ne,e,mA,⟨od,es,ep,e2,c⟩,r⟩:=x
  exact⟨ho _ d,z,ne,k _ _ (.inl rfl) e,mA,⟨od,es,ep,k _ _ (.inr d) e2,c⟩,r⟩
 | own y=>obtain⟨ob,e⟩:=x; exact⟨ob,k _ _ (.inl rfl) e⟩
 | xd fs=>obtain⟨mA,⟨od,es,ep,e,c⟩,r⟩:=x; exact⟨mA,⟨od,es,ep,k _ _ (.inl rfl) e,c⟩,r⟩
 | rng lo hi=>obtain⟨t,u,v,e⟩:=x; exact⟨t,u,v,k _ _ (.inl rfl) e⟩
 | frz ob u ih=>obtain⟨e,q⟩:=x; exact⟨k _ _ (.inl rfl) e,ih q⟩
 | tbl ps=>
  have e:h.get? a=some { cls:=.none,data:=.fields ps }:=x
  show h'.get? a=some { cls:=.none,data:=.fields ps }
  exact k a _ (.inl rfl) e
 | met f y=>
  have e:h.get? a=some (PySem.W.methodObj (.ref f) (.ref y)):=x
  show h'.get? a=some (PySem.W.methodObj (.ref f) (.ref y))
  exact k a _ (.inl rfl) e
 | ext φ=>obtain⟨p,⟨o,e⟩,st⟩:=x; exact⟨st _ _ p fun o q=>k _ _ (.inl rfl) q,⟨o,k _ _ (.inl rfl) e⟩,st⟩
theorem HOk.lt(x:HOk P w H h)(e:H a=some o):a<h.objs.size:=(x a o e).lt
theorem HOk.fresh(x:HOk P w H h)(e:h.objs.size≤a):H a=none:=by
 cases q:H a with
 | none=>rfl
 | some u=>exact absurd (Nat.lt_of_lt_of_le (x.lt q) e) (Nat.lt_irrefl _)
theorem HOk.kept(x:HOk P w H h)(k:∀ b u,h.get? b=some u→h'.get? b=some u):HOk P w H h':=fun a o e=>
 (x a o e).stay (fun b u _ q=>k b u q) (fun _ q=>q) fun _ _ q=>q
theorem HOk.laid(x:HOk P w H h)(k:∀ b u,h.get? b=some u→h'.get? b=some u)(hp:h.objs.size≤a)(new:ObjOk P w (upd H a o) h' a o):HOk P w (upd H a o) h':=fun b u e=>by
 have hn:=x.fresh hp
 by_cases hb:b=a
 ·subst hb; rw[ai]at e; cases e; exact new
 ·rw[am hb]at e
  exact(x b u e).stay (fun c v _ q=>k c v q) (fun c q=>by rw[am (aV q hn)]; exact q) fun c xs q=>by rw[am (aV q hn)]; exact q
end
def Rd(H:Hp)(a:Addr)(u:HO):Prop:=H a=some u∨∃ o,H a=some (.frz o u)
theorem Rd.ok{P:Program}{w:World}{H:Hp}{h:Heap}{a:Addr}{u:HO}(r:Rd H a u)(x:HOk P w H h):ObjOk P w H h a u:=by
 rcases r with r | ⟨o,r⟩
 ·exact x a u r
 ·obtain⟨_,q⟩:=x a _ r
  exact q
def qy:Option HO→Prop
 | some (.lst _)=>True
 | some (.dK _)=>True
 | some (.dT _)=>True
 | some (.set _ _)=>True
 | some (.ins _ _ _)=>True
 | some (.ext _)=>True
 | _=>False
section
variable{P:Program}{w:World}{H:Hp}{h h':Heap}{x e:Addr}{o':HO}
theorem HOk.write(ok:HOk P w H h)(mu:qy (H x))(he:e=x∨H e=some (.own x))(k:∀ b u,b≠e→h.get? b=some u→h'.get? b=some u)(heo:∃ u,h'.get? e=some u)
  (new:ObjOk P w (upd H x o') h' x o'):HOk P w (upd H x o') h':=fun b u q=>by
 have nown:∀ c y,H c=some (.own y)→c≠x:=fun c y r z=>by subst z; rw[r]at mu; exact mu
 have ntup:∀ c xs,H c=some (.tup xs)→c≠x:=fun c xs r z=>by subst z; rw[r]at mu; exact mu
 by_cases hb:b=x
 ·subst hb; rw[ai]at q; cases q; exact new
 ·rw[am hb]at q
  by_cases hbe:b=e
  ·have q':H b=some (.own x):=by
    rcases he with z | z
    ·exact absurd (hbe.trans z) hb
    ·rw[hbe]; exact z
   rw[q]at q'; cases q'
   obtain⟨v,hv⟩:=heo
   exact⟨v,by rw[hbe]; exact hv⟩
  ·refine(ok b u q).stay (fun c v hc r=>k c v ?_ r) (fun c r=>by rw[am (nown c b r)]; exact r) fun c xs r=>by rw[am (ntup c xs r)]; exact r
   rcases hc with rfl | hc
   ·exact hbe
   ·rintro rfl
    rcases he with z | z
    ·exact nown c b hc z
    ·rw[hc]at z; cases z; exact hb rfl
end
structure Un (fs ex:List Addr) (H H':Hp) (h h':Heap):Prop where
 keep:∀ b o,h.get? b=some o→H b=none→b∉fs→b∉ex→h'.get? b=some o
 slot:∀ b o,h.get? b=some o→H b=none→b∈fs→b∉ex→∃ sl,h'.get? b=some { o with slots:=sl }
 free:∀ b o,h.get? b=some o→H b=none→b∉ex→H' b=none
 there:∀ b o,h.get? b=some o→b∉ex→∃ o',h'.get? b=some o'
 tups:∀ b xs,H b=some (.tup xs)→H' b=some (.tup xs)
 frzs:∀ b o u,H b=some (.frz o u)→H' b=some (.frz o u)
 tbls:∀ b ps,H b=some (.tbl ps)→∃ more,H' b=some (.tbl (ps++more))
section
variable{fs fs' ex ex':List Addr}{H H1 H2:Hp}{h h1 h2 h':Heap}{a x e:Addr}{o:HO}
theorem Un.any(u:Un fs ex H H1 h h1){b:Addr}{ob:Obj}(q:h.get? b=some ob)(n:H b=none)(hx:b∉ex):∃ sl,h1.get? b=some { ob with slots:=sl }:=by
 by_cases hb:b∈fs
 ·exact u.slot b ob q n hb hx
 ·exact⟨ob.slots,u.keep b ob q n hb hx⟩
theorem Un.kept(k:∀ b u,h.get? b=some u→h'.get? b=some u):Un fs ex H H h h':=
 ⟨fun b ob q _ _ _=>k b ob q,fun b ob q _ _ _=>⟨ob.slots,k b ob q⟩,fun _ _ _ n _=>n,fun b ob q _=>⟨ob,k b ob q⟩,fun _ _ q=>q,fun _ _ _ q=>q,fun _ ps q=>⟨#[],by rw[q]; simp⟩⟩
theorem Un.refl:Un fs ex H H h h:=Un.kept fun _ _ q=>q
theorem Un.laid(k:∀ b u,h.get? b=some u→h'.get? b=some u)(hp:h.objs.size≤a)(hn:H a=none):Un fs ex H (upd H a o) h h' where
 keep:=fun b u q _ _ _=>k b u q
 slot:=fun b u q _ _ _=>⟨u.slots,k b u q⟩
 free:=fun b u q n _=>by rw[am (Nat.ne_of_lt (Nat.lt_of_lt_of_le (Heap.lt_size q) hp))]; exact n
 there:=fun b u q _=>⟨u,k b u q⟩
 tups:=fun b xs q=>by rw[am (aV q hn)]; exact q
 frzs:=fun b u xs q=>by rw[am (aV q hn)]; exact q
 tbls:=fun b ps q=>⟨#[],by rw[am (aV q hn),q]; simp⟩
theorem Un.write(mu:qy (H x))(he:e=x∨H e=some (.own x))(k:∀ b u,b≠e→h.get? b=some u→h'.get? b=some u)(heo:∃ u,h'.get? e=some u):Un fs ex H (upd H x o) h h':=by
 have hx:∀ b,H b=none→b≠x:=fun b n z=>by subst z; rw[n]at mu; exact mu
 have hb:∀ b,H b=none→b≠e:=fun b n z=>by
  subst z;rcases he with r | r
  ·exact hx b n r
  ·rw[n]at r; cases r
 have hm:∀ b u,H b=some u→¬ qy (some u)→b≠x:=fun b u q nm z=>by subst z; rw[q]at mu; exact nm mu
 refine⟨fun b u q n _ _=>k b u (hb b n) q,fun b u q n _ _=>⟨u.slots,k b u (hb b n) q⟩,fun b u q n _=>by rw[am (hx b n)]; exact n,fun b u q _=>?_,
  fun b xs q=>by rw[am (hm b _ q fun z=>z)]; exact q,fun b u xs q=>by rw[am (hm b _ q fun z=>z)]; exact q,fun b ps q=>⟨#[],by rw[am (hm b _ q fun z=>z),q]; simp⟩⟩
 by_cases hbe:b=e
 ·subst hbe; exact heo
 ·exact⟨u,k b u hbe q⟩
end
def t9(h:Heap)(H:Hp):List Addr:=(List.range h.objs.size).filter fun a=>(H a).isSome
def iE(h:Heap)(H:Hp):Heap:=PySem.W.hideAll h (t9 h H)
theorem rh(h:Heap)(H:Hp):(iE h H).objs.size=h.objs.size:=PySem.W.hideAll_size _ _
theorem tE{h:Heap}{H:Hp}{b:Addr}{o:Obj}(e:h.get? b=some o)(n:H b=none):(iE h H).get? b=some o:=
 PySem.W.hideAll_get _ e fun hm=>by
  have q:(H b).isSome=true:=(List.mem_filter.mp hm).2
  rw[n]at q; simp at q
theorem uM{h:Heap}{H:Hp}{b:Addr}{o:Obj}(e:(iE h H).get? b=some o):h.get? b=some o∧H b=none:=by
 have e':h.get? b=some o:=PySem.W.of_hideAll (t9 h H) e
 refine⟨e',?_⟩
 cases q:H b with
 | none=>rfl
 | some x=>
  have hm:b∈t9 h H:=List.mem_filter.mpr ⟨List.mem_range.mpr (Heap.lt_size e'),by simp[q]⟩
  have z:(iE h H).get? b=none:=PySem.W.hideAll_none (t9 h H) hm
  rw[z]at e; cases e
def vo(g h:Heap)(L:Addr):List (Addr × Obj):=(List.range h.objs.size).filterMap fun a=>if a=L∨(g.get? a).isSome=true then none else (h.get? a).map fun o=>(a,o)
def b4(g h:Heap)(L d:Addr):List (Addr × Obj):=(vo g h L).filter fun p=>decide (p.1≠d)
end L2
namespace L2
open PySem PySem.Spec PyProof.Rows
structure Mod (K:PySem.W.Frag) (mg:Str→Option Value) (base:Heap):Prop where
 kin:K.In base
 glob:base.Ns mainGlobals mg
 blt:∃ mb,base.Ns builtinsNs mb∧∀ x:Str,x ≠ "__name__" → mb x=bootBuiltins x
 nolimit:base.NoLimit
set_option genInjectivity false in
set_option genSizeOf false in
structure Cx where
 prog:Program
 w:World
 K:PySem.W.Frag
 mg:Str→Option Value
 base:Heap
 A:Around
 N:List Str
 s₀ : Shared
 H₀ : Hp
 env:Env
 outer:List Env
 stack:List Env
 ex:List Addr
 fn:Str→Bool
 calm:Bool
 pn:List (Addr × Obj)
 xe:Value→Shared→Prop
def hG(l:List Env):List Addr:=l.filterMap (·.frame)
abbrev Cx.fs (X:Cx):List Addr:=hG X.outer
def az(sc:Scope)(x:Str):Prop:=sc.names.lookup x=some .local∨sc.names.lookup x=some .cell∨sc.names.lookup x=some .free
def aT(sc:Scope)(x:Str):Prop:=sc.names.lookup x=some .local∨sc.names.lookup x=some .cell
def zG(env:Env)(h:Heap)(m:Str→Option Value)(x:Str)(u:Value):Prop:=
 (env.kindOf x=some .local∧m x=some u)∨((env.kindOf x=some .cell∨env.kindOf x=some .free)∧∃ c,env.cells.lookup x=some c∧h.IsCell c (some u))
structure Cx.Ok (X:Cx):Prop where
 mod:Mod X.K X.mg X.base
 kind:X.env.scope.kind = .function
 glob:X.env.globals=mainGlobals
 blt:X.env.builtins=builtinsNs
 above:X.s₀.heap.objs.size≤X.env.locals
 inj:∀ x y c,X.env.cells.lookup x=some c→X.env.cells.lookup y=some c→x=y
 has:∀ x,(X.env.kindOf x=some .cell∨X.env.kindOf x=some .free)→∃ c,X.env.cells.lookup x=some c
 cab:∀ x c,X.fn x=true→X.env.cells.lookup x=some c→X.s₀.heap.objs.size≤c
 hd:X.calm=true→X.A.handled=none
 frames:X.A.frames=some X.stack
 stk:X.stack=X.outer∨(X.stack=X.env::X.outer∧X.env.frame=some X.env.locals)
 exf:∀ b∈X.ex,b≠X.env.locals∧∀ x c,X.env.cells.lookup x=some c→c≠b
 bs:∀ b o,X.base.get? b=some o→X.s₀.heap.get? b=some o∧X.H₀ b=none
 bsz:X.base.objs.size≤X.s₀.heap.objs.size
 noex:∀ b o,X.base.get? b=some o→b∉X.ex
 exfs:∀ b∈X.ex,b∉X.fs
 funs:X.s₀.heap.FunFrames X.base X.outer
 frf:∀ b∈X.fs,X.H₀ b=none
structure Inv (X:Cx) (pins:List (Addr × Obj)) (σ : List (Option V)) (H:Hp) (s:Shared):Prop where
 ok:X.Ok
 os:s.os=X.s₀.os
 bare:AllBare s.gens
 base:Un X.fs X.ex X.H₀ H X.s₀.heap s.heap
 loc:∃ m,s.heap.Ns X.env.locals m∧∀ (i:Nat) (x:Str) (v:V),X.N[i]? = some x→σ[i]? = some (some v)→az X.env.scope x→∃ u,RelV v u∧zG X.env s.heap m x u
 cell:∀ x c,X.env.cells.lookup x=some c→∃ v,s.heap.IsCell c v
 free:H X.env.locals=none
 freeC:∀ x c,X.env.cells.lookup x=some c→H c=none
 pin:∀ p∈X.pn++pins,s.heap.get? p.1=some p.2∧H p.1=none∧p.1≠X.env.locals∧p.1∉X.fs∧∀ v,p.2.data ≠ .cell v
 hok:HOk X.prog X.w H s.heap
 len:σ.length=X.N.length
section
variable{X:Cx}{pins:List (Addr × Obj)}{σ : List (Option V)}{H H':Hp}{s:Shared}{h':Heap}
theorem Cx.Ok.nofr(ok:X.Ok){b:Addr}{o:Obj}(e:X.base.get? b=some o):b∉X.fs:=fun hb=>by
 have:=(ok.funs.mem hb).1
 rw[e]at this; cases this
theorem Inv.bs(I:Inv X pins σ H s):∀ b o,X.base.get? b=some o→s.heap.get? b=some o∧H b=none:=fun b o e=>
 ⟨I.base.keep b o (I.ok.bs b o e).1 (I.ok.bs b o e).2 (I.ok.nofr e) (I.ok.noex b o e),I.base.free b o (I.ok.bs b o e).1 (I.ok.bs b o e).2 (I.ok.noex b o e)⟩
theorem Inv.bk(I:Inv X pins σ H s):∀ b o,X.base.get? b=some o→s.heap.get? b=some o:=fun b o e=>(I.bs b o e).1
theorem Inv.mod(I:Inv X pins σ H s):Mod X.K X.mg X.base:=I.ok.mod
theorem Inv.kIn(I:Inv X pins σ H s):X.K.In s.heap:=I.ok.mod.kin.keeps I.bk
theorem Inv.lt(I:Inv X pins σ H s):X.env.locals<s.heap.objs.size:=let ⟨_,hn,_⟩:=I.loc; hn.lt
theorem Inv.sz(I:Inv X pins σ H s):X.s₀.heap.objs.size≤s.heap.objs.size:=Nat.le_trans I.ok.above (Nat.le_of_lt I.lt)
theorem Inv.nofs(I:Inv X pins σ H s){a:Addr}(h:s.heap.objs.size≤a):a∉X.fs:=fun hb=>by
 obtain⟨_,o,ho,_⟩:=I.ok.funs.mem hb
 exact absurd (Nat.lt_of_lt_of_le (Heap.lt_size ho) (Nat.le_trans I.sz h)) (Nat.lt_irrefl _)
theorem Inv.cne(I:Inv X pins σ H s):∀ x c,X.env.cells.lookup x=some c→c≠X.env.locals:=fun x c e z=>by
 obtain⟨v,o,ho,hd⟩:=I.cell x c e
 obtain⟨m,⟨o',es,ep,ho',hd',_⟩,_⟩:=I.loc
 rw[z,ho']at ho; cases ho; rw[hd']at hd; cases hd
theorem Inv.funs(I:Inv X pins σ H s):s.heap.FunFrames X.base X.outer:=by
 have all:∀ (l:List Env),(∀ b∈hG l,b∈X.fs)→X.s₀.heap.FunFrames X.base l→s.heap.FunFrames X.base l:=by
  intro l
  induction l with
  | nil=>intro _ _; trivial
  | cons env r ih=>
   intro hs hl
   obtain⟨hk,⟨L,o,hf,hn,ho,hd⟩,hr⟩:=hl
   have hL:L∈X.fs:=hs L (by unfold hG; rw[List.filterMap_cons,hf]; exact List.mem_cons_self)
   obtain⟨sl,e⟩:=I.base.slot L o ho (I.ok.frf L hL) hL fun z=>I.ok.exfs L z hL
   exact⟨hk,⟨L,_,hf,hn,e,hd⟩,ih (fun b hb=>hs b (by unfold hG; rw[List.filterMap_cons,hf]; exact List.mem_cons_of_mem _ hb)) hr⟩
 exact all X.outer (fun _ hb=>hb) I.ok.funs
theorem Inv.stack(I:Inv X pins σ H s):s.heap.FunFrames X.base X.stack:=by
 rcases I.ok.stk with e | ⟨e,hf⟩
 ·rw[e]; exact I.funs
 ·rw[e]
  obtain⟨m,hn,_⟩:=I.loc
  refine .cons (by rw[I.ok.kind]; decide) hf hn ?_ I.funs
  exact Heap.get?_none_of_le (Nat.le_trans I.ok.bsz I.ok.above)
theorem Inv.stkSub(I:Inv X pins σ H s):∀ b∈hG X.stack,b∈X.env.locals::X.fs:=fun b hb=>by
 rcases I.ok.stk with e | ⟨e,hf⟩
 ·rw[e]at hb; exact List.mem_cons_of_mem _ hb
 ·rw[e]at hb
  unfold hG at hb;rw[List.filterMap_cons,hf]at hb
  exact hb
theorem Inv.stkFree(I:Inv X pins σ H s):∀ b∈hG X.stack,H b=none:=fun b hb=>by
 rcases List.mem_cons.mp (I.stkSub b hb) with e | hb
 ·rw[e]; exact I.free
 ·obtain⟨_,o,ho,_⟩:=I.ok.funs.mem hb
  exact I.base.free b o ho (I.ok.frf b hb) fun z=>I.ok.exfs b z hb
theorem Inv.step{g':Array GenState}{t':Nat}{d':Drawn}{ch:List Addr}(I:Inv X pins σ H s)
  (hch:∀ b∈ch,(b∈X.ex∨X.s₀.heap.objs.size≤b)∧b≠X.env.locals∧(∀ x c,X.env.cells.lookup x=some c→c≠b)∧∀ p∈X.pn++pins,p.1≠b)
  (keep:∀ b o,b≠X.env.locals→b∉X.fs→b∉ch→s.heap.get? b=some o→H b=none→h'.get? b=some o)
  (slot:∀ b o,b≠X.env.locals→b∈X.fs→b∉ch→s.heap.get? b=some o→H b=none→∃ sl,h'.get? b=some { o with slots:=sl }) (free:∀ b o,b∉ch→s.heap.get? b=some o→H b=none→H' b=none)
  (there:∀ b o,b∉ch→s.heap.get? b=some o→∃ o',h'.get? b=some o')
  (tups:∀ b xs,H b=some (.tup xs)→H' b=some (.tup xs)) (frzs:∀ b o u,H b=some (.frz o u)→H' b=some (.frz o u)) (tbls:∀ b ps,H b=some (.tbl ps)→∃ more,H' b=some (.tbl (ps++more)))
  (ns:∀ m,s.heap.Ns X.env.locals m→h'.Ns X.env.locals m) (hok:HOk X.prog X.w H' h') (hg:AllBare g') :
  Inv X pins σ H' { s with heap:=h',gens:=g',drawn:=d',toks:=t' }:=by
 have neL:∀ b o,X.s₀.heap.get? b=some o→b≠X.env.locals:=fun b o e=>Nat.ne_of_lt (Nat.lt_of_lt_of_le (Heap.lt_size e) I.ok.above)
 have neC:∀ b o,X.s₀.heap.get? b=some o→b∉X.ex→b∉ch:=fun b o e hx hb=>by
  rcases(hch b hb).1 with z | z
  ·exact hx z
  ·exact absurd (Nat.lt_of_lt_of_le (Heap.lt_size e) z) (Nat.lt_irrefl _)
 have cellK:∀ x c,X.env.cells.lookup x=some c→∀ v,s.heap.IsCell c v→h'.IsCell c v:=fun x c e v ⟨o,ho,hd⟩=>by
  have nch:c∉ch:=fun z=>(hch c z).2.2.1 x c e rfl
  by_cases hc:c∈X.fs
  ·obtain⟨sl,q⟩:=slot c o (I.cne x c e) hc nch ho (I.freeC x c e)
   exact⟨_,q,hd⟩
  ·exact⟨o,keep c o (I.cne x c e) hc nch ho (I.freeC x c e),hd⟩
 refine⟨I.ok,I.os,hg,⟨fun b o e n hb hx=>?_,fun b o e n hb hx=>?_,fun b o e n hx=>?_,fun b o e hx=>?_,fun b xs e=>tups b xs (I.base.tups b xs e),fun b o xs e=>frzs b o xs (I.base.frzs b o xs e),fun b ps e=>?_⟩,?_,fun x c e=>?_,?_,fun x c e=>?_,fun p hp=>?_,hok,I.len⟩
 ·exact keep b o (neL b o e) hb (neC b o e hx) (I.base.keep b o e n hb hx) (I.base.free b o e n hx)
 ·obtain⟨sl,e1⟩:=I.base.slot b o e n hb hx
  obtain⟨sl',e2⟩:=slot b _ (neL b o e) hb (neC b o e hx) e1 (I.base.free b o e n hx)
  exact⟨sl',e2⟩
 ·obtain⟨o',e1⟩:=I.base.there b o e hx
  exact free b o' (neC b o e hx) e1 (I.base.free b o e n hx)
 ·obtain⟨o',e1⟩:=I.base.there b o e hx
  exact there b o' (neC b o e hx) e1
 ·obtain⟨m1,e1⟩:=I.base.tbls b ps e
  obtain⟨m2,e2⟩:=tbls b _ e1
  exact⟨m1++m2,by rw[e2,Array.append_assoc]⟩
 ·obtain⟨m,hn,hl⟩:=I.loc
  refine⟨m,ns m hn,fun i x v e1 e2 e3=>?_⟩
  obtain⟨u,r,l⟩:=hl i x v e1 e2 e3
  refine⟨u,r,?_⟩
  rcases l with l | ⟨k,c,e,z⟩
  ·exact .inl l
  ·exact .inr ⟨k,c,e,cellK x c e _ z⟩
 ·obtain⟨v,z⟩:=I.cell x c e
  exact⟨v,cellK x c e v z⟩
 ·obtain⟨m,⟨o,_,_,ho,_⟩,_⟩:=I.loc
  exact free _ o (fun z=>(hch _ z).2.1 rfl) ho I.free
 ·obtain⟨v,o,ho,hd⟩:=I.cell x c e
  exact free c o (fun z=>(hch c z).2.2.1 x c e rfl) ho (I.freeC x c e)
 ·obtain⟨e,n,ne,nf,d⟩:=I.pin p hp
  have nch:p.1∉ch:=fun z=>(hch p.1 z).2.2.2 p hp rfl
  exact⟨keep p.1 p.2 ne nf nch e n,free p.1 p.2 nch e n,ne,nf,d⟩
theorem Inv.un{t':Nat}(I:Inv X pins σ H s)(u:Un X.fs [] H H' s.heap h')(hok:HOk X.prog X.w H' h'):Inv X pins σ H' { s with heap:=h',toks:=t' }:=by
 obtain⟨m,⟨o,es,ep,ho,r⟩,_⟩:=id I.loc
 obtain⟨sl,hL⟩:=u.any ho I.free (by simp)
 exact I.step (g':=s.gens) (d':=s.drawn) (ch:=[]) (fun _ z=>nomatch z) (fun b o _ hb _ e n=>u.keep b o e n hb (by simp)) (fun b o _ hb _ e n=>u.slot b o e n hb (by simp)) (fun b o _ e n=>u.free b o e n (by simp)) (fun b o _ e=>u.there b o e (by simp)) u.tups u.frzs u.tbls (fun m' hm=>by
  obtain⟨o',es',ep',ho',r'⟩:=hm
  rw[ho]at ho'; cases ho'
  exact⟨_,es',ep',hL,r'⟩) hok I.bare
theorem Inv.call{g':Array GenState}{t':Nat}{d':Drawn}{ch:List Addr}(I:Inv X pins σ H s)(u:Un (hG X.stack) ch H H' s.heap h')(hok:HOk X.prog X.w H' h')(hg:AllBare g')
  (hch:∀ b∈ch,(b∈X.ex∨X.s₀.heap.objs.size≤b)∧b≠X.env.locals∧(∀ x c,X.env.cells.lookup x=some c→c≠b)∧∀ p∈X.pn++pins,p.1≠b) :
  Inv X pins σ H' { s with heap:=h',gens:=g',drawn:=d',toks:=t' }:=by
 obtain⟨m,⟨o,es,ep,ho,r⟩,_⟩:=id I.loc
 obtain⟨sl,hL⟩:=u.any ho I.free fun z=>(hch _ z).2.1 rfl
 exact I.step (ch:=ch) hch (fun b o hL hb hc e n=>u.keep b o e n (fun z=>(List.mem_cons.mp (I.stkSub b z)).elim hL hb) hc) (fun b o _ _ hc e n=>u.any e n hc) (fun b o hc e n=>u.free b o e n hc) (fun b o hc e=>u.there b o e hc) u.tups u.frzs u.tbls (fun m' hm=>by
  obtain⟨o',es',ep',ho',r'⟩:=hm
  rw[ho]at ho'; cases ho'
  exact⟨_,es',ep',hL,r'⟩) hok hg
theorem Inv.turned{t':Nat}{it:Addr}(I:Inv X pins σ H s)(k:∀ b o,b≠it→s.heap.get? b=some o→h'.get? b=some o)(hn:H it=none)(hL:it≠X.env.locals)
  (h1:it∈X.ex∨X.s₀.heap.objs.size≤it) (h2:∀ x c,X.env.cells.lookup x=some c→c≠it) (h3:∀ p∈X.pn++pins,p.1≠it):Inv X pins σ H { s with heap:=h',toks:=t' }:=by
 have nit:∀ b u,H b=some u→b≠it:=fun b u e z=>by rw[z,hn]at e; cases e
 refine I.step (g':=s.gens) (d':=s.drawn) (ch:=[it]) (fun b hb=>?_) (fun b o _ _ hc e _=>k b o (fun z=>hc (by simp[z])) e) (fun b o _ _ hc e _=>⟨o.slots,k b o (fun z=>hc (by simp[z])) e⟩) (fun _ _ _ _ n=>n)
  (fun b o hc e=>⟨o,k b o (fun z=>hc (by simp[z])) e⟩) (fun _ _ e=>e) (fun _ _ _ e=>e) (fun b ps e=>⟨#[],by rw[e]; simp⟩) (fun m hm=>?_) (fun b u e=>?_) I.bare
 ·have e:b=it:=by simpa using hb
  subst e;exact⟨h1,hL,h2,h3⟩
 ·obtain⟨o,es,ep,ho,r⟩:=hm
  exact⟨o,es,ep,k _ o (Ne.symm hL) ho,r⟩
 ·refine(I.hok b u e).stay (fun c v hc q=>k c v ?_ q) (fun _ q=>q) fun _ _ q=>q
  rcases hc with z | z
  ·rw[z]; exact nit b u e
  ·exact nit c _ z
theorem Inv.tok(I:Inv X pins σ H s)(t:Nat):Inv X pins σ H { s with toks:=t }:=I.un (h':=s.heap) (t':=t) Un.refl I.hok
theorem Inv.kept{t':Nat}(I:Inv X pins σ H s)(k:∀ b u,s.heap.get? b=some u→h'.get? b=some u):Inv X pins σ H { s with heap:=h',toks:=t' }:=I.un (Un.kept k) (I.hok.kept k)
theorem Inv.laid{a:Addr}{o:HO}{t':Nat}(I:Inv X pins σ H s)(k:∀ b u,s.heap.get? b=some u→h'.get? b=some u)(hp:s.heap.objs.size≤a)(new:ObjOk X.prog X.w (upd H a o) h' a o) :
  Inv X pins σ (upd H a o) { s with heap:=h',toks:=t' }:=I.un (Un.laid k hp (I.hok.fresh hp)) (I.hok.laid k hp new)
theorem Inv.write{x e:Addr}{o:HO}{t':Nat}(I:Inv X pins σ H s)(mu:qy (H x))(he:e=x∨H e=some (.own x))(k:∀ b u,b≠e→s.heap.get? b=some u→h'.get? b=some u)(heo:∃ u,h'.get? e=some u)
  (new:ObjOk X.prog X.w (upd H x o) h' x o):Inv X pins σ (upd H x o) { s with heap:=h',toks:=t' }:=I.un (Un.write mu he k heo) (I.hok.write mu he k heo new)
theorem Inv.weak{σ':List (Option V)}(I:Inv X pins σ H s)(hl:σ'.length=σ.length)(w:∀ (i:Nat) v,σ'[i]? = some (some v)→σ[i]? = some (some v)):Inv X pins σ' H s:=
 ⟨I.ok,I.os,I.bare,I.base,let ⟨m,hn,hl'⟩:=I.loc; ⟨m,hn,fun i x v e1 e2 e3=>hl' i x v e1 (w i v e2) e3⟩,I.cell,I.free,I.freeC,I.pin,I.hok,hl.trans I.len⟩
theorem Inv.pins_of{pins':List (Addr × Obj)}(I:Inv X pins σ H s)(h:∀ p∈pins',s.heap.get? p.1=some p.2∧H p.1=none∧p.1≠X.env.locals∧p.1∉X.fs∧∀ v,p.2.data ≠ .cell v):Inv X pins' σ H s:=
 ⟨I.ok,I.os,I.bare,I.base,I.loc,I.cell,I.free,I.freeC,fun p hp=>(List.mem_append.mp hp).elim (fun z=>I.pin p (List.mem_append_left _ z)) (h p),I.hok,I.len⟩
theorem mM{N:List Str}(hN:N.Nodup){i j:Nat}{x:Str}(a:N[i]? = some x)(b:N[j]? = some x):i=j:=by
 obtain⟨h1,e1⟩:=List.getElem?_eq_some_iff.mp a
 obtain⟨h2,e2⟩:=List.getElem?_eq_some_iff.mp b
 exact(List.getElem_inj hN).mp (e1.trans e2.symm)
theorem iV{M:Model}{A:Around}{E:Value→Shared→Prop}{i:Nat}{x:Str}{v:V}{u:Value}{Q:Unit→Shared→Prop}(I:Inv X pins σ H s)(hN:X.N.Nodup)(hi:X.N[i]? = some x)(hx:aT X.env.scope x)(r:RelV v u)
  (h:∀ s',Inv X pins (σ.set i (some v)) H s'→(∃ a,Heap.SameBut a s.heap s'.heap∧(a=X.env.locals∨X.env.cells.lookup x=some a))→Q () s') (hf:X.fn x=true∨X.env.scope.names.lookup x=some .local:=by first | exact .inl rfl | exact .inr rfl | assumption):wpAny M A (storeName X.env x u) Q E s:=by
 obtain⟨m,hn,hl⟩:=id I.loc
 have hcls:(X.env.scope.kind == .class||(X.env.scope.kind == .module&&X.env.locals != X.env.globals))=false:=by rw[I.ok.kind]; rfl
 have hiσ : i<σ.length:=by rw[I.len]; exact(List.getElem?_eq_some_iff.mp hi).1
 have cne:=I.cne
 have tracked:∀ {a:Addr} {h':Heap},(∃ o,s.heap.get? a=some o∧H a=none)→Heap.SameBut a s.heap h'→HOk X.prog X.w H h':=fun {a h'} ha hs b ob e=>by
  obtain⟨_,_,hfree⟩:=ha
  refine(I.hok b ob e).stay (fun c w' hc q=>(hs.2 c ?_).trans q) (fun _ q=>q) fun _ _ q=>q
  rintro rfl
  rcases hc with rfl | hc
  ·rw[hfree]at e; cases e
  ·rw[hfree]at hc; cases hc
 rcases hx with hk | hk
 ·refine wpAny_storeName_local hk hn (fun h' hn' hs=>?_) hcls
  obtain⟨oL,_,_,hoL,_⟩:=id hn
  refine h _ ⟨I.ok,I.os,I.bare,⟨fun b o e n hb hx=>?_,fun b o e n hb hx=>?_,I.base.free,fun b o e hx=>?_,I.base.tups,I.base.frzs,I.base.tbls⟩,⟨_,hn',fun j y v' e1 e2 e3=>?_⟩,fun y c e=>?_,I.free,I.freeC,fun p hp=>?_,tracked ⟨oL,hoL,I.free⟩ hs,by simpa using I.len⟩ ⟨_,hs,.inl rfl⟩
  ·exact(hs.2 b (Nat.ne_of_lt (Nat.lt_of_lt_of_le (Heap.lt_size e) I.ok.above))).trans (I.base.keep b o e n hb hx)
  ·obtain⟨sl,e1⟩:=I.base.slot b o e n hb hx
   exact⟨sl,(hs.2 b (Nat.ne_of_lt (Nat.lt_of_lt_of_le (Heap.lt_size e) I.ok.above))).trans e1⟩
  ·obtain⟨o',e1⟩:=I.base.there b o e hx
   exact⟨o',(hs.2 b (Nat.ne_of_lt (Nat.lt_of_lt_of_le (Heap.lt_size e) I.ok.above))).trans e1⟩
  ·by_cases hj:j=i
   ·subst hj
    rw[hi]at e1; cases e1
    rw[List.getElem?_set_self hiσ]at e2
    cases e2;exact⟨u,r,.inl ⟨hk,by simp⟩⟩
   ·rw[List.getElem?_set_ne (Ne.symm hj)]at e2
    obtain⟨u',r',q⟩:=hl j y v' e1 e2 e3
    refine⟨u',r',?_⟩
    rcases q with ⟨k,e⟩ | ⟨k,c,e,z⟩
    ·refine .inl ⟨k,?_⟩
     have:y≠x:=fun e=>hj (mM hN e1 (e ▸ hi))
     simp[this,e]
    ·exact .inr ⟨k,c,e,z.sameBut hs (cne y c e)⟩
  ·obtain⟨w',z⟩:=I.cell y c e
   exact⟨w',z.sameBut hs (cne y c e)⟩
  ·obtain⟨e,n,ne,nf,d⟩:=I.pin p hp
   exact⟨(hs.2 p.1 ne).trans e,n,ne,nf,d⟩
 ·have hfn:X.fn x=true:=by
   rcases hf with z | z
   ·exact z
   ·rw[z]at hk; cases hk
  obtain⟨c,hc⟩:=I.ok.has x (.inl hk)
  obtain⟨w',z⟩:=I.cell x c hc
  refine wpAny_storeName_cell I.ok.kind hk hc z (fun h' hc' hs=>?_)
  obtain⟨oc,hoc,hocd⟩:=id z
  refine h { s with heap:=h' } ⟨I.ok,I.os,I.bare,⟨fun b o e n hb hx=>?_,fun b o e n hb hx=>?_,I.base.free,fun b o e hx=>?_,I.base.tups,I.base.frzs,I.base.tbls⟩,⟨m,hn.sameBut hs (Ne.symm (cne x c hc)),fun j y v' e1 e2 e3=>?_⟩,fun y c' e=>?_,I.free,I.freeC,fun p hp=>?_,tracked ⟨oc,hoc,I.freeC x c hc⟩ hs,by simpa using I.len⟩ ⟨c,hs,.inr hc⟩
  ·exact(hs.2 b (Nat.ne_of_lt (Nat.lt_of_lt_of_le (Heap.lt_size e) (I.ok.cab x c hfn hc)))).trans (I.base.keep b o e n hb hx)
  ·obtain⟨sl,e1⟩:=I.base.slot b o e n hb hx
   exact⟨sl,(hs.2 b (Nat.ne_of_lt (Nat.lt_of_lt_of_le (Heap.lt_size e) (I.ok.cab x c hfn hc)))).trans e1⟩
  ·obtain⟨o',e1⟩:=I.base.there b o e hx
   exact⟨o',(hs.2 b (Nat.ne_of_lt (Nat.lt_of_lt_of_le (Heap.lt_size e) (I.ok.cab x c hfn hc)))).trans e1⟩
  ·by_cases hj:j=i
   ·subst hj
    rw[hi]at e1; cases e1
    rw[List.getElem?_set_self hiσ]at e2
    cases e2;exact⟨u,r,.inr ⟨.inl hk,c,hc,hc'⟩⟩
   ·rw[List.getElem?_set_ne (Ne.symm hj)]at e2
    obtain⟨u',r',q⟩:=hl j y v' e1 e2 e3
    refine⟨u',r',?_⟩
    rcases q with q | ⟨k,c',e,z'⟩
    ·exact .inl q
    ·refine .inr ⟨k,c',e,z'.sameBut hs ?_⟩
     rintro rfl
     exact hj (mM hN e1 (I.ok.inj _ _ _ e hc ▸ hi))
  ·by_cases hcc:c'=c
   ·subst hcc; exact⟨_,hc'⟩
   ·obtain⟨w2,z2⟩:=I.cell y c' e
    exact⟨w2,z2.sameBut hs hcc⟩
  ·obtain⟨e,n,ne,nf,d⟩:=I.pin p hp
   refine⟨(hs.2 p.1 ?_).trans e,n,ne,nf,d⟩
   intro q
   rw[q,hoc]at e
   have q':oc=p.2:=Option.some.inj e
   exact d w' (by rw[← q']; exact hocd)
theorem mB{M:Model}{A:Around}{E:Value→Shared→Prop}{i:Nat}{x:Str}{v:V}{u:Value}{Q:Unit→Shared→Prop}(I:Inv X pins σ H s)(hN:X.N.Nodup)(hi:X.N[i]? = some x)(hx:aT X.env.scope x)(r:RelV v u)
  (h:∀ s',Inv X pins (σ.set i (some v)) H s'→Q () s') (hf:X.fn x=true∨X.env.scope.names.lookup x=some .local:=by first | exact .inl rfl | exact .inr rfl | assumption):wpAny M A (storeName X.env x u) Q E s:=
 iV I hN hi hx r (fun s' I' _=>h s' I') hf
theorem Inv.call'{s':Shared}{ch:List Addr}(I:Inv X pins σ H s)(ho:s'.os=s.os)(u:Un (hG X.stack) ch H H' s.heap s'.heap)(hok:HOk X.prog X.w H' s'.heap)(hg:AllBare s'.gens)
  (hch:∀ b∈ch,(b∈X.ex∨X.s₀.heap.objs.size≤b)∧b≠X.env.locals∧(∀ x c,X.env.cells.lookup x=some c→c≠b)∧∀ p∈X.pn++pins,p.1≠b):Inv X pins σ H' s':=by
 obtain⟨h',g',d',t',o'⟩:=s'
 have e:o'=s.os:=ho
 subst e;exact I.call (g':=g') (t':=t') (d':=d') u hok hg hch
end
abbrev XK:=Value→Option Addr→Hp→Prop
abbrev St:=List (Option V)
abbrev VK:=V→Hp→Prop
abbrev TE:=St→Hp→VK→Prop
abbrev TT:=St→Hp→(Bool→Hp→Prop)→Prop
abbrev TA:=St→Hp→(List V→Hp→Prop)→Prop
set_option genInjectivity false in
set_option genSizeOf false in
structure dv where
 nx:St→Hp→Prop
 rt:VK
 bk:St→Hp→Prop:=fun _ _=>False
 ct:St→Hp→Prop:=fun _ _=>False
abbrev TS:=dv→St→Hp→Prop
def EP(X:Cx)(pins:List (Addr × Obj))(σ : St)(Q:VK)(u:Value)(s':Shared):Prop:=∃ v H',Inv X pins σ H' s'∧RelV v u∧Q v H'
def TP(X:Cx)(pins:List (Addr × Obj))(σ : St)(Q:Bool→Hp→Prop)(b:Bool)(s':Shared):Prop:=∃ H',Inv X pins σ H' s'∧Q b H'
def AP(X:Cx)(pins:List (Addr × Obj))(σ : St)(Q:List V→Hp→Prop)(us:List Value)(s':Shared):Prop:=∃ vs H',Inv X pins σ H' s'∧Vals vs us∧Q vs H'
def SP(X:Cx)(pins:List (Addr × Obj))(D:dv)(f:Flow)(s':Shared):Prop:=
 match f with
 | .next=>∃ σ' H',Inv X pins σ' H' s'∧D.nx σ' H'
 | .brk=>∃ σ' H',Inv X pins σ' H' s'∧D.bk σ' H'
 | .cont=>∃ σ' H',Inv X pins σ' H' s'∧D.ct σ' H'
 | .ret u=>∃ v σ' H',Inv X pins σ' H' s'∧RelV v u∧D.rt v H'
def PE(X:Cx)(e:Expr)(t:TE):Prop:=
 ∀ (pins:List (Addr × Obj)) (s:Shared) (σ : St) (H:Hp) (Q:VK),Inv X pins σ H s→t σ H Q→wpAny (model X.prog X.w) X.A (eval e X.env) (EP X pins σ Q) X.xe s
def PT(X:Cx)(e:Expr)(t:TT):Prop:=
 ∀ (pins:List (Addr × Obj)) (s:Shared) (σ : St) (H:Hp) (Q:Bool→Hp→Prop),Inv X pins σ H s→t σ H Q→wpAny (model X.prog X.w) X.A (isTrue e X.env (eval e X.env)) (TP X pins σ Q) X.xe s
def PW(X:Cx)(e:Expr)(t:TT):Prop:=
 ∀ (whole:Sem Value) (pins:List (Addr × Obj)) (s:Shared) (σ : St) (H:Hp) (Q:Bool→Hp→Prop),Inv X pins σ H s→t σ H Q→wpAny (model X.prog X.w) X.A (isTrue e X.env whole) (TP X pins σ Q) X.xe s
theorem PW.pt{X:Cx}{e:Expr}{t:TT}(h:PW X e t):PT X e t:=h _
def PA(X:Cx)(es:List Expr)(t:TA):Prop:=
 ∀ (pos:Pos) (pins:List (Addr × Obj)) (s:Shared) (σ : St) (H:Hp) (Q:List V→Hp→Prop),Inv X pins σ H s→t σ H Q→wpAny (model X.prog X.w) X.A (spliced (backTo pos (starEach es X.env))) (AP X pins σ Q) X.xe s
def PS(X:Cx)(st:Stmt)(t:TS):Prop:=
 ∀ (pins:List (Addr × Obj)) (s:Shared) (σ : St) (H:Hp) (D:dv),Inv X pins σ H s→t D σ H→wpAny (model X.prog X.w) X.A (exec st X.env) (SP X pins D) X.xe s
def PSs(X:Cx)(st:List Stmt)(t:TS):Prop:=
 ∀ (pins:List (Addr × Obj)) (s:Shared) (σ : St) (H:Hp) (D:dv),Inv X pins σ H s→t D σ H→wpAny (model X.prog X.w) X.A (execs st X.env) (SP X pins D) X.xe s
theorem aY{α : Type}{t:Sem α}{Q Q':α→Shared→Prop}{M:Model}{A:Around}{E:Value→Shared→Prop}{s:Shared}(h:wpAny M A t Q E s)(hQ:∀ a s,Q a s→Q' a s):wpAny M A t Q' E s:=wpAny_mono h hQ fun _ _ x=>x
end L2
namespace L2
open PySem PySem.Spec PyProof.Rows
section
variable{X:Cx}
def rV(i:Nat):TE:=fun σ H Q=>∃ v,σ[i]? = some (some v)∧Q v H
def tC(v:V):TE:=fun _ H Q=>Q v H
theorem v0{i:Nat}{x:Str}{pos:Pos}(hN:X.N[i]? = some x)(hv:az X.env.scope x)(hd:(x == ("__debug__" : Str))=false:=by decide) (hcd:(x == ("__classdict__" : Str))=false:=by decide):PE X (.Name x pos) (rV i):=by
 intro pins s σ H Q I h
 obtain⟨v,e,h⟩:=h
 obtain⟨m,hn,hl⟩:=I.loc
 obtain⟨u,r,l⟩:=hl i x v hN e hv
 have fin:EP X pins σ Q u s:=⟨v,H,I,r,h⟩
 rcases l with ⟨hk,hm⟩ | ⟨hk,c,hc,hcell⟩
 ·exact wpAny_Name (wpAny_loadName_local I.ok.kind hk hn hm fin) hd
 ·rcases hk with hk | hk
  ·exact wpAny_Name (wpAny_loadName_cell I.ok.kind hk hc hcell fin) hd
  ·exact wpAny_Name (wpAny_loadName_free I.ok.kind hk hc hcell fin hcd) hd
theorem ah{i j pos}:PE X (.Constant (.int i) j pos) (tC (.int i)):=fun _ _ _ H _ I h=>wpAny_Constant_int ⟨.int i,H,I.tok _,⟨_,rfl⟩,h⟩
theorem gL{b j pos}:PE X (.Constant (.bool b) j pos) (tC (.bl b)):=fun _ _ _ H _ I h=>Constant_bool ⟨.bl b,H,I,rfl,h⟩
theorem cE{j pos}:PE X (.Constant .none j pos) (tC .non):=fun _ _ _ H _ I h=>Constant_none ⟨.non,H,I,rfl,h⟩
theorem iN{x j pos}:PE X (.Constant (.str x) j pos) (tC (.str x)):=fun _ _ _ H _ I h=>Calls.Constant_str ⟨.str x,H,I.tok _,⟨_,rfl⟩,h⟩
def Gl(X:Cx)(x:Str):Prop:=X.env.kindOf x=some .globalImplicit
theorem vSs{s:Stmt}{x:Str}(h:(L2.defScope s).names.lookup x=some .local):az (L2.defScope s) x:=Or.inl h
theorem vLl{s:Stmt}{x:Str}(h:(L2.defScope s).names.lookup x=some .local):aT (L2.defScope s) x:=Or.inl h
theorem vGg{s:Stmt}{x:Str}(h:(L2.defScope s).names.lookup x=some .globalImplicit):(L2.defScope s).names.lookup x=some .globalImplicit:=h
theorem uP{E:Value→Shared→Prop}{pins:List (Addr × Obj)}{s:Shared}{σ : St}{H:Hp}{x:Str}{u:Value}{pos:Pos}{Q:Value→Shared→Prop}(I:Inv X pins σ H s)(hg:Gl X x)(hm:X.mg x=some u)(h:Q u s)
  (hd:(x == ("__debug__" : Str))=false:=by decide):wpAny (model X.prog X.w) X.A (eval (.Name x pos) X.env) Q E s:=
 Calls.Name_function_global I.ok.kind hg (Calls.loadGlobal_global (by rw[I.ok.glob]; exact I.mod.glob.keeps I.bk) hm h) hd
theorem g9{E:Value→Shared→Prop}{pins:List (Addr × Obj)}{s:Shared}{σ : St}{H:Hp}{x:Str}{u:Value}{pos:Pos}{Q:Value→Shared→Prop}(I:Inv X pins σ H s)(hg:Gl X x)(hm:X.mg x=none)(hv:bootBuiltins x=some u)(h:Q u s)
  (hn:x ≠ "__name__" := by decide) (hd:(x == ("__debug__" : Str))=false:=by decide):wpAny (model X.prog X.w) X.A (eval (.Name x pos) X.env) Q E s:=by
 obtain⟨mb,h1,h2⟩:=I.mod.blt
 exact Calls.Name_function_global I.ok.kind hg (Calls.loadGlobal_builtin (by rw[I.ok.glob]; exact I.mod.glob.keeps I.bk) hm (by rw[I.ok.blt]; exact h1.keeps I.bk) ((h2 x hn).trans hv) h) hd
theorem uT{x:Str}{v:V}{u:Value}{pos:Pos}(hg:Gl X x)(hm:X.mg x=none)(hv:bootBuiltins x=some u)(r:RelV v u)(hn:x ≠ "__name__" := by decide) (hd:(x == ("__debug__" : Str))=false:=by decide):PE X (.Name x pos) (tC v):=
 fun _ _ _ H _ I h=>g9 I hg hm hv ⟨v,H,I,r,h⟩ hn hd
variable{a b:Expr}{ta tb:TE}{pos:Pos}
def tB(t:TE):TT:=fun σ H Q=>t σ H fun x H1=>∃ c,x = .bl c∧Q c H1
theorem qP{e:Expr}{t:TE}(h:PE X e t)(he:∀ whole,isTrue e X.env whole=(do let v ← whole; standAt e.pos; holding [v] (truthy v)):=by intro _; rfl):PT X e (tB t):=by
 intro pins s σ H Q I hw
 refine isTrue_plain (aY (h pins s σ H _ I hw) fun v s1 ⟨x,H1,I1,r1,q1⟩=>?_) (he _)
 obtain⟨d,rfl,q⟩:=q1
 cases r1;exact wpAny_truthy_bool ⟨H1,I1,q⟩
variable{tA tB':TT}{b4:List Expr}
def vJ(t u:TT):TT:=fun σ H Q=>t σ H fun c H1=>if c=true then u σ H1 Q else Q false H1
def yw(t u:TT):TT:=fun σ H Q=>t σ H fun c H1=>if c=true then Q true H1 else u σ H1 Q
def vO(t:TT):TT:=fun σ H Q=>t σ H fun c H1=>Q (!c) H1
theorem g4(ha:PT X a tA):PW X (.BoolOp .And [a] pos) tA:=by
 intro wh pins s σ H Q I h
 refine isTrue_and (aY (ha pins s σ H Q I h) fun c s1 e=>?_)
 cases c with
 | true=>exact isTrue_and_nil e
 | false=>exact e
theorem wq(ha:PT X a tA):PW X (.BoolOp .Or [a] pos) tA:=by
 intro wh pins s σ H Q I h
 refine isTrue_or (aY (ha pins s σ H Q I h) fun c s1 e=>?_)
 cases c with
 | false=>exact isTrue_or_nil e
 | true=>exact e
theorem h_(ha:PT X a tA)(hb:PW X (.BoolOp .And (b::b4) pos) tB'):PW X (.BoolOp .And (a::b::b4) pos) (vJ tA tB'):=by
 intro wh pins s σ H Q I h
 refine isTrue_and (aY (ha pins s σ H _ I h) fun c s1 ⟨H1,I1,q1⟩=>?_)
 cases c with
 | true=>exact hb wh pins s1 σ H1 Q I1 q1
 | false=>exact⟨H1,I1,q1⟩
theorem uE(ha:PT X a tA)(hb:PW X (.BoolOp .Or (b::b4) pos) tB'):PW X (.BoolOp .Or (a::b::b4) pos) (yw tA tB'):=by
 intro wh pins s σ H Q I h
 refine isTrue_or (aY (ha pins s σ H _ I h) fun c s1 ⟨H1,I1,q1⟩=>?_)
 cases c with
 | true=>exact⟨H1,I1,q1⟩
 | false=>exact hb wh pins s1 σ H1 Q I1 q1
theorem vS(ha:PT X a tA):PT X (.UnaryOp .Not a pos) (vO tA):=by
 intro pins s σ H Q I h
 exact isTrue_not (ha pins s σ H (fun c H1=>Q (!c) H1) I h)
def yE(t:TT)(ta tb:TE):TE:=fun σ H Q=>t σ H fun c H1=>if c=true then ta σ H1 Q else tb σ H1 Q
theorem rT{c:Expr}(hc:PT X c tA)(ha:PE X a ta)(hb:PE X b tb):PE X (.IfExp c a b pos) (yE tA ta tb):=by
 intro pins s σ H Q I h
 refine wpAny_IfExp (aY (hc pins s σ H _ I h) fun d s1 ⟨H1,I1,q1⟩=>?_)
 cases d with
 | true=>exact ha pins s1 σ H1 Q I1 q1
 | false=>exact hb pins s1 σ H1 Q I1 q1
end
end L2
namespace L2
open PySem PySem.Spec PyProof.Rows
def SqL(K:PySem.W.Frag)(H:Hp)(a:Addr)(xs:List V):Prop:=
 Rd H a (.lst xs)∨
  ∃ (o:Obj) (its:Array Value) (n:Nat),K.lookup a=some o∧o.cls = .type "list" ∧ o.dict=none∧o.data = .seq its n∧its.size≤sizeLine∧Vals xs its.toList
def SqT(K:PySem.W.Frag)(H:Hp)(a:Addr)(xs:List V):Prop:=
 Rd H a (.tup xs)∨
  ∃ (o:Obj) (its:Array Value) (n:Nat),K.lookup a=some o∧o.cls = .type "tuple" ∧ o.data = .seq its n∧its.size≤sizeLine∧Vals xs its.toList
def zX:Value→Option V
 | .none=>some .non
 | .bool b=>some (.bl b)
 | .int i _=>some (.int i)
 | .str x _=>some (.str x)
 | .bytes b _=>some (.byt b)
 | .float b _=>some (.flt b)
 | .ref a=>some (.ref a)
 | .type n=>some (.ty n)
 | _=>none
theorem RelV.abs{x:V}{u:Value}(r:RelV x u):zX u=some x:=by
 cases x with
 | non=>cases r; rfl
 | bl _=>cases r; rfl
 | int _=>obtain⟨t,rfl⟩:=r; rfl
 | str _=>obtain⟨t,rfl⟩:=r; rfl
 | byt _=>obtain⟨t,rfl⟩:=r; rfl
 | flt _=>obtain⟨t,rfl⟩:=r; rfl
 | ref _=>cases r; rfl
 | ty _=>cases r; rfl
theorem RelV.inj{x y:V}{u:Value}(r:RelV x u)(q:RelV y u):x=y:=Option.some.inj (r.abs.symm.trans q.abs)
theorem Vals.inj:∀ {xs ys:List V} {us:List Value},Vals xs us→Vals ys us→xs=ys
 | _,_,_,.nil,.nil=>rfl
 | _,_,_,.cons r t,.cons r' t'=>by rw[r.inj r',Vals.inj t t']
section
variable{X:Cx}{pins:List (Addr × Obj)}{σ : St}{H:Hp}{s:Shared}{a:Addr}{xs ys:List V}
theorem SqL.of{K:PySem.W.Frag}(h:H a=some (.lst xs)):SqL K H a xs:=.inl (.inl h)
theorem SqT.of{K:PySem.W.Frag}(h:H a=some (.tup xs)):SqT K H a xs:=.inl (.inl h)
theorem Inv.list(I:Inv X pins σ H s)(h:SqL X.K H a xs):∃ its:List Value,Vals xs its∧PlainL s.heap a its.toArray∧xs.length≤sizeLine:=by
 rcases h with h | ⟨o,its,n,hk,hc,hd,hs,hz,r⟩
 ·obtain⟨z,its,n,r,e⟩:=h.ok I.hok
  exact⟨its,r,⟨_,n,e,rfl,rfl,rfl⟩,z⟩
 ·refine⟨its.toList,r,⟨o,n,I.kIn a o hk,hc,hd,by simpa using hs⟩,?_⟩
  have e:=r.length;simp only[Array.length_toList]at e
  omega
theorem Inv.tuple(I:Inv X pins σ H s)(h:SqT X.K H a xs):∃ its:List Value,Vals xs its∧IsTup s.heap a its.toArray∧xs.length≤sizeLine:=by
 rcases h with h | ⟨o,its,n,hk,hc,hs,hz,r⟩
 ·obtain⟨z,its,r,p⟩:=h.ok I.hok
  exact⟨its,r,p.tup,z⟩
 ·refine⟨its.toList,r,⟨o,I.kIn a o hk,hc,n,by simpa using hs⟩,?_⟩
  have e:=r.length;simp only[Array.length_toList]at e
  omega
theorem Inv.list_inj(I:Inv X pins σ H s)(h:SqL X.K H a xs)(h':SqL X.K H a ys):xs=ys:=by
 obtain⟨its,r,⟨o,n,e,_,_,d⟩,_⟩:=I.list h
 obtain⟨its',r',⟨o',n',e',_,_,d'⟩,_⟩:=I.list h'
 rw[e]at e'; cases e'
 rw[d]at d'
 injection d' with d1 _
 have:its=its':=by simpa using congrArg Array.toList d1
 subst this;exact r.inj r'
theorem Inv.tuple_inj(I:Inv X pins σ H s)(h:SqT X.K H a xs)(h':SqT X.K H a ys):xs=ys:=by
 obtain⟨its,r,⟨o,e,_,n,d⟩,_⟩:=I.tuple h
 obtain⟨its',r',⟨o',e',_,n',d'⟩,_⟩:=I.tuple h'
 rw[e]at e'; cases e'
 rw[d]at d'
 injection d' with d1 _
 have:its=its':=by simpa using congrArg Array.toList d1
 subst this;exact r.inj r'
end
abbrev Cx.wish (X:Cx) (E:Value→Shared→Prop):Cx:={ X with xe:=E }
abbrev Cx.nox (X:Cx):Cx:=X.wish fun _ _=>False
theorem Cx.Ok.wish{X:Cx}(ok:X.Ok)(E:Value→Shared→Prop):(X.wish E).Ok:=
 ⟨ok.mod,ok.kind,ok.glob,ok.blt,ok.above,ok.inj,ok.has,ok.cab,ok.hd,ok.frames,ok.stk,ok.exf,ok.bs,ok.bsz,ok.noex,ok.exfs,ok.funs,ok.frf⟩
theorem Cx.Ok.unwish{X:Cx}{E:Value→Shared→Prop}(ok:(X.wish E).Ok):X.Ok:=
 ⟨ok.mod,ok.kind,ok.glob,ok.blt,ok.above,ok.inj,ok.has,ok.cab,ok.hd,ok.frames,ok.stk,ok.exf,ok.bs,ok.bsz,ok.noex,ok.exfs,ok.funs,ok.frf⟩
section
variable{X:Cx}{pins:List (Addr × Obj)}{σ : St}{H:Hp}{s:Shared}{E:Value→Shared→Prop}
theorem Inv.wish(I:Inv X pins σ H s)(E:Value→Shared→Prop):Inv (X.wish E) pins σ H s:=⟨I.ok.wish E,I.os,I.bare,I.base,I.loc,I.cell,I.free,I.freeC,I.pin,I.hok,I.len⟩
theorem Inv.unwish(I:Inv (X.wish E) pins σ H s):Inv X pins σ H s:=⟨I.ok.unwish,I.os,I.bare,I.base,I.loc,I.cell,I.free,I.freeC,I.pin,I.hok,I.len⟩
theorem SP.unwish{D:dv}{f:Flow}{s':Shared}(h:SP (X.wish E) pins D f s'):SP X pins D f s':=by
 cases f with
 | next=>obtain⟨σ',H',I,q⟩:=h; exact⟨σ',H',I.unwish,q⟩
 | brk=>obtain⟨σ',H',I,q⟩:=h; exact⟨σ',H',I.unwish,q⟩
 | cont=>obtain⟨σ',H',I,q⟩:=h; exact⟨σ',H',I.unwish,q⟩
 | ret u=>obtain⟨v,σ',H',I,r,q⟩:=h; exact⟨v,σ',H',I.unwish,r,q⟩
theorem PSs.nox{st:List Stmt}{t:TS}(h:PSs X.nox st t):PSs X st t:=fun pins s σ H D I hw=>
 wpAny_mono (h pins s σ H D (I.wish _) hw) (fun _ _ q=>q.unwish) fun _ _ z=>False.elim z
end
section
variable{X:Cx}{st:Stmt}{b4:List Stmt}{t u:TS}{e:Expr}{te:TE}{pos:Pos}
def uc:TS:=fun D σ H=>D.nx σ H
def tm(t u:TS):TS:=fun D σ H=>t { D with nx:=u D } σ H
theorem bD:PSs X [] uc:=fun _ _ σ H _ I h=>wpAny_execs_nil ⟨σ,H,I,h⟩
theorem ab(h1:PS X st t)(h2:PSs X b4 u):PSs X (st::b4) (tm t u):=by
 intro pins s σ H D I h
 refine wpAny_execs_cons (aY (h1 pins s σ H { D with nx:=u D } I h) fun f s1 q=>?_)
 cases f with
 | next=>
  obtain⟨σ',H',I',q⟩:=q
  exact h2 pins s1 σ' H' D I' q
 | ret v=>exact q
 | brk=>exact q
 | cont=>exact q
theorem ap(h1:PS X st t):PSs X [st] t:=by
 intro pins s σ H D I h
 refine wpAny_execs_cons (aY (h1 pins s σ H D I h) fun f s1 q=>?_)
 cases f with
 | next=>exact wpAny_execs_nil q
 | ret v=>exact q
 | brk=>exact q
 | cont=>exact q
theorem Inv.quiet{pins:List (Addr × Obj)}{σ : St}{H:Hp}{s:Shared}(I:Inv X pins σ H s):interactive X.env=false:=by simp[interactive,I.ok.kind]
def uv(te:TE):TS:=fun D σ H=>te σ H fun _ H1=>D.nx σ H1
theorem cC(he:PE X e te)(hs:swapsWith e none pos.line X.env=pure false:=by rfl):PS X (.Expr e pos) (uv te):=by
 intro pins s σ H D I h
 exact wpAny_Expr_any (aY (he pins s σ H _ I h) fun v s1 ⟨x,H1,I1,r1,q1⟩=>⟨σ,H1,I1,q1⟩) I.quiet hs
def v5(te:TE):TS:=fun D σ H=>te σ H D.rt
theorem bg(he:PE X e te):PS X (.Return (some e) pos) (v5 te):=by
 intro pins s σ H D I h
 exact wpAny_Return_some (aY (he pins s σ H _ I h) fun v s1 ⟨x,H1,I1,r1,q1⟩=>⟨x,σ,H1,I1,r1,q1⟩)
def wV(c:TT)(t u:TS):TS:=fun D σ H=>c σ H fun b H1=>if b=true then t D σ H1 else u D σ H1
theorem bZ{c:Expr}{a b:List Stmt}{tc:TT}(hc:PT X c tc)(ha:PSs X a t)(hb:PSs X b u):PS X (.If c a b pos) (wV tc t u):=by
 intro pins s σ H D I h
 refine wpAny_If (aY (hc pins s σ H _ I h) fun d s1 ⟨H1,I1,q1⟩=>?_)
 cases d with
 | true=>exact ha pins s1 σ H1 D I1 q1
 | false=>exact hb pins s1 σ H1 D I1 q1
end
abbrev TG:=V→St→Hp→(St→Hp→Prop)→Prop
abbrev gH:=List V→St→Hp→(St→Hp→Prop)→Prop
def PG(X:Cx)(target:Expr)(t:TG):Prop:=
 ∀ (pins:List (Addr × Obj)) (s:Shared) (σ : St) (H:Hp) (v:V) (u:Value) (Q:St→Hp→Prop),Inv X pins σ H s→RelV v u→t v σ H Q→
  wpAny (model X.prog X.w) X.A (assign target X.env u) (fun _ s'=>∃ σ' H',Inv X pins σ' H' s'∧Q σ' H') X.xe s
def PGs(X:Cx)(ts:List Expr)(t:gH):Prop:=
 ∀ (pins:List (Addr × Obj)) (s:Shared) (σ : St) (H:Hp) (vs:List V) (us:List Value) (Q:St→Hp→Prop),Inv X pins σ H s→Vals vs us→t vs σ H Q→
  wpAny (model X.prog X.w) X.A (assignInOrder ((assignEach ts X.env).map (·.2)) us) (fun _ s'=>∃ σ' H',Inv X pins σ' H' s'∧Q σ' H') X.xe s
abbrev jF:=V→V→V→Hp→(Hp→Prop)→Prop
def PSet(X:Cx)(t:jF):Prop:=
 ∀ (pins:List (Addr × Obj)) (s:Shared) (σ : St) (H:Hp) (o i v:V) (ov iv u:Value) (Q:Hp→Prop),Inv X pins σ H s→RelV o ov→RelV i iv→RelV v u→t o i v H Q→
  wpAny (model X.prog X.w) X.A (setItem ov iv u) (fun _ s'=>∃ H',Inv X pins σ H' s'∧Q H') X.xe s
section
variable{X:Cx}{pos:Pos}
def fI(i:Nat):TG:=fun v σ H Q=>Q (σ.set i (some v)) H
theorem uS{i:Nat}{x:Str}(hN:X.N.Nodup)(hi:X.N[i]? = some x)(hx:aT X.env.scope x)(hf:X.fn x=true∨X.env.scope.names.lookup x=some .local:=by first | exact .inl rfl | exact .inr rfl | assumption):PG X (.Name x pos) (fI i):=by
 intro pins s σ H v u Q I r h
 exact wpAny_assign_Name (mB I hN hi hx r (fun s' I'=>⟨_,H,I',h⟩) hf)
def pQ:gH:=fun vs σ H Q=>vs=[]∧Q σ H
def lz(t:TG)(u:gH):gH:=fun vs σ H Q=>∃ v r,vs=v::r∧t v σ H fun σ' H'=>u r σ' H' Q
theorem hU:PGs X [] pQ:=by
 intro pins s σ H vs us Q I r h
 obtain⟨e,h⟩:=h
 subst e
 cases r;exact assignInOrder_nil ⟨σ,H,I,h⟩
theorem cn{e:Expr}{es:List Expr}{t:TG}{u:gH}(h1:PG X e t)(h2:PGs X es u)
  (hs:(assignEach (e::es) X.env).map (·.2)=assign e X.env::(assignEach es X.env).map (·.2):=by rfl):PGs X (e::es) (lz t u):=by
 intro pins s σ H vs us Q I r h
 obtain⟨v,vr,e1,h⟩:=h
 subst e1
 cases r with
 | cons r rr=>
  rw[hs];refine assignInOrder_cons (aY (h1 pins s σ H _ _ _ I r h) fun _ s1 ⟨σ1,H1,I1,q1⟩=>?_)
  exact h2 pins s1 σ1 H1 _ _ Q I1 rr q1
def oX(K:PySem.W.Frag)(n:Nat)(t:gH):TG:=fun v σ H Q=>∃ a xs,v = .ref a∧SqT K H a xs∧xs.length=n∧t xs σ H Q
theorem xf{es:List Expr}{k:Nat}{t:gH}{n:Nat}(hc:X.calm=true)(h:PGs X es t)
  (hn:(assignEach es X.env).length=n:=by rfl) (hst:(assignEach es X.env).findIdx? (·.1)=none:=by rfl):PG X (.Tuple es k pos) (oX X.K n t):=by
 intro pins s σ H v u Q I r hw
 obtain⟨a,xs,e1,hq,hl,hw⟩:=hw
 subst e1
 cases r;obtain⟨its,rv,ht,hz⟩:=I.tuple hq
 refine assign_Tuple_tuple (I.ok.hd hc) ht (by simp[hn,← hl,rv.length]) hst fun h' hx=>?_
 have I1:Inv X pins σ H { s with heap:=h' }:=I.kept (t':=s.toks) fun b o e=>hx b o (Nat.ne_of_lt (Heap.lt_size e)) e
 exact h pins _ σ H xs _ Q I1 (by simpa using rv) hw
def vA(to ti:TE)(t:jF):TG:=fun v σ H Q=>to σ H fun o H1=>ti σ H1 fun i H2=>t o i v H2 fun H3=>Q σ H3
theorem cL{o i:Expr}{to ti:TE}{t:jF}(ho:PE X o to)(hi:PE X i ti)(hs:PSet X t)
  (ha:∀ v,assign (.Subscript o i pos) X.env v=(do
   let ov ← holding [v] (eval o X.env)
   let iv ← holding [v,ov] (eval i X.env)
   standAt pos
   holding [v,ov,iv] (setItem ov iv v)
   release [v,ov,iv] []):=by intro _; rfl):PG X (.Subscript o i pos) (vA to ti t):=by
 intro pins s σ H v u Q I r h
 rw[ha];refine wpAny_bind (wpAny_holding (aY (ho pins s σ H _ I h) fun ov s1 ⟨x,H1,I1,r1,q1⟩=>?_))
 refine wpAny_bind (wpAny_holding (aY (hi pins s1 σ H1 _ I1 q1) fun iv s2 ⟨y,H2,I2,r2,q2⟩=>?_))
 refine wpAny_bind (wpAny_standAt (wpAny_bind (wpAny_holding (aY (hs pins s2 σ H2 x y v ov iv u _ I2 r1 r2 r q2) fun _ s3 ⟨H3,I3,q3⟩=>?_))))
 exact wpAny_release ⟨σ,H3,I3,q3⟩
def kj(te:TE)(g:TG):TS:=fun D σ H=>te σ H fun x H1=>g x σ H1 D.nx
theorem cz{tg e:Expr}{te:TE}{g:TG}(he:PE X e te)(hg:PG X tg g)(hs:swapsWithSole [tg] e pos.line X.env=pure false:=by rfl)(hw:swappedStores [tg] e X.env=pure none:=by rfl)
  (h1:(assignEach [tg] X.env).map (·.2)=[assign tg X.env]:=by rfl):PS X (.Assign [tg] e pos) (kj te g):=by
 intro pins s σ H D I h
 refine wpAny_Assign_stores (aY (he pins s σ H _ I h) fun v s1 ⟨x,H1,I1,r1,q1⟩=>?_) hs hw
 rw[h1];exact aY (hg pins s1 σ H1 x v _ I1 r1 q1) fun _ s2 q=>q
theorem xv{i:Nat}{x:Str}{e:Expr}{te:TE}{pos':Pos}(hN:X.N.Nodup)(hi:X.N[i]? = some x)(hx:aT X.env.scope x)(he:PE X e te)(hs:swapsWith e (some (.Name x pos')) pos.line X.env=pure false:=by rfl)(hf:X.fn x=true∨X.env.scope.names.lookup x=some .local:=by first | exact .inl rfl | exact .inr rfl | assumption) :
  PS X (.Assign [.Name x pos'] e pos) (kj te (fI i)):=by
 intro pins s σ H D I h
 refine wpAny_Assign_Name (aY (he pins s σ H _ I h) fun v s1 ⟨y,H1,I1,r1,q1⟩=>?_) hs
 exact mB I1 hN hi hx r1 (fun s2 I2=>⟨_,H1,I2,q1⟩) hf
end
section
variable{X:Cx}{pos:Pos}
def xw(c:TT)(tb:TS):TS:=fun D σ H=>∃ W:Nat→St→Hp→Prop,(∃ m,W m σ H)∧∀ m σ H,W m σ H→
 c σ H fun b H1=>if b=true then ∃ N:St→Hp→Prop,(∀ σ' H',N σ' H'→∃ m',m'<m∧W m' σ' H')∧tb { D with nx:=N,ct:=N,bk:=D.nx } σ H1 else D.nx σ H1
theorem jB{c:Expr}{body:List Stmt}{tc:TT}{tb:TS}(hp:PassesOwn (model X.prog X.w) X.A X.env X.xe)(hc:PT X c tc)(hb:PSs X body tb):PS X (.While c body [] pos) (xw tc tb):=by
 intro pins s σ H D I h
 obtain⟨W,⟨m0,w0⟩,turn⟩:=h
 refine wpAny_While (codeAny_whileLoop (fun n s'=>∃ σ' H',Inv X pins σ' H' s'∧W n σ' H') ?_ m0 ⟨σ,H,I,w0⟩)
 rintro n s1 ⟨σ1,H1,I1,w1⟩
 refine wpAny_passesOwn hp (aY (hc pins s1 σ1 H1 _ I1 (turn n σ1 H1 w1)) fun b s2 ⟨H2,I2,q2⟩=>?_)
 cases b with
 | true=>
  obtain⟨N,hN,q2⟩:=q2
  rw[if_pos rfl];refine wpAny_passesOwn hp (aY (hb pins s2 σ1 H2 _ I2 q2) fun f s3 q3=>?_)
  cases f with
  | next=>
   obtain⟨σ3,H3,I3,n3⟩:=q3
   obtain⟨m',hm,w3⟩:=hN σ3 H3 n3
   exact⟨m',hm,σ3,H3,I3,w3⟩
  | cont=>
   obtain⟨σ3,H3,I3,n3⟩:=q3
   obtain⟨m',hm,w3⟩:=hN σ3 H3 n3
   exact⟨m',hm,σ3,H3,I3,w3⟩
  | brk=>exact q3
  | ret v=>exact q3
 | false=>
  rw[if_neg Bool.false_ne_true];exact wpAny_execs_nil ⟨σ1,H2,I2,q2⟩
end
set_option genInjectivity false in
set_option genSizeOf false in
structure It where
 go:Nat→Hp→Prop
 yld:Nat→Hp→V→Hp→Prop
 stop:Nat→Hp→Prop
def fv(X:Cx)(pins:List (Addr × Obj))(H:Hp)(b:Addr):Prop:=
 H b=none∧b≠X.env.locals∧b∉X.fs∧(b∈X.ex∨X.s₀.heap.objs.size≤b)∧(∀ x c,X.env.cells.lookup x=some c→c≠b)∧∀ p∈X.pn++pins,p.1≠b
theorem Inv.fpOk{X:Cx}{pins:List (Addr × Obj)}{σ : St}{H H':Hp}{s:Shared}{b:Addr}(I:Inv X pins σ H s)(hb:s.heap.objs.size≤b)(hn:H' b=none):fv X pins H' b:=by
 refine⟨hn,Nat.ne_of_gt (Nat.lt_of_lt_of_le I.lt hb),I.nofs hb,.inr (Nat.le_trans I.sz hb),fun x c e z=>?_,fun p hp z=>?_⟩
 ·obtain⟨v,q⟩:=I.cell x c e
  exact absurd (Nat.lt_of_lt_of_le q.lt (by rw[z]; exact hb)) (Nat.lt_irrefl _)
 ·exact absurd (Nat.lt_of_lt_of_le (Heap.lt_size (I.pin p hp).1) (by rw[z]; exact hb)) (Nat.lt_irrefl _)
structure kr (P:Program) (w:World) (K:PySem.W.Frag) (tg:Expr) (J:It) (fp:List Addr) (it:Addr) (tn:Nat→Heap→Prop):Prop where
 mem:it∈fp
 obj:∀ i h,tn i h→∀ b∈fp,∃ o,h.get? b=some o∧∀ v,o.data ≠ .cell v
 keep:∀ i h h',tn i h→(∀ b∈fp,∀ o,h.get? b=some o→h'.get? b=some o)→tn i h'
 item:∀ (X:Cx),X.prog=P→X.w=w→X.K=K→X.calm=true→∀ (i:Nat) (pins:List (Addr × Obj)) (s:Shared) (σ : St) (H:Hp) (E:Value→Shared→Prop),Inv X pins σ H s→(∀ b∈fp,fv X pins H b)→tn i s.heap→J.go i H→
  wpAny (model P w) X.A (pyNext (.ref it)) (fun r s1=>∃ u,r=some u∧
   wpAny (model P w) X.A (letOwnedTupleGo tg (.ref it) u) (fun _ s2=>∃ x H',Inv X pins σ H' s2∧RelV x u∧J.yld i H x H'∧tn (i+1) s2.heap∧∀ b∈fp,H' b=none) E s1) E s
 done:∀ (X:Cx),X.prog=P→X.w=w→X.K=K→X.calm=true→∀ (i:Nat) (pins:List (Addr × Obj)) (s:Shared) (σ : St) (H:Hp) (E:Value→Shared→Prop),Inv X pins σ H s→(∀ b∈fp,fv X pins H b)→tn i s.heap→J.stop i H→
  wpAny (model P w) X.A (pyNext (.ref it)) (fun r s1=>r=none∧Inv X pins σ H s1) E s
 self:∀ (A:Around) (i:Nat) (s:Shared) (Q:Value→Shared→Prop) (E:Value→Shared→Prop),tn i s.heap→Q (.ref it) s→wpAny (model P w) A (pyIter (.ref it)) Q E s
abbrev TI:=St→Hp→(It→Hp→Prop)→Prop
def yz(X:Cx)(pins:List (Addr × Obj))(σ : St)(tg:Expr)(R:It→Hp→Prop)(itv:Value)(s2:Shared):Prop:=
 ∃ (it:Addr) (fp:List Addr) (tn:Nat→Heap→Prop) (J:It) (H':Hp),itv = .ref it∧Inv X pins σ H' s2∧kr X.prog X.w X.K tg J fp it tn∧tn 0 s2.heap∧(∀ b∈fp,fv X pins H' b)∧R J H'
def PI(X:Cx)(tg iter:Expr)(wi:TI):Prop:=
 ∀ (pins:List (Addr × Obj)) (s:Shared) (σ : St) (H:Hp) (R:It→Hp→Prop),Inv X pins σ H s→wi σ H R→
  wpAny (model X.prog X.w) X.A (eval iter X.env) (fun v s1=>wpAny (model X.prog X.w) X.A (pyIter v) (yz X pins σ tg R) X.xe s1) X.xe s
theorem um{M:Model}{A:Around}{E:Value→Shared→Prop}{s:Shared}{tg:Expr}{it:Addr}{u:Value}{o:Obj}{n:String}{vs:Array Value}{Q:Unit→Shared→Prop}(ho:s.heap.get? it=some o)(hc:o.cls = .type n)(hd:o.data = .fields vs)
    (hn:["enumerate", "zip", "dict_itemiterator", "dict_reverseitemiterator", "odict_iterator", "itertools.zip_longest", "itertools.pairwise"].contains n=false) (hQ:Q () s):wpAny M A (letOwnedTupleGo tg (.ref it) u) Q E s:=by
  unfold letOwnedTupleGo
  cases tg <;> first
    | exact wpAny_pure hQ
    | (cases u <;> first
        | exact wpAny_pure hQ
        | (refine wpAny_bind (wpAny_load ho ?_)
           rw[hc,hd];show wpAny M A (if (["enumerate", "zip", "dict_itemiterator", "dict_reverseitemiterator", "odict_iterator", "itertools.zip_longest", "itertools.pairwise"].contains n&&vs[0]? == some (rawInt _))=true then _ else _) Q E s
           rw[if_neg (by intro h; rw[hn,Bool.false_and]at h; cases h)]
           exact wpAny_pure hQ))
def j1(K:PySem.W.Frag)(a:Addr):It:=
 ⟨fun i H=>∃ xs x,SqL K H a xs∧xs[i]? = some x,fun i H x H'=>H'=H∧∀ xs,SqL K H a xs→xs[i]? = some x,fun i H=>∃ xs,SqL K H a xs∧xs.length≤i⟩
def iH(lo:Int)(n:Nat):It:=⟨fun i _=>i<n,fun i H x H'=>H'=H∧x = .int (lo+i),fun i _=>n≤i⟩
theorem qN{P:Program}{w:World}{K:PySem.W.Frag}{tg:Expr}(a it:Addr):kr P w K tg (j1 K a) [it] it (fun i h=>h.IsListIter it a i) where
 mem:=by simp
 obj:=fun i h st b hb=>by
  have e:b=it:=by simpa using hb
  subst e;obtain⟨o,e,c,d⟩:=st
  exact⟨o,e,fun v z=>by rw[d]at z; cases z⟩
 keep:=fun i h h' st k=>st.at fun o e=>k it (by simp) o e
 item:=by
  intro X hP hw hK hc i pins s σ H E I hf st hg
  subst hP hw hK;obtain⟨xs,x,hq,hx⟩:=hg
  obtain⟨its,rv,p,hz⟩:=I.list hq
  obtain⟨u,hu,ru⟩:=rv.get hx
  obtain⟨f0,f1,f2,f3,f4,f5⟩:=hf it (by simp)
  refine wpAny_pyNext_list_item st p.isList (x:=u) (by simpa using hu) fun h' st' sb=>?_
  have I1:Inv X pins σ H { s with heap:=h' }:=I.turned (t':=s.toks) (fun b o hb e=>(sb.2 b hb).trans e) f0 f1 f3 f4 f5
  obtain⟨o,e,c,d⟩:=id st'
  exact⟨u,rfl,um (s:={ s with heap:=h' }) e c d (by decide) ⟨x,H,I1,ru,⟨rfl,fun ys hy=>by rw[I.list_inj hy hq]; exact hx⟩,st',fun b hb=>(hf b hb).1⟩⟩
 done:=by
  intro X hP hw hK hc i pins s σ H E I hf st hg
  subst hP hw hK;obtain⟨xs,hq,hx⟩:=hg
  obtain⟨its,rv,p,hz⟩:=I.list hq
  obtain⟨f0,f1,f2,f3,f4,f5⟩:=hf it (by simp)
  have hl:=rv.length;exact wpAny_pyNext_list_end (I.ok.hd hc) st p.isList (by simp; omega) fun h' eb=>⟨rfl,I.turned (t':=s.toks) (fun b o hb e=>eb b o hb e) f0 f1 f3 f4 f5⟩
 self:=fun _ _ _ _ _ st h=>wpAny_pyIter_listiter st h
theorem pL{P:Program}{w:World}{K:PySem.W.Frag}{tg:Expr}(it:Addr)(lo:Int)(n:Nat):kr P w K tg (iH lo n) [it] it (fun i h=>IsRangeIter h it (lo+(i:Nat) * 1) ((n:Int) - (i:Nat)) 1) where
 mem:=by simp
 obj:=fun i h st b hb=>by
  have e:b=it:=by simpa using hb
  subst e
  exact⟨_,st,fun v z=>by
   have z':Data.fields _=Data.cell v:=z
   cases z'⟩
 keep:=fun i h h' st k=>k it (by simp) _ st
 item:=by
  intro X hP hw hK hc i pins s σ H E I hf st hg
  subst hP hw hK;obtain⟨f0,f1,f2,f3,f4,f5⟩:=hf it (by simp)
  have W:=Walks.range (prog:=X.prog) (w:=X.w) (I.ok.hd hc) it lo 1 n;refine W.item i s _ _ hg st fun v h' tk hv st' kk=>?_
  obtain⟨t,rfl⟩:=hv
  have I1:Inv X pins σ H { s with heap:=h',toks:=tk }:=I.turned (fun b o hb e=>kk b o (by simpa using hb) e) f0 f1 f3 f4 f5
  refine⟨_,rfl,um (s:={ s with heap:=h',toks:=tk }) (n := "range_iterator") st' rfl rfl (by decide) ⟨.int (lo+i),H,I1,⟨t,?_⟩,⟨rfl,rfl⟩,st',fun b hb=>(hf b hb).1⟩⟩
  rw[Int.mul_one]
 done:=by
  intro X hP hw hK hc i pins s σ H E I hf st hg
  subst hP hw hK;obtain⟨f0,f1,f2,f3,f4,f5⟩:=hf it (by simp)
  exact wpAny_pyNext_range_end (I.ok.hd hc) st (by have:n≤i:=hg; omega) fun h' eb=>⟨rfl,I.turned (t':=s.toks) (fun b o hb e=>eb b o hb e) f0 f1 f3 f4 f5⟩
 self:=fun _ _ _ _ _ st h=>wpAny_pyIter_rangeiter st h
end L2
namespace L2
open PySem PySem.Spec PyProof.Rows
section
variable{X:Cx}{tg:Expr}
def pF(K:PySem.W.Frag)(tl:TE):TI:=fun σ H R=>tl σ H fun x H1=>∃ a,x = .ref a∧(∃ xs,SqL K H1 a xs)∧R (j1 K a) H1
theorem u7{l:Expr}{tl:TE}(hl:PE X l tl):PI X tg l (pF X.K tl):=by
 intro pins s σ H R I h
 refine aY (hl pins s σ H _ I h) fun v s1 ⟨x,H1,I1,r1,q1⟩=>?_
 obtain⟨a,e,⟨xs,hq⟩,q⟩:=q1
 subst e
 cases r1;obtain⟨its,rv,p,hz⟩:=I1.list hq
 refine wpAny_pyIter_list p.isList ?_
 refine⟨s1.heap.objs.size,[s1.heap.objs.size],_,_,H1,rfl,I1.kept (t':=s1.toks) fun b o e=>Heap.get?_push_of_some _ e,qN a _,⟨_,Heap.get?_push_size _ rfl,rfl,rfl⟩,fun b hb=>?_,q⟩
 have e:b=s1.heap.objs.size:=by simpa using hb
 subst e;exact I1.fpOk (Nat.le_refl _) (I1.hok.fresh (Nat.le_refl _))
theorem mX{pins:List (Addr × Obj)}{σ : St}{H:Hp}{s:Shared}{R:It→Hp→Prop}{E:Value→Shared→Prop}{lo hi:Int}{t u v:Tok}{tk:Nat}(I:Inv X pins σ H s)(h1:-(2 ^ 62)≤lo)(h2:lo<2 ^ 62)(h3:-(2 ^ 62)≤hi)(h4:hi<2 ^ 62)
  (q:R (iH lo (hi - lo).toNat) H):wpAny (model X.prog X.w) X.A (pyIter (.ref s.heap.objs.size)) (yz X pins σ tg R) E { s with heap:=s.heap.push { cls:=.type "range", data:=.fields #[.int lo t,.int hi u,.int 1 v] },toks:=tk }:=by
 refine wpAny_pyIter_range (IsRange.new ..) (small_one h1 h2 h3 h4) ?_
 have I1:Inv X pins σ H { s with heap:=s.heap.push { cls:=.type "range", data:=.fields #[.int lo t,.int hi u,.int 1 v] },toks:=tk }:=I.kept fun b o e=>Heap.get?_push_of_some _ e
 refine⟨(s.heap.push { cls:=.type "range", data:=.fields #[.int lo t,.int hi u,.int 1 v] }).objs.size,[(s.heap.push { cls:=.type "range", data:=.fields #[.int lo t,.int hi u,.int 1 v] }).objs.size],_,_,H,rfl,
  I1.kept (t':=tk) fun b o e=>Heap.get?_push_of_some _ e,pL _ lo (hi - lo).toNat,?_,fun b hb=>?_,q⟩
 ·have e1:lo+((0:Nat):Int) * 1=lo:=by simp
  have e2:(((hi - lo).toNat:Nat):Int) - ((0:Nat):Int)=Builtin.Range.rangeSize lo hi 1:=by rw[rangeSize_one]; split <;> omega
  show IsRangeIter _ _ (lo+((0:Nat):Int) * 1) ((((hi - lo).toNat:Nat):Int) - ((0:Nat):Int)) 1
  rw[e1,e2];exact Heap.get?_push_size _ rfl
 ·have e:b=(s.heap.push { cls:=.type "range", data:=.fields #[.int lo t,.int hi u,.int 1 v] }).objs.size:=by simpa using hb
  subst e;exact I1.fpOk (Nat.le_refl _) (I1.hok.fresh (Nat.le_refl _))
def ui(ta:TA):TI:=fun σ H R=>ta σ H fun vs H1=>∃ j:Int,vs=[.int j]∧-(2 ^ 62)≤j∧j<2 ^ 62∧R (iH 0 j.toNat) H1
def uz(ta:TA):TI:=fun σ H R=>ta σ H fun vs H1=>∃ i j:Int,vs=[.int i,.int j]∧(-(2 ^ 62)≤i∧i<2 ^ 62∧-(2 ^ 62)≤j∧j<2 ^ 62)∧R (iH i (j - i).toNat) H1
theorem bP{a:Expr}{ta:TA}{p pos:Pos}(hg:Gl X "range") (hm:X.mg "range" = none) (ha:PA X [a] ta) (hs:starEach [a] X.env=[(false,eval a X.env)]:=by rfl):PI X tg (.Call (.Name "range" p) [a] [] pos) (ui ta):=by
 intro pins s σ H R I h
 refine Call_ (g9 I hg hm boot_range (PyProof.Rows.callWith_type1 (aY (ha pos pins s σ H _ I h) fun us s1 ⟨vs,H1,I1,r1,q1⟩=>?_) hs rfl))
 obtain⟨j,e,q1,q2,q⟩:=q1
 subst e
 cases r1 with
 | cons r rr=>
  cases rr;obtain⟨t,rfl⟩:=r
  exact call_range_1 (mX I1 (by omega) (by omega) q1 q2 (by simpa using q))
theorem p_{a b:Expr}{ta:TA}{p pos:Pos}(hg:Gl X "range") (hm:X.mg "range" = none) (ha:PA X [a,b] ta) (hs:starEach [a,b] X.env=[(false,eval a X.env),(false,eval b X.env)]:=by rfl) (hs2:starEach [b] X.env=[(false,eval b X.env)]:=by rfl) :
  PI X tg (.Call (.Name "range" p) [a,b] [] pos) (uz ta):=by
 intro pins s σ H R I h
 refine Call_ (g9 I hg hm boot_range (PyProof.Rows.callWith_type1 (aY (ha pos pins s σ H _ I h) fun us s1 ⟨vs,H1,I1,r1,q1⟩=>?_) (by rw[hs,hs2]) (by rw[hs2]; rfl)))
 obtain⟨i,j,e,⟨q1,q2,q3,q4⟩,q⟩:=q1
 subst e
 cases r1 with
 | cons r rr=>
  cases rr with
  | cons r' rr=>
   cases rr;obtain⟨t,rfl⟩:=r
   obtain⟨t',rfl⟩:=r'
   exact call_range_2 (mX I1 q1 q2 q3 q4 q)
def wI(wi:TI)(g:TG)(tb:TS):TS:=fun D σ H=>wi σ H fun J H1=>∃ W:Nat→Nat→St→Hp→Prop,(∃ m,W 0 m σ H1)∧∀ i m σ H,W i m σ H→
 (J.stop i H∧D.nx σ H)∨(J.go i H∧∃ N:St→Hp→Prop,(∀ σ' H',N σ' H'→∃ m',m'<m∧W (i+1) m' σ' H')∧∀ x H',J.yld i H x H'→g x σ H' fun σ2 H2=>tb { D with nx:=N,ct:=N,bk:=D.nx } σ2 H2)
def g6(fp:List Addr)(h:Heap):List (Addr × Obj):=fp.filterMap fun b=>(h.get? b).map fun o=>(b,o)
theorem dj{fp:List Addr}{h:Heap}{b:Addr}{o:Obj}(hb:b∈fp)(e:h.get? b=some o):(b,o)∈g6 fp h:=List.mem_filterMap.mpr ⟨b,hb,by rw[e]; rfl⟩
theorem rR{fp:List Addr}{h:Heap}{p:Addr × Obj}(hp:p∈g6 fp h):p.1∈fp∧h.get? p.1=some p.2:=by
 obtain⟨b,hb,e⟩:=List.mem_filterMap.mp hp
 cases q:h.get? b with
 | none=>rw[q]at e; cases e
 | some o=>
  rw[q]at e
  have e':(b,o)=p:=Option.some.inj e
  subst e';exact⟨hb,q⟩
theorem Inv.pinned{pins:List (Addr × Obj)}{σ : St}{H:Hp}{s:Shared}{fp:List Addr}(I:Inv X pins σ H s)(hf:∀ b∈fp,fv X pins H b)(ho:∀ b∈fp,∃ o,s.heap.get? b=some o∧∀ v,o.data ≠ .cell v):Inv X (pins++g6 fp s.heap) σ H s:=
 I.pins_of fun p hp=>(List.mem_append.mp hp).elim (fun z=>I.pin p (List.mem_append_right _ z)) fun z=>by
  obtain⟨hb,e⟩:=rR z
  obtain⟨f0,f1,f2,_⟩:=hf p.1 hb
  obtain⟨o,e',d⟩:=ho p.1 hb
  rw[e]at e'; cases e'
  exact⟨e,f0,f1,f2,d⟩
theorem Inv.unpinned{pins pl:List (Addr × Obj)}{σ : St}{H:Hp}{s:Shared}(I:Inv X (pins++pl) σ H s):Inv X pins σ H s:=I.pins_of fun p hp=>I.pin p (List.mem_append_right _ (List.mem_append_left _ hp))
theorem b_{iter:Expr}{body:List Stmt}{wi:TI}{g:TG}{tb:TS}{pos:Pos}(hp:PassesOwn (model X.prog X.w) X.A X.env X.xe)(hc:X.calm=true)(hi:PI X tg iter wi)(hg:PG X tg g)(hb:PSs X body tb)
  (hs:∀ x,foldedSetIterable iter X.env x=pure x:=by intro _; rfl):PS X (.For tg iter body [] pos) (wI wi g tb):=by
 intro pins s σ H D I h
 refine wpAny_For (aY (hi pins s σ H _ I h) fun v s1 h1=>aY h1 fun itv s2 h2=>?_) hs
 obtain⟨it,fp,tn,J,H2,e,I2,T,st2,f2,W,⟨m0,w0⟩,turn⟩:=h2
 subst e
 -- what stays true of the iterator's objects through the loop
 have stat:∀ {H':Hp},(∀ b∈fp,H' b=none)→∀ b∈fp,fv X pins H' b:=fun hn b hb=>⟨hn b hb,(f2 b hb).2⟩
 refine codeAny_forLoop_any (fun n s'=>∃ i σ' H',Inv X pins σ' H' s'∧tn i s'.heap∧(∀ b∈fp,H' b=none)∧W i n σ' H') ?_ m0 ⟨0,σ,H2,I2,st2,fun b hb=>(f2 b hb).1,w0⟩
 rintro n s3 ⟨i,σ3,H3,I3,st3,fr3,w3⟩
 rcases turn i n σ3 H3 w3 with ⟨stop,qn⟩ | ⟨go,N,hN,step⟩
 ·refine wpAny_passesOwn hp (aY (T.done X rfl rfl rfl hc i pins s3 σ3 H3 X.xe I3 (stat fr3) st3 stop) fun r s4 ⟨hr,I4⟩=>?_)
  subst hr;exact wpAny_execs_nil ⟨σ3,H3,I4,qn⟩
 ·refine wpAny_passesOwn hp (aY (T.item X rfl rfl rfl hc i pins s3 σ3 H3 X.xe I3 (stat fr3) st3 go) fun r s4 ⟨u,hr,h4⟩=>?_)
  subst hr;refine wpAny_passesOwn hp (aY h4 fun _ s5 ⟨x,H5,I5,r5,y5,st5,fr5⟩=>?_)
  have I5':=I5.pinned (stat fr5) (T.obj _ _ st5);refine wpAny_passesOwn hp (aY (hg _ s5 σ3 H5 x u _ I5' r5 (step x H5 y5)) fun _ s6 ⟨σ6,H6,I6,q6⟩=>?_)
  refine wpAny_passesOwn hp (aY (hb _ s6 σ6 H6 _ I6 q6) fun f s7 q7=>?_)
  have again:∀ {σ7:St} {H7:Hp},Inv X (pins++g6 fp s5.heap) σ7 H7 s7→N σ7 H7→∃ m,m<n∧∃ i σ' H',Inv X pins σ' H' s7∧tn i s7.heap∧(∀ b∈fp,H' b=none)∧W i m σ' H':=fun {σ7 H7} I7 n7=>by
   obtain⟨m',hm,w7⟩:=hN σ7 H7 n7
   refine⟨m',hm,i+1,σ7,H7,I7.unpinned,T.keep _ _ _ st5 fun b hb o e=>(I7.pin (b,o) (List.mem_append_right _ (List.mem_append_right _ (dj hb e)))).1,fun b hb=>?_,w7⟩
   obtain⟨o,e,d⟩:=T.obj _ _ st5 b hb
   exact(I7.pin (b,o) (List.mem_append_right _ (List.mem_append_right _ (dj hb e)))).2.1
  cases f with
  | next=>obtain⟨σ7,H7,I7,n7⟩:=q7; exact again I7 n7
  | cont=>obtain⟨σ7,H7,I7,n7⟩:=q7; exact again I7 n7
  | brk=>obtain⟨σ7,H7,I7,q7⟩:=q7; exact⟨σ7,H7,I7.unpinned,q7⟩
  | ret v=>obtain⟨x7,σ7,H7,I7,r7,q7⟩:=q7; exact⟨x7,σ7,H7,I7.unpinned,r7,q7⟩
end
theorem sF{K:PySem.W.Frag}{a:Addr}{xs:List V}{g:TG}{tb:TS}{D:dv}{σ : St}{H:Hp}(Pv:Nat→St→Hp→Prop)(h0:Pv 0 σ H)(hl:∀ i σ H,i≤xs.length→Pv i σ H→SqL K H a xs)
  (hs:∀ i x σ H,xs[i]? = some x→Pv i σ H→g x σ H fun σ2 H2=>tb { D with nx:=Pv (i+1),ct:=Pv (i+1),bk:=D.nx } σ2 H2) (hd:∀ σ H,Pv xs.length σ H→D.nx σ H) :
  ∃ W:Nat→Nat→St→Hp→Prop,(∃ m,W 0 m σ H)∧∀ i m σ H,W i m σ H→
   ((j1 K a).stop i H∧D.nx σ H)∨((j1 K a).go i H∧∃ N:St→Hp→Prop,(∀ σ' H',N σ' H'→∃ m',m'<m∧W (i+1) m' σ' H')∧∀ x H',(j1 K a).yld i H x H'→g x σ H' fun σ2 H2=>tb { D with nx:=N,ct:=N,bk:=D.nx } σ2 H2):=by
 refine⟨fun i m σ H=>m=xs.length - i∧i≤xs.length∧Pv i σ H,⟨xs.length,by simp,Nat.zero_le _,h0⟩,?_⟩
 rintro i m σ H ⟨rfl,hi,p⟩
 have q:=hl i σ H hi p
 by_cases hlt:i<xs.length
 ·refine .inr ⟨⟨xs,xs[i],q,by simp[hlt]⟩,Pv (i+1),fun σ' H' p'=>⟨xs.length - (i+1),by omega,rfl,hlt,p'⟩,fun x H' y=>?_⟩
  obtain⟨e,y⟩:=y
  subst e;exact hs i x σ _ (y xs q) p
 ·have e:i=xs.length:=by omega
  subst e;exact .inl ⟨⟨xs,q,Nat.le_refl _⟩,hd σ H p⟩
theorem p7{lo:Int}{n:Nat}{g:TG}{tb:TS}{D:dv}{σ : St}{H:Hp}(Pv:Nat→St→Hp→Prop)(h0:Pv 0 σ H)
  (hs:∀ i σ H,i<n→Pv i σ H→g (.int (lo+i)) σ H fun σ2 H2=>tb { D with nx:=Pv (i+1),ct:=Pv (i+1),bk:=D.nx } σ2 H2) (hd:∀ σ H,Pv n σ H→D.nx σ H) :
  ∃ W:Nat→Nat→St→Hp→Prop,(∃ m,W 0 m σ H)∧∀ i m σ H,W i m σ H→
   ((iH lo n).stop i H∧D.nx σ H)∨((iH lo n).go i H∧∃ N:St→Hp→Prop,(∀ σ' H',N σ' H'→∃ m',m'<m∧W (i+1) m' σ' H')∧∀ x H',(iH lo n).yld i H x H'→g x σ H' fun σ2 H2=>tb { D with nx:=N,ct:=N,bk:=D.nx } σ2 H2):=by
 refine⟨fun i m σ H=>m=n - i∧i≤n∧Pv i σ H,⟨n,by simp,Nat.zero_le _,h0⟩,?_⟩
 rintro i m σ H ⟨rfl,hi,p⟩
 by_cases hlt:i<n
 ·refine .inr ⟨hlt,Pv (i+1),fun σ' H' p'=>⟨n - (i+1),by omega,rfl,hlt,p'⟩,fun x H' y=>?_⟩
  obtain⟨e,y⟩:=y
  subst e y;exact hs i σ _ hlt p
 ·have e:i=n:=by omega
  subst e;exact .inl ⟨Nat.le_refl _,hd σ H p⟩
end L2
namespace L2
open PySem PySem.Spec PyProof.Rows
abbrev R2:=V→V→Hp→VK→Prop
def OpR(X:Cx)(f:Value→Value→Sem Value)(r:R2):Prop:=
 ∀ (pins:List (Addr × Obj)) (s:Shared) (σ : St) (H:Hp) (x y:V) (v u:Value) (Q:VK),Inv X pins σ H s→RelV x v→RelV y u→r x y H Q→
  wpAny (model X.prog X.w) X.A (f v u) (EP X pins σ Q) X.xe s
def UnR(X:Cx)(f:Value→Sem Value)(r:V→Hp→VK→Prop):Prop:=
 ∀ (pins:List (Addr × Obj)) (s:Shared) (σ : St) (H:Hp) (x:V) (v:Value) (Q:VK),Inv X pins σ H s→RelV x v→r x H Q→
  wpAny (model X.prog X.w) X.A (f v) (EP X pins σ Q) X.xe s
def CallR(X:Cx)(f:Value)(r:List V→Hp→VK→Prop):Prop:=
 ∀ (pins:List (Addr × Obj)) (s:Shared) (σ : St) (H:Hp) (xs:List V) (us:List Value) (Q:VK),Inv X pins σ H s→Vals xs us→r xs H Q→
  wpAny (model X.prog X.w) X.A (call f us) (EP X pins σ Q) X.xe s
def qi(r:R2)(ta tb:TE):TE:=fun σ H Q=>ta σ H fun x H1=>tb σ H1 fun y H2=>r x y H2 Q
def rI(C:Int→Int→Prop)(g:Int→Int→V):R2:=fun x y H Q=>∃ i j,x = .int i∧y = .int j∧C i j∧Q (g i j) H
def kE(g:Int→Int→V):R2:=fun x y H Q=>∃ i j,x = .int i∧y = .int j∧Q (g i j) H
section
variable{X:Cx}{a b c:Expr}{ta tb tc:TE}{pos:Pos}
theorem tP(ha:PE X a ta)(hb:PE X b tb){pins:List (Addr × Obj)}{s:Shared}{σ : St}{H:Hp}{R:V→V→Hp→Prop}(I:Inv X pins σ H s)
  (h:ta σ H fun x H1=>tb σ H1 fun y H2=>R x y H2) {Q:Value→Shared→Prop} {f:Value→Value→Sem Value}
  (hf:∀ v u s2 x y H2,Inv X pins σ H2 s2→RelV x v→RelV y u→R x y H2→wpAny (model X.prog X.w) X.A (f v u) Q X.xe s2) :
  wpAny (model X.prog X.w) X.A (eval a X.env) (fun v s₁=>wpAny (model X.prog X.w) X.A (eval b X.env) (fun u s₂=>wpAny (model X.prog X.w) X.A (f v u) Q X.xe s₂) X.xe s₁) X.xe s:=by
 refine aY (ha pins s σ H _ I h) fun v s1 ⟨x,H1,I1,r1,q1⟩=>?_
 refine aY (hb pins s1 σ H1 _ I1 q1) fun u s2 ⟨y,H2,I2,r2,q2⟩=>?_
 exact hf v u s2 x y H2 I2 r1 r2 q2
theorem aq{op:Operator}{r:R2}(ho:OpR X (binaryOp op) r)(ha:PE X a ta)(hb:PE X b tb):PE X (.BinOp a op b pos) (qi r ta tb):=by
 intro pins s σ H Q I h
 exact wpAny_BinOp (tP ha hb I h fun v u s2 x y H2 I2 rx ry q=>ho pins s2 σ H2 x y v u Q I2 rx ry q)
theorem vD{f:Value→Value→Sem Value}{C:Int→Int→Prop}{g:Int→Int→Int}
  (rule:∀ (i j:Int) (t u:Tok) (s:Shared) (Q:Value→Shared→Prop) (E:Value→Shared→Prop),C i j→Q (.int (g i j) s.toks) { s with toks:=s.toks+1 }→wpAny (model X.prog X.w) X.A (f (.int i t) (.int j u)) Q E s) :
  OpR X f (rI C fun i j=>.int (g i j)):=by
 intro pins s σ H x y v u Q I rx ry h
 obtain⟨i,j,rfl,rfl,hc,q⟩:=h
 obtain⟨t,rfl⟩:=rx
 obtain⟨t',rfl⟩:=ry
 exact rule i j t t' s _ _ hc ⟨.int (g i j),H,I.tok _,⟨_,rfl⟩,q⟩
theorem wo{f:Value→Value→Sem Value}{g:Int→Int→Int}
  (rule:∀ (i j:Int) (t u:Tok) (s:Shared) (Q:Value→Shared→Prop) (E:Value→Shared→Prop),Q (.int (g i j) s.toks) { s with toks:=s.toks+1 }→wpAny (model X.prog X.w) X.A (f (.int i t) (.int j u)) Q E s) :
  OpR X f (kE fun i j=>.int (g i j)):=by
 intro pins s σ H x y v u Q I rx ry h
 obtain⟨i,j,rfl,rfl,q⟩:=h
 obtain⟨t,rfl⟩:=rx
 obtain⟨t',rfl⟩:=ry
 exact rule i j t t' s _ _ ⟨.int (g i j),H,I.tok _,⟨_,rfl⟩,q⟩
theorem sL{f:Value→Value→Sem Value}{g:Int→Int→Bool}
  (rule:∀ (i j:Int) (t u:Tok) (s:Shared) (Q:Value→Shared→Prop) (E:Value→Shared→Prop),Q (.bool (g i j)) s→wpAny (model X.prog X.w) X.A (f (.int i t) (.int j u)) Q E s) :
  OpR X f (kE fun i j=>.bl (g i j)):=by
 intro pins s σ H x y v u Q I rx ry h
 obtain⟨i,j,rfl,rfl,q⟩:=h
 obtain⟨t,rfl⟩:=rx
 obtain⟨t',rfl⟩:=ry
 exact rule i j t t' s _ _ ⟨.bl (g i j),H,I,rfl,q⟩
def vP(i j:Int):Prop:=0<j∧j<1073741824
def CMul(i j:Int):Prop:=(-(2 ^ 64)<i∧i<2 ^ 64)∨(-(2 ^ 64)<j∧j<2 ^ 64)
theorem CMul.ok{i j:Int}(h:CMul i j):IntMulOk i j:=by
 rcases h with ⟨h1,h2⟩ | ⟨h1,h2⟩
 ·exact .of_left (intBits_le_64 h1 h2)
 ·exact .of_right (intBits_le_64 h1 h2)
theorem wb:OpR X (binaryOp .Add) (kE fun i j=>.int (i+j)):=wo fun _ _ _ _ _ _ _ q=>add_int q
theorem lF:OpR X (binaryOp .Sub) (kE fun i j=>.int (i - j)):=wo fun _ _ _ _ _ _ _ q=>sub_int q
theorem wX:OpR X (binaryOp .Mult) (rI CMul fun i j=>.int (i * j)):=vD fun _ _ _ _ _ _ _ hc q=>mul_int q hc.ok
theorem bO:OpR X (binaryOp .FloorDiv) (rI vP fun i j=>.int (i / j)):=vD fun i j _ _ _ _ _ hc q=>by
 have h1:(0:Int)<j:=hc.1
 have h2:j<1073741824:=hc.2
 exact floordiv_int (by omega) (by rw[Int.fdiv_eq_ediv_of_nonneg i (by omega)]; exact q) (.inl (PyProof.noPylong_small (by omega)))
theorem bh:OpR X (binaryOp .Mod) (rI (fun _ j=>0<j) fun i j=>.int (i % j)):=vD fun i j _ _ _ _ _ hc q=>by
 have h1:(0:Int)<j:=hc
 exact mod_int' (by omega) (by rw[Int.fmod_eq_emod_of_nonneg i (by omega)]; exact q)
end
def mV:V→V→Bool
 | .non,.non=>true | .non,.int _=>true | .int _,.non=>true | .non,.bl _=>true | .bl _,.non=>true | .non,.str _=>true | .str _,.non=>true
 | .int _,.int _=>true | .bl _,.bl _=>true | .str _,.str _=>true | .byt _,.byt _=>true
 | .int _,.str _=>true | .str _,.int _=>true | .bl _,.str _=>true | .str _,.bl _=>true
 | _,_=>false
def yn:R2:=fun x y H Q=>mV x y=true∧Q (.bl (decide (x=y))) H
def ym:R2:=fun x y H Q=>mV x y=true∧Q (.bl (!decide (x=y))) H
theorem n5{i j:Int}:decide (V.int i=V.int j)=(i == j):=by
 rw[Bool.eq_iff_iff];simp
theorem me{i j:Bool}:decide (V.bl i=V.bl j)=(i == j):=by
 rw[Bool.eq_iff_iff];simp
theorem nW{i j:Str}:decide (V.str i=V.str j)=(i == j):=by
 rw[Bool.eq_iff_iff];simp
theorem oq{i j:Array UInt8}:decide (V.byt i=V.byt j)=(i.toList == j.toList):=by
 rw[Bool.eq_iff_iff]
 cases i
 cases j;simp
section
variable{X:Cx}{a b c:Expr}{ta tb tc:TE}{pos:Pos}
theorem ba{pins:List (Addr × Obj)}{σ : St}{H:Hp}{s:Shared}{Q:VK}{k k':Bool}(I:Inv X pins σ H s)(q:Q (.bl k) H)(e:k=k'):EP X pins σ Q (.bool k') s:=by
 subst e;exact⟨.bl k,H,I,rfl,q⟩
theorem x4:OpR X (compareOp .Eq) yn:=by
 intro pins s σ H x y v u Q I rx ry h
 obtain⟨hs,q⟩:=h
 cases x with
 | non=>
  cases rx
  cases y with
  | non=>cases ry; exact PySem.EqNone.eq_none_none (ba I q (by simp))
  | bl j=>cases ry; exact PySem.EqNone.eq_none_bool (ba I q (by simp))
  | int j=>obtain⟨t',rfl⟩:=ry; exact PySem.EqNone.eq_none_int (ba I q (by simp))
  | str j=>obtain⟨t',rfl⟩:=ry; exact PySem.EqNone.eq_none_str (ba I q (by simp))
  | _=>exact absurd (show false=true from hs) Bool.false_ne_true
 | bl i=>
  cases rx
  cases y with
  | non=>cases ry; exact PySem.EqNone.eq_bool_none (ba I q (by simp))
  | bl j=>cases ry; exact eq_bool (ba I q me)
  | str j=>obtain⟨t',rfl⟩:=ry; exact PySem.EqMixed.eq_bool_str (ba I q (by simp))
  | _=>exact absurd (show false=true from hs) Bool.false_ne_true
 | int i=>
  obtain⟨t,rfl⟩:=rx
  cases y with
  | non=>cases ry; exact PySem.EqNone.eq_int_none (ba I q (by simp))
  | int j=>obtain⟨t',rfl⟩:=ry; exact eq_int (ba I q n5)
  | str j=>obtain⟨t',rfl⟩:=ry; exact PySem.EqMixed.eq_int_str (ba I q (by simp))
  | _=>exact absurd (show false=true from hs) Bool.false_ne_true
 | str i=>
  obtain⟨t,rfl⟩:=rx
  cases y with
  | non=>cases ry; exact PySem.EqNone.eq_str_none (ba I q (by simp))
  | bl j=>cases ry; exact PySem.EqMixed.eq_str_bool (ba I q (by simp))
  | int j=>obtain⟨t',rfl⟩:=ry; exact PySem.EqMixed.eq_str_int (ba I q (by simp))
  | str j=>obtain⟨t',rfl⟩:=ry; exact eq_str (ba I q nW)
  | _=>exact absurd (show false=true from hs) Bool.false_ne_true
 | byt i=>
  obtain⟨t,rfl⟩:=rx
  cases y with
  | byt j=>obtain⟨t',rfl⟩:=ry; exact PySem.W.eq_bytes (ba I q oq)
  | _=>exact absurd (show false=true from hs) Bool.false_ne_true
 | _=>cases y <;> exact absurd (show false=true from hs) Bool.false_ne_true
theorem xR:OpR X (compareOp .NotEq) ym:=by
 intro pins s σ H x y v u Q I rx ry h
 obtain⟨hs,q⟩:=h
 cases x with
 | non=>
  cases rx
  cases y with
  | non=>cases ry; exact PySem.EqNone.ne_none_none (ba I q (by simp))
  | bl j=>cases ry; exact PySem.EqNone.ne_none_bool (ba I q (by simp))
  | int j=>obtain⟨t',rfl⟩:=ry; exact PySem.EqNone.ne_none_int (ba I q (by simp))
  | str j=>obtain⟨t',rfl⟩:=ry; exact PySem.EqNone.ne_none_str (ba I q (by simp))
  | _=>exact absurd (show false=true from hs) Bool.false_ne_true
 | bl i=>
  cases rx
  cases y with
  | non=>cases ry; exact PySem.EqNone.ne_bool_none (ba I q (by simp))
  | bl j=>cases ry; exact ne_bool (ba I q (congrArg not me))
  | str j=>obtain⟨t',rfl⟩:=ry; exact PySem.EqMixed.ne_bool_str (ba I q (by simp))
  | _=>exact absurd (show false=true from hs) Bool.false_ne_true
 | int i=>
  obtain⟨t,rfl⟩:=rx
  cases y with
  | non=>cases ry; exact PySem.EqNone.ne_int_none (ba I q (by simp))
  | int j=>obtain⟨t',rfl⟩:=ry; exact ne_int (ba I q (congrArg not n5))
  | str j=>obtain⟨t',rfl⟩:=ry; exact PySem.EqMixed.ne_int_str (ba I q (by simp))
  | _=>exact absurd (show false=true from hs) Bool.false_ne_true
 | str i=>
  obtain⟨t,rfl⟩:=rx
  cases y with
  | non=>cases ry; exact PySem.EqNone.ne_str_none (ba I q (by simp))
  | bl j=>cases ry; exact PySem.EqMixed.ne_str_bool (ba I q (by simp))
  | int j=>obtain⟨t',rfl⟩:=ry; exact PySem.EqMixed.ne_str_int (ba I q (by simp))
  | str j=>obtain⟨t',rfl⟩:=ry; exact ne_str (ba I q (congrArg not nW))
  | _=>exact absurd (show false=true from hs) Bool.false_ne_true
 | byt i=>
  obtain⟨t,rfl⟩:=rx
  cases y with
  | byt j=>obtain⟨t',rfl⟩:=ry; exact PySem.W.ne_bytes (ba I q (congrArg not oq))
  | _=>exact absurd (show false=true from hs) Bool.false_ne_true
 | _=>cases y <;> exact absurd (show false=true from hs) Bool.false_ne_true
theorem x_:OpR X (compareOp .Lt) (kE fun i j=>.bl (decide (i<j))):=sL fun _ _ _ _ _ _ _ q=>lt_int q
theorem ul:OpR X (compareOp .Gt) (kE fun i j=>.bl (decide (j<i))):=sL fun _ _ _ _ _ _ _ q=>gt_int q
theorem ya:OpR X (compareOp .GtE) (kE fun i j=>.bl (decide (j≤i))):=sL fun _ _ _ _ _ _ _ q=>ge_int q
theorem qM:OpR X (compareOp .Lt) (fun x y H Q=>∃ i j,x = .str i∧y = .str j∧Q (.bl (decide (i.cps.toList<j.cps.toList))) H):=by
 intro pins s σ H x y v u Q I rx ry h
 obtain⟨i,j,rfl,rfl,q⟩:=h
 obtain⟨t,rfl⟩:=rx
 obtain⟨t',rfl⟩:=ry
 exact lt_str (ba I q rfl)
theorem rG:OpR X (compareOp .In) (fun x y H Q=>∃ i j,x = .str i∧y = .str j∧Q (.bl (!(Builtin.Str.occurrences j i 0 j.length 1).isEmpty)) H):=by
 intro pins s σ H x y v u Q I rx ry h
 obtain⟨i,j,rfl,rfl,q⟩:=h
 obtain⟨t,rfl⟩:=rx
 obtain⟨t',rfl⟩:=ry
 exact in_str (ba I q rfl)
theorem wU:OpR X (compareOp .Is) (fun x y H Q=>y = .non∧Q (.bl (decide (x = .non))) H):=by
 intro pins s σ H x y v u Q I rx ry h
 obtain⟨rfl,q⟩:=h
 cases ry;refine is_none_gen (ba I q ?_)
 cases x <;> first
  | (cases rx; rfl)
  | (obtain⟨t,rfl⟩:=rx; rfl)
theorem vp:OpR X (compareOp .IsNot) (fun x y H Q=>y = .non∧Q (.bl (!decide (x = .non))) H):=by
 intro pins s σ H x y v u Q I rx ry h
 obtain⟨rfl,q⟩:=h
 cases ry;refine isnot_none_gen (ba I q ?_)
 cases x <;> first
  | (cases rx; rfl)
  | (obtain⟨t,rfl⟩:=rx; rfl)
theorem lJ:OpR X (compareOp .NotIn) (fun x y H Q=>∃ i j,x = .str i∧y = .str j∧Q (.bl (!(!(Builtin.Str.occurrences j i 0 j.length 1).isEmpty))) H):=by
 intro pins s σ H x y v u Q I rx ry h
 obtain⟨i,j,rfl,rfl,q⟩:=h
 obtain⟨t,rfl⟩:=rx
 obtain⟨t',rfl⟩:=ry
 exact notIn_str (ba I q rfl)
theorem bd(b:Expr){op:CmpOp}(h:op ≠ .In:=by decide)(h2:op ≠ .NotIn:=by decide):behindInMarks op b=false:=by
 have e1:(op == CmpOp.In)=false:=by cases op <;> first | rfl | exact absurd rfl h
 have e2:(op == CmpOp.NotIn)=false:=by cases op <;> first | rfl | exact absurd rfl h2
 cases b <;> simp[behindInMarks,e1,e2]
theorem gn{op:CmpOp}{r:R2}(ho:OpR X (compareOp op) r)(ha:PE X a ta)(hb:PE X b tb)(hm:behindInMarks op b=false):PE X (.Compare a [op] [b] pos) (qi r ta tb):=by
 intro pins s σ H Q I h
 exact wpAny_Compare1 (tP ha hb I h fun v u s2 x y H2 I2 rx ry q=>ho pins s2 σ H2 x y v u Q I2 rx ry q) hm
def uH(t:TE):TT:=fun σ H Q=>t σ H fun x H'=>∃ k,x = .bl k∧Q k H'
theorem aZ{op:CmpOp}{r:R2}(ho:OpR X (compareOp op) r)(ha:PE X a ta)(hb:PE X b tb)(hm:behindInMarks op b=false):PT X (.Compare a [op] [b] pos) (uH (qi r ta tb)):=by
 intro pins s σ H Q I h
 refine wpAny_isTrue_Compare1 (aY (ha pins s σ H _ I h) fun v s1 ⟨x,H1,I1,r1,q1⟩=>aY (hb pins s1 σ H1 _ I1 q1) fun u s2 ⟨y,H2,I2,r2,q2⟩=>
  aY (ho pins s2 σ H2 x y v u _ I2 r1 r2 q2) fun c s3 ⟨z,H3,I3,r3,k,e,q3⟩=>?_) hm
 subst e
 cases r3;exact wpAny_truthy_bool ⟨H3,I3,q3⟩
theorem gW:(sizeLine:Nat)<2 ^ 63:=by rw[sizeLine_eq]; decide
theorem oz:OpR X (binaryOp .Add) (fun x y H Q=>∃ i j,x = .str i∧y = .str j∧i.length+j.length≤sizeLine∧Q (.str (i++j)) H):=by
 intro pins s σ H x y v u Q I rx ry h
 obtain⟨i,j,rfl,rfl,hz,q⟩:=h
 obtain⟨t,rfl⟩:=rx
 obtain⟨t',rfl⟩:=ry
 exact add_str (fun t' tk=>⟨.str (i++j),H,I.tok _,⟨_,rfl⟩,q⟩) hz
theorem ce{x:V}{us:List Value}(r:Vals [x] us):∃ u,us=[u]∧RelV x u:=by
 cases r with
 | cons r1 r2=>cases r2; exact⟨_,rfl,r1⟩
theorem pI{x y:V}{us:List Value}(r:Vals [x,y] us):∃ u w',us=[u,w']∧RelV x u∧RelV y w':=by
 cases r with
 | cons r1 r2=>
  cases r2 with
  | cons r3 r4=>cases r4; exact⟨_,_,rfl,r1,r3⟩
theorem qA(hc:X.calm=true):CallR X (.builtin "min") (fun xs H Q=>∃ i j,xs=[.int i,.int j]∧Q (.int (if j<i then j else i)) H):=by
 intro pins s σ H xs us Q I r h
 obtain⟨i,j,rfl,q⟩:=h
 obtain⟨u,w',rfl,⟨t,rfl⟩,⟨t',rfl⟩⟩:=pI r
 refine min_two_ints (I.ok.hd hc) fun h' tk k=>⟨_,H,I.kept k,?_,q⟩
 by_cases hj:j<i
 ·rw[if_pos hj,if_pos hj]; exact⟨_,rfl⟩
 ·rw[if_neg hj,if_neg hj]; exact⟨_,rfl⟩
theorem rD:CallR X (.type "int") (fun xs H Q=>(∃ i,xs=[.int i]∧Q (.int i) H)∨∃ k,xs=[.bl k]∧Q (.int (if k then 1 else 0)) H):=by
 intro pins s σ H xs us Q I r h
 rcases h with ⟨i,rfl,q⟩ | ⟨k,rfl,q⟩
 ·obtain⟨u,rfl,t,rfl⟩:=ce r
  exact call_int_int ⟨.int i,H,I,⟨_,rfl⟩,q⟩
 ·obtain⟨u,rfl,r1⟩:=ce r
  cases r1;exact call_int_bool ⟨.int (if k then 1 else 0),H,I.tok _,⟨_,rfl⟩,q⟩
theorem mY:CallR X (.type "str") (fun xs H Q=>∃ i,xs=[.int i]∧i.natAbs.log2<1920∧Q (.str (toString i)) H):=by
 intro pins s σ H xs us Q I r h
 obtain⟨i,rfl,hz,q⟩:=h
 obtain⟨u,rfl,t,rfl⟩:=ce r
 exact PySem.P.str_of_int hz ⟨.str _,H,I.tok _,⟨_,rfl⟩,q⟩
end
end L2
namespace L2
open PySem PySem.Spec PyProof.Rows
structure ObjM (h:Heap) (x dx C:Addr) (mA:Str→Option Value):Prop where
 obj:h.get? x=some (PySem.W.instObj C dx)
 ns:h.Ns1 dx mA
 ne:dx≠x
theorem rM{h:Heap}{dx:Addr}{mA:Str→Option Value}(n:h.Ns1 dx mA):∃ od,h.get? dx=some od∧∀ name,PySem.W.lookIn name od=some (mA name):=by
 obtain⟨o,es,ep,ho,hd,hk,_,hm⟩:=n
 refine⟨o,ho,fun name=>?_⟩
 have e:=hm name;unfold nsFind findBy at e;rw[← Array.find?_toList]at e
 unfold PySem.W.lookIn;rw[hd]
 dsimp only
 split
 ·rename_i y q
  rw[q]at e
  exact congrArg some e
 ·rename_i q
  rw[q]at e
  have a:es.toList.any (·.refKey)=false:=by
   rw[List.any_eq_false];intro y hy
   obtain⟨z,t,hkey⟩:=hk y (Array.mem_toList_iff.mp hy)
   simp[DictEntry.refKey,hkey]
  have a':¬ es.toList.any (·.refKey)=true:=by rw[a]; exact Bool.false_ne_true
  rw[if_neg a'];exact congrArg some e
theorem ObjM.look{h:Heap}{x dx C:Addr}{mA:Str→Option Value}(I:ObjM h x dx C mA):∃ od,PySem.W.InstAt h x (PySem.W.instObj C dx) C (some od)∧∀ name,PySem.W.lookIn name od=some (mA name):=
 let ⟨od,ho,hl⟩:=rM I.ns
 ⟨od,⟨I.obj,rfl,rfl,ho⟩,hl⟩
section
variable{prog:Program}{w:World}{A:Around}{E:Value→Shared→Prop}{s:Shared}{K:PySem.W.Frag}{x dx C f:Addr}{mA:Str→Option Value}{name:Str}{v:Value}
end
def wf(f:Str)(v:V):List (Str × V)→List (Str × V)
 | []=>[(f,v)]
 | (g,x)::r=>if g=f then (g,v)::r else (g,x)::wf f v r
theorem RelO.some_of{v:V}{o:Option Value}(r:RelO (some v) o):∃ u,o=some u∧RelV v u:=by
 cases o with
 | none=>exact(show False from r).elim
 | some u=>exact⟨u,rfl,r⟩
section
variable{P:Program}{w:World}{H H':Hp}{h h':Heap}{a C dx:Addr}{fs fs':List (Str × V)}
theorem u_(hok:HOk P w H h)(e:H a=some (.ins C dx fs)):∃ mA,ObjM h a dx C mA∧(∀ f,RelO (fs.lookup f) (mA f))∧PySem.Within mA (fs.map (·.1))∧fs.length≤1000∧H dx=some (.own a):=by
 obtain⟨d,z,ne,ob,mA,n,r,q⟩:=(show ObjOk P w H h a (.ins C dx fs) from hok a _ e)
 exact⟨mA,⟨ob,n,ne⟩,r,q,z,d⟩
end
structure Cls (K:PySem.W.Frag) (C:Addr):Prop where
 pg:PySem.W.plainGet K C Str.empty=true
 hd:PySem.W.hasDictIn K C=true
 po:PySem.W.plainOver K C=true
 sa:PySem.W.findIn K (.ref C) "__setattr__" = some (some (.builtin "object.__setattr__"))
theorem Cls.get{K:PySem.W.Frag}{C:Addr}(c:Cls K C)(f:Str):PySem.W.plainGet K C f=true:=c.pg
section
variable{X:Cx}{pins:List (Addr × Obj)}{σ : St}{H:Hp}{s:Shared}{a C dx:Addr}{fs:List (Str × V)}{f:Str}{v:V}{A:Around}{E:Value→Shared→Prop}
end
section
variable{X:Cx}{o e value:Expr}{f:Str}{pos pos' tpos:Pos}{ta tv:TE}
end
section
variable{X:Cx}{pins:List (Addr × Obj)}{σ : St}{H:Hp}{s:Shared}{A:Around}{E:Value→Shared→Prop}{Q:Value→Shared→Prop}{c:Value}{b:Bool}
inductive eM (K:PySem.W.Frag) (H:Hp):V→Value→Prop where
 | non:eM K H .non (.type "NoneType")
 | bl (x:Bool):eM K H (.bl x) (.type "bool")
 | int (i:Int):eM K H (.int i) (.type "int")
 | str (x:Str):eM K H (.str x) (.type "str")
 | flt (x:UInt64):eM K H (.flt x) (.type "float")
 | lst {a:Addr} {xs:List V} (e:H a=some (.lst xs)):eM K H (.ref a) (.type "list")
 | frz {a:Addr} {o:Obj} {xs:List V} (e:H a=some (.frz o (.lst xs))):eM K H (.ref a) (.type "list")
 | tup {a:Addr} {xs:List V} (e:H a=some (.tup xs)):eM K H (.ref a) (.type "tuple")
 | dK {a:Addr} {kvs:List (bc × V)} (e:H a=some (.dK kvs)):eM K H (.ref a) (.type "dict")
 | dT {a:Addr} {kvs:List (List bc × V)} (e:H a=some (.dT kvs)):eM K H (.ref a) (.type "dict")
 | ins {a C dx:Addr} {fs:List (Str × V)} (e:H a=some (.ins C dx fs)) (cl:Cls K C) (ha:PySem.W.findIn K (.ref C) "__class__" = some (some (.builtin "object.__class__")))
   (hn:PySem.W.specialIn K (.builtin "object.__class__") "__get__" = some (some (.builtin "getset_descriptor.__get__"))) (htk:PySem.W.takesIn K (.builtin "object.__class__")=some true)
   (hm:PySem.W.mroIn K C (.type "object")=some true):eM K H (.ref a) (.ref C)
theorem qQ{x:V}{u t:Value}(I:Inv X pins σ H s)(rx:RelV x u)(ty:eM X.K H x t)(e:PySem.W.kitOne X.K t c=some b)(h:∀ tk,Q (.bool b) { s with toks:=tk }) :
  wpAny (model X.prog X.w) A (call (.builtin "isinstance") [u,c]) Q E s:=by
 cases ty with
 | non=>cases (show u=Value.none from rx); exact PySem.W.kia_one PySem.W.kitx_none I.kIn True.intro e (fun z=>nomatch z) h
 | bl y=>cases (show u=Value.bool y from rx); exact PySem.W.kia_one PySem.W.kitx_bool I.kIn True.intro e (fun z=>nomatch z) h
 | int i=>obtain⟨t,q⟩:=(show ∃ t,u=Value.int i t from rx); cases q; exact PySem.W.kia_one PySem.W.kitx_int I.kIn True.intro e (fun z=>nomatch z) h
 | str y=>obtain⟨t,q⟩:=(show ∃ t,u=Value.str y t from rx); cases q; exact PySem.W.kia_one PySem.W.kitx_str I.kIn True.intro e (fun z=>nomatch z) h
 | flt y=>obtain⟨t,q⟩:=(show ∃ t,u=Value.float y t from rx); cases q; exact PySem.W.kia_one PySem.W.kitx_float I.kIn True.intro e (fun z=>nomatch z) h
 | @lst a xs ea=>
  cases (show u=Value.ref a from rx)
  obtain⟨_,_,n,_,h1⟩:=(show ObjOk X.prog X.w H s.heap a (.lst xs) from I.hok a _ ea)
  exact PySem.W.kia_one PySem.W.kitx_list I.kIn ⟨_,h1,rfl⟩ e (fun z=>nomatch z) h
 | @frz a ob xs ea=>
  cases (show u=Value.ref a from rx)
  obtain⟨_,_,_,n,_,h1⟩:=(show ObjOk X.prog X.w H s.heap a (.frz ob (.lst xs)) from I.hok a _ ea)
  exact PySem.W.kia_one PySem.W.kitx_list I.kIn ⟨_,h1,rfl⟩ e (fun z=>nomatch z) h
 | @tup a xs ea=>
  cases (show u=Value.ref a from rx)
  obtain⟨_,_,_,p⟩:=(show ObjOk X.prog X.w H s.heap a (.tup xs) from I.hok a _ ea)
  obtain⟨o,h1,h2,_⟩:=p
  exact PySem.W.kia_one PySem.W.kitx_tuple I.kIn ⟨o,h1,h2⟩ e (fun z=>nomatch z) h
 | @dK a kvs ea=>
  cases (show u=Value.ref a from rx)
  obtain⟨_,_,vs,_,p⟩:=(show ObjOk X.prog X.w H s.heap a (.dK kvs) from I.hok a _ ea)
  obtain⟨o,es,ep,h1,h2,_⟩:=p
  exact PySem.W.kia_one PySem.W.kitx_dict I.kIn ⟨o,h1,h2.1⟩ e (fun z=>nomatch z) h
 | @dT a kvs ea=>
  cases (show u=Value.ref a from rx)
  obtain⟨_,_,xs,_,o,es,ep,h1,h2,_⟩:=(show ObjOk X.prog X.w H s.heap a (.dT kvs) from I.hok a _ ea)
  exact PySem.W.kia_one PySem.W.kitx_dict I.kIn ⟨o,h1,h2.1⟩ e (fun z=>nomatch z) h
 | @ins a C dx fs ea cl ha hn htk hm=>
  cases (show u=Value.ref a from rx)
  obtain⟨mA,O,_⟩:=u_ I.hok ea
  obtain⟨od,J,_⟩:=O.look
  exact PySem.W.kia_one (PySem.W.kitx_own (cl.get _) cl.hd ha hn htk hm) I.kIn J e (fun z=>nomatch z) h
end
end L2
namespace L2
open PySem PySem.Spec PyProof.Rows
structure Room (k:Nat) (A:Around):Prop where
 hd:A.handled=none
 dp:A.depth+3 * k+5<recursionLimit
 un:A.units+16 * k+200<cLine
theorem Room.mono{j k:Nat}{A:Around}(r:Room k A)(h:j≤k):Room j A:=⟨r.hd,by have:=r.dp; omega,by have:=r.un; omega⟩
theorem Room.deeper{k:Nat}{A:Around}(r:Room (k+1) A)(env:Env):Room k (A.deeper env):=
 ⟨r.hd,by have:=r.dp; show A.depth+1+3 * k+5<_; omega,by have:=r.un; show A.units+3+16 * k+200<_; omega⟩
theorem Room.depth{k:Nat}{A:Around}(r:Room k A):A.depth<recursionLimit:=by have:=r.dp; omega
def v8:TA:=fun _ H Q=>Q [] H
def uo(ta:TE)(tr:TA):TA:=fun σ H Q=>ta σ H fun x H1=>tr σ H1 fun xs H2=>Q (x::xs) H2
section
variable{X:Cx}{e:Expr}{es:List Expr}{te:TE}{t:TA}{pos:Pos}
theorem ac:PA X [] v8:=fun _ _ _ _ H Q I h=>Calls.spliced_nil ⟨[],H,I,.nil,h⟩
theorem aa(ha:PE X e te)(hr:PA X es t)(hs:starEach (e::es) X.env=(false,eval e X.env)::starEach es X.env:=by rfl):PA X (e::es) (uo te t):=by
 intro pos pins s σ H Q I h
 rw[hs];show wpAny _ _ (spliced ((false,eval e X.env)::backTo pos (starEach es X.env))) _ _ s
 refine Calls.spliced_cons (aY (ha pins s σ H _ I h) fun u s1 ⟨x,H1,I1,r1,q1⟩=>?_)
 exact aY (hr pos pins s1 σ H1 _ I1 q1) fun us s2 ⟨xs,H2,I2,r2,q2⟩=>⟨x::xs,H2,I2,.cons r1 r2,q2⟩
def xr(t:TA):TE:=fun σ H Q=>t σ H fun xs H1=>xs.length≤sizeLine∧∀ p,H1 p=none→Q (.ref p) (upd H1 p (.tup xs))
def xm(t:TA):TE:=fun σ H Q=>t σ H fun xs H1=>xs.length≤sizeLine∧∀ p,H1 p=none→Q (.ref p) (upd H1 p (.lst xs))
theorem dZ{x1}(h:PA X es t):PE X (.Tuple es x1 pos) (xr t):=by
 intro pins s σ H Q I hq
 refine wpAny_Tuple_spliced (aY (h pos pins s σ H _ I hq) fun us s1 ⟨xs,H1,I1,r,z,q⟩=>⟨by rw[← r.length]; exact z,?_⟩)
 have hf:H1 s1.heap.objs.size=none:=I1.hok.fresh (Nat.le_refl _)
 refine⟨.ref s1.heap.objs.size,upd H1 s1.heap.objs.size (.tup xs),I1.laid (t':=s1.toks) (fun b u e=>Heap.get?_push_of_some _ e) (Nat.le_refl _) ?_,rfl,q _ hf⟩
 exact⟨z,us,r,⟨_,Heap.get?_push_size _ rfl,rfl,rfl,_,rfl⟩⟩
theorem cj(h:PA X es t):PE X (.List es pos) (xm t):=by
 intro pins s σ H Q I hq
 refine wpAny_List_spliced (aY (h pos pins s σ H _ I hq) fun us s1 ⟨xs,H1,I1,r,z,q⟩=>⟨by rw[← r.length]; exact z,?_⟩)
 have hf:H1 s1.heap.objs.size=none:=I1.hok.fresh (Nat.le_refl _)
 refine⟨.ref s1.heap.objs.size,upd H1 s1.heap.objs.size (.lst xs),I1.laid (t':=s1.toks) (fun b u e=>Heap.get?_push_of_some _ e) (Nat.le_refl _) ?_,rfl,q _ hf⟩
 exact⟨z,us,0,r,Heap.get?_push_size _ rfl⟩
end
abbrev Sp:=List V→Hp→VK→XK→Prop
abbrev iQ:=List Env→Hp→Shared→XK→Value→Shared→Prop
structure pP (P:Program) (w:World) (K:PySem.W.Frag) (mg:Str→Option Value) (base:Heap) (A:Around) (outer:List Env) (s:Shared) (H:Hp):Prop where
 frames:A.frames=some outer
 mod:Mod K mg base
 bs:∀ b o,base.get? b=some o→s.heap.get? b=some o∧H b=none
 bsz:base.objs.size≤s.heap.objs.size
 funs:s.heap.FunFrames base outer
 frf:∀ b∈hG outer,H b=none
 hok:HOk P w H s.heap
 bare:AllBare s.gens
def CE(outer:List Env)(P:Program)(w:World)(H:Hp)(s:Shared)(Q:VK)(u:Value)(s':Shared):Prop:=
 ∃ v H',s'.os=s.os∧AllBare s'.gens∧Un (hG outer) [] H H' s.heap s'.heap∧HOk P w H' s'.heap∧RelV v u∧Q v H'
def CR(CX:iQ)(outer:List Env)(P:Program)(w:World)(H:Hp)(s:Shared)(Q:VK)(E:XK)(r:Result)(s':Shared):Prop:=
 match r with
 | .ok (.ret u)=>CE outer P w H s Q u s'
 | .ok _=>False
 | .error e=>CX outer H s E e s'
structure gS (P:Program) (w:World) (K:PySem.W.Frag) (mg:Str→Option Value) (base:Heap) (CX:iQ) (k:Nat) (f:Addr) (fd:FuncData) (ps:List Str) (sp:Sp):Prop where
 len:∀ vs H Q E,sp vs H Q E→vs.length=ps.length
 run:∀ (A:Around) (outer:List Env) (s:Shared) (H:Hp) (args:Args) (us:List Value) (vs:List V) (Q:VK) (E:XK),Room k A→pP P w K mg base A outer s H→BindsTo s fd args (ps.zip us)→Vals vs us→sp vs H Q E→
  codeAny (model P w) A (.call (.ref f) args) (CR CX outer P w H s Q E) s
section
variable{X:Cx}{pins:List (Addr × Obj)}{σ : St}{H:Hp}{s s':Shared}
theorem Inv.env0(I:Inv X pins σ H s):pP X.prog X.w X.K X.mg X.base X.A X.stack s H:=
 ⟨I.ok.frames,I.ok.mod,I.bs,Nat.le_trans I.ok.bsz I.sz,I.stack,I.stkFree,I.hok,I.bare⟩
theorem Inv.after{Q:VK}{u:Value}(I:Inv X pins σ H s)(h:CE X.stack X.prog X.w H s Q u s'):EP X pins σ Q u s':=by
 obtain⟨v,H',os,bare,un,hok,r,q⟩:=h
 obtain⟨hh,g,d,t,os'⟩:=s'
 obtain rfl:os'=s.os:=os
 exact⟨v,H',I.call (h':=hh) (g':=g) (d':=d) (t':=t) (ch:=[]) un hok bare (fun b z=>absurd z (by simp)),r,q⟩
end
def pZ(sp:Sp)(dvs:List V)(E:XK)(t:TA):TE:=fun σ H Q=>t σ H fun vs H1=>sp (vs++dvs) H1 Q E
def Binds(K:PySem.W.Frag)(fd:FuncData)(ps:List Str)(ds:List Value):Prop:=
 ∀ (s:Shared) (us:List Value),K.In s.heap→(us++ds).length=ps.length→BindsTo s fd ⟨us,[]⟩ (ps.zip (us++ds))
theorem Binds.all{K:PySem.W.Frag}{fd:FuncData}{ps:List Str}(h:∀ us:List Value,us.length=ps.length→bindArgs fd ⟨us,[]⟩=pure (ps.zip us)):Binds K fd ps []:=fun s us _ hl=>by
 rw[List.append_nil]at hl ⊢
 exact .of_eq (h us hl)
def lM(CX:iQ)(X:Cx)(E:XK):Prop:=∀ (pins:List (Addr × Obj)) (σ : St) (H:Hp) (s:Shared) (e:Value) (s':Shared),Inv X pins σ H s→CX X.stack H s E e s'→X.xe e s'
section
variable{X:Cx}{CX:iQ}{k:Nat}{f C:Addr}{fd:FuncData}{ps:List Str}{sp:Sp}{dvs:List V}{ds:List Value}{E:XK}{x m:Str}{p pos apos:Pos}{e o:Expr}{es:List Expr}{ta:TE}{t:TA}
theorem xF{pins:List (Addr × Obj)}{σ : St}{H:Hp}{s:Shared}{Q:VK}{us:List Value}{vs:List V}(F:gS X.prog X.w X.K X.mg X.base CX k f fd ps sp)(hr:Room k X.A)(hb:Binds X.K fd ps ds)(hd:Vals dvs ds)(hx:lM CX X E)
  (I:Inv X pins σ H s) (r:Vals vs us) (h:sp (vs++dvs) H Q E):wpAny (model X.prog X.w) X.A (call (.ref f) us) (EP X pins σ Q) X.xe s:=by
 have r2:Vals (vs++dvs) (us++ds):=r.append hd
 have hl:(us++ds).length=ps.length:=by rw[← r2.length]; exact F.len _ _ _ _ h
 refine wpAny_call (codeAny_mono (F.run X.A X.stack s H ⟨us,[]⟩ (us++ds) (vs++dvs) Q E hr I.env0 (hb s us I.kIn hl) r2 h) fun r s' hq=>?_)
 cases r with
 | error e=>exact hx pins σ H s e s' I hq
 | ok fl=>
  cases fl with
  | ret u=>exact I.after hq
  | next=>exact False.elim hq
  | brk=>exact False.elim hq
  | cont=>exact False.elim hq
theorem vn(F:gS X.prog X.w X.K X.mg X.base CX k f fd ps sp)(hr:Room k X.A)(hg:Gl X x)(hm:X.mg x=some (.ref f))(hk:PySem.W.keepIn X.K (.ref f)=true)(hb:Binds X.K fd ps ds)(hd:Vals dvs ds)(hx:lM CX X E)
  (ha:PA X (e::es) t) (hdb:(x == ("__debug__" : Str))=false:=by decide) (he:starEach (e::es) X.env=(false,eval e X.env)::starEach es X.env:=by rfl) (hpl:(backTo pos (starEach es X.env)).any (·.1)=false:=by rfl) :
  PE X (.Call (.Name x p) (e::es) [] pos) (pZ sp dvs E t):=by
 intro pins s σ H Q I h
 refine wpAny_Call_Name_kw (uP I hg hm ?_ hdb)
 refine PySem.W.callWith_K (h₀:=X.base) I.ok.mod.kin hk (aY (ha pos pins s σ H _ I h) fun us s1 ⟨vs,H1,I1,r,q⟩=>⟨I1.kIn,?_⟩) he hpl
 exact xF F hr hb hd hx I1 r q
end
section
variable{X:Cx}{CX:iQ}{k:Nat}{f C:Addr}{fd:FuncData}{ps ks:List Str}{sp:Sp}{E:XK}{x m:Str}{p pos apos kpos:Pos}{e o:Expr}{es:List Expr}{kws:List Keyword}{te ta:TE}{t tk:TA}{nm:Option Str}
variable{g:List Value→List Value→List Value}{gV:List V→List V→List V}
end
structure bf (N P:List Str) (sc:Scope):Prop where
 kind:sc.kind = .function
 co:sc.isCoroutine=false
 gen:sc.isGenerator=false
 nd:N.Nodup
 pre:N.take P.length=P
 par:∀ x∈P,sc.names.lookup x=some .local∨sc.names.lookup x=some .cell
 nofree:∀ y∈sc.names,y.2 ≠ .free
theorem mKk{N P:List Str}{s:Stmt}(h1:(L2.defScope s).kind = .function:=by rfl)(h2:(L2.defScope s).isCoroutine=false:=by rfl)(h3:(L2.defScope s).isGenerator=false:=by rfl)(h4:N.Nodup:=by decide +kernel)(h5:N.take P.length=P:=by rfl)(h6:∀ x∈P,(L2.defScope s).names.lookup x=some .local∨(L2.defScope s).names.lookup x=some .cell:=by decide +kernel)(h7:∀ y∈(L2.defScope s).names,y.2 ≠ .free:=by decide +kernel):bf N P (L2.defScope s):=⟨h1,h2,h3,h4,h5,h6,h7⟩
theorem kT{kindOf:Str→Option NameKind}{x:Str}:∀ {binds:List (Str × Value)} {m:Str→Option Value},(∀ v,(x,v)∉binds)→bindL kindOf binds m x=m x
 | [],_,_=>rfl
 | (n,v)::r,m,h=>by
  unfold bindL;rw[kT fun w hw=>h w (List.mem_cons_of_mem _ hw)]
  split
  ·have:x≠n:=by rintro rfl; exact h v List.mem_cons_self
   simp[this]
  ·rfl
theorem k_{kindOf:Str→Option NameKind}{x:Str}:∀ {binds:List (Str × Value)} {m:Str→Option Value},(∀ v,(x,v)∉binds)→bindC kindOf binds m x=m x
 | [],_,_=>rfl
 | (n,v)::r,m,h=>by
  unfold bindC;rw[k_ fun w hw=>h w (List.mem_cons_of_mem _ hw)]
  split
  ·rfl
  ·have:x≠n:=by rintro rfl; exact h v List.mem_cons_self
   simp[this]
theorem kW{kindOf:Str→Option NameKind}{x:Str}{v:Value}:∀ {P:List Str} {vs:List Value} {i:Nat} {m:Str→Option Value},P.Nodup→P[i]? = some x→vs[i]? = some v→kindOf x=some .local→
  bindL kindOf (P.zip vs) m x=some v
 | [],_,_,_,_,h,_,_=>by simp at h
 | _::_,[],_,_,_,_,h,_=>by simp at h
 | p::P,w::vs,0,m,nd,h1,h2,hk=>by
  simp at h1 h2; subst h1; subst h2
  show bindL kindOf ((p,w)::P.zip vs) m p=_
  unfold bindL;rw[kT fun v hv=>(List.nodup_cons.mp nd).1 (List.of_mem_zip hv).1,if_pos hk]
  simp
 | p::P,w::vs,i+1,m,nd,h1,h2,hk=>by
  show bindL kindOf ((p,w)::P.zip vs) m x=_
  unfold bindL;exact kW (i:=i) (List.nodup_cons.mp nd).2 (by simpa using h1) (by simpa using h2) hk
theorem kJ{kindOf:Str→Option NameKind}{x:Str}{v:Value}:∀ {P:List Str} {vs:List Value} {i:Nat} {m:Str→Option Value},P.Nodup→P[i]? = some x→vs[i]? = some v→kindOf x≠some .local→
  bindC kindOf (P.zip vs) m x=some v
 | [],_,_,_,_,h,_,_=>by simp at h
 | _::_,[],_,_,_,_,h,_=>by simp at h
 | p::P,w::vs,0,m,nd,h1,h2,hk=>by
  simp at h1 h2; subst h1; subst h2
  show bindC kindOf ((p,w)::P.zip vs) m p=_
  unfold bindC;rw[k_ fun v hv=>(List.nodup_cons.mp nd).1 (List.of_mem_zip hv).1,if_neg hk]
  simp
 | p::P,w::vs,i+1,m,nd,h1,h2,hk=>by
  show bindC kindOf ((p,w)::P.zip vs) m x=_
  unfold bindC;exact kJ (i:=i) (List.nodup_cons.mp nd).2 (by simpa using h1) (by simpa using h2) hk
def start(N:List Str)(vs:List V):St:=vs.map some++List.replicate (N.length - vs.length) none
def jC(CX:iQ)(P:Program)(w:World)(K:PySem.W.Frag)(mg:Str→Option Value)(base:Heap)(N:List Str)(qual:Str)(scope:Scope)(f:Addr)(cd:Value)(A:Around)(outer:List Env)(s:Shared)(H:Hp)(E:XK):Cx where
 prog:=P
 w:=w
 K:=K
 mg:=mg
 base:=base
 A:=A.deeper (envOfC qual scope s.heap.objs.size f cd)
 N:=N
 s₀:=s
 H₀:=H
 env:=envOfC qual scope s.heap.objs.size f cd
 outer:=outer
 stack:=envOfC qual scope s.heap.objs.size f cd::outer
 ex:=[]
 calm:=true
 fn:=fun _=>true
 pn:=[]
 xe:=fun e s'=>wpAny (model P w) (A.deeper (envOfC qual scope s.heap.objs.size f cd)) (leaving (envOfC qual scope s.heap.objs.size f cd) e) (fun _ s''=>CX outer H s E e s'') (fun e' s''=>CX outer H s E e' s'') s'
theorem mH{sc:Scope}{n:Nat}{x:Str}(h:sc.names.lookup x=some .cell):∃ c,(cellsFrom n sc.names []).lookup x=some c:=by
 have q:=PySem.W.cellsFrom_some sc.names n [] (.inl h);exact Option.isSome_iff_exists.mp q
theorem qY{CX:iQ}{P:Program}{w:World}{K:PySem.W.Frag}{mg:Str→Option Value}{base:Heap}{N ps:List Str}{qual:Str}{scope:Scope}{f:Addr}{cd:Value}{A:Around}{outer:List Env}{s s1:Shared}{H:Hp}{E:XK}{us:List Value}{vs:List V}
  (S:bf N ps scope) (hd:A.handled=none) (e0:pP P w K mg base A outer s H) (hl:vs.length=ps.length) (r:Vals vs us)
  (x:InCallC s s.heap.objs.size (bindL (envOfC qual scope s.heap.objs.size f cd).kindOf (ps.zip us) fun _=>none) (cellsFrom (s.heap.objs.size+1) scope.names []) (bindC (envOfC qual scope s.heap.objs.size f cd).kindOf (ps.zip us) fun _=>none) s1) :
  Inv (jC CX P w K mg base N qual scope f cd A outer s H E) [] (start N vs) H s1:=by
 have hpl:ps.length≤N.length:=by have:=congrArg List.length S.pre; rw[List.length_take]at this; omega
 obtain⟨h1,tk,rfl,hk⟩:=x.done
 have noA:∀ b:Addr,b∉(jC CX P w K mg base N qual scope f cd A outer s H E).ex:=fun b z=>absurd (show b∈([]:List Addr) from z) (by simp)
 refine⟨⟨e0.mod,S.kind,rfl,rfl,Nat.le_refl _,fun y z c h1 h2=>?_,fun y hy=>?_,fun y c _ h=>?_,fun _=>hd,Around.frames_deeper e0.frames,.inr ⟨rfl,rfl⟩,fun b z=>absurd z (noA b),e0.bs,e0.bsz,fun b _ _=>noA b,fun b z=>absurd z (noA b),e0.funs,e0.frf⟩,
  rfl,e0.bare,Un.kept hk,⟨_,x.toInCall.ns,fun i y v h1 h2 h3=>?_⟩,fun y c h=>⟨_,x.cell y c h⟩,e0.hok.fresh (Nat.le_refl _),fun y c h=>?_,fun p hp=>absurd (show p∈([]:List (Addr × Obj)) from hp) (by simp),e0.hok.kept hk,?_⟩
 ·exact name_of_addr x.apart (PySem.mem_of_lookup h1) (PySem.mem_of_lookup h2)
 ·have hy:scope.names.lookup y=some .cell∨scope.names.lookup y=some .free:=hy
  rcases hy with hy | hy
  ·exact mH hy
  ·exact absurd rfl (S.nofree _ (PySem.mem_of_lookup hy))
 ·exact Nat.le_of_lt (x.above y c (PySem.mem_of_lookup h))
 ·have hi:i<vs.length:=by
   unfold start at h2
   by_cases hi:i<vs.length
   ·exact hi
   ·rw[List.getElem?_append_right (by simpa using hi)]at h2
    rw[List.getElem?_replicate]at h2
    split at h2 <;> cases h2
  have ha:vs[i]? = some v:=by
   unfold start at h2;rw[List.getElem?_append_left (by simpa using hi),List.getElem?_map]at h2
   cases e:vs[i]? with
   | none=>rw[e]at h2; cases h2
   | some a=>rw[e]at h2; cases h2; rfl
  obtain⟨u,hu,rv⟩:=r.get ha
  have hp:ps[i]? = some y:=by
   rw[← S.pre,List.getElem?_take_of_lt (by omega)]; exact h1
  have ndP:ps.Nodup:=by rw[← S.pre]; exact S.nd.sublist (List.take_sublist _ _)
  refine⟨u,rv,?_⟩
  rcases S.par y (List.mem_of_getElem? hp) with k | k
  ·exact .inl ⟨k,kW ndP hp hu k⟩
  ·obtain⟨c,e⟩:=mH (n:=s.heap.objs.size+1) k
   refine .inr ⟨.inl k,c,e,?_⟩
   have q:=x.cell y c e;rw[kJ ndP hp hu (by show scope.names.lookup y≠_; rw[k]; decide)]at q
   exact q
 ·exact e0.hok.fresh (Nat.le_of_lt (x.above y c (PySem.mem_of_lookup h)))
 ·unfold start
  show _=N.length
  rw[List.length_append,List.length_map,List.length_replicate];omega
theorem xV{CX:iQ}{P:Program}{w:World}{K:PySem.W.Frag}{mg:Str→Option Value}{base:Heap}{k:Nat}{f:Addr}{name qual:Str}{params:Arguments}{body:List Stmt}{scope:Scope}{dV kV doc pm cdv ct oc:Value}{an od:Option Addr}
  {osl:Array (Option Value)} {N ps:List Str} {sp:Sp} (lk:K.lookup f=some ⟨oc,od,.func (PySem.W.fnOf name qual params body scope dV kV doc pm an cdv ct),osl⟩) (hcd:PySem.W.codeIn K cdv qual=true) (S:bf N ps scope)
  (len:∀ vs H Q E,sp vs H Q E→vs.length=ps.length)
  (hbody:∀ (A:Around) (outer:List Env) (s:Shared) (H:Hp) (vs:List V) (Q:VK) (E:XK),Room k (A.deeper (envOfC qual scope s.heap.objs.size f cdv))→sp vs H Q E→
   ∃ t,PSs (jC CX P w K mg base N qual scope f cdv A outer s H E) body t∧t { nx:=fun _ H'=>Q .non H',rt:=Q } (start N vs) H) :
  gS P w K mg base CX (k+1) f (PySem.W.fnOf name qual params body scope dV kV doc pm an cdv ct) ps sp:=by
 refine⟨len,fun A outer s H args us vs Q E hr e0 hb r hsp=>?_⟩
 have hl:=len _ _ _ _ hsp;have KX:K.In s.heap:=e0.mod.kin.keeps fun b o e=>(e0.bs b o e).1
 have lim:s.heap.NoLimit:=e0.mod.nolimit.keeps fun b o e=>(e0.bs b o e).1
 have hkind:∀ y∈ps.zip us,scope.names.lookup y.1=some .local∨(scope.names.lookup y.1=some .cell∧((cellsFrom (s.heap.objs.size+1) scope.names []).lookup y.1).isSome=true):=fun ⟨n,v⟩ hy=>by
  rcases S.par n (List.of_mem_zip hy).1 with q | q
  ·exact .inl q
  ·exact .inr ⟨q,PySem.W.cellsFrom_some _ _ _ (.inl q)⟩
 refine codeAny_call_function hr.depth (KX _ _ lk) rfl S.co S.gen rfl (PySem.W.codeRec_of KX hcd) (hb _ _ _ _ ?_)
 refine wpAny_newFunctionEnv_cells S.kind hkind fun env he s1 x=>?_
 subst he;refine⟨lim.keeps x.toInCall.keep,codeAny_func ?_⟩
 obtain⟨t,ht,hq⟩:=hbody A outer s H vs Q E (hr.deeper _) hsp
 have I:Inv (jC CX P w K mg base N qual scope f cdv A outer s H E) [] (start N vs) H s1:=qY S hr.hd e0 hl r x
 refine wpAny_mono (ht [] s1 (start N vs) H _ I hq) (fun fl s' hs=>?_) fun e s' hs=>hs
 have fin:∀ {σ':St} {H':Hp} {v:V} {u:Value},Inv (jC CX P w K mg base N qual scope f cdv A outer s H E) [] σ' H' s'→RelV v u→Q v H'→CE outer P w H s Q u s':=
  fun {σ' H' v u} J rv q=>⟨v,H',J.os,J.bare,J.base,J.hok,rv,q⟩
 cases fl with
 | ret u=>
  obtain⟨v,σ',H',J,rv,q⟩:=hs
  exact fin J rv q
 | next=>
  obtain⟨σ',H',J,q⟩:=hs
  exact fin (v:=V.non) (u:=Value.none) J rfl q
 | brk=>
  obtain⟨_,_,_,q⟩:=hs
  exact False.elim q
 | cont=>
  obtain⟨_,_,_,q⟩:=hs
  exact False.elim q
end L2
namespace L2
open PySem PySem.Spec PyProof.Rows
section
variable{X:Cx}{x:Str}{p pos:Pos}{e:Expr}{es:List Expr}{t:TA}{id T:String}{r:List V→Hp→VK→Prop}
def p6(r:List V→Hp→VK→Prop)(t:TA):TE:=fun σ H Q=>t σ H fun vs H1=>r vs H1 Q
theorem sJ(hc:CallR X (.builtin id) r)(hg:Gl X x)(hm:X.mg x=none)(hv:bootBuiltins x=some (.builtin id))(ha:PA X (e::es) t)(hn:x ≠ "__name__" := by decide) (hdb:(x == ("__debug__" : Str))=false:=by decide)
  (he:starEach (e::es) X.env=(false,eval e X.env)::starEach es X.env:=by rfl) (hpl:(backTo pos (starEach es X.env)).any (·.1)=false:=by rfl):PE X (.Call (.Name x p) (e::es) [] pos) (p6 r t):=by
 intro pins s σ H Q I h
 refine wpAny_Call_Name_kw (g9 I hg hm hv ?_ hn hdb)
 exact PyProof.Rows.callWith_builtin1 (aY (ha pos pins s σ H _ I h) fun us s1 ⟨vs,H1,I1,r1,q1⟩=>hc pins s1 σ H1 vs us Q I1 r1 q1) he hpl
theorem qp(hc:CallR X (.type T) r)(hg:Gl X x)(hm:X.mg x=none)(hv:bootBuiltins x=some (.type T))(ha:PA X (e::es) t)(hn:x ≠ "__name__" := by decide) (hdb:(x == ("__debug__" : Str))=false:=by decide)
  (he:starEach (e::es) X.env=(false,eval e X.env)::starEach es X.env:=by rfl) (hpl:(backTo pos (starEach es X.env)).any (·.1)=false:=by rfl):PE X (.Call (.Name x p) (e::es) [] pos) (p6 r t):=by
 intro pins s σ H Q I h
 refine wpAny_Call_Name_kw (g9 I hg hm hv ?_ hn hdb)
 exact PyProof.Rows.callWith_type1 (aY (ha pos pins s σ H _ I h) fun us s1 ⟨vs,H1,I1,r1,q1⟩=>hc pins s1 σ H1 vs us Q I1 r1 q1) he hpl
end
end L2
namespace HT
open PySem PyProof.Rows
section
open PySem.SeqAt
open PySem.AutoSeq1 (wpAny_loadPart')
open PySem.MeetsSeq PySem.MeetsSeq2 PySem.MeetsSeq3
end
section
variable{prog:Program}{w:World}{A:Around}{E:Value→Shared→Prop}{s:Shared}
def sIx(n d:Nat):Option Int→Nat
 | none=>d
 | some v=>if v<0 then (v+(n:Int)).toNat else min v.toNat n
theorem sIx_none(n d:Nat):sIx n d none=d:=rfl
theorem sIx_nat(n d k:Nat):sIx n d (some (k:Int))=min k n:=by
 show (if (k:Int)<0 then ((k:Int)+(n:Int)).toNat else min (k:Int).toNat n)=min k n
 rw[if_neg (by omega),Int.toNat_natCast]
end
end HT
namespace L2
open PySem PySem.Spec PyProof.Rows
abbrev TO:=St→Hp→(Option Int→Hp→Prop)→Prop
def PO(X:Cx)(e:Option Expr)(t:TO):Prop:=
 ∀ (pins:List (Addr × Obj)) (s:Shared) (σ : St) (H:Hp) (Q:Option Int→Hp→Prop),Inv X pins σ H s→t σ H Q→
  wpAny (model X.prog X.w) X.A (evalPart e X.env) (fun u s'=>∃ o H',Inv X pins σ H' s'∧IsPart u o∧Q o H') X.xe s
def oo:TO:=fun _ H Q=>Q none H
def uk(t:TE):TO:=fun σ H Q=>t σ H fun x H1=>∃ i,x = .int i∧Q (some i) H1
theorem oE{ns:List Int}:∀ {us:List Value},Vals (ns.map V.int) us→IntsAre us ns:=by
 induction ns with
 | nil=>intro us r; rw[List.map_nil]at r; cases r; exact .nil
 | cons n ns ih=>
  intro us r
  rw[List.map_cons]at r
  cases r with
  | cons r1 r2=>
   obtain⟨t,e⟩:=r1
   subst e;exact .cons n t (ih r2)
section
variable{X:Cx}{e:Expr}{te:TE}{lo hi:Option Expr}{tl th:TO}{pos p2:Pos}
theorem u3:PO X none oo:=by
 intro pins s σ H Q I h
 rw[evalPart_none];exact wpAny_pure ⟨none,H,I,.none,h⟩
theorem vz(h:PE X e te):PO X (some e) (uk te):=by
 intro pins s σ H Q I hw
 rw[evalPart_some];refine aY (h pins s σ H _ I hw) fun u s1 ⟨x,H1,I1,r1,q1⟩=>?_
 obtain⟨i,rfl,q⟩:=q1
 obtain⟨t,rfl⟩:=r1
 exact⟨some i,H1,I1,.int i t,q⟩
def SlR(X:Cx)(r:V→Option Int→Option Int→Hp→VK→Prop):Prop:=
 ∀ (pins:List (Addr × Obj)) (s:Shared) (σ : St) (H:Hp) (x:V) (v vl vu:Value) (lo hi:Option Int) (sl:Addr) (Q:VK),Inv X pins σ H s→RelV x v→s.heap.IsSliceOf sl vl vu .none→IsPart vl lo→IsPart vu hi→r x lo hi H Q→
  ∃ T id,typeLookup (.type T) "__getitem__" = pure (some (.builtin id))∧s.TypeIs v T∧wpAny (model X.prog X.w) X.A (getItem v (.ref sl)) (EP X pins σ Q) X.xe s
def yk(r:V→Option Int→Option Int→Hp→VK→Prop)(te:TE)(tl th:TO):TE:=fun σ H Q=>te σ H fun x H1=>tl σ H1 fun l H2=>th σ H2 fun u H3=>r x l u H3 Q
theorem sK{r:V→Option Int→Option Int→Hp→VK→Prop}(hr:SlR X r)(he:PE X e te)(hl:PO X lo tl)(hu:PO X hi th):PE X (.Subscript e (.Slice lo hi none p2) pos) (yk r te tl th):=by
 intro pins s σ H Q I h
 refine Subscript_ (aY (he pins s σ H _ I h) fun v s1 ⟨x,H1,I1,r1,q1⟩=>?_)
 refine wpAny_Slice (aY (hl pins s1 σ H1 _ I1 q1) fun vl s2 ⟨l,H2,I2,pl,q2⟩=>aY (hu pins s2 σ H2 _ I2 q2) fun vu s3 ⟨u,H3,I3,pu,q3⟩=>?_)
 rw[evalPart_none];refine wpAny_pure ?_
 have I4:Inv X pins σ H3 { s3 with heap:=s3.heap.push { cls:=.type "slice", data:=.fields #[vl,vu,.none] } }:=I3.kept (t':=s3.toks) fun b ob q=>Heap.get?_push_of_some _ q
 obtain⟨T,id,hT,ht,hg⟩:=hr pins { s3 with heap:=s3.heap.push { cls:=.type "slice", data:=.fields #[vl,vu,.none] } } σ H3 x v vl vu l u s3.heap.objs.size Q I4 r1 (Heap.IsSliceOf.new ..) pl pu q3
 show wpAny (model X.prog X.w) X.A (subscriptTail e (.Slice lo hi none p2) v (.ref s3.heap.objs.size)) (EP X pins σ Q) X.xe { s3 with heap:=s3.heap.push { cls:=.type "slice", data:=.fields #[vl,vu,.none] } }
 exact tail_any (ops:=[.ref s3.heap.objs.size,v]) ht hT hg (by with_unfolding_all rfl)
def jG(xs:List V)(lo hi:Option Int):List V:=(xs.drop (HT.sIx xs.length 0 lo)).take (HT.sIx xs.length xs.length hi - HT.sIx xs.length 0 lo)
theorem nj(xs:List V)(lo hi:Option Int):(jG xs lo hi).length≤xs.length:=by
 unfold jG;rw[List.length_take,List.length_drop];omega
end
end L2
namespace L2
open PySem PySem.Spec PyProof.Rows
def fD(n:Nat)(i:Int):Option Nat:=if 0≤i then (if i<n then some i.toNat else none) else if -(n:Int)≤i then some (i+n).toNat else none
def cX{α : Type}(xs:List α)(i:Int):Option α:=(fD xs.length i).bind fun j=>xs[j]?
theorem nX{n:Nat}{i:Int}{j:Nat}(h:fD n i=some j):seqIndex? i n=some j∧j<n∧-(n:Int)≤i∧i<n:=by
 unfold fD at h
 by_cases h0:0≤i
 ·rw[if_pos h0]at h
  by_cases h1:i<n
  ·rw[if_pos h1]at h
   have e:i.toNat=j:=Option.some.inj h
   exact⟨by rw[seqIndex_of h0 h1,e],by omega,by omega,h1⟩
  ·rw[if_neg h1]at h; cases h
 ·rw[if_neg h0]at h
  by_cases h1:-(n:Int)≤i
  ·rw[if_pos h1]at h
   have e:(i+n).toNat=j:=Option.some.inj h
   exact⟨by rw[seqIndex_neg (by omega) h1,e],by omega,h1,by omega⟩
  ·rw[if_neg h1]at h; cases h
theorem kh{α : Type}{xs:List α}{i:Int}{v:α}(h:cX xs i=some v):∃ j,seqIndex? i xs.length=some j∧xs[j]? = some v∧j<xs.length∧-(xs.length:Int)≤i∧i<xs.length:=by
 unfold cX at h
 cases e:fD xs.length i with
 | none=>rw[e]at h; cases h
 | some j=>
  rw[e]at h
  obtain⟨h1,h2,h3,h4⟩:=nX e
  exact⟨j,h1,h,h2,h3,h4⟩
theorem aC{α : Type}{xs:List α}{j:Nat}{v:α}(h:xs[j]? = some v):cX xs (j:Int)=some v:=by
 have hj:j<xs.length:=(List.getElem?_eq_some_iff.mp h).1
 have e:fD xs.length (j:Int)=some j:=by
  unfold fD;rw[if_pos (by omega),if_pos (by omega)]; simp
 unfold cX; rw[e]; exact h
def ve(b:Expr):Prop:=∀ o i,subscripted b false o i=operate [o,i] (getItem o i)
def IxR(X:Cx)(r:R2):Prop:=
 ∀ (value slice:Expr) (pins:List (Addr × Obj)) (s:Shared) (σ : St) (H:Hp) (x y:V) (v u:Value) (Q:VK),Inv X pins σ H s→RelV x v→RelV y u→r x y H Q→
  subscripted slice false v u=operate [v,u] (getItem v u)→wpAny (model X.prog X.w) X.A (subscriptTail value slice v u) (EP X pins σ Q) X.xe s
def MtR(X:Cx)(id:String)(r:V→List V→Hp→VK→Prop):Prop:=
 ∀ (pins:List (Addr × Obj)) (s:Shared) (σ : St) (H:Hp) (x:V) (xs:List V) (v:Value) (us:List Value) (Q:VK),Inv X pins σ H s→RelV x v→Vals xs us→r x xs H Q→
  wpAny (model X.prog X.w) X.A (call (.builtin id) (v::us)) (EP X pins σ Q) X.xe s
section
variable{X:Cx}{a b:Expr}{ta tb:TE}{pos:Pos}
theorem IxR.or{r r':R2}(h:IxR X r)(h':IxR X r'):IxR X (fun x y H Q=>r x y H Q∨r' x y H Q):=by
 intro value slice pins s σ H x y v u Q I rx ry q hs
 rcases q with q | q
 ·exact h value slice pins s σ H x y v u Q I rx ry q hs
 ·exact h' value slice pins s σ H x y v u Q I rx ry q hs
theorem aB{r:R2}(hr:IxR X r)(ha:PE X a ta)(hb:PE X b tb)(hs:ve b):PE X (.Subscript a b pos) (qi r ta tb):=by
 intro pins s σ H Q I h
 exact Subscript_ (tP ha hb I h fun v u s2 x y H2 I2 rx ry q=>hr a b pins s2 σ H2 x y v u Q I2 rx ry q (hs _ _))
def wR(K:PySem.W.Frag):R2:=fun x y H Q=>∃ p xs i v,x = .ref p∧y = .int i∧SqL K H p xs∧cX xs i=some v∧Q v H
def vU(K:PySem.W.Frag):R2:=fun x y H Q=>∃ p xs i v,x = .ref p∧y = .int i∧SqT K H p xs∧cX xs i=some v∧Q v H
def wL:R2:=fun x y H Q=>∃ z i c,x = .str z∧y = .int i∧z.length≤sizeLine∧cX z.cps.toList i=some c∧Q (.str ⟨#[c]⟩) H
theorem ix_list:IxR X (wR X.K):=by
 intro value slice pins s σ H x y v u Q I rx ry h hs
 obtain⟨p,xs,i,z,rfl,rfl,hq,he,q⟩:=h
 cases rx;obtain⟨t,rfl⟩:=ry
 obtain⟨its,r,pl,hz⟩:=I.list hq
 obtain⟨j,h1,h2,h3,h4,h5⟩:=kh he
 obtain⟨w,ew,rw'⟩:=r.get h2
 have hl:=r.length;have hn:=gW;have fin:EP X pins σ Q w s:=⟨z,H,I,rw',q⟩
 by_cases h0:0≤i
 ·have hj:i.toNat=j:=by
   rw[seqIndex_of h0 h5]at h1
   exact Option.some.inj h1
  exact item_listR pl.isList h0 (by omega) (by rw[hj]; simpa using ew) fin hs
 ·have hj:(i+(its.toArray.size:Int)).toNat=j:=by
   rw[seqIndex_neg (by omega) h4]at h1
   rw[List.size_toArray,← hl];exact Option.some.inj h1
  exact subscriptTail_builtinR (x:=w) pl.isList.typeIs slot_list_getitem.lookup
   (wpAny_getItem_list_neg (Q:=fun r s'=>r=w∧EP X pins σ Q r s') pl.isList (by omega) (by rw[List.size_toArray] <;> omega) (by omega) (by rw[hj]; simpa using ew) ⟨rfl,fin⟩) hs
theorem ix_tup:IxR X (vU X.K):=by
 intro value slice pins s σ H x y v u Q I rx ry h hs
 obtain⟨p,xs,i,z,rfl,rfl,hq,he,q⟩:=h
 cases rx;obtain⟨t,rfl⟩:=ry
 obtain⟨its,r,pl,hz⟩:=I.tuple hq
 obtain⟨j,h1,h2,h3,h4,h5⟩:=kh he
 obtain⟨w,ew,rw'⟩:=r.get h2
 have hl:=r.length;have hn:=gW;have fin:EP X pins σ Q w s:=⟨z,H,I,rw',q⟩
 exact subscriptTail_builtinR (x:=w) pl.typeIs slot_tuple_getitem.lookup
  (getItem_tuple (j:=j) (Q:=fun r s'=>r=w∧EP X pins σ Q r s') pl (by omega) (by omega) (by rw[List.size_toArray,← hl]; exact h1) (by simpa using ew) ⟨rfl,fin⟩) hs
theorem we:IxR X wL:=by
 intro value slice pins s σ H x y v u Q I rx ry h hs
 obtain⟨z,i,c,rfl,rfl,hz,he,q⟩:=h
 obtain⟨t,rfl⟩:=rx
 obtain⟨t',rfl⟩:=ry
 obtain⟨j,h1,h2,h3,h4,h5⟩:=kh he
 have hl:z.cps.toList.length=z.length:=by simp[Str.length]
 rw[hl]at h1 h4 h5
 have hn:=gW
 exact tail_any (typeIs_str s z t) slot_str_getitem.lookup (getItem_str (c:=c) (by
  have e1:decide (i < -(2 ^ 63:Int))=false:=decide_eq_false (by omega)
  have e2:decide (i≥2 ^ 63)=false:=decide_eq_false (by omega)
  rw[e1,e2,Bool.or_false]) (by rw[h1]; simpa using h2) ⟨.str ⟨#[c]⟩,H,I.tok _,⟨_,rfl⟩,q⟩) hs
def Bg(K:PySem.W.Frag):R2:=fun x y H Q=>wR K x y H Q∨vU K x y H Q∨wL x y H Q
theorem wm:IxR X (Bg X.K):=ix_list.or (ix_tup.or we)
theorem pK(its:List Value)(n j:Nat)(u:Value):Obj.mapSeq (·.setIfInBounds j u) { cls:=.type "list", data:=.seq its.toArray n }={ cls:=.type "list", data:=.seq (its.set j u).toArray n }:=by
 simp[Obj.mapSeq]
theorem Inv.lst{pins:List (Addr × Obj)}{σ : St}{H:Hp}{s:Shared}{p:Addr}{xs:List V}(I:Inv X pins σ H s)(h:H p=some (.lst xs)) :
  ∃ (its:List Value) (n:Nat),Vals xs its∧s.heap.get? p=some { cls:=.type "list", data:=.seq its.toArray n }∧xs.length≤sizeLine:=by
 obtain⟨z,its,n,r,e⟩:=I.hok p _ h
 exact⟨its,n,r,e,z⟩
theorem Inv.lstUpd{pins:List (Addr × Obj)}{σ : St}{H:Hp}{s:Shared}{p:Addr}{xs ys:List V}{its its':List Value}{n n':Nat}{f:Obj→Obj}(I:Inv X pins σ H s)(h:H p=some (.lst xs))
  (ho:s.heap.get? p=some { cls:=.type "list", data:=.seq its.toArray n }) (hf:f { cls:=.type "list", data:=.seq its.toArray n }={ cls:=.type "list", data:=.seq its'.toArray n' }) (r:Vals ys its') (hz:ys.length≤sizeLine) (t:Nat) :
  Inv X pins σ (upd H p (.lst ys)) { s with heap:=s.heap.update p f,toks:=t }:=by
 have e:(s.heap.update p f).get? p=some { cls:=.type "list", data:=.seq its'.toArray n' }:=by
  rw[Heap.get?_update_self f ho (by rw[hf] <;> rfl),hf]
 refine I.write (x:=p) (e:=p) (by rw[h]; trivial) (.inl rfl) (fun b u hb q=>(Heap.get?_update_other _ _ (Ne.symm hb)).trans q) ⟨_,e⟩ ?_
 exact⟨hz,its',n',r,e⟩
def pR:V→V→V→Hp→(Hp→Prop)→Prop:=fun o i v H Q=>∃ p xs k j,o = .ref p∧i = .int k∧H p=some (.lst xs)∧fD xs.length k=some j∧Q (upd H p (.lst (xs.set j v)))
theorem sB:PSet X pR:=by
 intro pins s σ H o i v ov iv u Q I ro ri rv h
 obtain⟨p,xs,k,j,rfl,rfl,hp,hj,q⟩:=h
 cases ro;obtain⟨t,rfl⟩:=ri
 obtain⟨its,n,r,ho,hz⟩:=I.lst hp
 obtain⟨h1,h2,h3,h4⟩:=nX hj
 have hl:=r.length;have hn:=gW
 have I':Inv X pins σ (upd H p (.lst (xs.set j v))) { s with heap:=s.heap.update p (Obj.mapSeq (·.setIfInBounds j u)) }:=
  I.lstUpd hp ho (pK its n j u) (r.set rv j) (by rw[List.length_set]; exact hz) s.toks
 by_cases h0:0≤k
 ·have hk:k.toNat=j:=by
   rw[seqIndex_of h0 h4]at h1
   exact Option.some.inj h1
  exact PySem.W.ki_setAt ho h0 (by omega) (by rw[List.size_toArray,← hl]; exact h4) (by rw[hk]; exact⟨_,I',q⟩)
 ·have hk:(k+(its.toArray.size:Int)).toNat=j:=by
   rw[seqIndex_neg (by omega) h3]at h1
   rw[List.size_toArray,← hl];exact Option.some.inj h1
  exact PySem.W.ki_setBack ho (by omega) (by rw[List.size_toArray,← hl]; exact h3) (by omega) (by rw[hk]; exact⟨_,I',q⟩)
theorem mz(lo hi:Option Int)(n:Nat):(sliceBounds lo hi none n).1=((HT.sIx n 0 lo:Nat):Int)∧(sliceBounds lo hi none n).2.1=((HT.sIx n n hi:Nat):Int)∧(sliceBounds lo hi none n).2.2=1:=by
 refine⟨?_,?_,rfl⟩
 ·cases lo with
  | none=>simp[sliceBounds,HT.sIx]
  | some i=>
   simp only[sliceBounds,HT.sIx,Option.getD_none,show (1:Int)>0 by decide,if_true]
   by_cases h:i<0
   ·simp only[h,if_true] <;> omega
   ·simp only[h,if_false] <;> omega
 ·cases hi with
  | none=>simp[sliceBounds,HT.sIx]
  | some i=>
   simp only[sliceBounds,HT.sIx,Option.getD_none,show (1:Int)>0 by decide,if_true]
   by_cases h:i<0
   ·simp only[h,if_true] <;> omega
   ·simp only[h,if_false] <;> omega
theorem lm(its:List Value)(lo hi:Option Int):slicePick its.toArray lo hi none=((its.drop (HT.sIx its.length 0 lo)).take (HT.sIx its.length its.length hi - HT.sIx its.length 0 lo)).toArray:=by
 obtain⟨h1,h2,h3⟩:=mz lo hi its.toArray.size
 unfold slicePick;rw[h1,h2,h3];simp only[sliceRange_one,pick_run,List.size_toArray] <;> rfl
def tf(K:PySem.W.Frag):V→Option Int→Option Int→Hp→VK→Prop:=fun x lo hi H Q=>∃ a xs,x = .ref a∧SqL K H a xs∧∀ p,H p=none→Q (.ref p) (upd H p (.lst (jG xs lo hi)))
theorem uK:SlR X (tf X.K):=by
 intro pins s σ H x v vl vu lo hi sl Q I rx hs pl pu h
 obtain⟨a,xs,rfl,hx,q⟩:=h
 cases rx;obtain⟨its,r,ht,hz⟩:=I.list hx
 have hlen:=r.length;refine⟨"list", _,slot_list_getitem.lookup,ht.isList.typeIs,?_⟩
 refine wpAny_getItem_list_slice ht.isList hs pl pu .none (by simp) ?_ (by rw[List.size_toArray] <;> omega)
 rw[lm,← hlen];refine⟨.ref s.heap.objs.size,_,I.laid (t':=s.toks) (o:=.lst (jG xs lo hi)) (fun b ob q=>Heap.get?_push_of_some _ q) (Nat.le_refl _) ?_,rfl,q _ (I.hok.fresh (Nat.le_refl _))⟩
 exact⟨Nat.le_trans (nj xs lo hi) hz,_,0,(r.drop (HT.sIx xs.length 0 lo)).take (HT.sIx xs.length xs.length hi - HT.sIx xs.length 0 lo),Heap.get?_push_size _ rfl⟩
def bn:V→Bool
 | .non=>true
 | .bl _=>true
 | .int _=>true
 | .str _=>true
 | _=>false
def d_:V→V→Bool
 | .non,.non=>true
 | .bl a,.bl b=>a == b
 | .bl a,.int b=>(if a then 1 else 0) == b
 | .int a,.bl b=>a == (if b then 1 else 0)
 | .int a,.int b=>a == b
 | .str a,.str b=>a == b
 | _,_=>false
theorem hJ{A:Around}{s:Shared}{y x:V}{u v:Value}(ry:RelV y u)(rx:RelV x v)(fy:bn y=true)(fx:bn x=true):SeqAt.EqAt A s u v (d_ y x):=by
 cases y with
 | non=>
  cases ry
  cases x with
  | non=>cases rx; exact SeqAt.EqAt.same _
  | bl b=>cases rx; exact SeqAt.EqAt.none_bool b
  | int b=>obtain⟨t,rfl⟩:=rx; exact SeqAt.EqAt.none_int b t
  | str b=>obtain⟨t,rfl⟩:=rx; exact SeqAt.EqAt.none_str b t
  | _=>exact absurd (show false=true from fx) Bool.false_ne_true
 | bl a=>
  cases ry
  cases x with
  | non=>cases rx; exact SeqAt.EqAt.bool_none a
  | bl b=>cases rx; exact SeqAt.EqAt.bool_bool a b
  | int b=>obtain⟨t,rfl⟩:=rx; exact SeqAt.EqAt.bool_int a b t
  | str b=>obtain⟨t,rfl⟩:=rx; exact SeqAt.EqAt.bool_str a b t
  | _=>exact absurd (show false=true from fx) Bool.false_ne_true
 | int a=>
  obtain⟨t',rfl⟩:=ry
  cases x with
  | non=>cases rx; exact SeqAt.EqAt.int_none a t'
  | bl b=>cases rx; exact SeqAt.EqAt.int_bool a t' b
  | int b=>obtain⟨t,rfl⟩:=rx; exact SeqAt.EqAt.int_int a t' b t
  | str b=>obtain⟨t,rfl⟩:=rx; exact SeqAt.EqAt.int_str a t' b t
  | _=>exact absurd (show false=true from fx) Bool.false_ne_true
 | str a=>
  obtain⟨t',rfl⟩:=ry
  cases x with
  | non=>cases rx; exact SeqAt.EqAt.str_none a t'
  | bl b=>cases rx; exact SeqAt.EqAt.str_bool a t' b
  | int b=>obtain⟨t,rfl⟩:=rx; exact SeqAt.EqAt.str_int a t' b t
  | str b=>obtain⟨t,rfl⟩:=rx; exact SeqAt.EqAt.str_str a t' b t
  | _=>exact absurd (show false=true from fx) Bool.false_ne_true
 | _=>exact absurd (show false=true from fy) Bool.false_ne_true
def du(x:V)(u:Value):Bool:=match u with
 | .none=>d_ .non x
 | .bool b=>d_ (.bl b) x
 | .int i _=>d_ (.int i) x
 | .str z _=>d_ (.str z) x
 | _=>false
theorem jN{x y:V}{u:Value}(r:RelV y u)(f:bn y=true):du x u=d_ y x:=by
 cases y with
 | non=>cases r; rfl
 | bl b=>cases r; rfl
 | int i=>obtain⟨t,rfl⟩:=r; rfl
 | str z=>obtain⟨t,rfl⟩:=r; rfl
 | _=>exact absurd (show false=true from f) Bool.false_ne_true
theorem h9{x:V}:∀ {xs:List V} {us:List Value},Vals xs us→xs.all bn=true→us.any (du x)=xs.any fun y=>d_ y x
 | _,_,.nil,_=>rfl
 | y::xs,u::us,.cons r t,f=>by
  rw[List.all_cons,Bool.and_eq_true]at f
  rw[List.any_cons,List.any_cons,jN r f.1,h9 t f.2]
theorem gG{A:Around}{s:Shared}{x:V}{v:Value}(rx:RelV x v)(fx:bn x=true):∀ {xs:List V} {us:List Value},Vals xs us→xs.all bn=true→∀ u∈us,SeqAt.EqAt A s u v (du x u)
 | _,_,.nil,_=>fun u hu=>by cases hu
 | y::xs,u::us,.cons r t,f=>fun u' hu=>by
  rw[List.all_cons,Bool.and_eq_true]at f
  rcases List.mem_cons.mp hu with rfl | hu
  ·rw[jN r f.1]; exact hJ r rx f.1 fx
  ·exact gG rx fx t f.2 u' hu
def jj(x:V)(xs:List V):Bool:=xs.any fun y=>d_ y x
def yx(K:PySem.W.Frag)(neg:Bool):R2:=fun x y H Q=>∃ p xs,y = .ref p∧(SqL K H p xs∨SqT K H p xs)∧bn x=true∧xs.all bn=true∧Q (.bl (if neg then !jj x xs else jj x xs)) H
theorem rm:OpR X (compareOp .In) (yx X.K false):=by
 intro pins s σ H x y v u Q I rx ry h
 obtain⟨p,xs,rfl,hq,fx,fs,q⟩:=h
 cases ry;rcases hq with hq | hq
 ·obtain⟨its,r,pl,hz⟩:=I.list hq
  refine SeqAt.in_listAt (du x) pl.isList (fun w hw=>gG rx fx r fs w (by simpa using hw)) ⟨.bl _,H,I,rfl,?_⟩
  rw[show its.toArray.any (du x)=its.any (du x) by simp,h9 r fs]
  exact q
 ·obtain⟨its,r,pl,hz⟩:=I.tuple hq
  refine SeqAt.in_tupleAt (du x) pl (fun w hw=>gG rx fx r fs w (by simpa using hw)) ⟨.bl _,H,I,rfl,?_⟩
  rw[show its.toArray.any (du x)=its.any (du x) by simp,h9 r fs]
  exact q
theorem lV:OpR X (compareOp .NotIn) (yx X.K true):=by
 intro pins s σ H x y v u Q I rx ry h
 obtain⟨p,xs,rfl,hq,fx,fs,q⟩:=h
 cases ry;rcases hq with hq | hq
 ·obtain⟨its,r,pl,hz⟩:=I.list hq
  refine SeqAt.notIn_listAt (du x) pl.isList (fun w hw=>gG rx fx r fs w (by simpa using hw)) ⟨.bl _,H,I,rfl,?_⟩
  rw[show its.toArray.any (du x)=its.any (du x) by simp,h9 r fs]
  exact q
 ·obtain⟨its,r,pl,hz⟩:=I.tuple hq
  refine SeqAt.notIn_tupleAt (du x) pl (fun w hw=>gG rx fx r fs w (by simpa using hw)) ⟨.bl _,H,I,rfl,?_⟩
  rw[show its.toArray.any (du x)=its.any (du x) by simp,h9 r fs]
  exact q
theorem lK:CallR X (.builtin "len") (fun xs H Q=>∃ p ys,xs=[.ref p]∧(SqL X.K H p ys∨SqT X.K H p ys)∧Q (.int ys.length) H):=by
 intro pins s σ H xs us Q I r h
 obtain⟨p,ys,rfl,hq,q⟩:=h
 obtain⟨u,rfl,rx⟩:=ce r
 cases rx;have hn:=gW;rcases hq with hq | hq
 ·obtain⟨its,r',pl,hz⟩:=I.list hq
  have hlen:=r'.length;exact Calls.call_len_list pl.isList (by simp only[List.size_toArray] <;> omega) ⟨.int ys.length,H,I.tok _,⟨s.toks+1,by rw[List.size_toArray,hlen]⟩,q⟩
 ·obtain⟨its,r',pl,hz⟩:=I.tuple hq
  have hlen:=r'.length;exact len_tuple pl (by simp only[List.size_toArray] <;> omega) ⟨.int ys.length,H,I.tok _,⟨s.toks+1,by rw[List.size_toArray,hlen]⟩,q⟩
theorem lX:CallR X (.builtin "len") (fun xs H Q=>∃ z,xs=[.str z]∧z.length≤sizeLine∧Q (.int z.length) H):=by
 intro pins s σ H xs us Q I r h
 obtain⟨z,rfl,hz,q⟩:=h
 obtain⟨u,rfl,t,rfl⟩:=ce r
 have hn:=gW;exact len_str (by omega) ⟨.int z.length,H,I.tok _,⟨_,rfl⟩,q⟩
theorem md:CallR X (.type "list") (fun xs H Q=>∃ p ys,xs=[.ref p]∧(SqL X.K H p ys∨SqT X.K H p ys)∧∀ l,H l=none→Q (.ref l) (upd H l (.lst ys))):=by
 intro pins s σ H xs us Q I r h
 obtain⟨p,ys,rfl,hq,q⟩:=h
 obtain⟨u,rfl,rx⟩:=ce r
 cases rx
 have fin:∀ (its:List Value),Vals ys its→ys.length≤sizeLine→∀ (h':Heap) (c':Nat),(∀ b o',s.heap.get? b=some o'→h'.get? b=some o')→
   h'.get? s.heap.objs.size=some { cls:=.type "list", dict:=none,data:=.seq its.toArray c',slots:=#[] }→EP X pins σ Q (.ref s.heap.objs.size) { s with heap:=h' }:=fun its r' hz h' c' kp e=>
  ⟨.ref s.heap.objs.size,_,I.laid (t':=s.toks) kp (Nat.le_refl _) (show ObjOk X.prog X.w _ h' _ (.lst ys) from ⟨hz,its,c',r',e⟩),rfl,q _ (I.hok.fresh (Nat.le_refl _))⟩
 rcases hq with hq | hq
 ·obtain⟨its,r',pl,hz⟩:=I.list hq
  have hlen:=r'.length;obtain⟨o,ho,hc,n,hd⟩:=pl.isList
  exact call_list_seq p (.inl rfl) ho hc hd (fun h' c' kp e=>fin its r' hz h' c' kp e) (by simp only[List.size_toArray] <;> omega)
 ·obtain⟨its,r',pl,hz⟩:=I.tuple hq
  have hlen:=r'.length;obtain⟨o,ho,hc,n,hd⟩:=pl
  exact call_list_seq p (.inr rfl) ho hc hd (fun h' c' kp e=>fin its r' hz h' c' kp e) (by simp only[List.size_toArray] <;> omega)
theorem lr:CallR X (.type "tuple") (fun xs H Q=>∃ p ys,xs=[.ref p]∧((SqL X.K H p ys∧∀ l,H l=none→Q (.ref l) (upd H l (.tup ys)))∨(SqT X.K H p ys∧Q (.ref p) H))):=by
 intro pins s σ H xs us Q I r h
 obtain⟨p,ys,rfl,h⟩:=h
 obtain⟨u,rfl,rx⟩:=ce r
 cases rx;rcases h with ⟨hq,q⟩ | ⟨hq,q⟩
 ·obtain⟨its,r',pl,hz⟩:=I.list hq
  have hlen:=r'.length;refine call_tuple_list pl.isList (fun h' kp=>?_) (by simp only[List.size_toArray] <;> omega)
  have I1:Inv X pins σ H { s with heap:=h' }:=I.kept (t':=s.toks) kp
  have I2:Inv X pins σ (upd H h'.objs.size (.tup ys)) { s with heap:=h'.push { cls:=.type "tuple", data:=.seq its.toArray } }:=
   I1.laid (t':=s.toks) (fun b o e=>Heap.get?_push_of_some _ e) (Nat.le_refl _) (show ObjOk X.prog X.w _ _ _ (.tup ys) from ⟨hz,its,r',IsTupN.new _ _⟩)
  exact⟨.ref h'.objs.size,_,I2,rfl,q _ (I1.hok.fresh (Nat.le_refl _))⟩
 ·obtain⟨its,r',pl,hz⟩:=I.tuple hq
  exact call_tuple_same pl ⟨.ref p,H,I,rfl,q⟩
def mT(K:PySem.W.Frag)(T:String)(x:V)(H:Hp):Prop:=match x with
 | .str _=>T = "str"
 | .int _=>T = "int"
 | .ref p=>(T = "list" ∧ ∃ xs,SqL K H p xs)∨(T = "tuple" ∧ ∃ o,K.lookup p=some o∧o.cls = .type "tuple" ∧ o.dict=none)∨
   (T = "dict" ∧ ((∃ kvs,H p=some (.dK kvs))∨∃ kvs,H p=some (.dT kvs)))∨(T = "set" ∧ ∃ S n,H p=some (.set S n))
 | _=>False
theorem qj{pins:List (Addr × Obj)}{σ : St}{H:Hp}{s:Shared}{T:String}{x:V}{v:Value}(I:Inv X pins σ H s)(r:RelV x v)(ty:mT X.K T x H) :
  s.TypeIs v T∧∀ a,v = .ref a→∃ ob,s.heap.get? a=some ob∧ob.dict=none:=by
 cases x with
 | str z=>
  obtain⟨t,rfl⟩:=r
  cases (show T = "str" from ty)
  exact⟨typeIs_str s z t,fun _ e=>nomatch e⟩
 | int i=>
  obtain⟨t,rfl⟩:=r
  cases (show T = "int" from ty)
  exact⟨typeIs_int s i t,fun _ e=>nomatch e⟩
 | ref p=>
  cases r;rcases ty with ⟨rfl,xs,hq⟩ | ⟨rfl,o,hk,hc,hd⟩ | ⟨rfl,hk⟩ | ⟨rfl,S,n,hk⟩
  ·obtain⟨its,_,pl,_⟩:=I.list hq
   refine⟨pl.isList.typeIs,fun a e=>?_⟩
   cases e;obtain⟨o,n,e,c,hd,_⟩:=pl
   exact⟨o,e,hd⟩
  ·refine⟨⟨o,I.kIn p o hk,hc⟩,fun a e=>?_⟩
   cases e;exact⟨o,I.kIn _ o hk,hd⟩
  ·have z:∃ o,s.heap.get? p=some o∧o.ExactDict:=by
    rcases hk with ⟨kvs,hk⟩ | ⟨kvs,hk⟩
    ·obtain⟨_,_,_,_,o,_,_,e,ex,_⟩:=I.hok p _ hk
     exact⟨o,e,ex⟩
    ·obtain⟨_,_,_,_,o,_,_,e,ex,_⟩:=I.hok p _ hk
     exact⟨o,e,ex⟩
   obtain⟨o,e,ex⟩:=z
   refine⟨⟨o,e,ex.1⟩,fun a e2=>?_⟩
   cases e2;exact⟨o,e,ex.2.1⟩
  ·obtain⟨o,_,_,_,e,ex,_⟩:=I.hok p _ hk
   refine⟨⟨o,e,ex.1⟩,fun a e2=>?_⟩
   cases e2;exact⟨o,e,ex.2.1⟩
 | _=>exact False.elim ty
def tV(K:PySem.W.Frag)(T:String)(r:V→List V→Hp→VK→Prop)(to:TE):TE:=fun σ H Q=>to σ H fun x H1=>mT K T x H1∧r x [] H1 Q
def wD(K:PySem.W.Frag)(T:String)(r:V→List V→Hp→VK→Prop)(to:TE)(t:TA):TE:=fun σ H Q=>to σ H fun x H1=>mT K T x H1∧t σ H1 fun xs H2=>r x xs H2 Q
variable{o e:Expr}{es:List Expr}{to:TE}{t:TA}{name:Str}{apos cpos:Pos}{T id:String}{r:V→List V→Hp→VK→Prop}
theorem wQ(pa:PlainAttrs T)(slot:Slot T name id)(hty:typeOf (.builtin id)=pure (.type "method_descriptor")) (hm:MtR X id r) (ho:PE X o to)
  (hbase:attributeBase o name X.env (eval o X.env)=eval o X.env:=by rfl) (hline:(apos.endLine == cpos.line)=true:=by rfl):PE X (.Call (.Attribute o name apos) [] [] cpos) (tV X.K T r to):=by
 intro pins s σ H Q I h
 refine wpAny_Call_method0_late hbase hline (aY (ho pins s σ H _ I h) fun v s1 ⟨x,H1,I1,r1,ty,q1⟩=>?_)
 obtain⟨h1,h2⟩:=qj I1 r1 ty
 exact⟨T,id,pa,slot,hty,h1,h2,Calls.callWith_builtin rfl (PySem.evalArgs_none (hm pins s1 σ H1 x [] v [] Q I1 r1 .nil q1))⟩
theorem x3(pa:PlainAttrs T)(slot:Slot T name id)(hty:typeOf (.builtin id)=pure (.type "method_descriptor")) (hm:MtR X id r) (ho:PE X o to) (ha:PA X (e::es) t)
  (hbase:attributeBase o name X.env (eval o X.env)=eval o X.env:=by rfl)
  (hfew:((backTo cpos (starEach (e::es) X.env)).all (fun x=>!x.1)&&(backToKw cpos (keywordEach [] X.env)).all (fun x=>x.1.isSome)
   && decide ((e::es).length+([]:List Keyword).length+(if ([]:List Keyword).isEmpty then 0 else 1)<30))=true:=by rfl)
  (hline:(apos.endLine == cpos.line)=true:=by rfl) (hs:starEach (e::es) X.env=(false,eval e X.env)::starEach es X.env:=by rfl) (hplain:(backTo cpos (starEach es X.env)).any (·.1)=false:=by rfl) :
  PE X (.Call (.Attribute o name apos) (e::es) [] cpos) (wD X.K T r to t):=by
 intro pins s σ H Q I h
 refine wpAny_Call_method_late hbase hfew hline rfl (aY (ho pins s σ H _ I h) fun v s1 ⟨x,H1,I1,r1,ty,q1⟩=>?_)
 obtain⟨h1,h2⟩:=qj I1 r1 ty
 refine⟨T,id,pa,slot,hty,h1,h2,?_⟩
 have hA:=ha cpos pins s1 σ H1 _ I1 q1;rw[hs]at hA ⊢
 refine Calls.callWith_builtin (by show (false||(backTo cpos (starEach es X.env)).any (·.1))=false; rw[hplain] <;> rfl) (Calls.evalArgs_plain ?_)
 exact aY hA fun us s2 ⟨vs,H2,I2,r2,q2⟩=>hm pins s2 σ H2 x vs v us Q I2 r1 r2 q2
/- xs.append(e), list.index on a module's tuple .. are MtR facts of 06m -/
end
end L2
namespace L2
open PySem PySem.Spec PyProof.Rows
def yt(X:Cx)(id:String)(r:V→List V→Hp→VK→Prop):Prop:=
 ∀ (pins:List (Addr × Obj)) (s:Shared) (σ : St) (H:Hp) (x:V) (xs:List V) (v:Value) (us:List Value) (Q:VK),Inv X pins σ H s→RelV x v→Vals xs us→r x xs H Q→
  wpAny (model X.prog X.w) X.A (call (.builtin id) (v::us)) (EP X pins σ Q) X.xe s
theorem Vals.one:∀ {x:V} {us:List Value},Vals [x] us→∃ u,us=[u]∧RelV x u
 | _,_,.cons r .nil=>⟨_,rfl,r⟩
theorem Vals.zero:∀ {us:List Value},Vals [] us→us=[]
 | _,.nil=>rfl
theorem Vals.dropLast{xs:List V}{us:List Value}(h:Vals xs us):Vals xs.dropLast us.dropLast:=by
 induction h with
 | nil=>exact .nil
 | cons r t ih=>
  cases t with
  | nil=>exact .nil
  | cons q t'=>exact .cons r ih
theorem pD{α : Type}(l:List α):l.eraseIdx (l.length - 1)=l.dropLast:=by
 induction l with
 | nil=>rfl
 | cons a r ih=>
  cases r with
  | nil=>rfl
  | cons b r=>
   have e:(a::b::r).length - 1=((b::r).length - 1)+1:=by
    have h1:(a::b::r).length=r.length+2:=rfl
    have h2:(b::r).length=r.length+1:=rfl
    omega
   rw[e,List.eraseIdx_cons_succ,ih]
   all_goals rfl
section
variable{X:Cx}{pins:List (Addr × Obj)}{σ : St}{H:Hp}{s:Shared}{l b:Addr}{xs ys zs:List V}
theorem Inv.lset{its its':List Value}{n:Nat}{f:Array Value→Array Value}{t':Nat}(I:Inv X pins σ H s)(hH:H l=some (.lst xs))
  (e:s.heap.get? l=some { cls:=.type "list", data:=.seq its.toArray n }) (hf:f its.toArray=its'.toArray) (hv:Vals ys its') (hz:ys.length≤sizeLine) :
  Inv X pins σ (upd H l (.lst ys)) { s with heap:=s.heap.update l (Obj.mapSeq f),toks:=t' }:=by
 have q:=PySem.IsL.update e f;rw[hf]at q
 refine I.write (x:=l) (e:=l) (by rw[hH]; exact trivial) (.inl rfl) (fun b' u hb hu=>(Heap.get?_update_other s.heap (Obj.mapSeq f) (Ne.symm hb)).trans hu) ⟨_,q⟩ ?_
 exact⟨hz,its',_,hv,q⟩
theorem Inv.lnew{its:List Value}{t':Nat}(I:Inv X pins σ H s)(hv:Vals ys its)(hz:ys.length≤sizeLine) :
  Inv X pins σ (upd H s.heap.objs.size (.lst ys)) { s with heap:=s.heap.push { cls:=.type "list", data:=.seq its.toArray },toks:=t' }:=
 I.laid (fun _ _ q=>Heap.get?_push_of_some _ q) (Nat.le_refl _) ⟨hz,its,0,hv,Heap.get?_push_size _ rfl⟩
theorem Inv.fresh(I:Inv X pins σ H s):H s.heap.objs.size=none:=I.hok.fresh (Nat.le_refl _)
theorem Inv.lstM(I:Inv X pins σ H s)(hH:H l=some (.lst xs)):xs.length≤sizeLine∧∃ (its:List Value) (n:Nat),Vals xs its∧xs.length=its.length∧s.heap.get? l=some { cls:=.type "list", data:=.seq its.toArray n }:=by
 obtain⟨z,its,n,r,e⟩:=I.hok l _ hH
 exact⟨z,its,n,r,r.length,e⟩
end
section
variable{X:Cx}
def kx:V→List V→Hp→VK→Prop:=fun x vs H Q=>∃ l xs y,x = .ref l∧vs=[y]∧H l=some (.lst xs)∧xs.length<sizeLine∧Q .non (upd H l (.lst (xs++[y])))
theorem iL:yt X "list.append" kx:=by
 intro pins s σ H x vs v us Q I rx rv h
 obtain⟨l,xs,y,rfl,rfl,hH,hz,q⟩:=h
 cases rx;obtain⟨u,rfl,ru⟩:=rv.one
 obtain⟨z,its,n,r,hl,e⟩:=I.lstM hH
 refine call_meets F.slot_list_append ⟨_,e,rfl⟩ F.entry_list_append (F.args_list_append_2 _ _) (PySem.list_append l its.toArray n u (by rw[List.size_toArray]; omega)) ⟨e,?_⟩
 refine⟨.non,_,I.lset (its':=its++[u]) hH e (by simp) (r.append (.cons ru .nil)) ?_,rfl,q⟩
 rw[List.length_append,List.length_singleton];omega
def su:V→List V→Hp→VK→Prop:=fun x vs H Q=>∃ l xs y,x = .ref l∧vs=[]∧H l=some (.lst xs)∧xs[xs.length - 1]? = some y∧Q y (upd H l (.lst xs.dropLast))
theorem xl:yt X "list.pop" su:=by
 intro pins s σ H x vs v us Q I rx rv h
 obtain⟨l,xs,y,rfl,rfl,hH,hy,q⟩:=h
 cases rx;have hus:=rv.zero;subst hus;obtain⟨z,its,n,r,hl,e⟩:=I.lstM hH
 obtain⟨u,hu,ru⟩:=r.get hy
 have hy':its.toArray[its.toArray.size - 1]? = some u:=by
  show its.toArray[its.length - 1]? = some u
  rw[← Array.getElem?_toList,← hl];exact hu
 refine call_meets F.slot_list_pop ⟨_,e,rfl⟩ F.entry_list_pop (F.args_list_pop_1 _) (MeetsSeq.list_pop_last l its.toArray n u hy' (by rw[List.size_toArray]; omega)) ⟨e,?_⟩
 refine⟨y,_,I.lset (its':=its.dropLast) hH e ?_ r.dropLast ?_,ru,q⟩
 ·show its.toArray.eraseIdxIfInBounds (its.toArray.size - 1)=its.dropLast.toArray
  rw[List.size_toArray,List.eraseIdxIfInBounds_toArray,pD]
 ·rw[List.length_dropLast]
  omega
def ze:R2:=fun x y H Q=>∃ l b xs zs,x = .ref l∧y = .ref b∧H l=some (.lst xs)∧H b=some (.lst zs)∧xs.length+zs.length≤sizeLine∧∀ p,H p=none→Q (.ref p) (upd H p (.lst (xs++zs)))
theorem vZ:OpR X (binaryOp .Add) ze:=by
 intro pins s σ H x y v u Q I rx ry h
 obtain⟨l,b,xs,zs,rfl,rfl,hH,hB,hz,q⟩:=h
 cases rx
 cases ry;obtain⟨z,its,n,r,hl,e⟩:=I.lstM hH
 obtain⟨z2,its2,n2,r2,hl2,e2⟩:=I.lstM hB
 refine PySem.P.add_list e e2 ?_ (by rw[List.size_toArray,List.size_toArray]; omega)
 have ea:its.toArray++its2.toArray=(its++its2).toArray:=by simp
 rw[ea];exact⟨.ref _,_,I.lnew (t':=s.toks) (r.append r2) (by rw[List.length_append]; omega),rfl,q _ I.fresh⟩
end
section
variable{prog:Program}{w:World}{A:Around}{E:Value→Shared→Prop}{s:Shared}
end
section
variable{X:Cx}
end
end L2
namespace L2
open PySem PySem.Spec PyProof.Rows
section
variable{κ : Type}[DecidableEq κ]
def aX(kvs:List (κ × V))(k:κ):Option V:=(kvs.find? fun kv=>decide (kv.1=k)).map (·.2)
def cx(kvs:List (κ × V))(k:κ)(v:V):List (κ × V):=
 if (kvs.any fun kv=>decide (kv.1=k))=true then kvs.map (fun kv=>if kv.1=k then (kv.1,v) else kv) else kvs++[(k,v)]
theorem ib{p:κ × V}{r:List (κ × V)}{k:κ}(e:p.1=k):aX (p::r) k=some p.2:=by simp[aX,List.find?_cons,e]
theorem iA{p:κ × V}{r:List (κ × V)}{k:κ}(e:¬ p.1=k):aX (p::r) k=aX r k:=by simp[aX,List.find?_cons,e]
theorem mf(k:κ):∀ kvs:List (κ × V),(kvs.any fun kv=>decide (kv.1=k))=(aX kvs k).isSome
 | []=>rfl
 | p::r=>by
  rw[List.any_cons]
  by_cases e:p.1=k
  ·simp only[ib e,decide_eq_true e,Bool.true_or,Option.isSome_some]
  ·rw[iA e,decide_eq_false e,Bool.false_or]; exact mf k r
theorem gO(kvs:List (κ × V))(k:κ)(v:V):(cx kvs k v).length≤kvs.length+1:=by
 unfold cx;split
 ·rw[List.length_map]; omega
 ·rw[List.length_append,List.length_cons,List.length_nil]; omega
theorem RelO.isSome_eq{o:Option V}{u:Option Value}(r:RelO o u):o.isSome=u.isSome:=by
 cases o with
 | none=>cases u with
  | none=>rfl
  | some _=>exact(show False from r).elim
 | some _=>cases u with
  | none=>exact(show False from r).elim
  | some _=>rfl
theorem KV.val{kvs:List (κ × V)}{vs:List (κ × Value)}(r:KV kvs vs)(k:κ):RelO (aX kvs k) (valueAt vs k):=by
 unfold KV at r
 induction r with
 | nil=>exact True.intro
 | @cons p q ps qs h t ih=>
  obtain⟨h1,h2⟩:=h
  by_cases e:p.1=k
  ·have e':q.1=k:=h1.symm.trans e
   have b:valueAt (q::qs) k=some q.2:=by simp[valueAt,List.find?_cons,e']
   rw[ib e,b]; exact h2
  ·have e':¬ q.1=k:=fun z=>e (h1.trans z)
   have b:valueAt (q::qs) k=valueAt qs k:=by simp[valueAt,List.find?_cons,e']
   rw[iA e,b]; exact ih
theorem KV.any{kvs:List (κ × V)}{vs:List (κ × Value)}(r:KV kvs vs)(k:κ):(kvs.any fun kv=>decide (kv.1=k))=vs.any fun kv=>decide (kv.1=k):=by
 unfold KV at r
 induction r with
 | nil=>rfl
 | cons h t ih=>rw[List.any_cons,List.any_cons,ih,h.1]
theorem KV.repl{kvs:List (κ × V)}{vs:List (κ × Value)}(r:KV kvs vs)(k:κ){y:V}{u:Value}(ry:RelV y u) :
  KV (kvs.map fun kv=>if kv.1=k then (kv.1,y) else kv) (vs.map fun kv=>if kv.1=k then (kv.1,u) else kv):=by
 unfold KV at r ⊢
 induction r with
 | nil=>exact .nil
 | @cons p q ps qs h t ih=>
  rw[List.map_cons,List.map_cons];refine .cons ?_ ih
  obtain⟨h1,h2⟩:=h
  by_cases e:p.1=k
  ·rw[if_pos e,if_pos (h1.symm.trans e)]; exact⟨h1,ry⟩
  ·rw[if_neg e,if_neg (fun z=>e (h1.trans z))]; exact⟨h1,h2⟩
theorem KV.put{kvs:List (κ × V)}{vs:List (κ × Value)}(r:KV kvs vs)(k:κ){y:V}{u:Value}(ry:RelV y u):KV (cx kvs k y) (stored vs k u):=by
 unfold cx stored;rw[r.any k]
 by_cases e:(vs.any fun kv=>decide (kv.1=k))=true
 ·rw[if_pos e,if_pos e]; exact r.repl k ry
 ·rw[if_neg e,if_neg e]; exact Paired.snoc r ⟨rfl,ry⟩
theorem KV.length{kvs:List (κ × V)}{vs:List (κ × Value)}(r:KV kvs vs):kvs.length=vs.length:=Paired.length r
end
theorem jO{P:Program}{w:World}{k:bc}{u:Value}(r:RelV (kV k) u):(bT P w).is k u=true:=by
 cases k with
 | inl i=>obtain⟨t,e⟩:=(show ∃ t,u=Value.int i t from r); subst e; exact m9 P w i t
 | inr x=>obtain⟨t,e⟩:=(show ∃ t,u=Value.str x t from r); subst e; exact nu P w x t
theorem kL{P:Program}{w:World}:∀ {ks:List bc} {us:List Value},Vals (ks.map kV) us→ItemsAre (bT P w) ks us
 | [],_,r=>by rw[List.map_nil]at r; cases r; exact .nil
 | k::ks,_,r=>by
  rw[List.map_cons]at r
  cases r with
  | cons h t=>exact .cons (jO h) (kL t)
abbrev KT (H:Hp):List (List bc × V)→List (List bc × Addr × Value)→Prop:=Paired fun p q=>p.1=q.1∧H q.2.1=some (.tup (p.1.map kV))∧RelV p.2 q.2.2
theorem KT.val{H:Hp}{kvs:List (List bc × V)}{xs:List (List bc × Addr × Value)}(r:KT H kvs xs)(k:List bc):RelO (aX kvs k) ((atKey xs k).map (·.2)):=by
 induction r with
 | nil=>exact True.intro
 | @cons p q ps qs h t ih=>
  obtain⟨h1,_,h2⟩:=h
  by_cases e:p.1=k
  ·have e':q.1=k:=h1.symm.trans e
   have b:atKey (q::qs) k=some q.2:=by simp[atKey,List.find?_cons,e']
   rw[ib e,b]; exact h2
  ·have e':¬ q.1=k:=fun z=>e (h1.trans z)
   have b:atKey (q::qs) k=atKey qs k:=by simp[atKey,List.find?_cons,e']
   rw[iA e,b]; exact ih
theorem KT.repl{H:Hp}{kvs:List (List bc × V)}{xs:List (List bc × Addr × Value)}(r:KT H kvs xs)(k:List bc){y:V}{u:Value}(ry:RelV y u) :
  KT H (kvs.map fun kv=>if kv.1=k then (kv.1,y) else kv) (xs.map (putAt k u)):=by
 induction r with
 | nil=>exact .nil
 | @cons p q ps qs h t ih=>
  rw[List.map_cons,List.map_cons];refine .cons ?_ ih
  obtain⟨h1,h2,h3⟩:=h
  unfold putAt
  by_cases e:p.1=k
  ·rw[if_pos e,if_pos (h1.symm.trans e)]; exact⟨h1,h2,ry⟩
  ·rw[if_neg e,if_neg (fun z=>e (h1.trans z))]; exact⟨h1,h2,h3⟩
theorem KT.put{H:Hp}{kvs:List (List bc × V)}{xs:List (List bc × Addr × Value)}(r:KT H kvs xs)(k:List bc){b:Addr}{y:V}{u:Value}(hb:H b=some (.tup (k.map kV)))(ry:RelV y u) :
  KT H (cx kvs k y) (storedH xs k b u):=by
 have e:(kvs.any fun kv=>decide (kv.1=k))=(atKey xs k).isSome:=by
  rw[mf,(r.val k).isSome_eq,Option.isSome_map]
 unfold cx storedH;rw[e]
 by_cases q:(atKey xs k).isSome=true
 ·rw[if_pos q,if_pos q]; exact r.repl k ry
 ·rw[if_neg q,if_neg q]; exact Paired.snoc r ⟨rfl,hb,ry⟩
theorem KT.keeps{H H':Hp}{kvs:List (List bc × V)}{xs:List (List bc × Addr × Value)}(r:KT H kvs xs)(ht:∀ b ys,H b=some (.tup ys)→H' b=some (.tup ys)):KT H' kvs xs:=
 Paired.mapP r fun _ _ z=>⟨z.1,ht _ _ z.2.1,z.2.2⟩
section
variable{P:Program}{w:World}{H:Hp}{h:Heap}{a:Addr}
theorem uC{u:HO}(ok:HOk P w H h)(e:Rd H a u):ObjOk P w H h a u:=e.ok ok
theorem oW{kvs:List (bc × V)}(ok:HOk P w H h)(e:Rd H a (.dK kvs)):kvs.length≤sizeLine∧(a == sysModules)=false∧∃ vs,KV kvs vs∧h.DictOf (bT P w) a vs:=
 show ObjOk P w H h a (.dK kvs) from uC ok e
theorem uA{kvs:List (bc × V)}(ok:HOk P w H h)(e:H a=some (.dK kvs)):kvs.length≤sizeLine∧(a == sysModules)=false∧∃ vs,KV kvs vs∧h.DictOf (bT P w) a vs:=oW ok (.inl e)
theorem lS{ks:List bc}(ok:HOk P w H h)(e:H a=some (.tup (ks.map kV))):(tupleKind (bT P w)).is h ks a:=by
 obtain⟨_,its,r,o,h1,h2,_,n,h3⟩:=(show ObjOk P w H h a (.tup (ks.map kV)) from ok a _ e)
 exact⟨o,its.toArray,n,h1,h2,h3,by simpa using kL r⟩
theorem uh{kvs:List (List bc × V)}(ok:HOk P w H h)(e:Rd H a (.dT kvs)):kvs.length≤sizeLine∧(a == sysModules)=false∧
  ∃ xs,KT H kvs xs∧h.DictOfH (tupleKind (bT P w)) a xs:=by
 obtain⟨z,y,xs,r,o,es,ep,h1,h2,h3,h4,h5⟩:=(show ObjOk P w H h a (.dT kvs) from uC ok e)
 refine⟨z,y,xs,r,o,es,ep,h1,h2,h3,h4,fun x hx=>?_,h5⟩
 have all:∀ {l:List (List bc × V)} {m:List (List bc × Addr × Value)},KT H l m→∀ x∈m,(tupleKind (bT P w)).is h x.1 x.2.1:=by
  intro l m q
  induction q with
  | nil=>intro x hx; exact nomatch hx
  | @cons p q ps qs hq t ih=>
   intro x hx
   rcases List.mem_cons.mp hx with e | hx
   ·subst e
    exact lS ok (by rw[← hq.1]; exact hq.2.1)
   ·exact ih x hx
 exact all r x hx
theorem xU{kvs:List (List bc × V)}(ok:HOk P w H h)(e:H a=some (.dT kvs)):kvs.length≤sizeLine∧(a == sysModules)=false∧
  ∃ xs,KT H kvs xs∧h.DictOfH (tupleKind (bT P w)) a xs:=uh ok (.inl e)
end
def DGet(H:Hp)(a:Addr)(y:V)(r:Option V):Prop:=
 (∃ kvs k,Rd H a (.dK kvs)∧y=kV k∧r=aX kvs k)∨∃ kvs k b,Rd H a (.dT kvs)∧y = .ref b∧H b=some (.tup (k.map kV))∧r=aX kvs k
def DPut(H:Hp)(a:Addr)(y v:V)(H':Hp):Prop:=
 (∃ kvs k,H a=some (.dK kvs)∧y=kV k∧kvs.length<sizeLine∧H'=upd H a (.dK (cx kvs k v)))∨
 ∃ kvs k b,H a=some (.dT kvs)∧y = .ref b∧H b=some (.tup (k.map kV))∧kvs.length<sizeLine∧H'=upd H a (.dT (cx kvs k v))
theorem DGet.k{H:Hp}{a:Addr}{kvs:List (bc × V)}{k:bc}(e:H a=some (.dK kvs)):DGet H a (kV k) (aX kvs k):=.inl ⟨kvs,k,.inl e,rfl,rfl⟩
theorem DPut.k{H:Hp}{a:Addr}{kvs:List (bc × V)}{k:bc}{v:V}(e:H a=some (.dK kvs))(hl:kvs.length<sizeLine):DPut H a (kV k) v (upd H a (.dK (cx kvs k v))):=.inl ⟨kvs,k,e,rfl,hl,rfl⟩
section
variable{X:Cx}{pins:List (Addr × Obj)}{σ : St}{H:Hp}{s:Shared}{a:Addr}{y v:V}{u r:Value}{o:Option V}{A:Around}{E:Value→Shared→Prop}
theorem Inv.big(I:Inv X pins σ H s):sysModules<s.heap.objs.size:=by
 have h:mainGlobals<s.heap.objs.size:=(I.mod.glob.keeps I.bk).lt
 exact Nat.lt_trans (by decide) h
theorem uX{Q:Value→Shared→Prop}(hu:A.units+1<cLine)(I:Inv X pins σ H s)(g:DGet H a y o)(ry:RelV y u)(h:∀ s',Inv X pins σ H s'→Q (.bool (!o.isSome)) s') :
  wpAny (model X.prog X.w) A (compareOp .NotIn u (.ref a)) Q E s:=by
 rcases g with ⟨kvs,k,e,ey,l⟩ | ⟨kvs,k,b,e,ey,eb,l⟩
 ·subst ey
  obtain⟨z,hd,vs,rel,dd⟩:=oW I.hok e
  refine wpAny_notIn_of (jO ry) hd dd.mapOf ?_
  rw[← (rel.val k).isSome_eq,← l];exact h _ (I.tok _)
 ·subst ey
  cases (show u=Value.ref b from ry)
  obtain⟨z,hd,xs,rel,dd⟩:=uh I.hok e
  refine wpAny_notIn_heap (tupleKind_room_in1 hu) (lS I.hok eb) hd dd ?_
  have q:=(rel.val k).isSome_eq;rw[Option.isSome_map]at q
  rw[← q,← l];exact h _ (I.tok _)
theorem gb{h':Heap}{t':Nat}{ob:HO}(I:Inv X pins σ H s)(mu:qy (H a))(hs:Heap.SameBut a s.heap h')(he:∃ q,h'.get? a=some q)(new:ObjOk X.prog X.w (upd H a ob) h' a ob) :
  Inv X pins σ (upd H a ob) { s with heap:=h',toks:=t' }:=
 I.write (x:=a) (e:=a) mu (.inl rfl) (fun b q hb z=>(hs.2 b hb).trans z) he new
theorem rn{P:Program}{w:World}{H':Hp}{h':Heap}{kvs:List (bc × V)}{vs:List (bc × Value)}(z:kvs.length≤sizeLine)(hd:(a == sysModules)=false)(rel:KV kvs vs)(dd:h'.DictOf (bT P w) a vs) :
  ObjOk P w H' h' a (.dK kvs):=⟨z,hd,vs,rel,dd⟩
theorem qF{H':Hp}{Q:Unit→Shared→Prop}(hu:A.units+1<cLine)(I:Inv X pins σ H s)(g:DPut H a y v H')(ry:RelV y u)(rv:RelV v r)(h:∀ s',Inv X pins σ H' s'→Q () s') :
  wpAny (model X.prog X.w) A (setItem (.ref a) u r) Q E s:=by
 rcases g with ⟨kvs,k,e,ey,l,eH⟩ | ⟨kvs,k,b,e,ey,eb,l,eH⟩
 ·subst ey eH
  obtain⟨z,hd,vs,rel,dd⟩:=uA I.hok e
  have hz:vs.length≤sizeLine:=by rw[← rel.length]; exact z
  have hl:(cx kvs k v).length≤sizeLine:=by have:=gO kvs k v; omega
  refine wpAny_setItem_pairs (hsz:=hz) (jO ry) dd fun h' dd' hs=>h _ ?_
  have he:∃ q,h'.get? a=some q:=let ⟨q,_,_,hq,_⟩:=dd'; ⟨q,hq⟩
  exact gb I (by rw[e]; exact True.intro) hs he (rn hl hd (rel.put k rv) dd')
 ·subst ey eH
  cases (show u=Value.ref b from ry)
  obtain⟨z,hd,xs,rel,dd⟩:=xU I.hok e
  have hz:xs.length≤sizeLine:=by rw[← Paired.length rel]; exact z
  have hl:(cx kvs k v).length≤sizeLine:=by have:=gO kvs k v; omega
  refine wpAny_setItem_heap (hsz:=hz) (tupleKind_room_in1 hu) (lS I.hok eb) dd fun h' dd' hs=>h _ ?_
  obtain⟨q,es,ep,hq,h2,h3,h4,_,h5⟩:=dd'
  refine gb I (by rw[e]; exact True.intro) hs ⟨q,hq⟩ ⟨hl,hd,_,(rel.put k eb rv).keeps fun c ys ec=>?_,q,es,ep,hq,h2,h3,h4,h5⟩
  rw[am (fF ec e (fun z=>nomatch z))]
  exact ec
end
section
variable{X:Cx}{pins:List (Addr × Obj)}{σ : St}{H:Hp}{s:Shared}{a:Addr}{kvs:List (bc × V)}{k:bc}{u:Value}{A:Around}{E:Value→Shared→Prop}
end
section
variable{X:Cx}{o i e value:Expr}{pos pos' tpos:Pos}{td ty tv:TE}
end
theorem lU{P:Program}{w:World}{H:Hp}(h:Heap)(hb:sysModules<h.objs.size):ObjOk P w H (h.push { cls:=.type "dict", data:=.dict #[] }) h.objs.size (.dK []):=
 ⟨Nat.zero_le _,beq_eq_false_iff_ne.mpr (Ne.symm (Nat.ne_of_lt hb)),[],.nil,Heap.DictOf.new h⟩
def wA:TE:=fun _ H Q=>∀ p,H p=none→Q (.ref p) (upd H p (.dK []))
section
variable{X:Cx}{pos:Pos}
theorem tO:PE X (.Dict [] [] pos) wA:=fun pins s σ H Q I h=>
 wpAny_Dict_empty ⟨.ref s.heap.objs.size,_,I.laid (a:=s.heap.objs.size) (o:=.dK []) (t':=s.toks) (fun _ _ q=>Heap.get?_push_of_some _ q) (Nat.le_refl _) (lU s.heap I.big),rfl,h _ (I.hok.fresh (Nat.le_refl _))⟩
end
def gE:List (TE × TE)→St→Hp→(List (V × V)→Hp→Prop)→Prop
 | [],_,H,Q=>Q [] H
 | (tk,tv)::r,σ,H,Q=>tk σ H fun x H1=>tv σ H1 fun y H2=>gE r σ H2 fun ps H3=>Q ((x,y)::ps) H3
abbrev VV:List (V × V)→List (Value × Value)→Prop:=Paired fun p q=>RelV p.1 q.1∧RelV p.2 q.2
def PPs(X:Cx)(pos:Pos)(keys:List (Option Expr))(values:List Expr)(trs:List (TE × TE)):Prop:=
 ∀ (pins:List (Addr × Obj)) (s:Shared) (σ : St) (H:Hp) (Q:List (V × V)→Hp→Prop),Inv X pins σ H s→gE trs σ H Q→
  wpAny (model X.prog X.w) X.A (evalPairs (pairTrees keys values X.env pos)) (fun vs s'=>∃ ps H',Inv X pins σ H' s'∧VV ps vs∧Q ps H') X.xe s
theorem vm{X:Cx}{pos:Pos}:PPs X pos [] [] []:=fun pins s σ H Q I h=>pairTrees_nil_walk ⟨[],H,I,.nil,h⟩
theorem rU{X:Cx}{pos:Pos}{k v:Expr}{ks:List (Option Expr)}{vs:List Expr}{tk tv:TE}{trs:List (TE × TE)}(hk:PE X k tk)(hv:PE X v tv)(hr:PPs X pos ks vs trs) :
  PPs X pos (some k::ks) (v::vs) ((tk,tv)::trs):=fun pins s σ H Q I h=>
 pairTrees_cons_walk (aY (hk pins s σ H _ I h) fun u s1 ⟨x,H1,I1,rx,q1⟩=>aY (hv pins s1 σ H1 _ I1 q1) fun w2 s2 ⟨y,H2,I2,ry,q2⟩=>
  aY (hr pins s2 σ H2 _ I2 q2) fun ws s3 ⟨ps,H3,I3,rel,q3⟩=>⟨(x,y)::ps,H3,I3,.cons ⟨rx,ry⟩ rel,q3⟩)
def gY(kvs more:List (bc × V)):List (bc × V):=more.foldl (fun acc kv=>cx acc kv.1 kv.2) kvs
theorem KV.merge:∀ {more:List (bc × V)} {rs:List (bc × Value)} {kvs:List (bc × V)} {vs:List (bc × Value)},KV more rs→KV kvs vs→KV (gY kvs more) (merged vs rs):=by
 intro more rs kvs vs r
 unfold KV at r
 induction r generalizing kvs vs with
 | nil=>intro q; exact q
 | @cons p q ps qs h t ih=>
  intro r0
  have e:KV (cx kvs p.1 p.2) (stored vs q.1 q.2):=by
   have:=r0.put p.1 h.2
   rw[← h.1]; exact this
  exact ih e
theorem iJ:∀ (more kvs:List (bc × V)),(gY kvs more).length≤kvs.length+more.length
 | [],kvs=>by show kvs.length≤kvs.length+0; omega
 | p::r,kvs=>by
  have h1:=iJ r (cx kvs p.1 p.2);have h2:=gO kvs p.1 p.2;show (gY (cx kvs p.1 p.2) r).length≤_
  rw[List.length_cons]; omega
theorem jL{P:Program}{w:World}:∀ {kvs:List (bc × V)} {ws:List (Value × Value)},VV (kvs.map fun kv=>(kV kv.1,kv.2)) ws→∃ rs,Carries (bT P w) ws rs∧KV kvs rs
 | [],_,r=>by rw[List.map_nil]at r; cases r; exact⟨[],True.intro,.nil⟩
 | p::kvs,_,r=>by
  rw[List.map_cons]at r
  cases r with
  | @cons a b as bs h t=>
   obtain⟨rs,c,q⟩:=jL (P:=P) (w:=w) t
   obtain⟨b1,b2⟩:=b
   exact⟨(p.1,b2)::rs,⟨jO h.1,rfl,c⟩,.cons ⟨rfl,h.2⟩ q⟩
def uJ(trs:List (TE × TE)):TE:=fun σ H Q=>∀ p,H p=none→gE trs σ (upd H p (.dK [])) fun ps H2=>H2 p=some (.dK [])∧∃ kvs:List (bc × V),ps=kvs.map (fun kv=>(kV kv.1,kv.2))∧kvs.length≤15∧Q (.ref p) (upd H2 p (.dK (gY [] kvs)))
theorem vv{X:Cx}{pos:Pos}{keys:List (Option Expr)}{values:List Expr}{trs:List (TE × TE)}(h:PPs X pos keys values trs)(hall:keys.all (·.isSome)=true)(hl:keys.length=values.length)(h0:keys≠[])
  (h15:keys.length≤15):PE X (.Dict keys values pos) (uJ trs):=by
 intro pins s σ H Q I q
 have hn:=I.hok.fresh (Nat.le_refl s.heap.objs.size);have I1:=I.laid (a:=s.heap.objs.size) (o:=.dK []) (h':=s.heap.push { cls:=.type "dict", data:=.dict #[] }) (t':=s.toks) (fun _ _ q=>Heap.get?_push_of_some _ q) (Nat.le_refl _) (lU s.heap I.big)
 refine wpAny_Dict_walk (knd:=bT X.prog X.w) hall hl h0 h15 (aY (h pins _ σ _ _ I1 (q _ hn)) fun ws s2 ⟨ps,H2,I2,rel,e,kvs,ep,lk,q2⟩=>?_)
 subst ep;obtain⟨rs,c,rk⟩:=jL (P:=X.prog) (w:=X.w) rel
 obtain⟨z,hd,vs0,r0,dd⟩:=uA I2.hok e
 cases r0;refine⟨rs,c,dd,fun h' dd' hs=>⟨.ref s.heap.objs.size,_,?_,rfl,q2⟩⟩
 have hz:(gY [] kvs).length≤sizeLine:=by
  have h1:=iJ kvs [];rw[List.length_nil]at h1
  rw[sizeLine_eq]; omega
 have he:∃ q,h'.get? s.heap.objs.size=some q:=let ⟨q,_,_,hq,_⟩:=dd'; ⟨q,hq⟩
 exact gb I2 (by rw[e]; exact True.intro) hs he (rn hz hd (rk.merge .nil) dd')
structure M1 (X:Cx) (o:Expr) (m:Str) (apos:Pos) (e:Expr) (cpos:Pos):Prop where
 base:attributeBase o m X.env (eval o X.env)=eval o X.env
 few:((backTo cpos (starEach [e] X.env)).all (fun x=>!x.1)&&(backToKw cpos (keywordEach [] X.env)).all (fun x=>x.1.isSome)
  && decide (([e]:List Expr).length+([]:List Keyword).length+(if ([]:List Keyword).isEmpty then 0 else 1)<30))=true
 line:(apos.endLine == cpos.line)=true
 trees:backTo cpos (starEach [e] X.env)=[(false,eval e X.env)]
structure M2 (X:Cx) (o:Expr) (m:Str) (apos:Pos) (e f:Expr) (cpos:Pos):Prop where
 base:attributeBase o m X.env (eval o X.env)=eval o X.env
 few:((backTo cpos (starEach [e,f] X.env)).all (fun x=>!x.1)&&(backToKw cpos (keywordEach [] X.env)).all (fun x=>x.1.isSome)
  && decide (([e,f]:List Expr).length+([]:List Keyword).length+(if ([]:List Keyword).isEmpty then 0 else 1)<30))=true
 line:(apos.endLine == cpos.line)=true
 trees:backTo cpos (starEach [e,f] X.env)=[(false,eval e X.env),(false,eval f X.env)]
section
variable{X:Cx}{pins:List (Addr × Obj)}{σ : St}{H:Hp}{s:Shared}{a:Addr}{y d:V}{u r:Value}{o:Option V}{A:Around}{E:Value→Shared→Prop}
end
section
variable{X:Cx}{o e f:Expr}{apos cpos:Pos}{td ty tx:TE}
end
section
variable{X:Cx}{pins:List (Addr × Obj)}{σ : St}{H:Hp}{s:Shared}{a:Addr}{kvs:List (bc × V)}{A:Around}{E:Value→Shared→Prop}
end
section
variable{X:Cx}{pins:List (Addr × Obj)}{σ : St}{H:Hp}{s:Shared}{a:Addr}{y:V}{u:Value}{A:Around}{E:Value→Shared→Prop}
end
end L2
namespace Att
open PySem PySem.W PySem.Calls PyProof.Rows
theorem jX{P:Params}{h:Heap}:∀ (ns:List Int) (vs:List Value),WellAll P h vs (ns.map WData.int)→IntsAre vs ns:=by
 intro ns
 induction ns with
 | nil=>
  intro vs w
  rw[List.map_nil]at w
  cases w;exact .nil
 | cons n ns ih=>
  intro vs w
  rw[List.map_cons]at w
  cases w with
  | cons a b=>
   cases a;exact .cons _ _ (ih _ b)
theorem rO{l:OpenLaw}{n:Nat}(hn:l.most=some n){P:Params}{h:Heap}{args:List WData}{vals:List Value}
  (hpre:l.row.toRowW.claim.pre args=true) (hwl:WellAll P h vals args) :
  ∃ a vs ns,vals=[Value.ref a]∧args=[WData.list (ns.map WData.int)]∧h.get? a=some { cls:=.type "list", data:=.seq vs.toArray }∧IntsAre vs ns∧ns.length≤n:=by
 have hsh:WShape.hasAll [] args [.list .int]=true:=(pre_splitW hpre).1
 have hc:l.pre.holds [] { args:=args }=true:=(pre_splitW hpre).2
 obtain⟨d,r,rfl,h1,h2⟩:=hasAllW_cons hsh
 obtain rfl:=hasAllW_nil h2
 obtain⟨xs,rfl,h3⟩:=hasW_list h1
 obtain⟨ns,rfl⟩:=items_int h3
 have hlen:ns.length≤n:=by
  unfold OpenLaw.pre at hc
  have h4:(WTm.not (.lt (.lit (.int (n:Int))) (.len (.arg 0)))).holds [] { args:=[.list (ns.map .int)] }=true:=by
   have h4:=(holds_andW hc).1;rw[hn]at h4
   exact h4
  have h5:=condW_of h4 (w_not (w_lt w_lit (w_len_list (w_arg rfl))));rw[List.length_map]at h5
  refine Nat.le_of_not_lt fun q=>?_
  have q':(n:Int)<((ns.length:Nat):Int):=by omega
  first
   | (rw[decide_eq_true q']at h5; exact absurd h5 (by decide))
   | (simp at h5; omega)
 cases hwl with
 | cons w1 w2=>
  cases w2
  cases w1 with
  | list ho hall=>exact⟨_,_,ns,rfl,rfl,ho,jX ns _ hall,hlen⟩
theorem qL(l:OpenLaw)(args:List WData):l.row.toRowW.claim.post args (.bool true) args=true:=
 postW_of (r:=l.row.toRowW) (X:=(true == true))
  (show WShape.has [] (.bool true) .bool=true by first | rfl | decide | simp[WShape.has,WShape.arms,WShape.armsAll])
  (show (WTm.eq .res (.lit (.bool true))).value [] { args:=args,res:=some (.bool true),after:=args }=some (.bool (true == true)) from w_eq_bool (w_res rfl) w_lit) rfl
theorem attach_call{l:OpenLaw}{n:Nat}{q:Program}{loose:List Str}{XP:(Str→Option Value)→Heap→Prop}{YP:World→Heap→Prop}{d:DefRec}
  (hn:l.most=some n) (hdf:d.params.defaults=[])
  (call:∀ (w:World) (s₀ s₁:Shared) (mg mb:Str→Option Value) (fa:Addr) (o:Obj) (pm cd doc:Value) (a:Addr) (vs:List Value) (ns:List Int),
   Ground q loose [] XP w s₀ mg mb s₁.heap→YP w s₁.heap→
   s₁.heap.get? fa=some o→o.data = .func (docDef d.name d.params d.body d.scope pm cd doc)→s₁.heap.CodeRec cd d.name→mg d.name=some (.ref fa)→
   s₁.heap.get? a=some { cls:=.type "list", data:=.seq vs.toArray }→IntsAre vs ns→ns.length≤n→s₁.gens = #[]→
   codeAny (model l.prog w) callerA (.call (.ref fa) ⟨[.ref a],[]⟩) (fun r s'=>r = .ok (.ret (.bool true))∧OldK s₁.heap s'.heap∧s'.os=s₁.os∧AllBare s'.gens) s₁) :
  WalkO q loose XP YP l.row.toRowW d [] (fun f vs=>PySem.call f vs):=by
 intro w s₀ s₁ mg mb G Y fa o pm cd doc dV kV ho hd hcd hD hmg hg args vals as hpre hlay hrd hwl hlo
 obtain rfl:dV = .none:=Dflts.none hD hdf
 obtain rfl:kV = .none:=Dflts.noKw hD
 obtain⟨a,vs,ns,rfl,rfl,hobj,hints,hlen⟩:=rO hn hpre hwl
 refine enter_call (codeAny_mono (call w s₀ s₁ mg mb fa o pm cd doc a vs ns G Y ho (fd_plain hd) hcd hmg hobj hints hlen hg) fun r s' hq=>?_)
 obtain⟨rfl,h2,h3,h4⟩:=hq
 exact⟨.inl ⟨.bool true,.bool true,[],rfl,fun _=>rfl,.bool true,qL l _,fun _=>⟨List.Pairwise.nil,fun _ hm=>(nomatch hm)⟩⟩,h2,h3,h4⟩
section
variable{prog:Program}{w:World}{A:Around}{E:Value→Shared→Prop}{s:Shared}{K:Frag}
end
end Att
namespace L2
open PySem PySem.Spec PyProof.Rows
theorem kS:∀ {vs:List Value} {ns:List Int},IntsAre vs ns→Vals (ns.map V.int) vs
 | _,_,.nil=>.nil
 | _,_,.cons n t h=>.cons ⟨t,rfl⟩ (kS h)
def r_(H:Hp):Prop:=∀ b,H b=none∨∃ o xs,H b=some (.frz o (.lst xs))
theorem sQ{P:Program}{w:World}{K:PySem.W.Frag}{mg mb:Str→Option Value}{CX:iQ}{k:Nat}{fa a:Addr}{fd:FuncData}{x:Str}{sp:Sp}{s₁:Shared}{vs:List Value}{ns:List Int}
  (KX:K.In s₁.heap) (hns:s₁.heap.Ns mainGlobals mg) (hb:s₁.heap.Ns builtinsNs mb) (hbb:∀ x:Str,x ≠ "__name__" → mb x=bootBuiltins x) (hlim:s₁.heap.NoLimit) (hg:s₁.gens = #[])
  (ha:s₁.heap.get? a=some { cls:=.type "list", data:=.seq vs.toArray }) (hi:IntsAre vs ns) (hl:ns.length≤sizeLine) (hr:Room k callerA)
  (F:∀ base:Heap,K.In base→base.Ns mainGlobals mg→gS P w K mg base CX k fa fd [x] sp) (hbind:∀ (s:Shared) (u:Value),BindsTo s fd ⟨[u],[]⟩ [(x,u)])
  (hsp:∀ H:Hp,r_ H→SqL K H a (ns.map V.int)→sp [.ref a] H (fun v _=>v = .bl true) fun _ _ _=>False)
  (hCX:∀ H e s',CX [] H s₁ (fun _ _ _=>False) e s'→False) :
  codeAny (model P w) callerA (.call (.ref fa) ⟨[.ref a],[]⟩) (fun r s'=>r = .ok (.ret (.bool true))∧OldK s₁.heap s'.heap∧s'.os=s₁.os∧AllBare s'.gens) s₁:=by
 have rv:=kS hi;have lenV:=hi.length
 -- from an abstract heap in which nothing but the script may be tracked
 have core:∀ H:Hp,r_ H→SqL K H a (ns.map V.int)→HOk P w H s₁.heap→(∀ b,H b≠none→b=a)→(H a≠none→K.lookup a=none)→
   codeAny (model P w) callerA (.call (.ref fa) ⟨[.ref a],[]⟩) (fun r s'=>r = .ok (.ret (.bool true))∧OldK s₁.heap s'.heap∧s'.os=s₁.os∧AllBare s'.gens) s₁:=by
  intro H hO hS hok hA hK
  have base_of:∀ {b:Addr} {o:Obj},s₁.heap.get? b=some o→H b=none→(iE s₁.heap H).get? b=some o:=fun e n=>tE e n
  have noA:∀ {b:Addr} {o:Obj} {es:Array DictEntry} {ep:Nat},s₁.heap.get? b=some o→o.data = .dict es ep→H b=none:=fun {b o es ep} e d=>by
   cases q:H b with
   | none=>rfl
   | some u=>
    have e':b=a:=hA b (by rw[q]; simp)
    subst e';rw[ha]at e; cases e
    have d':Data.seq vs.toArray _=Data.dict es ep:=d
    cases d'
  have nsK:∀ {b:Addr} {m:Str→Option Value},s₁.heap.Ns b m→(iE s₁.heap H).Ns b m:=fun {b m} ⟨o,es,ep,e,d,r⟩=>⟨o,es,ep,base_of e (noA e d),d,r⟩
  have hKb:K.In (iE s₁.heap H):=fun b o e=>base_of (KX b o e) (by
   cases q:H b with
   | none=>rfl
   | some u=>
    have e':b=a:=hA b (by rw[q]; simp)
    subst e';rw[hK (by rw[q]; simp)]at e; cases e)
  have hM:Mod K mg (iE s₁.heap H):=⟨hKb,nsK hns,⟨mb,nsK hb,hbb⟩,let ⟨mc,h1,h2⟩:=hlim; ⟨mc,nsK h1,h2⟩⟩
  have e0:pP P w K mg (iE s₁.heap H) callerA [] s₁ H:=⟨rfl,hM,fun b o e=>uM e,Nat.le_of_eq (rh _ _),trivial,fun b hb=>absurd (show b∈([]:List Addr) from hb) (by simp),hok,.of_eq hg⟩
  refine codeAny_mono ((F _ hKb (nsK hns)).run callerA [] s₁ H ⟨[.ref a],[]⟩ [.ref a] [.ref a] _ _ hr e0 (hbind s₁ (.ref a)) (.cons rfl .nil) (hsp H hO hS)) fun r s' h=>?_
  cases r with
  | error e=>exact(hCX H e s' h).elim
  | ok fl=>
   cases fl with
   | next=>exact False.elim h
   | brk=>exact False.elim h
   | cont=>exact False.elim h
   | ret u=>
    obtain⟨v,H',os,bare,un,hok',r',q⟩:=h
    have q':v = .bl true:=q
    subst q';obtain rfl:u=Value.bool true:=r'
    refine⟨rfl,OldK.of_keep fun b o e=>?_,os,bare⟩
    cases q:H b with
    | none=>exact un.keep b o e q (by intro z; exact absurd (show b∈([]:List Addr) from z) (by simp)) (by simp)
    | some u=>
     rcases hO b with z | ⟨ob,xs,z⟩
     ·rw[q]at z; cases z
     ·have z2:=un.frzs b ob _ z
      obtain⟨e1,_⟩:=hok b _ z
      obtain⟨e2,_⟩:=hok' b _ z2
      rw[e]at e1; cases e1
      exact e2
 cases hk:K.lookup a with
 | some o=>
  -- the script is one of the module's own objects
  have e:=KX a o hk;rw[ha]at e
  cases e;refine core (fun _=>none) (fun _=>.inl rfl) (.inr ⟨_,vs.toArray,_,hk,rfl,rfl,rfl,by rw[List.size_toArray,lenV]; exact hl,by simpa using rv⟩) (fun b u z=>by have z':(none:Option HO)=some u:=z; cases z') (fun b z=>absurd rfl z) fun z=>absurd rfl z
 | none=>
  refine core (fun b=>if b=a then some (.frz { cls:=.type "list", data:=.seq vs.toArray } (.lst (ns.map V.int))) else none) (fun b=>?_) (.inl (.inr ⟨{ cls:=.type "list", data:=.seq vs.toArray },if_pos rfl⟩)) (fun b u z=>?_) (fun b z=>?_) fun _=>hk
  ·by_cases hb:b=a
   ·exact .inr ⟨_,_,if_pos hb⟩
   ·exact .inl (if_neg hb)
  ·by_cases hb:b=a
   ·have z':=(if_pos hb).symm.trans z
    cases z';subst hb;exact⟨ha,by rw[List.length_map]; exact hl,vs,_,rv,ha⟩
   ·have z':=(if_neg hb).symm.trans z
    cases z'
  ·by_cases hb:b=a
   ·exact hb
   ·exact absurd (if_neg hb) z
end L2
namespace L2
open PySem PySem.Spec PyProof.Rows
abbrev KOf {K:PySem.W.Frag} {h:Heap} (_:K.In h):PySem.W.Frag:=K
theorem walk_of{l:PySem.W.OpenLaw}{n k:Nat}{q:Program}{loose:List Str}{XP:(Str→Option Value)→Heap→Prop}{YP:World→Heap→Prop}{d:DefRec}{K:Params→PySem.W.Frag}{CX:World→iQ}{sp:World→Sp}{x:Str}
  (hn:l.most=some n) (hn2:n≤sizeLine) (hdf:d.params.defaults=[]) (hr:Room k callerA)
  (hY:∀ (w:World) (h:Heap),YP w h→(K w.params).In h)
  (F:∀ (w:World) (mg:Str→Option Value) (fa:Addr) (h:Heap),(K w.params).In h→h.Ns mainGlobals mg→mg d.name=some (.ref fa)→
   ∃ fd:FuncData,(∀ (s:Shared) (u:Value),BindsTo s fd ⟨[u],[]⟩ [(x,u)])∧
    ∀ base:Heap,(K w.params).In base→base.Ns mainGlobals mg→gS l.prog w (K w.params) mg base (CX w) k fa fd [x] (sp w))
  (hsp:∀ (w:World) (H:Hp) (a:Addr) (ns:List Int),ns.length≤n→r_ H→SqL (K w.params) H a (ns.map V.int)→sp w [.ref a] H (fun v _=>v = .bl true) fun _ _ _=>False)
  (hCX:∀ (w:World) (H:Hp) (s:Shared) (e:Value) (s':Shared),CX w [] H s (fun _ _ _=>False) e s'→False) :
  PySem.W.WalkO q loose XP YP l.row.toRowW d [] (fun f vs=>PySem.call f vs):=by
 refine Att.attach_call hn hdf fun w s₀ s₁ mg mb fa o pm cd doc a vs ns G Y ho hd hcd hmg hobj hints hlen hg=>?_
 have KX:=hY w _ Y;obtain⟨fd,hb,hF⟩:=F w mg fa _ KX G.T.g hmg
 exact sQ KX G.T.g G.T.b G.T.builtins G.T.nolimit hg hobj hints (Nat.le_trans hlen hn2) hr hF hb (fun H hO hS=>hsp w H a ns hlen hO hS) fun H e s'=>hCX w H s₁ e s'
end L2
/- THE LAST THEOREM (shape; LID, My.* are yours):
   My.Adr: a structure of the addresses that your layer names (classes,functions); My.Txt K t: a structure (Prop) of the equations over K;
   My.txt_mk:{K} {implicit addresses ..} (e1:nsIn K mainGlobals "law" = some (some (.ref f))) (e2:K.lookup f=some ⟨oc,od,.func (fnOf "law" "law" params body scope dV kV doc pm an cdv ct),sl⟩) (e3:codeIn K cdv "law" = true) .. : ∃ t,My.Txt K t
set_option maxRecDepth 100000 in
set_option maxHeartbeats 0 in
theorem PySem.Challenge.cw_LID_holds : PySem.Challenge.rw_LID.Holds := by
 w_on; o_law; k_head; (case hw=>w_witness2)
 k_fill
 refine L2.walk_of (l:=PySem.Challenge.rw_LID) (n:=63) (k:=40) (x := "script") (CX:=fun w=>..) (sp:=fun _=>My.sp_law) rfl (by decide) rfl ⟨rfl,by decide,by decide⟩ (fun w h Y=>PySem.W.kIn_of Y) ?F ?S ?C
 case F=>
  intro w mg fa h KX G hmg
  have T:∃ t,My.Txt (L2.KOf KX) t:=by
   dsimp only[L2.KOf]                          -- K must stand as «<heap const> w.params» for k_is
   refine' My.txt_mk ?e1 ?e2 ?e3 ..
   (case e1=>PySem.W.k_is)                    -- in the order: a name -> its address -> its object -> its parts
   (case e2=>PySem.W.k_is)
   ..
  obtain⟨t,T⟩:=T
  have e0:=hmg.symm.trans (PySem.W.mg_of KX G T.law)
  cases e0                                       -- fa is the law's own address
  exact⟨_,fun s u=>.of_eq rfl,fun base kb nb=>My.law_fn T kb nb⟩     -- if «.of_eq rfl» comes too early: refine' ⟨_,?b,fun base kb nb=>My.law_fn T kb nb⟩; exact fun s u=>.of_eq rfl
 case S=>exact fun w H a ns hl hO hS=>..
 case C=>exact ..
(the tactic k_is has no namespace: write k_is) -/
namespace L2
open PySem PySem.Spec PyProof.Rows
abbrev jK:iQ:=fun _ _ _ _ _ _=>False
abbrev E0:XK:=fun _ _ _=>False
theorem xW{X:Cx}:lM jK X E0:=fun _ _ _ _ _ _ _ h=>h.elim
structure Fun (K:PySem.W.Frag) (x qual:Str) (st:Stmt) (f:Addr) (fd:FuncData):Prop where
 ex:∃ (oc:Value) (od:Option Addr) (kV doc pm:Value) (an:Option Addr) (cdv ct:Value) (osl:Array (Option Value)),
  fd=PySem.W.fnOf x qual (defArgs st) (defBody st) (defScope st) .none kV doc pm an cdv ct∧K.lookup f=some ⟨oc,od,.func fd,osl⟩∧PySem.W.codeIn K cdv qual=true
 kp:PySem.W.keepIn K (.ref f)=true
section
variable{P:Program}{w:World}{K:PySem.W.Frag}{mg:Str→Option Value}{base:Heap}
theorem Fun.ok{x qual:Str}{st:Stmt}{f:Addr}{fd:FuncData}{N ps:List Str}{k:Nat}{sp:Sp}(F:Fun K x qual st f fd)(S:bf N ps (defScope st))(len:∀ vs H Q E,sp vs H Q E→vs.length=ps.length)
  (hbody:∀ (cdv:Value) (A:Around) (outer:List Env) (s:Shared) (H:Hp) (vs:List V) (Q:VK) (E:XK),Room k (A.deeper (envOfC qual (defScope st) s.heap.objs.size f cdv))→sp vs H Q E→
   ∃ t,PSs (jC jK P w K mg base N qual (defScope st) f cdv A outer s H E).nox (defBody st) t∧t { nx:=fun _ H'=>Q .non H',rt:=Q } (start N vs) H):gS P w K mg base jK (k+1) f fd ps sp:=by
 obtain⟨oc,od,kV,doc,pm,an,cdv,ct,osl,rfl,lk,hcd⟩:=F.ex
 refine xV lk hcd S len fun A outer s H vs Q E hr hsp=>?_
 obtain⟨t,h,q⟩:=hbody cdv A outer s H vs Q E hr hsp
 exact⟨t,h.nox,q⟩
theorem Fun.binds{x qual:Str}{st:Stmt}{f:Addr}{fd:FuncData}{ps:List Str}(F:Fun K x qual st f fd)
  (h:∀ (kV doc pm:Value) (an:Option Addr) (cdv ct:Value) (us:List Value),us.length=ps.length→bindArgs (PySem.W.fnOf x qual (defArgs st) (defBody st) (defScope st) .none kV doc pm an cdv ct) ⟨us,[]⟩=pure (ps.zip us)):Binds K fd ps []:=by
 obtain⟨oc,od,kV,doc,pm,an,cdv,ct,osl,rfl,lk,hcd⟩:=F.ex
 exact .all (h kV doc pm an cdv ct)
theorem bB{x qual:Str}{st:Stmt}{f:Addr}{oc:Value}{od an:Option Addr}{osl:Array (Option Value)}{kV doc pm cdv ct:Value}(l:K.lookup f=some ⟨oc,od,.func (PySem.W.fnOf x qual (defArgs st) (defBody st) (defScope st) .none kV doc pm an cdv ct),osl⟩)
  (c:PySem.W.codeIn K cdv qual=true) (k:PySem.W.keepIn K (.ref f)=true):Fun K x qual st f (PySem.W.fnOf x qual (defArgs st) (defBody st) (defScope st) .none kV doc pm an cdv ct):=⟨⟨oc,od,kV,doc,pm,an,cdv,ct,osl,rfl,l,c⟩,k⟩
end
section
variable{X:Cx}
theorem pv(i:Nat){x:Str}{pos:Pos}(hN:X.N[i]? = some x:=by rfl)(hv:az X.env.scope x:=by first | exact vSs (by decide +kernel) | exact Or.inl rfl)(hd:(x == ("__debug__" : Str))=false:=by decide)
  (hcd:(x == ("__classdict__" : Str))=false:=by decide):PE X (.Name x pos) (rV i):=v0 hN hv hd hcd
end
theorem bp{c A B:Prop}[Decidable c](h1:c→A)(h2:¬ c→B):if c then A else B:=by
 by_cases h:c
 ·rw[if_pos h]
  exact h1 h
 ·rw[if_neg h]
  exact h2 h
def Same(H H':Hp):Prop:=∀ b o,H b=some o→H' b=some o
theorem Same.refl(H:Hp):Same H H:=fun _ _ h=>h
theorem Same.trans{H H1 H2:Hp}(a:Same H H1)(b:Same H1 H2):Same H H2:=fun c o h=>b c o (a c o h)
theorem Same.free{H H':Hp}(e:Same H H'){l:Addr}(h:H' l=Option.none):H l=Option.none:=by
 cases q:H l with
 | none=>rfl
 | some o=>
  rw[e l o q]at h
  cases h
theorem Same.seq{K:PySem.W.Frag}{H H':Hp}{a:Addr}{xs:List V}(e:Same H H')(h:SqL K H a xs):SqL K H' a xs:=by
 rcases h with (h | ⟨o,h⟩) | h
 ·exact .inl (.inl (e _ _ h))
 ·exact .inl (.inr ⟨o,e _ _ h⟩)
 ·exact .inr h
section
variable{κ : Type}[DecidableEq κ]
end
end L2
namespace L2
open PySem PySem.Spec PyProof.Rows
def bS(cells:List (Str × Addr)):List (Str × NameKind)→List (Str × Addr)→List (Str × Addr)
 | [],acc=>acc
 | (n,k)::r,acc=>bS cells r (if k == .free then (n,(cells.lookup n).getD 0)::acc else acc)
theorem lH{env:Env}{f:(Str × NameKind)→List (Str × Addr)→Sem (ForInStep (List (Str × Addr)))}
  (hf:∀ n k cs,f (n,k) cs=if (k == NameKind.free)=true then (cellOf env n >>= fun c=>pure (ForInStep.yield ((n,c)::cs))) else pure (ForInStep.yield cs)) :
  ∀ (names:List (Str × NameKind)) (acc:List (Str × Addr)),(∀ x∈names,x.2 = .free→∃ c,env.cells.lookup x.1=some c)→
  forIn names acc f=(pure (bS env.cells names acc):Sem _)
 | [],acc,_=>rfl
 | (n,k)::r,acc,h=>by
  rw[List.forIn_cons,hf];have ih:=fun acc=>lH hf r acc fun x hx=>h x (List.mem_cons_of_mem _ hx)
  by_cases hk:(k == NameKind.free)=true
  ·rw[if_pos hk]
   obtain⟨c,hc⟩:=h (n,k) List.mem_cons_self (by simpa using hk)
   have e:cellOf env n=pure c:=by unfold cellOf; rw[hc]
   rw[e,pure_bind,pure_bind];show forIn r ((n,c)::acc) f=_
   rw[ih];show _=pure (bS env.cells r (if (k == NameKind.free)=true then (n,(env.cells.lookup n).getD 0)::acc else acc))
   rw[if_pos hk,hc]; rfl
  ·rw[if_neg hk,pure_bind]
   show forIn r acc f=_
   rw[ih];show _=pure (bS env.cells r (if (k == NameKind.free)=true then (n,(env.cells.lookup n).getD 0)::acc else acc))
   rw[if_neg hk]
theorem fB{env:Env}{scope:Scope}(h:∀ x∈scope.names,x.2 = .free→∃ c,env.cells.lookup x.1=some c):closureFor scope env=pure (bS env.cells scope.names []):=by
 unfold closureFor;show (forIn scope.names ([]:List (Str × Addr)) _ >>= fun cs=>pure cs)=_
 rw[lH (env:=env) (fun n k cs=>?_) _ _ h]
 ·rfl
 ·rfl
theorem gQ{cells:List (Str × Addr)}:∀ {names:List (Str × NameKind)} {acc:List (Str × Addr)} {x:Str} {c:Addr},(∀ y∈names,y.2 = .free→∃ c,cells.lookup y.1=some c)→
  (∀ y c,acc.lookup y=some c→cells.lookup y=some c)→(bS cells names acc).lookup x=some c→cells.lookup x=some c
 | [],acc,x,c,_,ha,h=>ha x c h
 | (n,k)::r,acc,x,c,hn,ha,h=>by
  refine gQ (names:=r) (fun y hy=>hn y (List.mem_cons_of_mem _ hy)) ?_ h
  intro y d hy
  by_cases hk:(k == NameKind.free)=true
  ·rw[if_pos hk]at hy
   obtain⟨e,he⟩:=hn (n,k) List.mem_cons_self (by simpa using hk)
   have he':cells.lookup n=some e:=he
   rw[List.lookup_cons]at hy
   by_cases hyn:(y == n)=true
   ·rw[hyn]at hy
    have hy':(cells.lookup n).getD 0=d:=Option.some.inj hy
    rw[he']at hy'
    have e1:y=n:=by simpa using hyn
    rw[e1,he',← hy']; rfl
   ·have hf:(y == n)=false:=by simpa using hyn
    rw[hf]at hy
    exact ha y d hy
  ·rw[if_neg hk]at hy
   exact ha y d hy
theorem jW{cells:List (Str × Addr)}:∀ {names:List (Str × NameKind)} {acc:List (Str × Addr)} {x:Str},(∃ c,acc.lookup x=some c)→∃ c,(bS cells names acc).lookup x=some c
 | [],_,_,h=>h
 | (n,k)::r,acc,x,h=>by
  refine jW (names:=r) ?_
  by_cases hk:(k == NameKind.free)=true
  ·rw[if_pos hk,List.lookup_cons]
   cases hx:(x == n) with
   | true=>exact⟨_,rfl⟩
   | false=>exact h
  ·rw[if_neg hk]; exact h
theorem dU{cells:List (Str × Addr)}:∀ {names:List (Str × NameKind)} {acc:List (Str × Addr)} {x:Str},(x,NameKind.free)∈names→∃ c,(bS cells names acc).lookup x=some c
 | (n,k)::r,acc,x,h=>by
  rcases List.mem_cons.mp h with e | h
  ·have e1:x=n:=congrArg (·.1) e
   have e2:NameKind.free=k:=congrArg (·.2) e
   subst e1 e2;refine jW (names:=r) ?_
   rw[if_pos (by rfl),List.lookup_cons]
   rw[beq_self_eq_true];exact⟨_,rfl⟩
  ·exact dU (names:=r) h
theorem cR{env:Env}:∀ {names:List (Str × NameKind)} {x:Str} {k:NameKind},(∀ y∈names,y.2 ≠ .cell)→
  (names.map fun (n,k)=>if (k == NameKind.free&&env.scope.kind == .function&&env.kindOf n == some .cell) then (n,NameKind.cell) else (n,k)).lookup x=some k→(k = .cell∨k = .free)→(x,NameKind.free)∈names
 | [],_,_,_,h,_=>by simp at h
 | (n,k0)::r,x,k,hc,h,hk=>by
  have ih:=@cR env r x k (fun y hy=>hc y (List.mem_cons_of_mem _ hy))
  rw[List.map_cons]at h
  by_cases hf:(k0 == NameKind.free&&env.scope.kind == .function&&env.kindOf n == some .cell)=true
  ·have hk0:k0 = .free:=by
    have:(k0 == NameKind.free)=true:=by
     rw[Bool.and_eq_true,Bool.and_eq_true]at hf; exact hf.1.1
    simpa using this
   dsimp only at h
   rw[if_pos hf,List.lookup_cons]at h
   cases hx:(x == n) with
   | true=>
    have:x=n:=by simpa using hx
    rw[this,hk0]; exact List.mem_cons_self
   | false=>rw[hx]at h; exact List.mem_cons_of_mem _ (ih h hk)
  ·dsimp only at h
   rw[if_neg hf,List.lookup_cons]at h
   cases hx:(x == n) with
   | true=>
    rw[hx]at h
    have e:k0=k:=Option.some.inj h
    have:x=n:=by simpa using hx
    rcases hk with z | z
    ·exact absurd (e.trans z) (hc (n,k0) List.mem_cons_self)
    ·rw[this,e,z]; exact List.mem_cons_self
   | false=>rw[hx]at h; exact List.mem_cons_of_mem _ (ih h hk)
def bw(X:Cx)(N0 T:List Str)(scope:Scope)(C:Addr)(fp:List Addr)(s:Shared)(H:Hp):Cx:=
 { X with N:=N0++T,s₀:=s,H₀:=H,env:=compEnvC scope (bS X.env.cells scope.names []) C X.env,outer:=X.stack,stack:=X.stack,ex:=fp,fn:=fun _=>false,pn:=[],xe:=fun _ _=>False }
structure gM (X:Cx) (N0 T:List Str) (scope:Scope):Prop where
 kind:scope.kind = .function
 nocell:∀ y∈scope.names,y.2 ≠ .cell
 names:∀ y∈scope.names,y.2 = .local→scope.names.lookup y.1=some .local
 free:∀ y∈scope.names,y.2 = .free→X.env.kindOf y.1=some .cell∨X.env.kindOf y.1=some .free
 apart:∀ y∈scope.names,y.2 = .local→y.1∉N0
 len0:N0.length=X.N.length
 same:∀ (i:Nat) (x:Str) (k:NameKind),N0[i]? = some x→(x,k)∈scope.names→X.N[i]? = some x
theorem ef{prog:Program}{w:World}{A:Around}{R:Result→Shared→Prop}{s:Shared}{elt target iter:Expr}{ifs:List Expr}{scope:Scope}{pos:Pos}{it acc:Value}{env:Env}(I:Nat→Shared→Prop)
  (turn:∀ n s,I n s→wpAny (model prog w) A (pyNext it) (fun r s₁=>match r with
   | none=>R (.ok .next) s₁
   | some v=>wpAny (model prog w) A (letOwnedTupleGo target it v) (fun _ s₀=>wpAny (model prog w) A (assign target env v) (fun _ s₂=>
     wpAny (model prog w) A (forIn ifs true fun c r=>if r=true then do let ok ← isTrue c env (eval c env); pure (ForInStep.yield ok) else pure (ForInStep.yield r)) (fun ok s₃=>
      if ok=true then wpAny (model prog w) A (eval elt env) (fun x s₄=>
       wpAny (model prog w) A (call (.builtin "list.append") [acc,x]) (fun _ s₅=>∃ m,m<n∧I m s₅) (fun _ _=>False) s₄) (fun _ _=>False) s₃
      else ∃ m,m<n∧I m s₃) (fun _ _=>False) s₂) (fun _ _=>False) s₀) (fun _ _=>False) s₁) (fun _ _=>False) s)
  (n:Nat) (h:I n s) :
  codeAny (model prog w) A (.compLoop (.ListComp elt [⟨target,iter,ifs,0⟩] scope pos) 0 it acc env) R s:=by
 refine codeAny_loop rfl I (fun n s hI=>?_) n h
 show wpAny _ A ((compTurn (.ListComp elt [⟨target,iter,ifs,0⟩] scope pos) 0 it acc env).onRaise (fun x=>do noteFrame x env; theTreesLotGoes x)) _ _ s
 refine wpAny_noted ?_
 rw[compTurn_list];refine wpAny_bind (wpAny_standAt (wpAny_bind (wpAny_mono (turn n s hI) (fun r s₁ h₁=>?_) fun _ _ h'=>h'.elim)))
 cases r with
 | none=>exact wpAny_pure h₁
 | some v=>
  refine wpAny_bind (wpAny_mono h₁ (fun _ s₀ h₀=>?_) fun _ _ h'=>h'.elim)
  refine wpAny_bind (wpAny_mono h₀ (fun _ s₂ h₂=>wpAny_bind (wpAny_mono h₂ (fun ok s₃ h₃=>?_) fun _ _ h'=>h'.elim)) fun _ _ h'=>h'.elim)
  cases ok with
  | false=>exact wpAny_pure ⟨rfl,h₃⟩
  | true=>
   exact wpAny_bind (wpAny_bind (wpAny_mono h₃ (fun x s₄ h₄=>wpAny_bind (wpAny_mono h₄ (fun _ s₅ h₅=>wpAny_pure (wpAny_pure ⟨rfl,h₅⟩)) fun _ _ h'=>h'.elim)) fun _ _ h'=>h'.elim))
def PIfs(X:Cx)(ifs:List Expr)(tc:TT):Prop:=
 ∀ (pins:List (Addr × Obj)) (s:Shared) (σ : St) (H:Hp) (Q:Bool→Hp→Prop),Inv X pins σ H s→tc σ H Q→
  wpAny (model X.prog X.w) X.A (forIn ifs true fun c r=>if r=true then do let ok ← isTrue c X.env (eval c X.env); pure (ForInStep.yield ok) else pure (ForInStep.yield r)) (TP X pins σ Q) X.xe s
def jE:TT:=fun _ H Q=>Q true H
theorem cm{X:Cx}:PIfs X [] jE:=fun _ _ _ H _ I h=>wpAny_tests_nil ⟨H,I,h⟩
theorem l_{X:Cx}{c:Expr}{tc:TT}(hc:PT X c tc):PIfs X [c] tc:=fun pins s σ H Q I h=>wpAny_tests_one (hc pins s σ H Q I h)
def kQ(g:TG)(n:Nat):Prop:=∀ x σ H Q,g x σ H Q→g x σ H fun σ' H'=>Q σ' H'∧σ'.length=σ.length∧∀ k,k<n→σ'[k]? = σ[k]?
def oI(g:gH)(n:Nat):Prop:=∀ x σ H Q,g x σ H Q→g x σ H fun σ' H'=>Q σ' H'∧σ'.length=σ.length∧∀ k,k<n→σ'[k]? = σ[k]?
theorem bU{i n:Nat}(h:n≤i):kQ (fI i) n:=fun x σ H Q q=>⟨q,by simp,fun k hk=>by rw[List.getElem?_set_ne (by omega)]⟩
theorem t6{n:Nat}:oI pQ n:=fun x σ H Q q=>⟨q.1,q.2,rfl,fun _ _=>rfl⟩
def pJ(g:TG):Prop:=∀ x σ H Q Q',(∀ σ' H',Q σ' H'→Q' σ' H')→g x σ H Q→g x σ H Q'
def jV(g:gH):Prop:=∀ x σ H Q Q',(∀ σ' H',Q σ' H'→Q' σ' H')→g x σ H Q→g x σ H Q'
theorem km{i:Nat}:pJ (fI i):=fun x σ H Q Q' h q=>h _ _ q
theorem nR:jV pQ:=fun x σ H Q Q' h q=>⟨q.1,h _ _ q.2⟩
theorem sR{t:TG}{u:gH}(h1:pJ t)(h2:jV u):jV (lz t u):=fun x σ H Q Q' h ⟨v,r,e,q⟩=>⟨v,r,e,h1 _ _ _ _ _ (fun σ' H' z=>h2 _ _ _ _ _ h z) q⟩
theorem kN{t:TG}{u:gH}{n:Nat}(h1:kQ t n)(m1:pJ t)(h2:oI u n)(m2:jV u):oI (lz t u) n:=fun x σ H Q ⟨v,r,e,q⟩=>by
 refine⟨v,r,e,?_⟩
 refine m1 _ _ _ _ _ (fun σ' H' z=>?_) (h1 _ _ _ _ q)
 obtain⟨z,l1,k1⟩:=z
 exact m2 _ _ _ _ _ (fun σ2 H2 y=>⟨y.1,y.2.1.trans l1,fun k hk=>(y.2.2 k hk).trans (k1 k hk)⟩) (h2 _ _ _ _ z)
theorem uO{K:PySem.W.Frag}{m n:Nat}{t:gH}(h:oI t n):kQ (oX K m t) n:=fun x σ H Q ⟨a,xs,e,q,l,z⟩=>⟨a,xs,e,q,l,h _ _ _ _ z⟩
def dW(J:It)(g:TG)(tc:TT)(te:TE)(nT:Nat)(σ : St)(D:Addr)(Q:VK)(H:Hp):Prop:=
 ∃ W:Nat→Nat→List V→Hp→Prop,(∃ m,W 0 m [] H)∧∀ i m ys H2,W i m ys H2→
  (J.stop i H2∧Q (.ref D) H2)∨(J.go i H2∧∀ x H',J.yld i H2 x H'→g x (σ++List.replicate nT none) H' fun σ2 H3=>tc σ2 H3 fun b H4=>
   if b=true then te σ2 H4 fun y H5=>H5 D=some (.lst ys)∧ys.length<sizeLine∧∃ m',m'<m∧W (i+1) m' (ys++[y]) (upd H5 D (.lst (ys++[y]))) else ∃ m',m'<m∧W (i+1) m' ys H4)
def lD(wi:TI)(g:TG)(tc:TT)(te:TE)(nT:Nat):TE:=fun σ H Q=>wi σ H fun J H1=>∀ D,H1 D=none→dW J g tc te nT σ D Q (upd H1 D (.lst []))
theorem HOk.sameBut{P:Program}{w:World}{H:Hp}{h h':Heap}{C:Addr}(x:HOk P w H h)(hs:Heap.SameBut C h h')(hC:H C=none):HOk P w H h':=fun a o e=>
 (x a o e).stay (fun b u hb q=>(hs.2 b (by
  rintro rfl
  rcases hb with z | z
  ·rw[z]at hC; rw[hC]at e; cases e
  ·rw[hC]at z; cases z)).trans q) (fun _ q=>q) fun _ _ q=>q
section
variable{X:Cx}{N0 T:List Str}{scope:Scope}{tg elt iter:Expr}{ifs:List Expr}{pos:Pos}{wi:TI}{g:TG}{tc:TT}{te:TE}
theorem kY{pins:List (Addr × Obj)}{σ : St}{H:Hp}{s:Shared}{E:Value→Shared→Prop}{it:Addr}{fp:List Addr}{tn:Nat→Heap→Prop}{J:It}{Q:VK}{RR:Value→Addr→Result→Shared→Prop}
  (S:gM X N0 T scope) (hc:X.calm=true)
  (hg:∀ C fp s H,PG (bw X N0 T scope C fp s H) tg g) (hfr:kQ g X.N.length) (hi:∀ C fp s H,PIfs (bw X N0 T scope C fp s H) ifs tc) (he:∀ C fp s H,PE (bw X N0 T scope C fp s H) elt te)
  (I:Inv X pins σ H s) (Tn:kr X.prog X.w X.K tg J fp it tn) (st:tn 0 s.heap) (hf:∀ b∈fp,fv X pins H b)
  (h:∀ D,H D=none→dW J g tc te T.length σ D Q (upd H D (.lst [])))
  (hRR:∀ D C s' H' m,s'.heap.Ns C m→H' C=none→C≠X.env.locals→(∀ x c,X.env.cells.lookup x=some c→c≠C)→(∀ p∈X.pn++pins,p.1≠C)→X.s₀.heap.objs.size≤C→Inv X pins σ H' s'→
   (∀ h',Heap.SameBut C s'.heap h'→Inv X pins σ H' { s' with heap:=h' })→Q (.ref D) H'→RR (.ref D) C (.ok .next) s') :
  wpAny (model X.prog X.w) X.A (newList []) (fun acc s₃=>wpAny (model X.prog X.w) X.A (newFunctionEnv scope X.env.globals (bS X.env.cells scope.names []) [] X.env.qual none .none (some X.env)) (fun cenv s₄=>
   codeAny (model X.prog X.w) X.A (.compStart (.ListComp elt [⟨tg,iter,ifs,0⟩] scope pos) 0 (.ref it) acc { cenv with scope:=relabel scope X.env }) (RR acc cenv.locals) s₄) E s₃) E s:=by
 refine wpAny_newObj_type (wpAny_newFunctionEnv S.nocell (by intro y hy; simp at hy) (fun h₁ hns₁ hsb₁=>?_) S.kind)
 dsimp only at hns₁ hsb₁ ⊢
 generalize hH2:s.heap.push { cls:=.type "list", dict:=none,data:=.seq ([]:List Value).toArray }=P2 at hns₁ hsb₁ ⊢;have hC:P2.objs.size=s.heap.objs.size+1:=by rw[← hH2,Heap.size_push]
 -- the new list D, the block's names C
 obtain⟨D,hD⟩ : ∃ D:Nat,D=s.heap.objs.size:=⟨_,rfl⟩
 obtain⟨C,hCC⟩ : ∃ C:Nat,C=P2.objs.size:=⟨_,rfl⟩
 rw[← hCC]at hns₁ hsb₁ hC ⊢
 rw[← hD]at hC ⊢
 have hDC:D≠C:=by omega
 have hDlt:D<C:=by omega
 have neD:∀ b o,s.heap.get? b=some o→b≠D:=fun b o e=>hD ▸ Nat.ne_of_lt (Heap.lt_size e)
 have neC:∀ b o,s.heap.get? b=some o→b≠C:=fun b o e=>Nat.ne_of_lt (Nat.lt_trans (hD ▸ Heap.lt_size e) hDlt)
 have old:∀ b o,s.heap.get? b=some o→h₁.get? b=some o:=fun b o e=>hsb₁.extBut b o (neC b o e) (Heap.get?_push_of_some _ (hH2 ▸ Heap.get?_push_of_some _ e))
 have hHD:H D=none:=I.hok.fresh (by omega)
 have hHC:H C=none:=I.hok.fresh (by omega)
 have dat:h₁.get? D=some { cls:=.type "list", data:=.seq ([]:List Value).toArray 0 }:=by
  refine hsb₁.extBut _ _ hDC (Heap.get?_push_of_some _ ?_)
  rw[← hH2,hD];exact Heap.get?_push_size _ rfl
 -- the block's context stands
 have hcl:∀ x c,(bS X.env.cells scope.names []).lookup x=some c→X.env.cells.lookup x=some c:=fun x c e=>
  gQ (fun y hy hk=>I.ok.has y.1 (S.free y hy hk)) (fun y c z=>by simp at z) e
 have okC:(bw X N0 T scope C fp s H).Ok:=by
  refine⟨I.ok.mod,?_,I.ok.glob,I.ok.blt,?_,fun x y c e1 e2=>I.ok.inj x y c (hcl x c e1) (hcl y c e2),fun x hx=>?_,fun x c z _=>(by cases z),I.ok.hd,I.ok.frames,.inl rfl,fun b hb=>⟨?_,fun x c e=>(hf b hb).2.2.2.2.1 x c (hcl x c e)⟩,
   I.bs,?_,fun b o e hb=>?_,fun b hb z=>?_,I.stack,I.stkFree⟩
  ·show (relabel scope X.env).kind = .function
   exact S.kind
  ·show s.heap.objs.size≤C
   omega
  ·have hx':(relabel scope X.env).names.lookup x=some .cell∨(relabel scope X.env).names.lookup x=some .free:=hx
   have m:(x,NameKind.free)∈scope.names:=by
    rcases hx' with z | z
    ·exact cR S.nocell z (.inl rfl)
    ·exact cR S.nocell z (.inr rfl)
   exact dU m
  ·show b≠C
   obtain⟨o,e,_⟩:=Tn.obj 0 _ st b hb
   exact neC b o e
  ·exact Nat.le_trans I.ok.bsz I.sz
  ·obtain⟨_,_,_,z,_⟩:=hf b hb
   rcases z with z | z
   ·exact I.ok.noex b o e z
   ·exact absurd (Nat.lt_of_lt_of_le (Nat.lt_of_lt_of_le (Heap.lt_size e) I.ok.bsz) z) (Nat.lt_irrefl _)
  ·obtain⟨_,z1,z2,_⟩:=hf b hb
   rcases List.mem_cons.mp (I.stkSub b z) with q | q
   ·exact z1 q
   ·exact z2 q
 have I1:Inv (bw X N0 T scope C fp s H) [] (σ++List.replicate T.length none) (upd H D (.lst [])) { s with heap:=h₁,toks:=s.toks+([]:List (Str × Value)).length }:=by
  refine⟨okC,rfl,I.bare,Un.laid (h:=s.heap) old (by omega) hHD,⟨_,hns₁,fun i x v e1 e2 e3=>?_⟩,fun x c e=>?_,?_,fun x c e=>?_,fun p hp=>(by simp[bw]at hp),I.hok.laid old (by omega) ?_,?_⟩
  ·have e1':(N0++T)[i]? = some x:=e1
   have hl:=I.len;have hl0:=S.len0
   have hi:i<σ.length:=by
    rcases Nat.lt_or_ge i σ.length with z | z
    ·exact z
    ·rw[List.getElem?_append_right z]at e2
     rw[List.getElem?_replicate]at e2
     split at e2 <;> cases e2
   rw[List.getElem?_append_left hi]at e2
   rw[List.getElem?_append_left (by omega)]at e1'
   have hxN:x∈N0:=List.mem_of_getElem? e1'
   have e3':(relabel scope X.env).names.lookup x=some .local∨(relabel scope X.env).names.lookup x=some .cell∨(relabel scope X.env).names.lookup x=some .free:=e3
   have fr:(relabel scope X.env).names.lookup x=some .cell∨(relabel scope X.env).names.lookup x=some .free:=by
    rcases e3' with z | z | z
    ·exfalso
     -- a local of the block is no tracked name
     have key:∀ (names:List (Str × NameKind)),(names.map fun (n,k)=>if (k == NameKind.free&&X.env.scope.kind == .function&&X.env.kindOf n == some .cell) then (n,NameKind.cell) else (n,k)).lookup x=some .local→(x,NameKind.local)∈names:=by
      intro names
      induction names with
      | nil=>intro z; simp at z
      | cons y r ih=>
       obtain⟨n,k⟩:=y
       intro z
       rw[List.map_cons]at z
       dsimp only at z
       by_cases hfk:(k == NameKind.free&&X.env.scope.kind == .function&&X.env.kindOf n == some .cell)=true
       ·rw[if_pos hfk,List.lookup_cons]at z
        cases hx:(x == n) with
        | true=>rw[hx]at z; cases z
        | false=>rw[hx]at z; exact List.mem_cons_of_mem _ (ih z)
       ·rw[if_neg hfk,List.lookup_cons]at z
        cases hx:(x == n) with
        | true=>
         rw[hx]at z
         have ek:k = .local:=Option.some.inj z
         have en:x=n:=by simpa using hx
         rw[ek,en]; exact List.mem_cons_self
        | false=>rw[hx]at z; exact List.mem_cons_of_mem _ (ih z)
     exact S.apart (x,.local) (key _ z) rfl hxN
    ·exact .inl z
    ·exact .inr z
   have m:(x,NameKind.free)∈scope.names:=by
    rcases fr with z | z
    ·exact cR S.nocell z (.inl rfl)
    ·exact cR S.nocell z (.inr rfl)
   have kX:=S.free _ m rfl;obtain⟨mm,hn,hl'⟩:=I.loc
   obtain⟨u,r,lk⟩:=hl' i x v (S.same i x _ e1' m) e2 (.inr kX)
   refine⟨u,r,.inr ⟨fr,?_⟩⟩
   rcases lk with ⟨z,_⟩ | ⟨_,c,ec,cc⟩
   ·rcases kX with q | q
    ·rw[q]at z; cases z
    ·rw[q]at z; cases z
   ·obtain⟨c',ec'⟩:=dU (cells:=X.env.cells) (acc:=[]) m
    have:=hcl x c' ec'
    rw[ec]at this; cases this
    exact⟨c,ec',cc.keeps old⟩
  ·obtain⟨v,z⟩:=I.cell x c (hcl x c e)
   exact⟨v,z.keeps old⟩
  ·show upd H D (.lst []) C=none
   rw[am (Ne.symm hDC)]; exact hHC
  ·have q:=I.freeC x c (hcl x c e)
   obtain⟨v,o,z,_⟩:=I.cell x c (hcl x c e)
   rw[am (neD c o z)]; exact q
  ·exact⟨Nat.zero_le _,[],0,.nil,dat⟩
  ·show (σ++List.replicate T.length none).length=(N0++T).length
   rw[List.length_append,List.length_append,List.length_replicate,I.len,S.len0]
 have st1:tn 0 h₁:=Tn.keep _ _ _ st fun b _ o e=>old b o e
 have fp1:∀ {H':Hp},(∀ b∈fp,H' b=none)→∀ b∈fp,fv (bw X N0 T scope C fp s H) [] H' b:=fun hn b hb=>
  ⟨hn b hb,(okC.exf b hb).1,okC.exfs b hb,.inl hb,(okC.exf b hb).2,fun p hp=>(by simp[bw]at hp)⟩
 have fp0:∀ b∈fp,upd H D (.lst []) b=none:=fun b hb=>by
  obtain⟨o,e,_⟩:=Tn.obj 0 _ st b hb
  rw[am (neD b o e)]; exact(hf b hb).1
 obtain⟨W,⟨m0,w0⟩,turn⟩:=h D hHD
 have loop:∀ s₃ : Shared,s₃={ s with heap:=h₁,toks:=s.toks+([]:List (Str × Value)).length }→
   codeAny (model X.prog X.w) X.A (.compLoop (.ListComp elt [⟨tg,iter,ifs,0⟩] scope pos) 0 (.ref it) (.ref D) (compEnvC scope (bS X.env.cells scope.names []) C X.env)) (RR (.ref D) C) s₃:=by
  rintro s₃ rfl
  refine ef (fun n s'=>∃ i H' ys,Inv (bw X N0 T scope C fp s H) [] (σ++List.replicate T.length none) H' s'∧tn i s'.heap∧(∀ b∈fp,H' b=none)∧W i n ys H') ?_ m0 ⟨0,_,[],I1,st1,fp0,w0⟩
  rintro n s3 ⟨i,H3,ys,I3,st3,fr3,w3⟩
  rcases turn i n ys H3 w3 with ⟨stop,qn⟩ | ⟨go,step⟩
  ·refine aY (Tn.done (bw X N0 T scope C fp s H) rfl rfl rfl hc i [] s3 _ H3 (fun _ _=>False) I3 (fp1 fr3) st3 stop) fun r s4 ⟨hr,I4⟩=>?_
   subst hr;obtain⟨m,hm,_⟩:=I4.loc
   have hch:∀ b∈fp,(b∈X.ex∨X.s₀.heap.objs.size≤b)∧b≠X.env.locals∧(∀ x c,X.env.cells.lookup x=some c→c≠b)∧∀ p∈X.pn++pins,p.1≠b:=fun b hb=>
    ⟨(hf b hb).2.2.2.1,(hf b hb).2.1,(hf b hb).2.2.2.2.1,(hf b hb).2.2.2.2.2⟩
   have u4:Un (hG X.stack) fp H H3 s.heap s4.heap:=I4.base
   refine hRR D C s4 H3 m hm I4.free (Ne.symm (Nat.ne_of_lt (Nat.lt_trans (hD ▸ I.lt) hDlt))) (fun x c e=>?_) (fun p hp=>?_) (Nat.le_trans (hD ▸ I.sz) (Nat.le_of_lt hDlt)) (I.call' (ch:=fp) I4.os u4 I4.hok I4.bare hch) (fun h' hs'=>?_) qn
   ·obtain⟨v,o,q,_⟩:=I.cell x c e
    exact neC c o q
   ·exact neC _ _ (I.pin p hp).1
   ·refine I.call' (ch:=fp) (s':={ s4 with heap:=h' }) I4.os ⟨fun b o q n' hb hx=>(hs'.2 b (neC b o q)).trans (u4.keep b o q n' hb hx),fun b o q n' hb hx=>?_,u4.free,fun b o q hx=>?_,u4.tups,u4.frzs,u4.tbls⟩ (I4.hok.sameBut hs' I4.free) I4.bare hch
    ·obtain⟨sl,e⟩:=u4.slot b o q n' hb hx
     exact⟨sl,(hs'.2 b (neC b o q)).trans e⟩
    ·obtain⟨o',e⟩:=u4.there b o q hx
     exact⟨o',(hs'.2 b (neC b o q)).trans e⟩
  ·refine aY (Tn.item (bw X N0 T scope C fp s H) rfl rfl rfl hc i [] s3 _ H3 (fun _ _=>False) I3 (fp1 fr3) st3 go) fun r s4 ⟨u,hr,h4⟩=>?_
   subst hr;refine aY h4 fun _ s5 ⟨x,H5,I5,r5,y5,st5,fr5⟩=>?_
   have I5':=I5.pinned (fp1 fr5) (Tn.obj _ _ st5);refine aY (hg C fp s H _ s5 _ H5 x u _ I5' r5 (hfr _ _ _ _ (step x H5 y5))) fun _ s6 ⟨σ6,H6,I6,q6,l6,k6⟩=>?_
   have back:∀ {H7:Hp} {s7:Shared},Inv (bw X N0 T scope C fp s H) ([]++g6 fp s5.heap) σ6 H7 s7→(∀ {m':Nat} {zs:List V},m'<n→W (i+1) m' zs H7→∃ m,m<n∧∃ i H' ys,Inv (bw X N0 T scope C fp s H) [] (σ++List.replicate T.length none) H' s7∧tn i s7.heap∧(∀ b∈fp,H' b=none)∧W i m ys H'):=fun {H7 s7} I7 {m' zs} hm w7=>by
    refine⟨m',hm,i+1,H7,zs,I7.unpinned.weak (by rw[l6]) (fun j v e=>?_),Tn.keep _ _ _ st5 fun b hb o e=>(I7.pin (b,o) (List.mem_append_right _ (List.mem_append_right _ (dj hb e)))).1,fun b hb=>?_,w7⟩
    ·have hj:j<σ.length:=by
      rcases Nat.lt_or_ge j σ.length with z | z
      ·exact z
      ·rw[List.getElem?_append_right z,List.getElem?_replicate]at e
       split at e <;> cases e
     rw[k6 j (by rw[← I.len]; exact hj)]
     exact e
    ·obtain⟨o,e,d⟩:=Tn.obj _ _ st5 b hb
     exact(I7.pin (b,o) (List.mem_append_right _ (List.mem_append_right _ (dj hb e)))).2.1
   refine aY (hi C fp s H _ s6 σ6 H6 _ I6 q6) fun b s7 ⟨H7,I7,q7⟩=>?_
   cases b with
   | false=>
    obtain⟨m',hm,w7⟩:=(show ∃ m',m'<n∧W (i+1) m' ys H7 from by simpa using q7)
    exact back I7 hm w7
   | true=>
    rw[if_pos rfl]at q7
    refine aY (he C fp s H _ s7 σ6 H7 _ I7 q7) fun v s8 ⟨y,H8,I8,r8,hD8,hz,m',hm,w8⟩=>?_
    refine aY (iL (X:=bw X N0 T scope C fp s H) _ s8 σ6 H8 (.ref D) [y] (.ref D) [v] (fun _ H9=>H9=upd H8 D (.lst (ys++[y]))) I8 rfl (.cons r8 .nil) ⟨D,ys,y,rfl,rfl,hD8,hz,rfl⟩) fun v9 s9 ⟨y9,H9,I9,_,e9⟩=>?_
    subst e9;exact back I9 hm w8
 exact codeAny_compStart_list (loop _ rfl) (Tn.self X.A 0 _ _ _ st1 (loop _ rfl))
theorem di(S:gM X N0 T scope)(hc:X.calm=true)(hI:PI X tg iter wi)
  (hg:∀ C fp s H,PG (bw X N0 T scope C fp s H) tg g) (hfr:kQ g X.N.length) (hi:∀ C fp s H,PIfs (bw X N0 T scope C fp s H) ifs tc) (he:∀ C fp s H,PE (bw X N0 T scope C fp s H) elt te)
  (hs:∀ x,foldedSetIterable iter X.env x=pure x:=by intro _; rfl):PE X (.ListComp elt [⟨tg,iter,ifs,0⟩] scope pos) (lD wi g tc te T.length):=by
 intro pins s σ H Q I h
 rw[eval_ListComp];refine wpAny_comprehension_free (use:=none) rfl hs (fB fun x hx hk=>I.ok.has x.1 (S.free x hx hk)) S.kind S.names (aY (hI pins s σ H _ I h) fun v s1 h1=>aY h1 fun itv s2 h2=>?_)
 obtain⟨it,fp,tn,J,H2,e,I2,Tn,st2,f2,q2⟩:=h2
 subst e;refine kY (RR:=fun acc C=>compPost (model X.prog X.w) X.A X.xe none (EP X pins σ Q) acc C) S hc hg hfr hi he I2 Tn st2 f2 q2 ?_
 intro D C s' H' m hn hC hL hcells hpins hfresh I' hI' q
 exact⟨m,hn,fun h' hs'=>⟨.ref D,H',hI' h' hs',rfl,q⟩⟩
theorem jZ{i:Nat}{x:Str}{pos' spos:Pos}(S:gM X N0 T scope)(hc:X.calm=true)(hN:X.N.Nodup)(hi':X.N[i]? = some x)(hx:X.env.scope.names.lookup x=some .local)(hI:PI X tg iter wi)
  (hg:∀ C fp s H,PG (bw X N0 T scope C fp s H) tg g) (hfr:kQ g X.N.length) (hi:∀ C fp s H,PIfs (bw X N0 T scope C fp s H) ifs tc) (he:∀ C fp s H,PE (bw X N0 T scope C fp s H) elt te)
  (hsw:swapsWith (.ListComp elt [⟨tg,iter,ifs,0⟩] scope pos) (some (.Name x pos')) spos.line X.env=pure true:=by rfl)
  (hs:∀ x,foldedSetIterable iter X.env x=pure x:=by intro _; rfl):PS X (.Assign [.Name x pos'] (.ListComp elt [⟨tg,iter,ifs,0⟩] scope pos) spos) (kj (lD wi g tc te T.length) (fI i)):=by
 intro pins s σ H D I h
 rw[exec_Assign_Name_used _ _ _ _ hsw];refine wpAny_bind (wpAny_standAt (wpAny_bind ?_))
 show wpAny _ X.A (do let _ ← comprehension (.ListComp elt [⟨tg,iter,ifs,0⟩] scope pos) scope X.env _ (newList []) false (eval iter X.env) (some (assign (.Name x pos') X.env))) _ _ s
 refine wpAny_bind (wpAny_mono (wpAny_comprehension_free (use:=some (assign (.Name x pos') X.env)) (Q:=fun _ s'=>SP X pins D .next s') rfl hs (fB fun x hx hk=>I.ok.has x.1 (S.free x hx hk)) S.kind S.names
  (aY (hI pins s σ H _ I h) fun v s1 h1=>aY h1 fun itv s2 h2=>?_)) (fun _ s' hq=>wpAny_pure (wpAny_pure hq)) fun _ _ e=>e)
 obtain⟨it,fp,tn,J,H2,e,I2,Tn,st2,f2,q2⟩:=h2
 subst e;refine kY (RR:=fun acc C=>compPost (model X.prog X.w) X.A X.xe (some (assign (.Name x pos') X.env)) (fun _ s'=>SP X pins D .next s') acc C) S hc hg hfr hi he I2 Tn st2 f2 q2 ?_
 intro L C s' H' m hn hC hL hcells hpins hfresh I' hI' q
 show wpAny _ X.A (assign (.Name x pos') X.env (.ref L)) _ _ _
 refine wpAny_assign_Name (iV (v:=.ref L) I' hN hi' (.inl hx) rfl (fun s'' I'' ⟨a,hsa,ha⟩=>?_) (.inr hx))
 have hCa:C≠a:=by
  rintro rfl
  rcases ha with z | z
  ·exact hL z
  ·exact hcells x C z rfl
 refine⟨m,hn.sameBut hsa hCa,fun h' hs'=>?_⟩
 exact⟨σ.set i (some (.ref L)),H',I''.turned (t':=s''.toks) (fun b o hb e=>(hs'.2 b hb).trans e) hC hL (.inr hfresh) hcells hpins,q⟩
end
end L2
namespace L2
open PySem PySem.Spec PyProof.Rows
theorem Vals.of:∀ {xs:List V} {us:List Value} {i:Nat} {u:Value},Vals xs us→us[i]? = some u→∃ x,xs[i]? = some x∧RelV x u
 | _,_,0,u,.cons r _,e=>⟨_,rfl,by simp at e; subst e; exact r⟩
 | _,_,i+1,u,.cons _ rr,e=>by
  obtain⟨x,hx,r⟩:=Vals.of (i:=i) rr (by simpa using e)
  exact⟨x,by simpa using hx,r⟩
theorem i0:∀ {ss:List Str} {us:List Value},Vals (ss.map V.str) us→StrsAre us ss
 | [],_,.nil=>.nil
 | s::ss,_,.cons r rr=>by
  obtain⟨t,rfl⟩:=r
  exact .cons s t (i0 rr)
theorem iM:∀ {us:List Value} {ss:List Str},StrsAre us ss→Vals (ss.map V.str) us
 | _,_,.nil=>.nil
 | _,_,.cons y t h=>.cons ⟨t,rfl⟩ (iM h)
theorem rd(bs:List Bool):(List.range bs.length).any (fun i=>bs.getD i false)=bs.any id:=by
 rw[Bool.eq_iff_iff,List.any_eq_true,List.any_eq_true]
 constructor
 ·rintro⟨i,hi,h⟩
  have hi':=List.mem_range.mp hi;rw[List.getD_eq_getElem?_getD,List.getElem?_eq_getElem hi']at h
  exact⟨_,List.getElem_mem hi',h⟩
 ·rintro⟨b,hb,h⟩
  obtain⟨i,hi,rfl⟩:=List.mem_iff_getElem.mp hb
  refine⟨i,List.mem_range.mpr hi,?_⟩
  rw[List.getD_eq_getElem?_getD,List.getElem?_eq_getElem hi];exact h
theorem t5{bs:List Bool}{us:List Value}(r:Vals (bs.map V.bl) us){i:Nat}{v:Value}(e:us.toArray[i]? = some v):v = .bool (bs.getD i false):=by
 obtain⟨x,hx,rx⟩:=r.of (i:=i) (by simpa using e)
 rw[List.getElem?_map]at hx
 cases hb:bs[i]? with
 | none=>rw[hb]at hx; cases hx
 | some b=>
  rw[hb]at hx
  have hx':V.bl b=x:=Option.some.inj hx
  subst hx';rw[List.getD_eq_getElem?_getD,hb];exact rx
section
variable{X:Cx}
def tK(K:PySem.W.Frag):List V→Hp→VK→Prop:=fun xs H Q=>∃ (p:Addr) (bs:List Bool),xs=[.ref p]∧SqL K H p (bs.map V.bl)∧Q (.bl (bs.any id)) H
theorem ga{K:PySem.W.Frag}{H:Hp}{Q:VK}(p:Addr):tK K [.ref p] H Q=∃ bs:List Bool,SqL K H p (bs.map V.bl)∧Q (.bl (bs.any id)) H:=propext ⟨fun ⟨_,bs,e,q⟩=>by cases e; exact⟨bs,q⟩,fun ⟨bs,q⟩=>⟨p,bs,rfl,q⟩⟩
theorem qU(hc:X.calm=true):CallR X (.builtin "any") (tK X.K):=by
 intro pins s σ H xs us Q I r h
 obtain⟨p,bs,rfl,hq,q⟩:=h
 obtain⟨u,rfl,ru⟩:=ce r
 cases ru;obtain⟨its,rv,pl,hz⟩:=I.list hq
 have hlen:its.length=bs.length:=by rw[← rv.length,List.length_map]
 refine call_any_walk (wpAny_pyIter_list pl.isList ?_)
 refine⟨_,_,_,_,_,_,fun i=>bs.getD i false,rfl,Walks.list (A:=X.A.in1) (I.ok.hd hc) s.heap.objs.size p (Nat.ne_of_lt pl.lt) its.toArray,⟨⟨_,Heap.get?_push_size _ rfl,rfl,rfl⟩,(pl.keeps fun b o e=>Heap.get?_push_of_some _ e).isList⟩,?_,fun h' tk hk=>?_⟩
 ·intro i v s' Q' E' hP hQ
  rw[t5 rv hP];exact wpAny_truthy_bool hQ
 ·refine⟨.bl (bs.any id),H,I.kept (t':=tk) fun b o e=>hk b o (fun z=>?_) (Heap.get?_push_of_some _ e),?_,q⟩
  ·exact Nat.ne_of_lt (Heap.lt_size e) (by simpa using z)
  ·have e:(List.range its.toArray.size).any (fun i=>bs.getD i false)=bs.any id:=by rw[List.size_toArray,hlen,rd]
   show Value.bool ((List.range its.toArray.size).any fun i=>bs.getD i false)=Value.bool (bs.any id)
   rw[e]
def b7(H:Hp):V→Option String
 | .non=>some "NoneType"
 | .bl _=>some "bool"
 | .int _=>some "int"
 | .str _=>some "str"
 | .ref a=>match H a with
  | some (.lst _)=>some "list"
  | some (.frz _ (.lst _))=>some "list"
  | some (.tup _)=>some "tuple"
  | some (.dK _)=>some "dict"
  | some (.dT _)=>some "dict"
  | _=>none
 | _=>none
theorem rK{K:PySem.W.Frag}{H:Hp}:∀ {x:V} {T:String},b7 H x=some T→eM K H x (.type T)
 | .non,T,h=>by cases h; exact .non
 | .bl b,T,h=>by cases h; exact .bl b
 | .int i,T,h=>by cases h; exact .int i
 | .str y,T,h=>by cases h; exact .str y
 | .byt _,T,h=>by cases h
 | .flt _,T,h=>by cases h
 | .ty _,T,h=>by cases h
 | .ref a,T,h=>by
  cases e:H a with
  | none=>simp[b7,e]at h
  | some o=>
   cases o with
   | lst xs=>simp[b7,e]at h; subst h; exact .lst e
   | tup xs=>simp[b7,e]at h; subst h; exact .tup e
   | dK xs=>simp[b7,e]at h; subst h; exact .dK e
   | dT xs=>simp[b7,e]at h; subst h; exact .dT e
   | frz ob u=>
    cases u with
    | lst xs=>simp[b7,e]at h; subst h; exact .frz e
    | _=>simp[b7,e]at h
   | _=>simp[b7,e]at h
def uF(T C:String):Bool:=T == C||(T == "bool" && C == "int")
theorem tL(K:PySem.W.Frag){T C:String}(hT:T∈["NoneType", "bool", "int", "str", "list", "tuple", "dict"]) (hC:C∈["bool", "int", "str", "list", "tuple"]):PySem.W.kitOne K (.type T) (.type C)=some (uF T C):=by
 simp only[List.mem_cons,List.mem_nil_iff,or_false]at hT hC
 rcases hT with rfl | rfl | rfl | rfl | rfl | rfl | rfl <;> rcases hC with rfl | rfl | rfl | rfl | rfl <;> (with_unfolding_all rfl)
theorem pk{H:Hp}{x:V}{T:String}(h:b7 H x=some T):T∈["NoneType", "bool", "int", "str", "list", "tuple", "dict"]:=by
 cases x with
 | ref a=>
  cases e:H a with
  | none=>simp[b7,e]at h
  | some o=>
   cases o with
   | frz ob u=>cases u <;> simp[b7,e]at h <;> subst h <;> decide
   | _=>simp[b7,e]at h <;> subst h <;> decide
 | _=>first | (cases h; decide) | cases h
def wK:List V→Hp→VK→Prop:=fun xs H Q=>∃ (x:V) (T C:String),xs=[x,.ty C]∧b7 H x=some T∧C∈["bool", "int", "str", "list", "tuple"]∧Q (.bl (uF T C)) H
theorem gz{H:Hp}{Q:VK}(x:V)(C:String):wK [x,.ty C] H Q=∃ T,b7 H x=some T∧C∈["bool", "int", "str", "list", "tuple"]∧Q (.bl (uF T C)) H:=
 propext ⟨fun ⟨_,T,_,e,q⟩=>by cases e; exact⟨T,q⟩,fun ⟨T,q⟩=>⟨x,T,C,rfl,q⟩⟩
theorem tN:CallR X (.builtin "isinstance") wK:=by
 intro pins s σ H xs us Q I r h
 obtain⟨x,T,C,rfl,hT,hC,q⟩:=h
 obtain⟨u,w',rfl,ru,rw'⟩:=pI r
 cases rw';exact qQ I ru (rK hT) (tL X.K (pk hT) hC) fun tk=>⟨.bl (uF T C),H,I.tok tk,rfl,q⟩
end
def lN(J:It)(g:TG)(tb:TS)(D:dv)(σ : St)(H:Hp):Prop:=∃ W:Nat→Nat→St→Hp→Prop,(∃ m,W 0 m σ H)∧∀ i m σ H,W i m σ H→
 (J.stop i H∧D.nx σ H)∨(J.go i H∧∃ N:St→Hp→Prop,(∀ σ' H',N σ' H'→∃ m',m'<m∧W (i+1) m' σ' H')∧∀ x H',J.yld i H x H'→g x σ H' fun σ2 H2=>tb { D with nx:=N,ct:=N,bk:=D.nx } σ2 H2)
theorem fZ(wi:TI)(g:TG)(tb:TS)(D:dv)(σ : St)(H:Hp):wI wi g tb D σ H=wi σ H fun J H1=>lN J g tb D σ H1:=rfl
theorem vj{J:It}{g:TG}{tb:TS}{D:dv}{σ : St}{H:Hp}(n:Nat)(Pv:Nat→St→Hp→Prop)(h0:Pv 0 σ H)(hgo:∀ i σ H,i<n→Pv i σ H→J.go i H)(hst:∀ σ H,Pv n σ H→J.stop n H)
  (hs:∀ i σ H x H',i<n→Pv i σ H→J.yld i H x H'→g x σ H' fun σ2 H2=>tb { D with nx:=Pv (i+1),ct:=Pv (i+1),bk:=D.nx } σ2 H2) (hd:∀ σ H,Pv n σ H→D.nx σ H):lN J g tb D σ H:=by
 refine⟨fun i m σ H=>m=n - i∧i≤n∧Pv i σ H,⟨n,by simp,Nat.zero_le _,h0⟩,?_⟩
 rintro i m σ H ⟨rfl,hi,p⟩
 by_cases hlt:i<n
 ·exact .inr ⟨hgo i σ H hlt p,Pv (i+1),fun σ' H' p'=>⟨n - (i+1),by omega,rfl,hlt,p'⟩,fun x H' y=>hs i σ H x H' hlt p y⟩
 ·have e:i=n:=by omega
  subst e;exact .inl ⟨hst σ H p,hd σ H p⟩
theorem i3{K:PySem.W.Frag}{a:Addr}{xs:List V}{g:TG}{tb:TS}{D:dv}{σ : St}{H:Hp}(Pv:Nat→St→Hp→Prop)(h0:Pv 0 σ H)(hl:∀ i σ H,i≤xs.length→Pv i σ H→SqL K H a xs)
  (hs:∀ i x σ H,xs[i]? = some x→Pv i σ H→g x σ H fun σ2 H2=>tb { D with nx:=Pv (i+1),ct:=Pv (i+1),bk:=D.nx } σ2 H2) (hd:∀ σ H,Pv xs.length σ H→D.nx σ H):lN (j1 K a) g tb D σ H:=
 sF Pv h0 hl hs hd
theorem b8{lo:Int}{n:Nat}{g:TG}{tb:TS}{D:dv}{σ : St}{H:Hp}(Pv:Nat→St→Hp→Prop)(h0:Pv 0 σ H)
  (hs:∀ i σ H,i<n→Pv i σ H→g (.int (lo+i)) σ H fun σ2 H2=>tb { D with nx:=Pv (i+1),ct:=Pv (i+1),bk:=D.nx } σ2 H2) (hd:∀ σ H,Pv n σ H→D.nx σ H):lN (iH lo n) g tb D σ H:=
 p7 Pv h0 hs hd
def fE(n i:Nat)(Pv:Nat→List V→Hp→Prop)(D:Addr)(ys:List V)(y:V)(H:Hp):Prop:=
 H D=some (.lst ys)∧ys.length<sizeLine∧∃ m',m'<n - i∧(m'=n - (i+1)∧i+1≤n∧Pv (i+1) (ys++[y]) (upd H D (.lst (ys++[y]))))
theorem fJ{n i:Nat}{Pv:Nat→List V→Hp→Prop}{D:Addr}{ys:List V}{y:V}{H:Hp}(hi:i<n)(hlen:ys.length=i)(hz:n≤sizeLine)(h1:H D=some (.lst ys))(h2:Pv (i+1) (ys++[y]) (upd H D (.lst (ys++[y])))):fE n i Pv D ys y H:=
 ⟨h1,by omega,n - (i+1),by omega,rfl,hi,h2⟩
def ic(n i:Nat)(Pv:Nat→List V→Hp→Prop)(D:Addr)(ys:List V)(te:TE)(σ : St)(H:Hp):Prop:=
 if true=true then te σ H (fE n i Pv D ys) else ∃ m',m'<n - i∧(m'=n - (i+1)∧i+1≤n∧Pv (i+1) ys H)
theorem dE{n i:Nat}{Pv:Nat→List V→Hp→Prop}{D:Addr}{ys:List V}{te:TE}{σ : St}{H:Hp}:ic n i Pv D ys te σ H=te σ H (fE n i Pv D ys):=by
 unfold ic; rw[if_pos rfl]
theorem jy{J:It}{g:TG}{te:TE}{nT:Nat}{σ : St}{D:Addr}{Q:VK}{H:Hp}(n:Nat)(Pv:Nat→List V→Hp→Prop)(h0:Pv 0 [] H)(hgo:∀ i ys H,i<n→Pv i ys H→J.go i H)(hst:∀ ys H,Pv n ys H→J.stop n H)
  (hs:∀ i ys H x H',i<n→Pv i ys H→J.yld i H x H'→g x (σ++List.replicate nT none) H' (ic n i Pv D ys te))
  (hd:∀ ys H,Pv n ys H→Q (.ref D) H):dW J g jE te nT σ D Q H:=by
 refine⟨fun i m ys H=>m=n - i∧i≤n∧Pv i ys H,⟨n,by simp,Nat.zero_le _,h0⟩,?_⟩
 rintro i m ys H ⟨rfl,hi,p⟩
 by_cases hlt:i<n
 ·exact .inr ⟨hgo i ys H hlt p,fun x H' y=>hs i ys H x H' hlt p y⟩
 ·have e:i=n:=by omega
  subst e;exact .inl ⟨hst ys H p,hd ys H p⟩
theorem de{K:PySem.W.Frag}{a:Addr}{xs:List V}{g:TG}{te:TE}{nT:Nat}{σ : St}{D:Addr}{Q:VK}{H:Hp}(Pv:Nat→List V→Hp→Prop)(h0:Pv 0 [] H)(hl:∀ i ys H,i≤xs.length→Pv i ys H→SqL K H a xs)
  (hs:∀ i ys H x,xs[i]? = some x→i<xs.length→Pv i ys H→g x (σ++List.replicate nT none) H (ic xs.length i Pv D ys te))
  (hd:∀ ys H,Pv xs.length ys H→Q (.ref D) H):dW (j1 K a) g jE te nT σ D Q H:=by
 refine jy xs.length Pv h0 (fun i ys H hi p=>⟨xs,xs[i],hl i ys H (Nat.le_of_lt hi) p,by simp[hi]⟩) (fun ys H p=>⟨xs,hl _ ys H (Nat.le_refl _) p,Nat.le_refl _⟩) (fun i ys H x H' hi p yl=>?_) hd
 obtain⟨rfl,y⟩:=yl
 exact hs i ys _ x (y xs (hl i ys _ (Nat.le_of_lt hi) p)) hi p
theorem jm{lo:Int}{n:Nat}{g:TG}{te:TE}{nT:Nat}{σ : St}{D:Addr}{Q:VK}{H:Hp}(Pv:Nat→List V→Hp→Prop)(h0:Pv 0 [] H)
  (hs:∀ i ys H,i<n→Pv i ys H→g (.int (lo+i)) (σ++List.replicate nT none) H (ic n i Pv D ys te))
  (hd:∀ ys H,Pv n ys H→Q (.ref D) H):dW (iH lo n) g jE te nT σ D Q H:=by
 refine jy n Pv h0 (fun i ys H hi p=>hi) (fun ys H p=>Nat.le_refl _) (fun i ys H x H' hi p yl=>?_) hd
 obtain⟨rfl,rfl⟩:=yl
 exact hs i ys _ hi p
end L2
namespace L2
open PySem PySem.Spec PyProof.Rows
def p3(u:TS)(D:dv)(σ : St)(H:Hp):Prop:=u D σ H
section
variable{D:dv}{σ : St}{H:Hp}{Q:VK}{B:Bool→Hp→Prop}{L:List V→Hp→Prop}{R:It→Hp→Prop}{G:St→Hp→Prop}
theorem gm(t u:TS):tm t u D σ H=t { D with nx:=p3 u D } σ H:=rfl
theorem eJ(u:TS):p3 u D σ H=u D σ H:=rfl
theorem eY:uc D σ H=D.nx σ H:=rfl
theorem gk(c:TT)(t u:TS):wV c t u D σ H=c σ H fun b H1=>if b=true then t D σ H1 else u D σ H1:=rfl
theorem gw(t:TE):v5 t D σ H=t σ H D.rt:=rfl
theorem eW(t:TE):uv t D σ H=t σ H fun _ H1=>D.nx σ H1:=rfl
theorem fU(t:TE)(g:TG):kj t g D σ H=t σ H fun x H1=>g x σ H1 D.nx:=rfl
theorem eX(i:Nat)(v:V):fI i v σ H G=G (σ.set i (some v)) H:=rfl
theorem fP(vs:List V):pQ vs σ H G=(vs=[]∧G σ H):=rfl
theorem fc(t:TG)(u:gH)(vs:List V):lz t u vs σ H G=∃ v r,vs=v::r∧t v σ H fun σ' H'=>u r σ' H' G:=rfl
theorem fT(K:PySem.W.Frag)(n:Nat)(t:gH)(v:V):oX K n t v σ H G=∃ a xs,v = .ref a∧SqT K H a xs∧xs.length=n∧t xs σ H G:=rfl
theorem fY(to ti:TE)(t:jF)(v:V):vA to ti t v σ H G=to σ H fun o H1=>ti σ H1 fun i H2=>t o i v H2 fun H3=>G σ H3:=rfl
theorem fQ(i:Nat):rV i σ H Q=∃ v,σ[i]? = some (some v)∧Q v H:=rfl
theorem jb(v:V):tC v σ H Q=Q v H:=rfl
theorem g_(r:R2)(ta tb:TE):qi r ta tb σ H Q=ta σ H fun x H1=>tb σ H1 fun y H2=>r x y H2 Q:=rfl
theorem eU(t:TE):uH t σ H B=t σ H fun x H'=>∃ k,x = .bl k∧B k H':=rfl
theorem jg(t:TE):tB t σ H B=t σ H fun x H'=>∃ k,x = .bl k∧B k H':=rfl
theorem f_(t u:TT):vJ t u σ H B=t σ H fun c H1=>if c=true then u σ H1 B else B false H1:=rfl
theorem gX(t u:TT):yw t u σ H B=t σ H fun c H1=>if c=true then B true H1 else u σ H1 B:=rfl
theorem gC(t:TT):vO t σ H B=t σ H fun c H1=>B (!c) H1:=rfl
theorem gZ(t:TT)(ta tb:TE):yE t ta tb σ H Q=t σ H fun c H1=>if c=true then ta σ H1 Q else tb σ H1 Q:=rfl
theorem g0(r:List V→Hp→VK→Prop)(t:TA):p6 r t σ H Q=t σ H fun vs H1=>r vs H1 Q:=rfl
theorem eh(ta:TE)(tr:TA):uo ta tr σ H L=ta σ H fun x H1=>tr σ H1 fun xs H2=>L (x::xs) H2:=rfl
theorem fV:v8 σ H L=L [] H:=rfl
theorem fO(t:TA):xr t σ H Q=t σ H fun xs H1=>xs.length≤sizeLine∧∀ p,H1 p=none→Q (.ref p) (upd H1 p (.tup xs)):=rfl
theorem fR(t:TA):xm t σ H Q=t σ H fun xs H1=>xs.length≤sizeLine∧∀ p,H1 p=none→Q (.ref p) (upd H1 p (.lst xs)):=rfl
theorem eQ(sp:Sp)(dvs:List V)(E:XK)(t:TA):pZ sp dvs E t σ H Q=t σ H fun vs H1=>sp (vs++dvs) H1 Q E:=rfl
theorem ia(K:PySem.W.Frag)(T:String)(r:V→List V→Hp→VK→Prop)(to:TE)(t:TA):wD K T r to t σ H Q=to σ H fun x H1=>mT K T x H1∧t σ H1 fun xs H2=>r x xs H2 Q:=rfl
theorem gg(K:PySem.W.Frag)(T:String)(r:V→List V→Hp→VK→Prop)(to:TE):tV K T r to σ H Q=to σ H fun x H1=>mT K T x H1∧r x [] H1 Q:=rfl
theorem hV(r:V→Option Int→Option Int→Hp→VK→Prop)(te:TE)(tl th:TO):yk r te tl th σ H Q=te σ H fun x H1=>tl σ H1 fun l H2=>th σ H2 fun u H3=>r x l u H3 Q:=rfl
theorem eN(t:TE)(O:Option Int→Hp→Prop):uk t σ H O=t σ H fun x H1=>∃ i,x = .int i∧O (some i) H1:=rfl
theorem dh(O:Option Int→Hp→Prop):oo σ H O=O none H:=rfl
theorem eE(wi:TI)(g:TG)(tc:TT)(te:TE)(nT:Nat):lD wi g tc te nT σ H Q=wi σ H fun J H1=>∀ D,H1 D=none→dW J g tc te nT σ D Q (upd H1 D (.lst [])):=rfl
theorem gy:jE σ H B=B true H:=rfl
theorem fg(K:PySem.W.Frag)(tl:TE):pF K tl σ H R=tl σ H fun x H1=>∃ a,x = .ref a∧(∃ xs,SqL K H1 a xs)∧R (j1 K a) H1:=rfl
theorem fb(ta:TA):ui ta σ H R=ta σ H fun vs H1=>∃ j:Int,vs=[.int j]∧-(2 ^ 62)≤j∧j<2 ^ 62∧R (iH 0 j.toNat) H1:=rfl
theorem eI(ta:TA):uz ta σ H R=ta σ H fun vs H1=>∃ i j:Int,vs=[.int i,.int j]∧(-(2 ^ 62)≤i∧i<2 ^ 62∧-(2 ^ 62)≤j∧j<2 ^ 62)∧R (iH i (j - i).toNat) H1:=rfl
theorem g7(g:Int→Int→V)(i j:Int):kE g (.int i) (.int j) H Q=Q (g i j) H:=propext ⟨fun ⟨_,_,e1,e2,q⟩=>by cases e1; cases e2; exact q,fun q=>⟨i,j,rfl,rfl,q⟩⟩
theorem i5(C:Int→Int→Prop)(g:Int→Int→V)(i j:Int):rI C g (.int i) (.int j) H Q=(C i j∧Q (g i j) H):=propext ⟨fun ⟨_,_,e1,e2,q⟩=>by cases e1; cases e2; exact q,fun q=>⟨i,j,rfl,rfl,q⟩⟩
end
structure DefAt (K:PySem.W.Frag) (mg:Str→Option Value) (x:Str) (st:Stmt):Prop where
 ex:∃ f fd,Fun K x x st f fd∧mg x=some (.ref f)
structure bv (P:Program) (w:World) (K:PySem.W.Frag) (mg:Str→Option Value) (base:Heap) (k:Nat) (x:Str) (ps:List Str) (sp:Sp):Prop where
 ex:∃ f fd,gS P w K mg base jK k f fd ps sp∧Binds K fd ps []∧PySem.W.keepIn K (.ref f)=true∧mg x=some (.ref f)
section
variable{P:Program}{w:World}{K:PySem.W.Frag}{mg:Str→Option Value}{base:Heap}
theorem DefAt.cal{x:Str}{st:Stmt}{N ps:List Str}{k:Nat}{sp:Sp}(D:DefAt K mg x st)(S:bf N ps (defScope st))
  (hb:∀ (kV doc pm:Value) (an:Option Addr) (cdv ct:Value) (us:List Value),us.length=ps.length→bindArgs (PySem.W.fnOf x x (defArgs st) (defBody st) (defScope st) .none kV doc pm an cdv ct) ⟨us,[]⟩=pure (ps.zip us))
  (len:∀ vs H Q E,sp vs H Q E→vs.length=ps.length)
  (hbody:∀ (f:Addr) (cdv:Value) (A:Around) (outer:List Env) (s:Shared) (H:Hp) (vs:List V) (Q:VK) (E:XK),Room k (A.deeper (envOfC x (defScope st) s.heap.objs.size f cdv))→sp vs H Q E→
   ∃ t,PSs (jC jK P w K mg base N x (defScope st) f cdv A outer s H E).nox (defBody st) t∧t { nx:=fun _ H'=>Q .non H',rt:=Q } (start N vs) H):bv P w K mg base (k+1) x ps sp:=by
 obtain⟨f,fd,F,m⟩:=D.ex
 exact⟨f,fd,F.ok S len fun cdv A outer s H vs Q E hr h=>hbody f cdv A outer s H vs Q E hr h,F.binds hb,F.kp,m⟩
end
section
variable{X:Cx}
theorem aW{j k:Nat}{x:Str}{ps:List Str}{sp:Sp}{p pos:Pos}{e:Expr}{es:List Expr}{t:TA}(c:bv X.prog X.w X.K X.mg X.base j x ps sp)(hr:Room k X.A)(ha:PA X (e::es) t)(hle:j≤k:=by decide)(hg:Gl X x:=by first | exact vGg (by decide +kernel) | rfl)
  (hdb:(x == ("__debug__" : Str))=false:=by decide) (he:starEach (e::es) X.env=(false,eval e X.env)::starEach es X.env:=by rfl) (hpl:(backTo pos (starEach es X.env)).any (·.1)=false:=by rfl) :
  PE X (.Call (.Name x p) (e::es) [] pos) (pZ sp [] E0 t):=by
 obtain⟨f,fd,F,b,kp,m⟩:=c.ex
 exact vn F (hr.mono hle) hg m kp b .nil xW ha hdb he hpl
theorem xC{x:Str}{T:String}{pos:Pos}(hm:X.mg x=none)(hv:bootBuiltins x=some (.type T))(hg:Gl X x:=by first | exact vGg (by decide +kernel) | rfl)(hn:x ≠ "__name__" := by decide) (hd:(x == ("__debug__" : Str))=false:=by decide):PE X (.Name x pos) (tC (.ty T)):=
 uT hg hm hv rfl hn hd
theorem bq{x:Str}{p pos:Pos}{e:Expr}{es:List Expr}{t:TA}{id:String}{r:List V→Hp→VK→Prop}(hc:CallR X (.builtin id) r)(hm:X.mg x=none)(hv:bootBuiltins x=some (.builtin id))(ha:PA X (e::es) t)(hg:Gl X x:=by first | exact vGg (by decide +kernel) | rfl)
  (hn:x ≠ "__name__" := by decide) (hdb:(x == ("__debug__" : Str))=false:=by decide) (he:starEach (e::es) X.env=(false,eval e X.env)::starEach es X.env:=by rfl) (hpl:(backTo pos (starEach es X.env)).any (·.1)=false:=by rfl) :
  PE X (.Call (.Name x p) (e::es) [] pos) (p6 r t):=sJ hc hg hm hv ha hn hdb he hpl
theorem cJ{x:Str}{p pos:Pos}{e:Expr}{es:List Expr}{t:TA}{T:String}{r:List V→Hp→VK→Prop}(hc:CallR X (.type T) r)(hm:X.mg x=none)(hv:bootBuiltins x=some (.type T))(ha:PA X (e::es) t)(hg:Gl X x:=by first | exact vGg (by decide +kernel) | rfl)
  (hn:x ≠ "__name__" := by decide) (hdb:(x == ("__debug__" : Str))=false:=by decide) (he:starEach (e::es) X.env=(false,eval e X.env)::starEach es X.env:=by rfl) (hpl:(backTo pos (starEach es X.env)).any (·.1)=false:=by rfl) :
  PE X (.Call (.Name x p) (e::es) [] pos) (p6 r t):=qp hc hg hm hv ha hn hdb he hpl
end
section
variable{X:Cx}
def lB:R2:=fun x y H Q=>match x,y with
 | .int i,.int j=>Q (.int (i+j)) H
 | .str a,.str b=>a.length+b.length≤sizeLine∧Q (.str (a++b)) H
 | .ref l,.ref b=>∃ xs zs,H l=some (.lst xs)∧H b=some (.lst zs)∧xs.length+zs.length≤sizeLine∧∀ p,H p=none→Q (.ref p) (upd H p (.lst (xs++zs)))
 | _,_=>False
theorem a_:OpR X (binaryOp .Add) lB:=by
 intro pins s σ H x y v u Q I rx ry h
 cases x <;> cases y <;> first
  | exact(show False from h).elim
  | exact wb pins s σ H _ _ v u Q I rx ry ⟨_,_,rfl,rfl,h⟩
  | exact oz pins s σ H _ _ v u Q I rx ry ⟨_,_,rfl,rfl,h⟩
  | (obtain⟨xs,zs,h1,h2,h3,h4⟩:=h; exact vZ pins s σ H _ _ v u Q I rx ry ⟨_,_,xs,zs,rfl,rfl,h1,h2,h3,h4⟩)
def t7:R2:=fun x y H Q=>match x,y with
 | .int i,.int j=>Q (.bl (decide (i<j))) H
 | .str i,.str j=>Q (.bl (decide (i.cps.toList<j.cps.toList))) H
 | _,_=>False
theorem lL:OpR X (compareOp .Lt) t7:=by
 intro pins s σ H x y v u Q I rx ry h
 cases x <;> cases y <;> first
  | exact(show False from h).elim
  | exact x_ pins s σ H _ _ v u Q I rx ry ⟨_,_,rfl,rfl,h⟩
  | exact qM pins s σ H _ _ v u Q I rx ry ⟨_,_,rfl,rfl,h⟩
def o_(K:PySem.W.Frag):R2:=fun x y H Q=>match x,y with
 | .str i,.str j=>Q (.bl (!(Builtin.Str.occurrences j i 0 j.length 1).isEmpty)) H
 | x,.ref p=>∃ xs,(SqL K H p xs∨SqT K H p xs)∧bn x=true∧xs.all bn=true∧Q (.bl (jj x xs)) H
 | _,_=>False
theorem wY:OpR X (compareOp .In) (o_ X.K):=by
 intro pins s σ H x y v u Q I rx ry h
 cases y with
 | str j=>
  cases x with
  | str i=>exact rG pins s σ H _ _ v u Q I rx ry ⟨i,j,rfl,rfl,h⟩
  | _=>exact(show False from h).elim
 | ref p=>
  have h':∃ xs,(SqL X.K H p xs∨SqT X.K H p xs)∧bn x=true∧xs.all bn=true∧Q (.bl (jj x xs)) H:=by cases x <;> exact h
  obtain⟨xs,h1,h2,h3,h4⟩:=h'
  exact rm pins s σ H _ _ v u Q I rx ry ⟨p,xs,rfl,h1,h2,h3,h4⟩
 | _=>cases x <;> exact(show False from h).elim
def ja(K:PySem.W.Frag):R2:=fun x y H Q=>match x,y with
 | .str i,.str j=>Q (.bl (!(!(Builtin.Str.occurrences j i 0 j.length 1).isEmpty))) H
 | x,.ref p=>∃ xs,(SqL K H p xs∨SqT K H p xs)∧bn x=true∧xs.all bn=true∧Q (.bl (!jj x xs)) H
 | _,_=>False
theorem qV:OpR X (compareOp .NotIn) (ja X.K):=by
 intro pins s σ H x y v u Q I rx ry h
 cases y with
 | str j=>
  cases x with
  | str i=>exact lJ pins s σ H _ _ v u Q I rx ry ⟨i,j,rfl,rfl,h⟩
  | _=>exact(show False from h).elim
 | ref p=>
  have h':∃ xs,(SqL X.K H p xs∨SqT X.K H p xs)∧bn x=true∧xs.all bn=true∧Q (.bl (!jj x xs)) H:=by cases x <;> exact h
  obtain⟨xs,h1,h2,h3,h4⟩:=h'
  exact lV pins s σ H _ _ v u Q I rx ry ⟨p,xs,rfl,h1,h2,h3,h4⟩
 | _=>cases x <;> exact(show False from h).elim
def lE(K:PySem.W.Frag):List V→Hp→VK→Prop:=fun xs H Q=>match xs with
 | [.str z]=>z.length≤sizeLine∧Q (.int z.length) H
 | [.ref p]=>∃ ys,(SqL K H p ys∨SqT K H p ys)∧Q (.int ys.length) H
 | _=>False
theorem qt:CallR X (.builtin "len") (lE X.K):=by
 intro pins s σ H xs us Q I r h
 match xs,h with
 | [.str z],h=>exact lX pins s σ H _ us Q I r ⟨z,rfl,h⟩
 | [.ref p],h=>obtain⟨ys,h1,h2⟩:=h; exact lK pins s σ H _ us Q I r ⟨p,ys,rfl,h1,h2⟩
def ma(K:PySem.W.Frag):R2:=fun x y H Q=>match x,y with
 | .ref p,.int i=>∃ xs v,(SqL K H p xs∨SqT K H p xs)∧cX xs i=some v∧Q v H
 | .str z,.int i=>∃ c,z.length≤sizeLine∧cX z.cps.toList i=some c∧Q (.str ⟨#[c]⟩) H
 | _,_=>False
theorem zo:IxR X (ma X.K):=by
 intro value slice pins s σ H x y v u Q I rx ry h hs
 refine wm value slice pins s σ H x y v u Q I rx ry ?_ hs
 match x,y,h with
 | .ref p,.int i,h=>
  obtain⟨xs,v',h1,h2,h3⟩:=h
  rcases h1 with h1 | h1
  ·exact .inl ⟨p,xs,i,v',rfl,rfl,h1,h2,h3⟩
  ·exact .inr (.inl ⟨p,xs,i,v',rfl,rfl,h1,h2,h3⟩)
 | .str z,.int i,h=>
  obtain⟨c,h1,h2,h3⟩:=h
  exact .inr (.inr ⟨z,i,c,rfl,rfl,h1,h2,h3⟩)
end
section
variable{K:PySem.W.Frag}{H:Hp}{Q:VK}
theorem dR(i j:Int):lB (.int i) (.int j) H Q=Q (.int (i+j)) H:=rfl
theorem dQ(a b:Str):lB (.str a) (.str b) H Q=(a.length+b.length≤sizeLine∧Q (.str (a++b)) H):=rfl
theorem dH(l b:Addr):lB (.ref l) (.ref b) H Q=∃ xs zs,H l=some (.lst xs)∧H b=some (.lst zs)∧xs.length+zs.length≤sizeLine∧∀ p,H p=none→Q (.ref p) (upd H p (.lst (xs++zs))):=rfl
theorem fj(i j:Int):t7 (.int i) (.int j) H Q=Q (.bl (decide (i<j))) H:=rfl
theorem eZ(i j:Str):t7 (.str i) (.str j) H Q=Q (.bl (decide (i.cps.toList<j.cps.toList))) H:=rfl
theorem fh(i j:Str):o_ K (.str i) (.str j) H Q=Q (.bl (!(Builtin.Str.occurrences j i 0 j.length 1).isEmpty)) H:=rfl
theorem eA(x:V)(p:Addr):o_ K x (.ref p) H Q=∃ xs,(SqL K H p xs∨SqT K H p xs)∧bn x=true∧xs.all bn=true∧Q (.bl (jj x xs)) H:=by cases x <;> rfl
theorem cM(i j:Str):ja K (.str i) (.str j) H Q=Q (.bl (!(!(Builtin.Str.occurrences j i 0 j.length 1).isEmpty))) H:=rfl
theorem cO(x:V)(p:Addr):ja K x (.ref p) H Q=∃ xs,(SqL K H p xs∨SqT K H p xs)∧bn x=true∧xs.all bn=true∧Q (.bl (!jj x xs)) H:=by cases x <;> rfl
theorem dF(z:Str):lE K [.str z] H Q=(z.length≤sizeLine∧Q (.int z.length) H):=rfl
theorem dI(p:Addr):lE K [.ref p] H Q=∃ ys,(SqL K H p ys∨SqT K H p ys)∧Q (.int ys.length) H:=rfl
theorem eT(p:Addr)(i:Int):ma K (.ref p) (.int i) H Q=∃ xs v,(SqL K H p xs∨SqT K H p xs)∧cX xs i=some v∧Q v H:=rfl
theorem eF(z:Str)(i:Int):ma K (.str z) (.int i) H Q=∃ c,z.length≤sizeLine∧cX z.cps.toList i=some c∧Q (.str ⟨#[c]⟩) H:=rfl
theorem eP(p:Addr)(k:Int)(v:V)(G:Hp→Prop):pR (.ref p) (.int k) v H G=∃ xs j,H p=some (.lst xs)∧fD xs.length k=some j∧G (upd H p (.lst (xs.set j v))):=
 propext ⟨fun ⟨_,xs,_,j,e1,e2,q⟩=>by cases e1; cases e2; exact⟨xs,j,q⟩,fun ⟨xs,j,q⟩=>⟨p,xs,k,j,rfl,rfl,q⟩⟩
theorem cY(p:Addr)(y:V):kx (.ref p) [y] H Q=∃ xs,H p=some (.lst xs)∧xs.length<sizeLine∧Q .non (upd H p (.lst (xs++[y]))):=
 propext ⟨fun ⟨_,xs,_,e1,e2,q⟩=>by cases e1; cases e2; exact⟨xs,q⟩,fun ⟨xs,q⟩=>⟨p,xs,y,rfl,rfl,q⟩⟩
theorem gx(y:Str):mT K "str" (.str y) H=True:=eq_true rfl
theorem gh(p:Addr):(mT K "list" (.ref p) H)=∃ xs,SqL K H p xs:=by
 refine propext ⟨fun h=>?_,fun h=>.inl ⟨rfl,h⟩⟩
 rcases h with ⟨_,h⟩ | ⟨h,_⟩ | ⟨h,_⟩ | ⟨h,_⟩
 ·exact h
 ·exact absurd h (by decide)
 ·exact absurd h (by decide)
 ·exact absurd h (by decide)
end
theorem bR:bootBuiltins "len" = some (.builtin "len"):=by decide +kernel
theorem lq:bootBuiltins "isinstance" = some (.builtin "isinstance"):=by decide +kernel
theorem v4:bootBuiltins "any" = some (.builtin "any"):=by decide +kernel
theorem qW:bootBuiltins "min" = some (.builtin "min"):=by decide +kernel
theorem iO:bootBuiltins "sorted" = some (.builtin "sorted"):=by decide +kernel
theorem rf:bootBuiltins "str" = some (.type "str"):=by decide +kernel
theorem xE:bootBuiltins "int" = some (.type "int"):=by decide +kernel
theorem gB:bootBuiltins "list" = some (.type "list"):=by decide +kernel
theorem mS:bootBuiltins "tuple" = some (.type "tuple"):=by decide +kernel
theorem ax{X:Cx}(i:Nat){x:Str}{e:Expr}{te:TE}{pos pos':Pos}(hN:X.N.Nodup)(he:PE X e te)(hi:X.N[i]? = some x:=by rfl)(hx:aT X.env.scope x:=by first | exact vLl (by decide +kernel) | exact Or.inl rfl)(hs:swapsWith e (some (.Name x pos')) pos.line X.env=pure false:=by rfl)
  (hf:X.fn x=true∨X.env.scope.names.lookup x=some .local:=by first | exact .inl rfl | exact .inr rfl | assumption):PS X (.Assign [.Name x pos'] e pos) (kj te (fI i)):=xv hN hi hx he hs hf
theorem bb{X:Cx}(i:Nat){x:Str}{pos:Pos}(hN:X.N.Nodup)(hi:X.N[i]? = some x:=by rfl)(hx:aT X.env.scope x:=by first | exact vLl (by decide +kernel) | exact Or.inl rfl)
  (hf:X.fn x=true∨X.env.scope.names.lookup x=some .local:=by first | exact .inl rfl | exact .inr rfl | assumption):PG X (.Name x pos) (fI i):=uS hN hi hx hf
structure CompSc (fsc:Scope) (N N0 T:List Str) (scope:Scope):Prop where
 kind:scope.kind = .function
 nocell:∀ y∈scope.names,y.2 ≠ .cell
 names:∀ y∈scope.names,y.2 = .local→scope.names.lookup y.1=some .local
 free:∀ y∈scope.names,y.2 = .free→fsc.names.lookup y.1=some .cell∨fsc.names.lookup y.1=some .free
 apart:∀ y∈scope.names,y.2 = .local→y.1∉N0
 len0:N0.length=N.length
 same:((N0.zip N).all fun p=>p.1 == p.2 || !(scope.names.any fun y=>y.1 == p.1))=true
theorem CompSc.to{X:Cx}{fsc:Scope}{N N0 T:List Str}{scope:Scope}(S:CompSc fsc N N0 T scope)(h1:X.env.scope=fsc)(h2:X.N=N):gM X N0 T scope:=by
 subst h1 h2;refine⟨S.kind,S.nocell,S.names,S.free,S.apart,S.len0,fun i x k e m=>?_⟩
 have hl:=S.len0;have hi:i<N0.length:=(List.getElem?_eq_some_iff.mp e).1
 have hN:X.N[i]? = some X.N[i]:=List.getElem?_eq_getElem (by omega)
 have hz:(x,X.N[i])∈N0.zip X.N:=List.mem_of_getElem? (i:=i) (by rw[List.getElem?_zip_eq_some]; exact⟨e,hN⟩)
 have q:=List.all_eq_true.mp S.same _ hz;simp only[Bool.or_eq_true,beq_iff_eq,Bool.not_eq_true']at q
 rcases q with q | q
 ·rw[hN,← q]
 ·have:(scope.names.any fun y=>y.1 == x)=true:=List.any_eq_true.mpr ⟨_,m,by simp⟩
  rw[this]at q; cases q
def vT:R2:=yn
def rW:R2:=ym
theorem d9{X:Cx}:OpR X (compareOp .Eq) vT:=x4
theorem mr{X:Cx}:OpR X (compareOp .NotEq) rW:=xR
section
variable{K:PySem.W.Frag}{H:Hp}{Q:VK}
theorem eK(i j:Int):vT (.int i) (.int j) H Q=Q (.bl (decide (i=j))) H:=by
 have e:decide (V.int i=V.int j)=decide (i=j):=by by_cases h:i=j <;> simp[h]
 show (mV (.int i) (.int j)=true∧Q (.bl (decide (V.int i=V.int j))) H)=_
 rw[e]; exact propext ⟨fun h=>h.2,fun h=>⟨rfl,h⟩⟩
theorem dD(i j:Int):rW (.int i) (.int j) H Q=Q (.bl (!decide (i=j))) H:=by
 have e:decide (V.int i=V.int j)=decide (i=j):=by by_cases h:i=j <;> simp[h]
 show (mV (.int i) (.int j)=true∧Q (.bl (!decide (V.int i=V.int j))) H)=_
 rw[e]; exact propext ⟨fun h=>h.2,fun h=>⟨rfl,h⟩⟩
end
theorem gN{X:Cx}:PSet X pR:=sB
section
variable{X:Cx}(K:PySem.W.Frag)
theorem rQ(hK:X.K=K:=by rfl):OpR X (compareOp .In) (o_ K):=hK ▸ wY
theorem rN(hK:X.K=K:=by rfl):OpR X (compareOp .NotIn) (ja K):=hK ▸ qV
theorem br(hK:X.K=K:=by rfl):CallR X (.builtin "len") (lE K):=hK ▸ qt
theorem aM(hK:X.K=K:=by rfl):IxR X (ma K):=hK ▸ zo
theorem q5(hK:X.K=K:=by rfl)(hc:X.calm=true:=by rfl):CallR X (.builtin "any") (tK K):=hK ▸ qU hc
theorem rX(hK:X.K=K:=by rfl):SlR X (tf K):=hK ▸ uK
theorem cr{tg l:Expr}{tl:TE}(hl:PE X l tl)(hK:X.K=K:=by rfl):PI X tg l (pF K tl):=hK ▸ u7 hl
theorem h7{es:List Expr}{k n:Nat}{t:gH}{pos:Pos}(h:PGs X es t)(hn:(assignEach es X.env).length=n:=by rfl)(hst:(assignEach es X.env).findIdx? (·.1)=none:=by rfl)(hK:X.K=K:=by rfl)(hc:X.calm=true:=by rfl):PG X (.Tuple es k pos) (oX K n t):=hK ▸ xf hc h hn hst
theorem ci{o e:Expr}{es:List Expr}{to:TE}{t:TA}{name:Str}{apos cpos:Pos}{T id:String}{r:V→List V→Hp→VK→Prop}(pa:PlainAttrs T)(slot:Slot T name id)(hty:typeOf (.builtin id)=pure (.type "method_descriptor")) (hm:MtR X id r) (ho:PE X o to) (ha:PA X (e::es) t)
  (hbase:attributeBase o name X.env (eval o X.env)=eval o X.env:=by rfl)
  (hfew:((backTo cpos (starEach (e::es) X.env)).all (fun x=>!x.1)&&(backToKw cpos (keywordEach [] X.env)).all (fun x=>x.1.isSome)&&decide ((e::es).length+([]:List Keyword).length+(if ([]:List Keyword).isEmpty then 0 else 1)<30))=true:=by rfl)
  (hline:(apos.endLine == cpos.line)=true:=by rfl) (hs:starEach (e::es) X.env=(false,eval e X.env)::starEach es X.env:=by rfl) (hplain:(backTo cpos (starEach es X.env)).any (·.1)=false:=by rfl) (hK:X.K=K:=by rfl) :
  PE X (.Call (.Attribute o name apos) (e::es) [] cpos) (wD K T r to t):=hK ▸ x3 pa slot hty hm ho ha hbase hfew hline hs hplain
theorem oT(hK:X.K=K:=by rfl):CallR X (.type "list") (fun xs H Q=>∃ p ys,xs=[.ref p]∧(SqL K H p ys∨SqT K H p ys)∧∀ l,H l=none→Q (.ref l) (upd H l (.lst ys))):=hK ▸ md
theorem nG(hK:X.K=K:=by rfl):CallR X (.type "tuple") (fun xs H Q=>∃ p ys,xs=[.ref p]∧((SqL K H p ys∧∀ l,H l=none→Q (.ref l) (upd H l (.tup ys)))∨(SqT K H p ys∧Q (.ref p) H))):=hK ▸ lr
end
theorem g8(n:Int)(P:Int→Prop):(∃ j,[V.int n]=[V.int j]∧P j)=P n:=propext ⟨fun ⟨_,e,h⟩=>by cases e; exact h,fun h=>⟨n,rfl,h⟩⟩
theorem hX(n m:Int)(P:Int→Int→Prop):(∃ i j,[V.int n,V.int m]=[V.int i,V.int j]∧P i j)=P n m:=propext ⟨fun ⟨_,_,e,h⟩=>by cases e; exact h,fun h=>⟨n,m,rfl,h⟩⟩
theorem gi(x:V)(xs:List V)(P:V→List V→Prop):(∃ v r,x::xs=v::r∧P v r)=P x xs:=propext ⟨fun ⟨_,_,e,h⟩=>by cases e; exact h,fun h=>⟨x,xs,rfl,h⟩⟩
def bo(scope fsc:Scope):Scope:={ scope with names:=scope.names.map fun (n,k)=>if (k == .free&&fsc.kind == .function&&fsc.names.lookup n == some .cell) then (n,.cell) else (n,k) }
section
variable{X:Cx}{N0 T:List Str}{scope:Scope}{C:Addr}{fp:List Addr}{s:Shared}{H:Hp}{x:Str}
theorem nU(fsc:Scope)(h:(bo scope fsc).names.lookup x=some .globalImplicit)(e:X.env.scope=fsc:=by rfl):Gl (bw X N0 T scope C fp s H) x:=by subst e; exact h
theorem bQ(fsc:Scope)(h:((bo scope fsc).names.lookup x=some .local||(bo scope fsc).names.lookup x=some .cell||(bo scope fsc).names.lookup x=some .free)=true)(e:X.env.scope=fsc:=by rfl):az (bw X N0 T scope C fp s H).env.scope x:=by
 subst e;simp only[Bool.or_eq_true,decide_eq_true_eq]at h
 rcases h with (h | h) | h
 ·exact .inl h
 ·exact .inr (.inl h)
 ·exact .inr (.inr h)
theorem fz(fsc:Scope)(h:(bo scope fsc).names.lookup x=some .local)(e:X.env.scope=fsc:=by rfl):aT (bw X N0 T scope C fp s H).env.scope x:=by subst e; exact .inl h
theorem iI(fsc:Scope)(h:(bo scope fsc).names.lookup x=some .local)(e:X.env.scope=fsc:=by rfl):(bw X N0 T scope C fp s H).fn x=true∨(bw X N0 T scope C fp s H).env.scope.names.lookup x=some .local:=by subst e; exact .inr h
end
theorem bN{X:Cx}:MtR X "list.append" kx:=iL
theorem PW.pt'{X:Cx}{e:Expr}{t:TT}(h:PW X e t):PT X e t:=h.pt
theorem gF{t u:TS}{D:dv}{σ : St}{H:Hp}(I:St→Hp→Prop)(h:∀ k:St→Hp→Prop,(∀ σ' H',I σ' H'→k σ' H')→t { D with nx:=k } σ H)(hu:∀ σ' H',I σ' H'→p3 u D σ' H'):p3 (tm t u) D σ H:=h _ hu
theorem eV{σ : St}{H:Hp}{Q:VK}(trs:List (TE × TE)):uJ trs σ H Q=∀ p,H p=none→gE trs σ (upd H p (.dK [])) fun ps H2=>H2 p=some (.dK [])∧∃ kvs:List (bc × V),ps=kvs.map (fun kv=>(kV kv.1,kv.2))∧kvs.length≤15∧Q (.ref p) (upd H2 p (.dK (gY [] kvs))):=rfl
theorem cZ{σ : St}{H:Hp}{Q:List (V × V)→Hp→Prop}:gE [] σ H Q=Q [] H:=rfl
theorem cN{σ : St}{H:Hp}{Q:List (V × V)→Hp→Prop}(tk tv:TE)(r:List (TE × TE)):gE ((tk,tv)::r) σ H Q=tk σ H fun x H1=>tv σ H1 fun y H2=>gE r σ H2 fun ps H3=>Q ((x,y)::ps) H3:=rfl
theorem Same.upd{H H':Hp}{p:Addr}(sm:Same H H')(h:H p=none)(o:HO):Same H (upd H' p o):=fun b u q=>by rw[am (aV q h)]; exact sm b u q
theorem au{H:Hp}{p:Addr}(h:H p=none)(o:HO):Same H (upd H p o):=fun b u q=>by rw[am (aV q h)]; exact q
end L2
namespace L2
open PySem PySem.Spec PyProof.Rows PySem.SeqAt
def EqN(K:PySem.W.Frag)(H:Hp):Nat→V→V→Bool→Prop
 | 0,x,y,b=>bn x=true∧bn y=true∧b=d_ x y
 | n+1,x,y,b=>(bn x=true∧bn y=true∧b=d_ x y)∨∃ a c xs ys,x = .ref a∧y = .ref c∧((SqL K H a xs∧SqL K H c ys)∨(SqT K H a xs∧SqT K H c ys))∧
   ((∃ e:Nat→Bool,xs.length=ys.length∧(∀ (i:Nat) x y,xs[i]? = some x→ys[i]? = some y→EqN K H n x y (e i))∧b=(List.range xs.length).all e)∨
    (SqL K H a xs∧SqL K H c ys∧xs.length≠ys.length∧b=false))
theorem jv:∀ {x:V},bn x=true→d_ x x=true
 | .non,_=>rfl
 | .bl b,_=>by simp[d_]
 | .int i,_=>by simp[d_]
 | .str y,_=>by simp[d_]
section
variable{X:Cx}{pins:List (Addr × Obj)}{σ : St}{H:Hp}{s:Shared}
theorem EqN.self(I:Inv X pins σ H s):∀ {n:Nat} {x:V} {b:Bool},EqN X.K H n x x b→b=true
 | 0,x,b,h=>by obtain⟨h1,_,rfl⟩:=h; exact jv h1
 | n+1,x,b,h=>by
  rcases h with ⟨h1,_,rfl⟩ | ⟨a,c,xs,ys,rfl,e,hq,h⟩
  ·exact jv h1
  ·cases e
   have exy:xs=ys:=by
    rcases hq with ⟨q1,q2⟩ | ⟨q1,q2⟩
    ·exact I.list_inj q1 q2
    ·exact I.tuple_inj q1 q2
   subst exy;rcases h with ⟨e,_,he,rfl⟩ | ⟨_,_,z,_⟩
   ·rw[List.all_eq_true]
    intro i hi
    have hi':=List.mem_range.mp hi;have q:=he i xs[i] xs[i] (List.getElem?_eq_getElem hi') (List.getElem?_eq_getElem hi');exact EqN.self I q
   ·exact absurd rfl z
theorem EqN.rc(I:Inv X pins σ H s){n:Nat}(ih:∀ {A:Around} {x y:V} {b:Bool} {u v:Value},A.units+n<cLine→EqN X.K H n x y b→RelV x u→RelV y v→EqAt A s u v b)
  {A:Around} {a c:Addr} {xs ys:List V} {b:Bool} (hu:A.units+(n+1)<cLine) (hq:(SqL X.K H a xs∧SqL X.K H c ys)∨(SqT X.K H a xs∧SqT X.K H c ys))
  (h:(∃ e:Nat→Bool,xs.length=ys.length∧(∀ (i:Nat) x y,xs[i]? = some x→ys[i]? = some y→EqN X.K H n x y (e i))∧b=(List.range xs.length).all e)∨(SqL X.K H a xs∧SqL X.K H c ys∧xs.length≠ys.length∧b=false)) :
  RcAt A s (.ref a) (.ref c) b∧RcNeAt A s (.ref a) (.ref c) (!b):=by
 have hin:A.in1.units+n<cLine:=by
  have:A.in1.units=A.units+1:=rfl
  omega
 rcases h with ⟨e,hl,he,rfl⟩ | ⟨q1,q2,hl,rfl⟩
 ·rcases hq with ⟨q1,q2⟩ | ⟨q1,q2⟩
  ·obtain⟨i1,r1,p1,z1⟩:=I.list q1
   obtain⟨i2,r2,p2,z2⟩:=I.list q2
   have l1:=r1.length;have l2:=r2.length
   have hit:∀ j (h1:j<i1.toArray.size) (h2:j<i2.toArray.size),EqAt A.in1 s i1.toArray[j] i2.toArray[j] (e j):=fun j h1 h2=>by
    obtain⟨x,hx,rx⟩:=r1.of (i:=j) (u:=i1.toArray[j]) (by simp at h1 ⊢)
    obtain⟨y,hy,ry⟩:=r2.of (i:=j) (u:=i2.toArray[j]) (by simp at h2 ⊢)
    exact ih hin (he j x y hx hy) rx ry
   have ez:xs.length=i1.toArray.size:=by simp; omega
   rw[ez];exact⟨RcAt.lists p1.isList p2.isList (by simp; omega) (by omega) hit,RcNeAt.lists p1.isList p2.isList (by simp; omega) (by omega) hit⟩
  ·obtain⟨i1,r1,p1,z1⟩:=I.tuple q1
   obtain⟨i2,r2,p2,z2⟩:=I.tuple q2
   have l1:=r1.length;have l2:=r2.length
   have hit:∀ j (h1:j<i1.toArray.size) (h2:j<i2.toArray.size),EqAt A.in1 s i1.toArray[j] i2.toArray[j] (e j):=fun j h1 h2=>by
    obtain⟨x,hx,rx⟩:=r1.of (i:=j) (u:=i1.toArray[j]) (by simp at h1 ⊢)
    obtain⟨y,hy,ry⟩:=r2.of (i:=j) (u:=i2.toArray[j]) (by simp at h2 ⊢)
    exact ih hin (he j x y hx hy) rx ry
   have ez:(List.range xs.length).all e=((List.range (min i1.toArray.size i2.toArray.size)).all e&&i1.toArray.size == i2.toArray.size):=by
    have e1:i1.toArray.size=xs.length:=by simp; omega
    have e2:i2.toArray.size=xs.length:=by simp; omega
    rw[e1,e2,Nat.min_self]; simp
   rw[ez];exact⟨RcAt.tuples (show s.heap.IsTuple a i1.toArray from p1) (show s.heap.IsTuple c i2.toArray from p2) (by omega) hit,RcNeAt.tuples (show s.heap.IsTuple a i1.toArray from p1) (show s.heap.IsTuple c i2.toArray from p2) (by omega) hit⟩
 ·obtain⟨i1,r1,p1,z1⟩:=I.list q1
  obtain⟨i2,r2,p2,z2⟩:=I.list q2
  have l1:=r1.length;have l2:=r2.length
  have hne:(i1.toArray.size != i2.toArray.size)=true:=by
   rw[bne_iff_ne]; simp; omega
  exact⟨RcAt.lists_lengths p1.isList p2.isList hne (by omega),RcNeAt.lists_lengths p1.isList p2.isList hne (by omega)⟩
theorem EqN.at(I:Inv X pins σ H s):∀ {n:Nat} {A:Around} {x y:V} {b:Bool} {u v:Value},A.units+n<cLine→EqN X.K H n x y b→RelV x u→RelV y v→EqAt A s u v b
 | 0,A,x,y,b,u,v,_,h,rx,ry=>by obtain⟨h1,h2,rfl⟩:=h; exact hJ rx ry h1 h2
 | n+1,A,x,y,b,u,v,hu,h,rx,ry=>by
  have h0:=h;rcases h with ⟨h1,h2,rfl⟩ | ⟨a,c,xs,ys,rfl,rfl,hq,h⟩
  ·exact hJ rx ry h1 h2
  ·cases rx
   cases ry
   by_cases hac:a=c
   ·subst hac
    rw[EqN.self I h0];exact EqAt.same _
   ·exact EqAt.of_refs hac (EqN.rc I (fun hu' q rx ry=>EqN.at I hu' q rx ry) hu hq h).1
end
section
variable{X:Cx}
def sU(K:PySem.W.Frag):R2:=fun x y H Q=>∃ (a c:Addr) (n:Nat) (b:Bool),x = .ref a∧y = .ref c∧n≤100∧EqN K H (n+1) x y b∧Q (.bl b) H
def si(K:PySem.W.Frag):R2:=fun x y H Q=>∃ (a c:Addr) (n:Nat) (b:Bool),x = .ref a∧y = .ref c∧n≤100∧EqN K H (n+1) x y b∧Q (.bl (!b)) H
theorem wM(hu:X.A.units+101<cLine):OpR X (compareOp .Eq) (sU X.K):=by
 intro pins s σ H x y v u Q I rx ry h
 obtain⟨a,c,n,b,rfl,rfl,hn,he,q⟩:=h
 cases rx
 cases ry;rcases he with ⟨h1,_⟩ | ⟨a',c',xs,ys,e1,e2,hq,h⟩
 ·cases h1
 ·cases e1
  cases e2;exact(EqN.rc I (fun hu' q rx ry=>EqN.at I hu' q rx ry) (by omega) hq h).1 _ _ _ _ ⟨.bl b,H,I,rfl,q⟩
theorem wd(hu:X.A.units+101<cLine):OpR X (compareOp .NotEq) (si X.K):=by
 intro pins s σ H x y v u Q I rx ry h
 obtain⟨a,c,n,b,rfl,rfl,hn,he,q⟩:=h
 cases rx
 cases ry;rcases he with ⟨h1,_⟩ | ⟨a',c',xs,ys,e1,e2,hq,h⟩
 ·cases h1
 ·cases e1
  cases e2;exact(EqN.rc I (fun hu' q rx ry=>EqN.at I hu' q rx ry) (by omega) hq h).2 _ _ _ _ ⟨.bl (!b),H,I,rfl,q⟩
theorem nH(K:PySem.W.Frag){k:Nat}(hr:Room k X.A)(hK:X.K=K:=by rfl):OpR X (compareOp .Eq) (sU K):=by subst hK; exact wM (by have:=hr.un; omega)
theorem jd(K:PySem.W.Frag){k:Nat}(hr:Room k X.A)(hK:X.K=K:=by rfl):OpR X (compareOp .NotEq) (si K):=by subst hK; exact wd (by have:=hr.un; omega)
end
section
variable{K:PySem.W.Frag}{H:Hp}{Q:VK}
theorem gA(a c:Addr):sU K (.ref a) (.ref c) H Q=∃ (n:Nat) (b:Bool),n≤100∧EqN K H (n+1) (.ref a) (.ref c) b∧Q (.bl b) H:=
 propext ⟨fun ⟨_,_,n,b,e1,e2,q⟩=>⟨n,b,q⟩,fun ⟨n,b,q⟩=>⟨a,c,n,b,rfl,rfl,q⟩⟩
theorem gf(a c:Addr):si K (.ref a) (.ref c) H Q=∃ (n:Nat) (b:Bool),n≤100∧EqN K H (n+1) (.ref a) (.ref c) b∧Q (.bl (!b)) H:=
 propext ⟨fun ⟨_,_,n,b,e1,e2,q⟩=>⟨n,b,q⟩,fun ⟨n,b,q⟩=>⟨a,c,n,b,rfl,rfl,q⟩⟩
theorem EqN.flat{n:Nat}{x y:V}(hx:bn x=true)(hy:bn y=true):EqN K H n x y (d_ x y):=by
 cases n with
 | zero=>exact⟨hx,hy,rfl⟩
 | succ n=>exact .inl ⟨hx,hy,rfl⟩
theorem EqN.refl{n:Nat}{x:V}(hx:bn x=true):EqN K H n x x true:=by
 have q:EqN K H n x x (d_ x x):=EqN.flat hx hx
 rwa [jv hx]at q
theorem EqN.seq{n:Nat}{a c:Addr}{xs ys:List V}(hq:(SqL K H a xs∧SqL K H c ys)∨(SqT K H a xs∧SqT K H c ys))(hl:xs.length=ys.length)(he:∀ (i:Nat) x y,xs[i]? = some x→ys[i]? = some y→EqN K H n x y true):EqN K H (n+1) (.ref a) (.ref c) true:=
 .inr ⟨a,c,xs,ys,rfl,rfl,hq,.inl ⟨fun _=>true,hl,he,by simp⟩⟩
theorem EqN.seqFlat{n:Nat}{a c:Addr}{xs:List V}(hq:(SqL K H a xs∧SqL K H c xs)∨(SqT K H a xs∧SqT K H c xs))(hf:∀ x∈xs,bn x=true):EqN K H (n+1) (.ref a) (.ref c) true:=
 EqN.seq hq rfl fun i x y e1 e2=>by
  rw[e1]at e2; cases e2
  exact EqN.refl (hf x (List.mem_of_getElem? e1))
theorem EqN.strs{n:Nat}{a c:Addr}{ss ts:List Str}(h1:SqL K H a (ss.map V.str))(h2:SqL K H c (ts.map V.str)):EqN K H (n+1) (.ref a) (.ref c) (decide (ss=ts)):=by
 refine .inr ⟨a,c,_,_,rfl,rfl,.inl ⟨h1,h2⟩,?_⟩
 by_cases hl:ss.length=ts.length
 ·refine .inl ⟨fun i=>ss.getD i default == ts.getD i default,by simp[hl],fun i x y e1 e2=>?_,?_⟩
  ·rw[List.getElem?_map]at e1 e2
   cases q1:ss[i]? with
   | none=>rw[q1]at e1; cases e1
   | some u=>
    cases q2:ts[i]? with
    | none=>rw[q2]at e2; cases e2
    | some v=>
     rw[q1]at e1; rw[q2]at e2
     cases e1; cases e2
     dsimp only
     rw[List.getD_eq_getElem?_getD,List.getD_eq_getElem?_getD,q1,q2];exact EqN.flat rfl rfl
  ·rw[List.length_map]
   by_cases e:ss=ts
   ·subst e
    rw[decide_eq_true rfl]
    symm
    rw[List.all_eq_true];intro i _
    simp
   ·rw[decide_eq_false e]
    symm
    rw[List.all_eq_false]
    have:∃ i:Nat,ss[i]? ≠ ts[i]?:=by
     refine Classical.byContradiction fun hn=>e (List.ext_getElem? fun i=>?_)
     exact Classical.byContradiction fun h=>hn ⟨i,h⟩
    obtain⟨i,hi⟩:=this
    have hlt:i<ss.length:=by
     refine Classical.byContradiction fun hn=>hi ?_
     rw[List.getElem?_eq_none (by omega),List.getElem?_eq_none (by omega)]
    refine⟨i,List.mem_range.mpr hlt,?_⟩
    rw[List.getD_eq_getElem?_getD,List.getD_eq_getElem?_getD,List.getElem?_eq_getElem hlt,List.getElem?_eq_getElem (by omega)]
    rw[List.getElem?_eq_getElem hlt,List.getElem?_eq_getElem (by omega)]at hi
    simpa using hi
 ·have e:ss≠ts:=fun e=>hl (by rw[e])
  rw[decide_eq_false e];exact .inr ⟨h1,h2,by simpa using hl,rfl⟩
end
theorem q_{y:Str}:∀ {l:List Str} {j:Nat},j<l.idxOf y→∀ (h:j<l.length),l[j]≠y
 | n::r,0,h,_=>by
  intro e
  have e':n=y:=e
  subst e';simp at h
 | n::r,j+1,h,h2=>by
  by_cases e:n=y
  ·subst e; simp at h
  ·rw[List.idxOf_cons]at h
   have hb:(n == y)=false:=beq_eq_false_iff_ne.mpr e
   rw[hb]at h
   have h':j+1<r.idxOf y+1:=h
   have q:=q_ (y:=y) (l:=r) (j:=j) (by omega) (by simpa using h2)
   simpa using q
section
variable{X:Cx}
def qk(K:PySem.W.Frag):List V→Hp→VK→Prop:=fun xs H Q=>∃ (p:Addr) (ss:List Str),xs=[.ref p]∧SqL K H p (ss.map V.str)∧ss.length<64∧∀ (l:Addr) (ts:List Str),H l=none→ts.Perm ss→sortedS ts=true→Q (.ref l) (upd H l (.lst (ts.map V.str)))
theorem dL{K:PySem.W.Frag}{H:Hp}{Q:VK}(p:Addr):qk K [.ref p] H Q=∃ ss:List Str,SqL K H p (ss.map V.str)∧ss.length<64∧∀ (l:Addr) (ts:List Str),H l=none→ts.Perm ss→sortedS ts=true→Q (.ref l) (upd H l (.lst (ts.map V.str))):=
 propext ⟨fun ⟨_,ss,e,q⟩=>by cases e; exact⟨ss,q⟩,fun ⟨ss,q⟩=>⟨p,ss,rfl,q⟩⟩
theorem j3(K:PySem.W.Frag)(hK:X.K=K:=by rfl):CallR X (.builtin "sorted") (qk K):=by
 subst hK;intro pins s σ H xs us Q I r h
 obtain⟨p,ss,rfl,hq,h64,q⟩:=h
 obtain⟨u,rfl,ru⟩:=ce r
 cases ru;obtain⟨its,rv,pl,hz⟩:=I.list hq
 have hlen:its.length=ss.length:=by rw[← rv.length,List.length_map]
 refine sorted_strs pl.isList (i0 rv) (by omega) fun out ts h1 h2 h3=>?_
 obtain⟨e,he⟩:=sortedAll_at s.heap its out
 have hl:ts.length=ss.length:=h2.length_eq
 have hs:sizeLine=16777216:=sizeLine_eq
 exact⟨.ref (s.heap.objs.size+1),_,I.laid (t':=s.toks) (fun b o e=>sortedAll_old e) (Nat.le_succ _) (show ObjOk X.prog X.w _ _ _ (.lst (ts.map V.str)) from ⟨by rw[List.length_map]; omega,out.toList,e,iM h1,by simpa using he⟩),rfl,
  q _ ts (I.hok.fresh (Nat.le_succ _)) h2 h3⟩
def n_(K:PySem.W.Frag):V→List V→Hp→VK→Prop:=fun x vs H Q=>∃ (p:Addr) (ss:List Str) (y:Str),x = .ref p∧vs=[.str y]∧SqL K H p (ss.map V.str)∧y∈ss∧Q (.int (ss.idxOf y:Nat)) H
theorem dk{K:PySem.W.Frag}{H:Hp}{Q:VK}(p:Addr)(y:Str):n_ K (.ref p) [.str y] H Q=∃ ss:List Str,SqL K H p (ss.map V.str)∧y∈ss∧Q (.int (ss.idxOf y:Nat)) H:=
 propext ⟨fun ⟨_,ss,_,e1,e2,q⟩=>by cases e1; cases e2; exact⟨ss,q⟩,fun ⟨ss,q⟩=>⟨p,ss,y,rfl,rfl,q⟩⟩
theorem lg(K:PySem.W.Frag)(hK:X.K=K:=by rfl):MtR X "list.index" (n_ K):=by
 subst hK;intro pins s σ H x xs v us Q I rx r h
 obtain⟨p,ss,y,rfl,rfl,hq,hy,q⟩:=h
 cases rx;obtain⟨u,rfl,ru⟩:=ce r
 obtain⟨t,rfl⟩:=ru
 obtain⟨its,rv,pl,hz⟩:=I.list hq
 have hlen:its.length=ss.length:=by rw[← rv.length,List.length_map]
 rw[List.length_map]at hz
 have hs:sizeLine=16777216:=sizeLine_eq
 obtain⟨⟨cls,dd,data,sl⟩,ho,hc,n,hd⟩:=pl.isList
 simp only at hc hd
 subst hc hd;have hj:ss.idxOf y<ss.length:=List.idxOf_lt_length_iff.mpr hy
 have rel:∀ (i:Nat) (h:i<its.length),∃ t',its[i] = .str ss[i] t':=fun i h=>by
  obtain⟨x,hx,rx⟩:=rv.of (i:=i) (u:=its[i]) (List.getElem?_eq_getElem h)
  rw[List.getElem?_map,List.getElem?_eq_getElem (by omega)]at hx
  have hx':V.str ss[i]=x:=Option.some.inj hx
  subst hx';exact rx
 refine call_meets PySem.F.slot_list_index ⟨_,ho,rfl⟩ PySem.F.entry_list_index (PySem.F.args_list_index_2 _ _)
  (list_indexAt p its.toArray n dd sl (.str y t) (du (.str y)) (ss.idxOf y) (by simpa [hlen] using hj) (by omega) ?_ ?_) ⟨ho,fun z hz=>?_,⟨.int _,H,I.tok _,⟨_,rfl⟩,q⟩⟩
 ·show du (.str y) its[ss.idxOf y]=true
  obtain⟨t',e⟩:=rel (ss.idxOf y) (by omega)
  rw[e];show (ss[ss.idxOf y] == y)=true
  rw[List.getElem_idxOf hj]; simp
 ·intro j hjs hlt
  have hj':j<its.length:=by simpa using hjs
  show du (.str y) its[j]=false
  obtain⟨t',e⟩:=rel j hj'
  rw[e];show (ss[j] == y)=false
  exact beq_eq_false_iff_ne.mpr (q_ hlt _)
 ·have hz':z∈its:=by simpa using hz
  obtain⟨i,hi,rfl⟩:=List.mem_iff_getElem.mp hz'
  obtain⟨t',e⟩:=rel i hi
  have q':=hJ (A:=X.A.in1) (s:=s) (y:=.str ss[i]) (x:=.str y) (u:=its[i]) (v:=.str y t) ⟨t',e⟩ ⟨t,rfl⟩ rfl rfl;rw[e]; rw[e]at q'
  exact q'
end
section
variable{X:Cx}
def wW:R2:=fun x y H Q=>y = .non∧Q (.bl (decide (x = .non))) H
def uD:R2:=fun x y H Q=>y = .non∧Q (.bl (!decide (x = .non))) H
theorem i9:OpR X (compareOp .Is) wW:=wU
theorem im:OpR X (compareOp .IsNot) uD:=vp
def uq:List V→Hp→VK→Prop:=fun xs H Q=>∃ i,xs=[.int i]∧i.natAbs.log2<1920∧Q (.str (toString i)) H
theorem kG:CallR X (.type "str") uq:=mY
def ux:List V→Hp→VK→Prop:=fun xs H Q=>(∃ i,xs=[.int i]∧Q (.int i) H)∨∃ k,xs=[.bl k]∧Q (.int (if k then 1 else 0)) H
theorem rH:CallR X (.type "int") ux:=rD
def n6(K:PySem.W.Frag):List V→Hp→VK→Prop:=fun xs H Q=>∃ p ys,xs=[.ref p]∧(SqL K H p ys∨SqT K H p ys)∧∀ l,H l=none→Q (.ref l) (upd H l (.lst ys))
theorem d0(K:PySem.W.Frag)(hK:X.K=K:=by rfl):CallR X (.type "list") (n6 K):=oT K hK
def qB(K:PySem.W.Frag):List V→Hp→VK→Prop:=fun xs H Q=>∃ p ys,xs=[.ref p]∧((SqL K H p ys∧∀ l,H l=none→Q (.ref l) (upd H l (.tup ys)))∨(SqT K H p ys∧Q (.ref p) H))
theorem qh(K:PySem.W.Frag)(hK:X.K=K:=by rfl):CallR X (.type "tuple") (qB K):=nG K hK
def ue:List V→Hp→VK→Prop:=fun xs H Q=>∃ i j,xs=[.int i,.int j]∧Q (.int (if j<i then j else i)) H
theorem kR(hc:X.calm=true:=by rfl):CallR X (.builtin "min") ue:=qA hc
def oJ:R2:=fun x y H Q=>match x,y with
 | .int i,.int j=>CMul i j∧Q (.int (i * j)) H
 | .str z,.int n=>0≤n∧n≤4096∧z.length≤4096∧Q (.str (Txt.mul z n)) H
 | _,_=>False
theorem df:OpR X (binaryOp .Mult) oJ:=by
 intro pins s σ H x y v u Q I rx ry h
 match x,y,h with
 | .int i,.int j,h=>exact wX pins s σ H _ _ v u Q I rx ry ⟨_,_,rfl,rfl,h⟩
 | .str z,.int n,h=>
  obtain⟨t,rfl⟩:=rx
  obtain⟨t',rfl⟩:=ry
  obtain⟨h0,h1,h2,q⟩:=h
  exact SB.mul (mulOk_of 4096 4096 h2 (by omega) (by omega) (by decide) (by decide)) fun t' k=>⟨.str (Txt.mul z n),H,I.tok k,⟨t',rfl⟩,q⟩
end
section
variable{K:PySem.W.Frag}{H:Hp}{Q:VK}
theorem fW(x:V):wW x .non H Q=Q (.bl (decide (x = .non))) H:=propext ⟨fun h=>h.2,fun h=>⟨rfl,h⟩⟩
theorem eL(x:V):uD x .non H Q=Q (.bl (!decide (x = .non))) H:=propext ⟨fun h=>h.2,fun h=>⟨rfl,h⟩⟩
theorem eB(i:Int):uq [.int i] H Q=(i.natAbs.log2<1920∧Q (.str (toString i)) H):=propext ⟨fun ⟨_,e,q⟩=>by cases e; exact q,fun q=>⟨i,rfl,q⟩⟩
theorem fe(k:Bool):ux [.bl k] H Q=Q (.int (if k then 1 else 0)) H:=propext ⟨fun h=>by rcases h with ⟨_,e,q⟩ | ⟨_,e,q⟩ <;> cases e; exact q,fun q=>.inr ⟨k,rfl,q⟩⟩
theorem dg(p:Addr):n6 K [.ref p] H Q=∃ ys,(SqL K H p ys∨SqT K H p ys)∧∀ l,H l=none→Q (.ref l) (upd H l (.lst ys)):=propext ⟨fun ⟨_,ys,e,q⟩=>by cases e; exact⟨ys,q⟩,fun ⟨ys,q⟩=>⟨p,ys,rfl,q⟩⟩
theorem dP(p:Addr):qB K [.ref p] H Q=∃ ys,((SqL K H p ys∧∀ l,H l=none→Q (.ref l) (upd H l (.tup ys)))∨(SqT K H p ys∧Q (.ref p) H)):=propext ⟨fun ⟨_,ys,e,q⟩=>by cases e; exact⟨ys,q⟩,fun ⟨ys,q⟩=>⟨p,ys,rfl,q⟩⟩
theorem eR(i j:Int):ue [.int i,.int j] H Q=Q (.int (if j<i then j else i)) H:=propext ⟨fun ⟨_,_,e,q⟩=>by cases e; exact q,fun q=>⟨i,j,rfl,q⟩⟩
theorem dS(i j:Int):oJ (.int i) (.int j) H Q=(CMul i j∧Q (.int (i * j)) H):=rfl
theorem dJ(z:Str)(n:Int):oJ (.str z) (.int n) H Q=(0≤n∧n≤4096∧z.length≤4096∧Q (.str (Txt.mul z n)) H):=rfl
theorem gq(a:Addr)(lo hi:Option Int):tf K (.ref a) lo hi H Q=∃ xs,SqL K H a xs∧∀ p,H p=none→Q (.ref p) (upd H p (.lst (jG xs lo hi))):=propext ⟨fun ⟨_,xs,e,q⟩=>by cases e; exact⟨xs,q⟩,fun ⟨xs,q⟩=>⟨a,xs,rfl,q⟩⟩
end
theorem b6{n:Nat}(h:n≤1000000):n<sizeLine:=by
 have:sizeLine=16777216:=sizeLine_eq
 omega
theorem bM{n:Nat}(h:n≤1000000):n≤sizeLine:=Nat.le_of_lt (b6 h)
theorem qe{α : Type}{f:α→V}{xs:List α}{i:Int}{x:α}(h0:0≤i)(h:xs[i.toNat]? = some x):cX (xs.map f) i=some (f x):=by
 have q:(xs.map f)[i.toNat]? = some (f x):=by rw[List.getElem?_map,h]; rfl
 have q':=aC q
 rwa [show ((i.toNat:Nat):Int)=i by omega]at q'
theorem xN{α : Type}{xs:List α}{i:Int}(h0:0≤i)(h:i<xs.length):∃ x,xs[i.toNat]? = some x∧cX xs i=some x:=by
 have hk:i.toNat<xs.length:=by omega
 refine⟨xs[i.toNat],List.getElem?_eq_getElem hk,?_⟩
 have q:=aC (List.getElem?_eq_getElem hk)
 rwa [show ((i.toNat:Nat):Int)=i by omega]at q
theorem dc{H H':Hp}{p:Addr}{o:HO}(h:upd H p o=H')(hp:H p=none):Same H H':=h ▸ au hp o
theorem gJ{H H':Hp}{p:Addr}{o:HO}(h:upd H p o=H'):H' p=some o:=h ▸ ai
end L2
namespace L2
open PySem PySem.Spec PyProof.Rows
theorem Inv.turnedL{X:Cx}{pins:List (Addr × Obj)}{σ : St}{H:Hp}{s:Shared}{h':Heap}{t':Nat}{ch:List Addr}(I:Inv X pins σ H s)(k:∀ b o,b∉ch→s.heap.get? b=some o→h'.get? b=some o)
  (hf:∀ b∈ch,fv X pins H b):Inv X pins σ H { s with heap:=h',toks:=t' }:=by
 have nit:∀ b u,H b=some u→b∉ch:=fun b u e z=>by rw[(hf b z).1]at e; cases e
 refine I.step (g':=s.gens) (d':=s.drawn) (ch:=ch) (fun b hb=>?_) (fun b o _ _ hc e _=>k b o hc e) (fun b o _ _ hc e _=>⟨o.slots,k b o hc e⟩) (fun _ _ _ _ n=>n)
  (fun b o hc e=>⟨o,k b o hc e⟩) (fun _ _ e=>e) (fun _ _ _ e=>e) (fun b ps e=>⟨#[],by rw[e]; simp⟩) (fun m hm=>?_) (fun b u e=>?_) I.bare
 ·obtain⟨_,f1,_,f3,f4,f5⟩:=hf b hb
  exact⟨f3,f1,f4,f5⟩
 ·obtain⟨o,es,ep,ho,r⟩:=hm
  exact⟨o,es,ep,k _ o (fun z=>(hf _ z).2.1 rfl) ho,r⟩
 ·refine(I.hok b u e).stay (fun c v hc q=>k c v ?_ q) (fun _ q=>q) fun _ _ q=>q
  rcases hc with z | z
  ·rw[z]; exact nit b u e
  ·exact nit c _ z
theorem Inv.turnedLaid{X:Cx}{pins:List (Addr × Obj)}{σ : St}{H:Hp}{s:Shared}{h':Heap}{t':Nat}{ch:List Addr}{a:Addr}{o:HO}(I:Inv X pins σ H s)(k:∀ b o,b∉ch→s.heap.get? b=some o→h'.get? b=some o)
  (hf:∀ b∈ch,fv X pins H b) (hp:s.heap.objs.size≤a) (new:ObjOk X.prog X.w (upd H a o) h' a o):Inv X pins σ (upd H a o) { s with heap:=h',toks:=t' }:=by
 have hn:H a=none:=I.hok.fresh hp
 have nit:∀ b u,H b=some u→b∉ch:=fun b u e z=>by rw[(hf b z).1]at e; cases e
 refine I.step (g':=s.gens) (d':=s.drawn) (ch:=ch) (fun b hb=>?_) (fun b o _ _ hc e _=>k b o hc e) (fun b o _ _ hc e _=>⟨o.slots,k b o hc e⟩) (fun b u _ q n=>?_)
  (fun b o hc e=>⟨o,k b o hc e⟩) (fun b xs q=>?_) (fun b u xs q=>?_) (fun b ps q=>⟨#[],?_⟩) (fun m hm=>?_) (fun b u e=>?_) I.bare
 ·obtain⟨_,f1,_,f3,f4,f5⟩:=hf b hb
  exact⟨f3,f1,f4,f5⟩
 ·rw[am (Nat.ne_of_lt (Nat.lt_of_lt_of_le (Heap.lt_size q) hp))]; exact n
 ·rw[am (aV q hn)]; exact q
 ·rw[am (aV q hn)]; exact q
 ·rw[am (aV q hn),q]; simp
 ·obtain⟨o,es,ep,ho,r⟩:=hm
  exact⟨o,es,ep,k _ o (fun z=>(hf _ z).2.1 rfl) ho,r⟩
 ·by_cases hb:b=a
  ·subst hb; rw[ai]at e; cases e; exact new
  ·rw[am hb]at e
   refine(I.hok b u e).stay (fun c v hc q=>k c v ?_ q) (fun c q=>by rw[am (aV q hn)]; exact q) fun c xs q=>by rw[am (aV q hn)]; exact q
   rcases hc with z | z
   ·rw[z]; exact nit b u e
   ·exact nit c _ z
section
variable{X:Cx}
end
section
variable{σ : St}{H:Hp}{Q:VK}
end
end L2
namespace L2
open PySem PySem.Spec PyProof.Rows
def p9(K:PySem.W.Frag)(a:Addr):It:=
  ⟨fun i H=>∃ xs x,SqL K H a xs∧xs[i]? = some x,
   fun i H v H'=>∃ t x,H t=none∧v = .ref t∧H'=upd H t (.tup [.int i,x])∧∀ xs,SqL K H a xs→xs[i]? = some x,
   fun i H=>∃ xs,SqL K H a xs∧xs.length≤i⟩
def AG(e it l:Addr)(i:Nat)(h:Heap):Prop:=(∃ old,IsEnum h e it i old)∧h.IsListIter it l i
theorem qE{P:Program}{w:World}{K:PySem.W.Frag}{elts:List Expr}{k:Nat}{pos:Pos}{e it l:Addr}(hei:e≠it):kr P w K (.Tuple elts k pos) (p9 K l) [e,it] e (AG e it l) where
 mem:=by simp
 obj:=fun i h st b hb=>by
  obtain⟨⟨old,s1⟩,⟨o4,s4,c4,d4⟩⟩:=st
  simp only[List.mem_cons,List.mem_nil_iff,or_false]at hb
  rcases hb with rfl | rfl
  ·exact⟨_,s1,fun v e=>by cases e⟩
  ·exact⟨_,s4,fun v e=>by rw[d4]at e; cases e⟩
 keep:=fun i h h' st kk=>by
  obtain⟨⟨old,s1⟩,s4⟩:=st
  exact⟨⟨old,kk e (by simp) _ s1⟩,s4.at fun o z=>kk it (by simp) o z⟩
 item:=by
  intro X hP hw hK hc i pins s σ H E I hf st hg
  subst hP hw hK;obtain⟨xs,x,q1,hx⟩:=hg
  obtain⟨is1,rv1,p1,_⟩:=I.list q1
  obtain⟨u1,hu1,ru1⟩:=rv1.get hx
  obtain⟨⟨old,s1⟩,s4⟩:=st
  refine wpAny_pyNext_enum_item s1 s4 p1.isList (x:=u1) (by simpa using hu1) hei fun h' a1 a3 a5 a6 kk=>?_
  refine⟨_,rfl,wpAny_letOwnedTupleGo_enum a1 fun h'' hz' hs'=>?_⟩
  have lt:∀ {c o},s.heap.get? c=some o→s.heap.objs.size≠c:=fun z=>Nat.ne_of_gt (Heap.lt_size z)
  have zne:s.heap.objs.size≠e:=lt s1
  have keep2:∀ b o,b∉[e,it]→s.heap.get? b=some o→h''.get? b=some o:=fun b o hb z=>by
   simp only[List.mem_cons,List.mem_nil_iff,or_false,not_or]at hb
   exact hs'.extBut _ _ hb.1 (kk b o hb.1 hb.2 z)
  have hsz:H s.heap.objs.size=none:=I.hok.fresh (Nat.le_refl _)
  have tupN:=hs'.extBut _ _ zne a5
  have nlt:∀ c∈[e,it],c≠s.heap.objs.size:=fun c hc'=>by
   obtain⟨o4,e4,_⟩:=id s4
   simp only[List.mem_cons,List.mem_nil_iff,or_false]at hc'
   rcases hc' with rfl | rfl
   ·exact(lt s1).symm
   ·exact(lt e4).symm
  refine⟨.ref s.heap.objs.size,upd H s.heap.objs.size (.tup [.int i,x]),I.turnedLaid (t':=s.toks+1) keep2 hf (Nat.le_refl _) ⟨bM (by show 2≤1000000; decide),[.int i s.toks,u1],.cons ⟨_,rfl⟩ (.cons ru1 .nil),⟨_,tupN,rfl,rfl,0,rfl⟩⟩,rfl,⟨_,x,hsz,rfl,rfl,fun xs' q'=>?_⟩,
   ⟨⟨_,by simpa using hz'⟩,a3.extBut hs'.extBut hei.symm⟩,fun c hc'=>?_⟩
  ·rw[I.list_inj q' q1]; exact hx
  ·rw[am (nlt c hc')]; exact(hf c hc').1
 done:=by
  intro X hP hw hK hc i pins s σ H E I hf st hg
  subst hP hw hK;obtain⟨xs,q1,hlen⟩:=hg
  obtain⟨is1,rv1,p1,_⟩:=I.list q1
  have l1:=rv1.length;obtain⟨⟨old,s1⟩,s4⟩:=st
  refine wpAny_pyNext_enum_end (I.ok.hd hc) s1 s4 p1.isList (by simp; omega) fun h' kk=>⟨rfl,I.turnedL (t':=s.toks) (fun b o hb z=>?_) hf⟩
  simp only[List.mem_cons,List.mem_nil_iff,or_false,not_or]at hb
  exact kk b o hb.2 z
 self:=fun A i s Q E st h=>by
  obtain⟨⟨old,s1⟩,_⟩:=st
  exact wpAny_pyIter_enum s1 h
theorem ko:bootBuiltins "enumerate" = some (.type "enumerate"):=by decide +kernel
def uf(K:PySem.W.Frag)(ta:TA):TI:=fun σ H R=>ta σ H fun vs H1=>∃ a:Addr,vs=[.ref a]∧(∃ xs,H1 a=some (.lst xs))∧R (p9 K a) H1
theorem e_(K:PySem.W.Frag)(ta:TA){σ : St}{H:Hp}{R:It→Hp→Prop}:uf K ta σ H R=ta σ H fun vs H1=>∃ a:Addr,vs=[.ref a]∧(∃ xs,H1 a=some (.lst xs))∧R (p9 K a) H1:=rfl
theorem fS(n:Addr)(P:Addr→Prop):(∃ i,[V.ref n]=[V.ref i]∧P i)=P n:=propext ⟨fun ⟨_,e,h⟩=>by cases e; exact h,fun h=>⟨n,rfl,h⟩⟩
theorem ir(K:PySem.W.Frag){X:Cx}{elts:List Expr}{k:Nat}{tpos:Pos}{a:Expr}{ta:TA}{p pos:Pos}(hg:Gl X "enumerate") (hm:X.mg "enumerate" = none) (ha:PA X [a] ta) (hs:starEach [a] X.env=[(false,eval a X.env)]:=by rfl) (hK:X.K=K:=by rfl) :
  PI X (.Tuple elts k tpos) (.Call (.Name "enumerate" p) [a] [] pos) (uf K ta):=by
 subst hK;intro pins s σ H R I h
 refine Call_ (g9 I hg hm ko (PyProof.Rows.callWith_type1 (aY (ha pos pins s σ H _ I h) fun us s1 ⟨vs,H1,I1,r1,q1⟩=>?_) hs rfl))
 obtain⟨l,e,⟨xs,h1⟩,q⟩:=q1
 subst e;obtain⟨u1,rfl,r1'⟩:=ce r1
 obtain rfl:u1=Value.ref l:=r1'
 obtain⟨hz,its,n,rv,hl⟩ : xs.length≤sizeLine∧∃ (its:List Value) (n:Nat),Vals xs its∧s1.heap.get? l=some { cls:=.type "list", data:=.seq its.toArray n }:=I1.hok l _ h1
 refine call_enumerate_1 hl fun h' a1 a4 a6 kk=>?_
 refine wpAny_pyIter_enum a1 ⟨_,[s1.heap.objs.size+1,s1.heap.objs.size],_,_,H1,rfl,I1.kept (t':=s1.toks) kk,
  qE (e:=s1.heap.objs.size+1) (it:=s1.heap.objs.size) (Nat.ne_of_gt (Nat.lt_succ_self _)),⟨⟨_,a1⟩,a4⟩,fun b hb=>?_,q⟩
 have hb':s1.heap.objs.size≤b:=by
  simp only[List.mem_cons,List.mem_nil_iff,or_false]at hb
  rcases hb with rfl | rfl <;> first | exact Nat.le_refl _ | exact Nat.le_add_right _ _
 exact I1.fpOk hb' (I1.hok.fresh hb')
section
variable{K:PySem.W.Frag}{a b:Addr}{xs ys:List V}{g:TG}{te:TE}{nT:Nat}{σ : St}{D:Addr}{Q:VK}{H:Hp}
theorem pY(Pv:Nat→List V→Hp→Prop)(h0:Pv 0 [] H)(hl:∀ i zs H,i≤xs.length→Pv i zs H→SqL K H a xs)
  (hs:∀ i zs H x t,xs[i]? = some x→i<xs.length→Pv i zs H→H t=none→g (.ref t) (σ++List.replicate nT none) (upd H t (.tup [.int i,x])) (ic xs.length i Pv D zs te))
  (hd:∀ zs H,Pv xs.length zs H→Q (.ref D) H):dW (p9 K a) g jE te nT σ D Q H:=by
 refine jy xs.length Pv h0 (fun i zs H hi p=>⟨xs,xs[i],hl i zs H (Nat.le_of_lt hi) p,by simp[hi]⟩) (fun zs H p=>⟨xs,hl _ zs H (Nat.le_refl _) p,Nat.le_refl _⟩) (fun i zs H v H' hi p yl=>?_) hd
 obtain⟨t,x,ht,rfl,rfl,y1⟩:=yl
 exact hs i zs H x t (y1 xs (hl i zs H (Nat.le_of_lt hi) p)) hi p ht
theorem iP{tb:TS}{D:dv}(Pv:Nat→St→Hp→Prop)(h0:Pv 0 σ H)(hl:∀ i σ H,i≤xs.length→Pv i σ H→SqL K H a xs)
  (hs:∀ i x t σ H,xs[i]? = some x→Pv i σ H→H t=none→g (.ref t) σ (upd H t (.tup [.int i,x])) fun σ2 H2=>tb { D with nx:=Pv (i+1),ct:=Pv (i+1),bk:=D.nx } σ2 H2) (hd:∀ σ H,Pv xs.length σ H→D.nx σ H):lN (p9 K a) g tb D σ H:=by
 refine vj xs.length Pv h0 (fun i σ H hi p=>⟨xs,xs[i],hl i σ H (Nat.le_of_lt hi) p,by simp[hi]⟩) (fun σ H p=>⟨xs,hl _ σ H (Nat.le_refl _) p,Nat.le_refl _⟩) (fun i σ H v H' hi p yl=>?_) hd
 obtain⟨t,x,ht,rfl,rfl,y1⟩:=yl
 exact hs i x t σ H (y1 xs (hl i σ H (Nat.le_of_lt hi) p)) p ht
def pb(n i:Nat)(Pv:Nat→List V→Hp→Prop)(ys:List V)(H:Hp):Prop:=∃ m',m'<n - i∧(m'=n - (i+1)∧i+1≤n∧Pv (i+1) ys H)
theorem ub{n i:Nat}{Pv:Nat→List V→Hp→Prop}{ys:List V}{H:Hp}(hi:i<n)(h:Pv (i+1) ys H):pb n i Pv ys H:=⟨n - (i+1),by omega,rfl,hi,h⟩
theorem qJ{n i:Nat}{Pv:Nat→List V→Hp→Prop}{D:Addr}{ys:List V}{y:V}{H:Hp}(hi:i<n)(hlen:ys.length≤i)(hz:n≤sizeLine)(h1:H D=some (.lst ys))(h2:Pv (i+1) (ys++[y]) (upd H D (.lst (ys++[y])))):fE n i Pv D ys y H:=
 ⟨h1,by omega,n - (i+1),by omega,rfl,hi,h2⟩
def oM(n i:Nat)(Pv:Nat→List V→Hp→Prop)(D:Addr)(ys:List V)(tc:TT)(te:TE)(σ : St)(H:Hp):Prop:=
 tc σ H fun b H4=>if b=true then te σ H4 (fE n i Pv D ys) else pb n i Pv ys H4
theorem eC{n i:Nat}{Pv:Nat→List V→Hp→Prop}{D:Addr}{ys:List V}{tc:TT}{te:TE}{σ : St}{H:Hp}:oM n i Pv D ys tc te σ H=tc σ H fun b H4=>if b=true then te σ H4 (fE n i Pv D ys) else pb n i Pv ys H4:=rfl
theorem tj{J:It}{tc:TT}(n:Nat)(Pv:Nat→List V→Hp→Prop)(h0:Pv 0 [] H)(hgo:∀ i ys H,i<n→Pv i ys H→J.go i H)(hst:∀ ys H,Pv n ys H→J.stop n H)
  (hs:∀ i ys H x H',i<n→Pv i ys H→J.yld i H x H'→g x (σ++List.replicate nT none) H' (oM n i Pv D ys tc te))
  (hd:∀ ys H,Pv n ys H→Q (.ref D) H):dW J g tc te nT σ D Q H:=by
 refine⟨fun i m ys H=>m=n - i∧i≤n∧Pv i ys H,⟨n,by simp,Nat.zero_le _,h0⟩,?_⟩
 rintro i m ys H ⟨rfl,hi,p⟩
 by_cases hlt:i<n
 ·exact .inr ⟨hgo i ys H hlt p,fun x H' y=>hs i ys H x H' hlt p y⟩
 ·have e:i=n:=by omega
  subst e;exact .inl ⟨hst ys H p,hd ys H p⟩
theorem jt{tc:TT}{lo:Int}{n:Nat}(Pv:Nat→List V→Hp→Prop)(h0:Pv 0 [] H)
  (hs:∀ i ys H,i<n→Pv i ys H→g (.int (lo+i)) (σ++List.replicate nT none) H (oM n i Pv D ys tc te))
  (hd:∀ ys H,Pv n ys H→Q (.ref D) H):dW (iH lo n) g tc te nT σ D Q H:=by
 refine tj n Pv h0 (fun i ys H hi p=>hi) (fun ys H p=>Nat.le_refl _) (fun i ys H x H' hi p yl=>?_) hd
 obtain⟨rfl,rfl⟩:=yl
 exact hs i ys _ hi p
end
end L2
namespace L2
open PySem PySem.Spec PyProof.Rows
end L2
namespace L2
open PySem PySem.Spec PyProof.Rows
set_option genInjectivity false in
set_option genSizeOf false in
structure IK (prog:Program) (w:World) (κ : Type) [DecidableEq κ] where
 is:Heap→κ→Value→Prop
 hash:κ→Int
 draws:κ→Nat
 deep:Nat
 inj:∀ {h:Heap} {v:Value} {x y:κ},is h x v→is h y v→x=y
 keeps:∀ {h h':Heap} {k:κ} {v:Value} {d:Addr} {o:Obj} {es ep},is h k v→h.get? d=some o→o.data = .dict es ep→Heap.SameBut d h h'→is h' k v
 pyHash:∀ {A:Around} {E:Value→Shared→Prop} {s:Shared} {k:κ} {v:Value} {Q:Int→Shared→Prop},A.units+deep<cLine→is s.heap k v→Q (hash k) { s with toks:=s.toks+draws k }→
  wpAny (model prog w) A (PySem.pyHash v) Q E s
 eqBool:∀ {A:Around} {E:Value→Shared→Prop} {s:Shared} {x y:κ} {u v:Value} {Q:Bool→Shared→Prop},A.units+deep<cLine→is s.heap x u→is s.heap y v→Q (decide (x=y)) s→
  wpAny (model prog w) A (PySem.eqBool u v) Q E s
 quiet:∀ {A:Around} {E:Value→Shared→Prop} {s:Shared} {k:κ} {v:Value} {n:Nat} {Q:Bool→Shared→Prop},is s.heap k v→Q true s→wpAny (model prog w) A (eqIsQuiet (n+deep) v) Q E s
section
variable{prog:Program}{w:World}{κ : Type}[DecidableEq κ](K:IK prog w κ)
inductive IsItems (h:Heap):List κ→List Value→Prop
 | nil:IsItems h [] []
 | cons {k:κ} {v:Value} {ks:List κ} {vs:List Value}:K.is h k v→IsItems h ks vs→IsItems h (k::ks) (v::vs)
def IsTupK(h:Heap)(ks:List κ)(v:Value):Prop:=∃ a o items n,v = .ref a∧h.get? a=some o∧o.cls = .type "tuple" ∧ o.data = .seq items n∧IsItems K h ks items.toList
variable{K}
theorem IsItems.inj{h:Heap}:∀ {x y:List κ} {vs:List Value},IsItems K h x vs→IsItems K h y vs→x=y
 | _,_,_,.nil,.nil=>rfl
 | _,_,_,.cons a b,.cons c d=>by rw[K.inj a c,IsItems.inj b d]
theorem IsItems.keeps{h h':Heap}{d:Addr}{o:Obj}{es ep}(ho:h.get? d=some o)(hd:o.data = .dict es ep)(hs:Heap.SameBut d h h'):∀ {x:List κ} {vs:List Value},IsItems K h x vs→IsItems K h' x vs
 | _,_,.nil=>.nil
 | _,_,.cons a b=>.cons (K.keeps a ho hd hs) (b.keeps ho hd hs)
theorem IsItems.len{h:Heap}:∀ {x:List κ} {vs:List Value},IsItems K h x vs→x.length=vs.length
 | _,_,.nil=>rfl
 | _,_,.cons _ b=>by rw[List.length_cons,List.length_cons,b.len]
def gR(K:IK prog w κ)(ks:List κ):Nat:=(ks.map K.draws).sum
def lP(K:IK prog w κ)(ks:List κ):Int:=reduceHash (Builtin.Tuple.tupleHashOf (ks.map K.hash))
theorem i4{A:Around}{E:Value→Shared→Prop}{s:Shared}{ks:List κ}{v:Value}{Q:Int→Shared→Prop}(hu:A.units+(K.deep+1)<cLine)(hk:IsTupK K s.heap ks v)(h:Q (lP K ks) { s with toks:=s.toks+(gR K ks+1) }) :
  wpAny (model prog w) A (PySem.pyHash v) Q E s:=by
 obtain⟨a,o,items,n,rfl,ho,hc,hd,hi⟩:=hk
 have hT:s.TypeIs (.ref a) "tuple" := ⟨o,ho,hc⟩
 unfold PySem.pyHash
 first | unfold pyHashByItsType | skip
 first | refine wpAny_bind (wpAny_cRoomFor_or (.inr (by omega)) ?_) | skip
 refine wpAny_bind (wpAny_specialOf hT PySem.F.slot_tuple_hash.lookup ?_)
 rw[if_neg (by rw[beq_builtin_none]; exact Bool.false_ne_true)]
 refine wpAny_bind (wpAny_specialOf hT PySem.F.slot_tuple_hash.lookup ?_)
 show wpAny _ _ (callSpecialIfBoundUnlessNone? (.ref a) "__hash__" _ >>= _) Q E s
 refine wpAny_bind (wpAny_callSpecialIfBoundUnlessNone?_slot hT PySem.F.slot_tuple_hash (wpAny_call_entry PySem.F.slot_tuple_hash hT
  PySem.F.entry_tuple_hash ?_ (PySem.F.args_tuple_hash_1 _)))
 show wpAny _ _ (Builtin.Tuple.tupleItemsOf (.ref a) >>= _) _ _ s
 refine wpAny_bind (wpAny_tupleItemsOf ho hd (wpAny_bind ?_))
 rw[← Array.forIn_toList];refine wpAny_forIn_list _ (fun b4 (b:Array Int) s'=>∃ done left,ks=done++left∧IsItems K s.heap left b4∧b.toList=done.map K.hash∧s'={ s with toks:=s.toks+gR K done }) _ ?_ ?_ _ _ ⟨[],ks,rfl,hi,rfl,rfl⟩
 ·rintro x b4 b s' ⟨done,left,rfl,hl,hb,rfl⟩
  cases hl with
  | @cons k _ ks' _ h1 hl'=>
   have e:gR K (done++[k])=gR K done+K.draws k:=by simp[gR]
   refine wpAny_bind (K.pyHash (show A.in1.units+K.deep<cLine from by show A.units+1+K.deep<cLine; omega) h1 ?_)
   have fin:∃ done' left',done++k::ks'=done'++left'∧IsItems K s.heap left' b4∧(b.push (K.hash k)).toList=done'.map K.hash∧({ s with toks:=s.toks+gR K done+K.draws k }:Shared)={ s with toks:=s.toks+gR K done' }:=
    ⟨done++[k],ks',by simp,hl',by simp[hb],by rw[e,Nat.add_assoc]⟩
   first
    | exact wpAny_pure fin
    | exact wpAny_bind (wpAny_pure (wpAny_pure fin))
 ·rintro b s' ⟨done,left,rfl,hl,hb,rfl⟩
  cases hl;rw[List.append_nil]at h
  show wpAny _ _ (retInt (Builtin.Tuple.tupleHashOf b.toList)) _ _ _
  rw[hb];refine wpAny_ret_mkInt ?_
  unfold lP reduceHash at h;show wpAny _ _ (if (decide (-(2:Int) ^ 63≤Builtin.Tuple.tupleHashOf (done.map K.hash))&&decide (Builtin.Tuple.tupleHashOf (done.map K.hash)<2 ^ 63))=true then _ else _) Q E _
  by_cases hr:(decide (-(2:Int) ^ 63≤Builtin.Tuple.tupleHashOf (done.map K.hash))&&decide (Builtin.Tuple.tupleHashOf (done.map K.hash)<2 ^ 63))=true
  ·rw[if_pos hr]at h ⊢
   exact wpAny_pure (by simpa [Nat.add_assoc] using h)
  ·rw[if_neg hr]at h ⊢
   exact wpAny_bind (wpAny_rule (wpAny_pure (by simpa [Nat.add_assoc] using h)))
theorem pV{A:Around}{E:Value→Shared→Prop}{s:Shared}{x y:List κ}{a b:Addr}{P:Fin→Shared→Prop}(hu:A.units+K.deep<cLine)(hx:IsTupK K s.heap x (.ref a))(hy:IsTupK K s.heap y (.ref b))(h:P (.done (.ret (.bool (decide (x=y))))) s) :
  wpAny (model prog w) A (Builtin.«tuple.__eq__» ⟨[.ref a,.ref b],[]⟩) P E s:=by
 obtain⟨_,oa,xs,na,e1,hoa,ca,hda,hia⟩:=hx
 obtain⟨_,ob,ys,nb,e2,hob,cb,hdb,hib⟩:=hy
 cases e1
 cases e2;show wpAny _ _ (isInstance (.ref b) (.type "tuple") >>= _) _ _ s
 refine wpAny_bind (wpAny_isInstance ⟨ob,hob,cb⟩ isSubtype_tuple_tuple ?_)
 simp only[Bool.not_true,Bool.false_eq_true,if_false]
 refine wpAny_bind (wpAny_tupleItemsOf hoa hda (wpAny_bind (wpAny_tupleItemsOf hob hdb (wpAny_bind ?_))))
 refine wpAny_forIn_list _ (fun b4 r s'=>r.1=none∧s'=s∧∃ x' y' xs' ys',b4=List.zip xs' ys'∧IsItems K s.heap x' xs'∧IsItems K s.heap y' ys'∧decide (x'=y')=decide (x=y)∧(xs'.length == ys'.length)=(xs.size == ys.size)) _ ?_ ?_ _ _
  ⟨rfl,rfl,x,y,xs.toList,ys.toList,rfl,hia,hib,rfl,by simp⟩
 ·rintro⟨u,v⟩ b4 r s' ⟨hr,rfl,x',y',xs',ys',hz,hx',hy',hdec,hlen⟩
  cases hx' with
  | nil=>simp at hz
  | @cons k1 u' x'' xs'' h1 hx''=>
   cases hy' with
   | nil=>simp at hz
   | @cons k2 v' y'' ys'' h2 hy''=>
    simp only[List.zip_cons_cons,List.cons.injEq,Prod.mk.injEq]at hz
    obtain⟨⟨rfl,rfl⟩,rfl⟩:=hz
    refine wpAny_bind (K.eqBool (x:=k1) (y:=k2) hu h1 h2 ?_)
    by_cases hk:k1=k2
    ·subst hk
     rw[decide_eq_true rfl];simp only[Bool.not_true,Bool.false_eq_true,if_false]
     refine wpAny_pure ⟨rfl,rfl,x'',y'',xs'',ys'',rfl,hx'',hy'',?_,by simpa using hlen⟩
     rw[← hdec]
     by_cases hxy:x''=y'' <;> simp[hxy]
    ·rw[decide_eq_false hk]
     simp only[Bool.not_false,if_true]
     have hf:decide (x=y)=false:=by rw[← hdec]; simp[hk]
     rw[hf]at h
     exact wpAny_bind (wpAny_pure (wpAny_pure (wpAny_pure h)))
 ·rintro⟨r1,r2⟩ s' ⟨hr,rfl,x',y',xs',ys',hz,hx',hy',hdec,hlen⟩
  simp only at hr
  subst hr;refine wpAny_pure ?_
  have hfin:(xs.size == ys.size)=decide (x=y):=by
   rw[← hdec,← hlen]
   cases hx' with
   | nil=>cases hy' <;> simp
   | cons _ _=>
    cases hy' with
    | nil=>simp
    | cons _ _=>simp at hz
  show P (.done (.ret (.bool (xs.size == ys.size)))) s'
  rw[hfin]; exact h
theorem kc{A:Around}{E:Value→Shared→Prop}{s:Shared}{x y:List κ}{u v:Value}{Q:Bool→Shared→Prop}(hu:A.units+(K.deep+1)<cLine)(hx:IsTupK K s.heap x u)(hy:IsTupK K s.heap y v)(h:Q (decide (x=y)) s) :
  wpAny (model prog w) A (PySem.eqBool u v) Q E s:=by
 have hx0:=hx;have hy0:=hy;obtain⟨a,oa,xs,na,rfl,hoa,ca,hda,hia⟩:=hx
 obtain⟨b,ob,ys,nb,rfl,hob,cb,hdb,hib⟩:=hy
 unfold PySem.eqBool
 try with_reducible refine wpAny_holding ?_
 show wpAny _ _ (if (Value.ref a == Value.ref b)=true then _ else _) Q E s
 by_cases hab:(Value.ref a == Value.ref b)=true
 ·rw[if_pos hab]
  have e:a=b:=by have:=eq_of_beq hab; injection this
  subst e;rw[hoa]at hob
  cases hob;rw[hda]at hdb
  injection hdb with e1 _
  subst e1;rw[decide_eq_true (hia.inj hib)]at h
  exact wpAny_bind (wpAny_rule (wpAny_pure h))
 ·rw[if_neg hab]
  have ta:s.TypeIs (.ref a) "tuple" := ⟨oa,hoa,ca⟩
  have tb:s.TypeIs (.ref b) "tuple" := ⟨ob,hob,cb⟩
  refine wpAny_bind (wpAny_richCompare_same_room (op:=.Eq) ta tb PySem.F.slot_tuple_eq (wpAny_call_entry PySem.F.slot_tuple_eq ta PySem.F.entry_tuple_eq ?_ (PySem.F.args_tuple_eq_2 _ _)) (by omega))
  refine pV (K:=K) ?_ hx0 hy0 ⟨_,rfl,(fun e=>nomatch e),wpAny_truthy_bool h⟩
  show A.units+1+K.deep<cLine
  omega
theorem il{A:Around}{E:Value→Shared→Prop}{s:Shared}{ks:List κ}{v:Value}{n:Nat}{Q:Bool→Shared→Prop}(hk:IsTupK K s.heap ks v)(h:Q true s):wpAny (model prog w) A (eqIsQuiet (n+(K.deep+1)) v) Q E s:=by
 obtain⟨a,o,items,m,rfl,ho,hc,hd,hi⟩:=hk
 have hT:s.TypeIs (.ref a) "tuple" := ⟨o,ho,hc⟩
 rw[show n+(K.deep+1)=(n+K.deep)+1 from rfl];unfold eqIsQuiet;refine wpAny_bind (wpAny_specialOf hT PySem.F.slot_tuple_eq.lookup ?_)
 show wpAny _ _ (isInstance (.ref a) (.type "tuple") >>= _) _ _ s
 refine wpAny_bind (wpAny_isInstance hT isSubtype_tuple_tuple ?_)
 simp only[Bool.not_true,Bool.false_eq_true,if_false]
 refine wpAny_bind (wpAny_seqItems ho hd (wpAny_bind ?_))
 show wpAny _ _ (forIn items _ _) _ _ s
 rw[← Array.forIn_toList];refine wpAny_forIn_list _ (fun b4 r s'=>r.1=none∧s'=s∧∃ ks',IsItems K s.heap ks' b4) _ ?_ ?_ _ _ ⟨rfl,rfl,ks,hi⟩
 ·rintro v b4 r s' ⟨hr,rfl,ks',hall⟩
  cases hall with
  | cons h1 h2=>
   refine wpAny_bind (K.quiet h1 ?_)
   simp only[Bool.not_true,Bool.false_eq_true,if_false]
   exact wpAny_pure ⟨rfl,rfl,_,h2⟩
 ·rintro⟨r1,r2⟩ s' ⟨hr,rfl,_⟩
  simp only at hr
  subst hr;exact wpAny_pure h
def pX(K:IK prog w κ):IK prog w (List κ) where
 is:=IsTupK K
 hash:=lP K
 draws:=fun ks=>gR K ks+1
 deep:=K.deep+1
 inj:=by
  rintro h v x y ⟨a,oa,xs,na,rfl,hoa,ca,hda,hia⟩ ⟨b,ob,ys,nb,e,hob,cb,hdb,hib⟩
  cases e;rw[hoa]at hob
  cases hob;rw[hda]at hdb
  injection hdb with e1 _
  subst e1;exact hia.inj hib
 keeps:=by
  rintro h h' k v d o es ep ⟨a,oa,xs,na,rfl,hoa,ca,hda,hia⟩ ho hd hs
  have hne:a≠d:=by
   rintro rfl
   rw[hoa]at ho
   cases ho;rw[hd]at hda; cases hda
  exact⟨a,oa,xs,na,rfl,(hs.2 a hne).trans hoa,ca,hda,hia.keeps ho hd hs⟩
 pyHash:=fun hu hk h=>i4 hu hk h
 eqBool:=fun hu hx hy h=>kc hu hx hy h
 quiet:=fun hk h=>il hk h
def ud(K:IK prog w κ)(hd:K.deep≤7):HeapKind prog w (List κ) where
 is:=fun h k a=>IsTupK K h k (.ref a)
 hash:=lP K
 draws:=fun ks=>gR K ks+1
 room:=fun A=>A.units+(K.deep+1)<cLine
 inj:=(pX K).inj
 keeps:=(pX K).keeps
 pyHash:=fun hu hk h=>i4 hu hk h
 eqBool:=fun hu hx hy h=>kc hu hx hy h
 quiet:=fun {A E s k a Q} hk h=>by
  have q:=il (n:=7 - K.deep) (A:=A) (E:=E) hk h
  rwa [show 7 - K.deep+(K.deep+1)=8 by omega]at q
end
end L2
namespace L2
open PySem PySem.Spec PyProof.Rows
def bL:Option Int→V
 | none=>.non
 | some i=>.int i
theorem tw{x y:Option Int}{v:Value}(a:RelV (bL x) v)(b:RelV (bL y) v):x=y:=by
 have e:=a.inj b
 cases x <;> cases y <;> simp_all [bL]
theorem dG(x:Option Int):bn (bL x)=true:=by cases x <;> rfl
theorem nM(x y:Option Int):d_ (bL x) (bL y)=decide (x=y):=by
 cases x with
 | none=>cases y <;> rfl
 | some i=>
  cases y with
  | none=>rfl
  | some j=>
   show (i == j)=_
   by_cases h:i=j <;> simp[h]
theorem qu{prog:Program}{w:World}{A:Around}{E:Value→Shared→Prop}{s:Shared}{Q:Int→Shared→Prop}(h:Q 0xFCA86420 { s with toks:=s.toks+1 }):wpAny (model prog w) A (PySem.pyHash .none) Q E s:=by
 have hT:s.TypeIs .none "NoneType" := rfl
 unfold PySem.pyHash
 first | unfold pyHashByItsType | skip
 refine wpAny_bind ?_
 rw[cRoomFor,if_neg (by decide)]
 refine wpAny_pure (wpAny_bind (wpAny_specialOf hT PySem.F.slot_NoneType_hash.lookup ?_))
 rw[if_neg (by rw[beq_builtin_none]; exact Bool.false_ne_true)]
 refine wpAny_bind (wpAny_specialOf hT PySem.F.slot_NoneType_hash.lookup ?_)
 show wpAny _ _ (callSpecialIfBoundUnlessNone? .none "__hash__" _ >>= _) Q E s
 refine wpAny_bind (wpAny_callSpecialIfBoundUnlessNone?_slot hT PySem.F.slot_NoneType_hash (wpAny_call_entry PySem.F.slot_NoneType_hash hT
  PySem.F.entry_NoneType_hash ?_ (PySem.F.args_NoneType_hash_1 _)))
 show wpAny _ _ (retInt 0xFCA86420) _ _ s
 refine wpAny_ret_mkInt ?_
 exact wpAny_pure h
def cP(prog:Program)(w:World):IK prog w (Option Int) where
 is:=fun _ k v=>RelV (bL k) v
 hash:=fun k=>match k with
  | none=>0xFCA86420
  | some i=>hashInt i
 draws:=fun _=>1
 deep:=0
 inj:=fun a b=>tw a b
 keeps:=fun a _ _ _=>a
 pyHash:=fun {A E s k v Q} _ hk h=>by
  cases k with
  | none=>
   obtain rfl:v=Value.none:=hk
   exact qu h
  | some i=>
   obtain⟨t,rfl⟩:=(show ∃ t,v=Value.int i t from hk)
   exact wpAny_pyHash_int h
 eqBool:=fun {A E s x y u v Q} _ hx hy h=>by
  have q:=hJ (A:=A) (s:=s) hx hy (dG x) (dG y);rw[nM]at q
  exact q prog w E Q h
 quiet:=fun {A E s k v n Q} hk h=>by
  have e:carriedByValue v=true:=by
   cases k with
   | none=>obtain rfl:v=Value.none:=hk; rfl
   | some i=>obtain⟨t,rfl⟩:=(show ∃ t,v=Value.int i t from hk); rfl
  rw[eqIsQuiet_byValue _ e];exact wpAny_pure h
abbrev NI:=Sum Int (List (Option Int))
def sP(prog:Program)(w:World)(h:Heap):NI→Value→Prop
 | .inl i,v=>∃ t,v=Value.int i t
 | .inr l,v=>IsTupK (cP prog w) h l v
theorem IsTupK.tup{prog:Program}{w:World}{κ : Type}[DecidableEq κ]{K:IK prog w κ}{h:Heap}{l:List κ}{v:Value}(x:IsTupK K h l v):∃ a its,v = .ref a∧h.IsTuple a its:=by
 obtain⟨a,o,items,n,rfl,ho,hc,hd,hi⟩:=x
 exact⟨a,items,rfl,o,ho,hc,n,hd⟩
theorem nO{A:Around}{prog:Program}{w:World}(hu:A.units+1<cLine):A.units+((cP prog w).deep+1)<cLine:=hu
theorem x5(i j:Int):(i == j)=decide ((Sum.inl i:NI)=Sum.inl j):=by
 by_cases z:i=j
 ·subst z; simp
 ·have z':¬ ((Sum.inl i:NI)=Sum.inl j):=fun q=>z (Sum.inl.inj q)
  rw[decide_eq_false z']; simpa using z
theorem x9(l l':List (Option Int)):decide (l=l')=decide ((Sum.inr l:NI)=Sum.inr l'):=by
 by_cases z:l=l'
 ·subst z; simp
 ·have z':¬ ((Sum.inr l:NI)=Sum.inr l'):=fun q=>z (Sum.inr.inj q)
  rw[decide_eq_false z',decide_eq_false z]
theorem xY(i:Int)(l:List (Option Int)):decide ((Sum.inl i:NI)=Sum.inr l)=false:=decide_eq_false (fun q=>nomatch q)
theorem yc(i:Int)(l:List (Option Int)):decide ((Sum.inr l:NI)=Sum.inl i)=false:=decide_eq_false (fun q=>nomatch q)
theorem xS{prog:Program}{w:World}{A:Around}{E:Value→Shared→Prop}{s:Shared}{u v:Value}{Q:Bool→Shared→Prop}(hu:A.units+1<cLine):∀ (x y:NI),sP prog w s.heap x u→sP prog w s.heap y v→Q (decide (x=y)) s→
  wpAny (model prog w) A (PySem.eqBool u v) Q E s
 | .inl i,.inl j,⟨t,e1⟩,⟨t',e2⟩,h=>by
  subst e1 e2;rw[← x5]at h
  exact wpAny_eqBool_int h
 | .inl i,.inr l,⟨t,e1⟩,hy,h=>by
  subst e1;obtain⟨b,its,rfl,ht⟩:=IsTupK.tup (K:=cP prog w) hy
  rw[xY]at h
  exact SeqAt.EqAt.int_tuple i t ht (Nat.lt_of_succ_lt hu) prog w E Q h
 | .inr l,.inl j,hx,⟨t,e1⟩,h=>by
  subst e1;obtain⟨b,its,rfl,ht⟩:=IsTupK.tup (K:=cP prog w) hx
  rw[yc]at h
  exact SeqAt.EqAt.tuple_int j t ht (Nat.lt_of_succ_lt hu) prog w E Q h
 | .inr l,.inr l',hx,hy,h=>by
  rw[← x9]at h
  exact kc (K:=cP prog w) (nO hu) hx hy h
def yv(prog:Program)(w:World):IK prog w NI where
 is:=sP prog w
 hash:=fun k=>match k with
  | .inl i=>hashInt i
  | .inr l=>lP (cP prog w) l
 draws:=fun k=>match k with
  | .inl _=>1
  | .inr l=>gR (cP prog w) l+1
 deep:=1
 inj:=fun {h v x y} a b=>by
  cases x with
  | inl i=>
   obtain⟨t,rfl⟩:=(show ∃ t,v=Value.int i t from a)
   cases y with
   | inl j=>obtain⟨t',e⟩:=(show ∃ t',Value.int i t=Value.int j t' from b); injection e with e1 _; rw[e1]
   | inr l=>obtain⟨a,_,e,_⟩:=IsTupK.tup (show IsTupK (cP prog w) h l _ from b); cases e
  | inr l=>
   cases y with
   | inl j=>
    obtain⟨t,rfl⟩:=(show ∃ t,v=Value.int j t from b)
    obtain⟨a,_,e,_⟩:=IsTupK.tup (show IsTupK (cP prog w) h l _ from a); cases e
   | inr l'=>rw[(pX (cP prog w)).inj (show IsTupK (cP prog w) h l v from a) (show IsTupK (cP prog w) h l' v from b)]
 keeps:=fun {h h' k v d o es ep} a ho hd hs=>by
  cases k with
  | inl i=>exact a
  | inr l=>exact(pX (cP prog w)).keeps (show IsTupK (cP prog w) h l v from a) ho hd hs
 pyHash:=fun {A E s k v Q} hu hk h=>by
  cases k with
  | inl i=>
   obtain⟨t,rfl⟩:=(show ∃ t,v=Value.int i t from hk)
   exact wpAny_pyHash_int h
  | inr l=>exact i4 (K:=cP prog w) (nO hu) hk h
 eqBool:=fun {A E s x y u v Q} hu hx hy h=>xS hu x y hx hy h
 quiet:=fun {A E s k v n Q} hk h=>by
  cases k with
  | inl i=>
   obtain⟨t,rfl⟩:=(show ∃ t,v=Value.int i t from hk)
   rw[eqIsQuiet_byValue _ rfl];exact wpAny_pure h
  | inr l=>exact il (K:=cP prog w) hk h
end L2
namespace L2
open PySem PySem.Spec PyProof.Rows
abbrev cT:=Int × List (Option Int)
def nk(k:cT):List NI:=[.inl k.1,.inr k.2]
theorem wZ{k k':cT}(h:nk k=nk k'):k=k':=by
 obtain⟨a,b⟩:=k
 obtain⟨c,d⟩:=k'
 unfold nk at h;simp at h
 rw[h.1,h.2]
def MK(P:Program)(w:World):HeapKind P w (List NI):=ud (yv P w) (show 1≤7 by decide)
def i7(P:Program)(w:World)(a:Addr)(xs:List (List NI × Addr × Value)):HO:=
 .ext fun h=>∃ o es ep,h.get? a=some o∧o.ExactDict∧o.data = .dict es ep∧es.toList=xs.map (entryOfKey (MK P w))∧(xs.map (·.1)).Nodup
def KeyAt(H:Hp)(k:cT)(b:Addr):Prop:=∃ t,H b=some (.tup [.int k.1,.ref t])∧H t=some (.tup (k.2.map bL))
def NRow(H:Hp)(p:cT × V)(q:List NI × Addr × Value):Prop:=q.1=nk p.1∧KeyAt H p.1 q.2.1∧RelV p.2 q.2.2
def DN(P:Program)(w:World)(H:Hp)(a:Addr)(kvs:List (cT × V)):Prop:=
 ∃ xs,H a=some (i7 P w a xs)∧(a == sysModules)=false∧xs.length≤sizeLine∧Paired (NRow H) kvs xs
theorem KeyAt.mono{H H':Hp}{k:cT}{b:Addr}(h:KeyAt H k b)(sm:∀ c xs,H c=some (.tup xs)→H' c=some (.tup xs)):KeyAt H' k b:=by
 obtain⟨t,h1,h2⟩:=h
 exact⟨t,sm _ _ h1,sm _ _ h2⟩
theorem DN.mono{P:Program}{w:World}{H H':Hp}{a:Addr}{kvs:List (cT × V)}(h:DN P w H a kvs)(sm:Same H H'):DN P w H' a kvs:=by
 obtain⟨xs,h1,h2,h3,h4⟩:=h
 exact⟨xs,sm _ _ h1,h2,h3,Paired.imp' (fun p q z=>⟨z.1,z.2.1.mono fun c ys e=>sm _ _ e,z.2.2⟩) h4⟩
section
variable{P:Program}{w:World}{H:Hp}
theorem NRow.val:∀ {kvs:List (cT × V)} {xs:List (List NI × Addr × Value)} (k:cT),Paired (NRow H) kvs xs→RelO (aX kvs k) ((atKey xs (nk k)).map (·.2))
 | _,_,k,.nil=>True.intro
 | _,_,k,@Paired.cons _ _ _ p q kvs xs r t=>by
  have ih:=NRow.val k t;obtain⟨e1,e2,e3⟩:=r
  by_cases h:p.1=k
  ·have h1:aX (p::kvs) k=some p.2:=by simp[aX,h]
   have h2:atKey (q::xs) (nk k)=some q.2:=by simp[atKey,e1,h]
   rw[h1,h2]; exact e3
  ·have hn:¬ q.1=nk k:=fun z=>h (wZ (e1.symm.trans z))
   have h1:aX (p::kvs) k=aX kvs k:=by simp[aX,h]
   have h2:atKey (q::xs) (nk k)=atKey xs (nk k):=by simp[atKey,hn]
   rw[h1,h2]; exact ih
theorem fA{h:Heap}:∀ {l:List (Option Int)} {us:List Value},Vals (l.map bL) us→IsItems (cP P w) h l us
 | [],_,.nil=>.nil
 | x::l,_,.cons r t=>.cons r (fA t)
end
section
variable{X:Cx}{pins:List (Addr × Obj)}{σ : St}{H:Hp}{s:Shared}{a b:Addr}{k:cT}{kvs:List (cT × V)}
theorem Inv.key(I:Inv X pins σ H s)(h:KeyAt H k b):(MK X.prog X.w).is s.heap (nk k) b:=by
 obtain⟨t,h1,h2⟩:=h
 obtain⟨_,its,r,o,e,c,n,d⟩ : ([V.int k.1,V.ref t]:List V).length≤sizeLine∧∃ its:List Value,Vals [V.int k.1,V.ref t] its∧IsTup s.heap b its.toArray:=by obtain⟨z,its,r,p⟩:=I.hok b _ h1; exact⟨z,its,r,p.tup⟩
 obtain⟨_,its2,r2,o2,e2,c2,n2,d2⟩ : (k.2.map bL).length≤sizeLine∧∃ its:List Value,Vals (k.2.map bL) its∧IsTup s.heap t its.toArray:=by obtain⟨z,its,r,p⟩:=I.hok t _ h2; exact⟨z,its,r,p.tup⟩
 obtain⟨u,v,rfl,ru,rv⟩:=pI r
 cases rv;refine⟨b,o,_,n,rfl,e,c,d,?_⟩
 show IsItems (yv X.prog X.w) s.heap [.inl k.1,.inr k.2] [u,.ref t]
 exact .cons ru (.cons ⟨t,o2,_,n2,rfl,e2,c2,d2,by simpa using fA r2⟩ .nil)
theorem Inv.dn(I:Inv X pins σ H s)(h:DN X.prog X.w H a kvs):∃ xs,H a=some (i7 X.prog X.w a xs)∧(a == sysModules)=false∧xs.length≤sizeLine∧Paired (NRow H) kvs xs∧s.heap.DictOfH (MK X.prog X.w) a xs:=by
 obtain⟨xs,h1,h2,h3,h4⟩:=h
 obtain⟨⟨o,es,ep,e1,e2,e3,e4,e5⟩,_,_⟩:=I.hok a _ h1
 refine⟨xs,h1,h2,h3,h4,o,es,ep,e1,e2,e3,e4,?_,e5⟩
 have all:∀ {l:List (cT × V)} {m:List (List NI × Addr × Value)},Paired (NRow H) l m→∀ x∈m,(MK X.prog X.w).is s.heap x.1 x.2.1:=by
  intro l m r
  induction r with
  | nil=>intro x hx; simp at hx
  | cons r t ih=>
   intro x hx
   rcases List.mem_cons.mp hx with rfl | hx
   ·rw[r.1]; exact I.key r.2.1
   ·exact ih x hx
 exact all h4
theorem mP{P:Program}{w:World}{H':Hp}{h':Heap}{xs:List (List NI × Addr × Value)}(m:h'.DictOfH (MK P w) a xs):ObjOk P w H' h' a (i7 P w a xs):=by
 obtain⟨o,es,ep,e1,e2,e3,e4,_,e5⟩:=m
 exact⟨⟨o,es,ep,e1,e2,e3,e4,e5⟩,⟨o,e1⟩,fun h1 h2 ⟨o,es,ep,q1,q⟩ z=>⟨o,es,ep,z _ q1,q⟩⟩
def u9(P:Program)(w:World):R2:=fun x y H Q=>∃ b a k kvs,x = .ref b∧y = .ref a∧DN P w H a kvs∧KeyAt H k b∧Q (.bl (!(aX kvs k).isSome)) H
theorem qK{n:Nat}(hr:Room n X.A):OpR X (compareOp .NotIn) (u9 X.prog X.w):=by
 intro pins s σ H x y v u Q I rx ry h
 obtain⟨b,a,k,kvs,rfl,rfl,hd,hk,q⟩:=h
 cases rx
 cases ry;obtain⟨xs,h1,h2,h3,h4,m⟩:=I.dn hd
 refine wpAny_notIn_heap (show (MK X.prog X.w).room X.A.in1 from by show X.A.units+1+2<cLine; have:=hr.un; omega) (I.key hk) h2 m ?_
 have e:=(NRow.val k h4).isSome_eq;rw[Option.isSome_map]at e
 rw[← e];exact⟨.bl _,H,I.tok _,rfl,q⟩
def zJ(P:Program)(w:World):R2:=fun x y H Q=>∃ a b k kvs v,x = .ref a∧y = .ref b∧DN P w H a kvs∧KeyAt H k b∧aX kvs k=some v∧Q v H
theorem Ab{n:Nat}(hr:Room n X.A):IxR X (zJ X.prog X.w):=by
 intro value slice pins s σ H x y v u Q I rx ry h hs
 obtain⟨a,b,k,kvs,z,rfl,rfl,hd,hk,hv,q⟩:=h
 cases rx
 cases ry;obtain⟨xs,h1,h2,h3,h4,m⟩:=I.dn hd
 obtain⟨w',hw,rw'⟩:=RelO.some_of (v:=z) (o:=(atKey xs (nk k)).map (·.2)) (by rw[← hv]; exact NRow.val k h4)
 obtain⟨p,hp,hp2⟩:=Option.map_eq_some_iff.mp hw
 have hl:typeLookup (.type "dict") "__getitem__" = pure (some (.builtin "dict.__getitem__")):=PySem.F.slot_dict_getitem.lookup
 refine subscriptTail_builtinR (x:=w') m.typeIs hl ?_ hs
 refine wpAny_getItem_heap (show (MK X.prog X.w).room X.A.in1 from by show X.A.units+1+2<cLine; have:=hr.un; omega) (I.key hk) m hp ?_
 rw[hp2];exact⟨rfl,z,H,I.tok _,rw',q⟩
def xT(P:Program)(w:World):jF:=fun o i v H Q=>∃ a b k kvs,o = .ref a∧i = .ref b∧DN P w H a kvs∧KeyAt H k b∧aX kvs k=none∧kvs.length<sizeLine∧∀ u,DN P w (upd H a u) a (kvs++[(k,v)])→Q (upd H a u)
theorem Paired.snoc{α β : Type}{F:α→β→Prop}{x:α}{y:β}(h:F x y):∀ {l:List α} {m:List β},Paired F l m→Paired F (l++[x]) (m++[y])
 | _,_,.nil=>.cons h .nil
 | _,_,.cons r t=>.cons r (Paired.snoc h t)
theorem xX{n:Nat}(hr:Room n X.A):PSet X (xT X.prog X.w):=by
 intro pins s σ H o i v ov iv u Q I ro ri rv h
 obtain⟨a,b,k,kvs,rfl,rfl,hd,hk,hv,hl,q⟩:=h
 cases ro
 cases ri;obtain⟨xs,h1,h2,h3,h4,m⟩:=I.dn hd
 have hx:atKey xs (nk k)=none:=by
  have e:=NRow.val k h4;rw[hv]at e
  cases hq:atKey xs (nk k) with
  | none=>rfl
  | some p=>rw[hq]at e; exact e.elim
 refine wpAny_setItem_heap (hsz:=h3) (show (MK X.prog X.w).room X.A.in1 from by show X.A.units+1+2<cLine; have:=hr.un; omega) (I.key hk) m fun h' m' hs=>?_
 rw[storedH_new hx]at m'
 have keep:∀ c ys,H c=some (.tup ys)→upd H a (i7 X.prog X.w a (xs++[(nk k,b,u)])) c=some (.tup ys):=fun c ys e=>by
  rw[am (fF e h1 (fun z=>nomatch z))]; exact e
 refine⟨upd H a (i7 X.prog X.w a (xs++[(nk k,b,u)])),gb I (by rw[h1]; exact True.intro) hs (let ⟨o,_,_,e,_⟩:=m'; ⟨o,e⟩) (mP m'),q _ ⟨_,ai,h2,?_,?_⟩⟩
 ·rw[List.length_append,← Paired.length h4]
  show kvs.length+1≤sizeLine
  omega
 ·exact Paired.snoc ⟨rfl,hk.mono keep,rv⟩ (Paired.imp' (fun p q z=>⟨z.1,z.2.1.mono keep,z.2.2⟩) h4)
def x8(P:Program)(w:World):List V→Hp→VK→Prop:=fun xs H Q=>∃ a kvs,xs=[.ref a]∧DN P w H a kvs∧Q (.int kvs.length) H
theorem w5{P:Program}{w:World}{A:Around}{E:Value→Shared→Prop}{Q:Value→Shared→Prop}{xs:List (List NI × Addr × Value)}(hd:(a == sysModules)=false)(m:s.heap.DictOfH (MK P w) a xs)(hz:xs.length≤sizeLine)
  (h:∀ t tk,Q (.int xs.length t) { s with toks:=tk }):wpAny (model P w) A (call (.builtin "len") [.ref a]) Q E s:=by
 have hs:sizeLine=16777216:=sizeLine_eq
 refine Calls.call_function_entry kind_len plain_len entry_len (args_len1 _) ?_
 unfold Builtin.«len»
 refine wpAny_bind (m:=oneArg "len" _) (wpAny_pure ?_)
 have body:MeetsIn P w (Builtin.«dict.__len__» ⟨[.ref a],[]⟩) (fun _ R s'=>s'=s∧R (.ok (.ret (.int xs.length s'.toks))) { s' with toks:=s'.toks+1 }):=.of_wp fun A R s' ⟨e,hR⟩=>by
  subst e;obtain⟨o,es,ep,ho,hc,hdat,hk,_⟩:=id m
  show wpAny _ _ (dictSize a >>= _) _ _ s'
  unfold dictSize;refine wpAny_bind (wpAny_bind (wpAny_dictEntries ho hdat (wpAny_pure ?_)))
  show wpAny _ _ (Builtin.Dict.pendingCount a >>= _) _ _ s'
  refine wpAny_bind (wpAny_pendingCount_other hd (wpAny_ret_mkInt ?_))
  have e:es.size=xs.length:=by rw[← Array.length_toList,hk,List.length_map]
  rw[Nat.add_zero,e]; exact hR
 refine wpAny_bind (m:=callSpecial? (.ref a) (Str.ofString "__len__")) (wpAny_callSpecial?_slot (name:=Str.ofString "__len__") m.typeIs PySem.F.slot_dict_len
  (call_meetsIn PySem.F.slot_dict_len m.typeIs PySem.F.entry_dict_len (PySem.F.args_dict_len_1 _) body ⟨rfl,?_⟩))
 refine wpAny_bind (wpAny_holding (wpAny_pure (wpAny_bind (wpAny_letGo ?_))))
 show wpAny _ _ (if ((xs.length:Nat):Int)<0 then _ else _) _ _ _
 rw[if_neg (by omega)]
 show wpAny _ _ (if ((xs.length:Nat):Int)≥2 ^ 63 then _ else _) _ _ _
 rw[if_neg (by omega)]
 exact wpAny_bind (wpAny_mkInt (wpAny_pure ⟨_,rfl,h _ _⟩))
theorem rB:CallR X (.builtin "len") (x8 X.prog X.w):=by
 intro pins s σ H xs us Q I r h
 obtain⟨a,kvs,rfl,hd,q⟩:=h
 obtain⟨u,rfl,ru⟩:=ce r
 cases ru;obtain⟨ys,h1,h2,h3,h4,m⟩:=I.dn hd
 refine w5 h2 m h3 fun t tk=>⟨.int kvs.length,H,I.tok tk,?_,q⟩
 rw[← Paired.length h4];exact⟨t,rfl⟩
def vQ(P:Program)(w:World):TE:=fun _ H Q=>∀ p,H p=none→∀ u,DN P w (upd H p u) p []→Q (.ref p) (upd H p u)
theorem sG{pos:Pos}:PE X (.Dict [] [] pos) (vQ X.prog X.w):=fun pins s σ H Q I h=>by
 have hm:(s.heap.push { cls:=.type "dict", data:=.dict #[] }).DictOfH (MK X.prog X.w) s.heap.objs.size []:=⟨_,#[],0,Heap.get?_push_size _ rfl,⟨rfl,rfl,rfl⟩,rfl,rfl,(fun x hx=>by simp at hx),List.nodup_nil⟩
 exact wpAny_Dict_empty ⟨.ref s.heap.objs.size,_,I.laid (a:=s.heap.objs.size) (o:=i7 X.prog X.w s.heap.objs.size []) (t':=s.toks) (fun _ _ q=>Heap.get?_push_of_some _ q) (Nat.le_refl _) (mP hm),rfl,
  h _ (I.hok.fresh (Nat.le_refl _)) _ ⟨[],ai,beq_eq_false_iff_ne.mpr (Ne.symm (Nat.ne_of_lt I.big)),Nat.zero_le _,.nil⟩⟩
end
end L2
namespace L2
open PySem PySem.Spec PyProof.Rows PySem.SeqAt
section
variable{X:Cx}
def yJ(K:PySem.W.Frag):R2:=fun x y H Q=>ma K x y H Q∨∃ a kvs k v,x = .ref a∧y=kV k∧H a=some (.dK kvs)∧aX kvs k=some v∧Q v H
theorem zP(K:PySem.W.Frag)(hK:X.K=K:=by rfl):IxR X (yJ K):=by
 intro value slice pins s σ H x y v u Q I rx ry h hs
 rcases h with h | ⟨a,kvs,k,z,rfl,rfl,e,l,q⟩
 ·exact aM K hK value slice pins s σ H x y v u Q I rx ry h hs
 ·cases rx
  obtain⟨_,hd,vs,rel,dd⟩:=oW I.hok (.inl e)
  obtain⟨w',hw,rw'⟩:=RelO.some_of (v:=z) (o:=valueAt vs k) (by rw[← l]; exact rel.val k)
  have hl:typeLookup (.type "dict") "__getitem__" = pure (some (.builtin "dict.__getitem__")):=PySem.F.slot_dict_getitem.lookup
  exact subscriptTail_builtinR (x:=w') dd.typeIs hl (wpAny_getItem_of (jO ry) dd.mapOf hw ⟨rfl,z,H,I.tok _,rw',q⟩) hs
def vf:R2:=fun x y H Q=>∃ a kvs k,y = .ref a∧x=kV k∧H a=some (.dK kvs)∧Q (.bl (!(aX kvs k).isSome)) H
theorem qT{n:Nat}(hr:Room n X.A):OpR X (compareOp .NotIn) vf:=by
 intro pins s σ H x y v u Q I rx ry h
 obtain⟨a,kvs,k,rfl,rfl,e,q⟩:=h
 cases ry;exact uX (by have:=hr.un; omega) I (DGet.k e) rx fun s' I'=>⟨.bl _,H,I',rfl,q⟩
def xQ:jF:=fun o i v H Q=>∃ a kvs k,o = .ref a∧i=kV k∧H a=some (.dK kvs)∧kvs.length<sizeLine∧Q (upd H a (.dK (cx kvs k v)))
theorem uI{n:Nat}(hr:Room n X.A):PSet X xQ:=by
 intro pins s σ H o i v ov iv u Q I ro ri rv h
 obtain⟨a,kvs,k,rfl,rfl,e,hl,q⟩:=h
 cases ro;exact qF (by have:=hr.un; omega) I (DPut.k e hl) ri rv fun s' I'=>⟨_,I',q⟩
end
section
variable{K:PySem.W.Frag}{H:Hp}{Q:VK}
theorem EqN.ints{n:Nat}{a c:Addr}{ss ts:List Int}(h1:SqL K H a (ss.map V.int))(h2:SqL K H c (ts.map V.int)):EqN K H (n+1) (.ref a) (.ref c) (decide (ss=ts)):=by
 refine .inr ⟨a,c,_,_,rfl,rfl,.inl ⟨h1,h2⟩,?_⟩
 by_cases hl:ss.length=ts.length
 ·refine .inl ⟨fun i=>ss.getD i 0 == ts.getD i 0,by simp[hl],fun i x y e1 e2=>?_,?_⟩
  ·rw[List.getElem?_map]at e1 e2
   cases q1:ss[i]? with
   | none=>rw[q1]at e1; cases e1
   | some u=>
    cases q2:ts[i]? with
    | none=>rw[q2]at e2; cases e2
    | some v=>
     rw[q1]at e1; rw[q2]at e2
     cases e1; cases e2
     dsimp only
     rw[List.getD_eq_getElem?_getD,List.getD_eq_getElem?_getD,q1,q2];exact EqN.flat rfl rfl
  ·rw[List.length_map]
   by_cases e:ss=ts
   ·subst e
    rw[decide_eq_true rfl]
    symm
    rw[List.all_eq_true];intro i _
    simp
   ·rw[decide_eq_false e]
    symm
    rw[List.all_eq_false]
    have:∃ i:Nat,ss[i]? ≠ ts[i]?:=by
     refine Classical.byContradiction fun hn=>e (List.ext_getElem? fun i=>?_)
     exact Classical.byContradiction fun h=>hn ⟨i,h⟩
    obtain⟨i,hi⟩:=this
    have hlt:i<ss.length:=by
     refine Classical.byContradiction fun hn=>hi ?_
     rw[List.getElem?_eq_none (by omega),List.getElem?_eq_none (by omega)]
    refine⟨i,List.mem_range.mpr hlt,?_⟩
    rw[List.getD_eq_getElem?_getD,List.getD_eq_getElem?_getD,List.getElem?_eq_getElem hlt,List.getElem?_eq_getElem (by omega)]
    rw[List.getElem?_eq_getElem hlt,List.getElem?_eq_getElem (by omega)]at hi
    simpa using hi
 ·have e:ss≠ts:=fun e=>hl (by rw[e])
  rw[decide_eq_false e];exact .inr ⟨h1,h2,by simpa using hl,rfl⟩
end
section
variable{X:Cx}
def zY:R2:=fun x y H Q=>∃ o j,x=bL o∧y = .int j∧Q (.bl (decide (o≠some j))) H
theorem vI:OpR X (compareOp .NotEq) zY:=by
 intro pins s σ H x y v u Q I rx ry h
 obtain⟨o,j,rfl,rfl,q⟩:=h
 obtain⟨t,rfl⟩:=ry
 cases o with
 | none=>
  cases (show v=Value.none from rx)
  rw[decide_eq_true (by simp)]at q
  exact RcNeAt.none_int j t _ _ _ _ ⟨.bl true,H,I,rfl,q⟩
 | some i=>
  have e:(!decide (i=j))=decide ((some i:Option Int)≠some j):=by by_cases h:i=j <;> simp[h]
  rw[← e]at q
  refine mr pins s σ H (.int i) (.int j) v _ Q I rx ⟨t,rfl⟩ ?_
  rw[dD]; exact q
end
end L2
namespace L2
open PySem PySem.Spec PyProof.Rows PySem.SeqAt
theorem uQ{X:Cx}:MtR X "list.pop" su:=xl
section
variable{K:PySem.W.Frag}{H:Hp}{Q:VK}
theorem gj(p:Addr):su (.ref p) [] H Q=∃ xs y,H p=some (.lst xs)∧xs[xs.length - 1]? = some y∧Q y (upd H p (.lst xs.dropLast)):=
 propext ⟨fun ⟨_,xs,y,e1,_,q⟩=>by cases e1; exact⟨xs,y,q⟩,fun ⟨xs,y,q⟩=>⟨p,xs,y,rfl,rfl,q⟩⟩
theorem fX(i j:Bool):rW (.bl i) (.bl j) H Q=Q (.bl (!(i == j))) H:=by
 show (mV (.bl i) (.bl j)=true∧Q (.bl (!decide (V.bl i=V.bl j))) H)=_
 rw[me]; exact propext ⟨fun h=>h.2,fun h=>⟨rfl,h⟩⟩
end
theorem vk{X:Cx}(K:PySem.W.Frag){o:Expr}{to:TE}{name:Str}{apos cpos:Pos}{T id:String}{r:V→List V→Hp→VK→Prop}(pa:PlainAttrs T)(slot:Slot T name id)(hty:typeOf (.builtin id)=pure (.type "method_descriptor")) (hm:MtR X id r) (ho:PE X o to)
  (hbase:attributeBase o name X.env (eval o X.env)=eval o X.env:=by rfl) (hline:(apos.endLine == cpos.line)=true:=by rfl) (hK:X.K=K:=by rfl):PE X (.Call (.Attribute o name apos) [] [] cpos) (tV K T r to):=hK ▸ wQ pa slot hty hm ho hbase hline
end L2
namespace L2
open PySem PySem.Spec PyProof.Rows PySem.SeqAt
theorem n4:∀ (xs:List V) (us:List Value),xs.length=us.length→(∀ (j:Nat) x u,xs[j]? = some x→us[j]? = some u→RelV x u)→Vals xs us
 | [],[],_,_=>.nil
 | [],u::us,hl,_=>by simp at hl
 | x::xs,[],hl,_=>by simp at hl
 | x::xs,u::us,hl,h=>.cons (h 0 x u rfl rfl) (n4 xs us (by simpa using hl) fun j a b e1 e2=>h (j+1) a b e1 e2)
section
variable{X:Cx}
def yb:List V→Hp→VK→Prop:=fun xs H Q=>∃ i,xs=[.int i]∧∀ p,H p=none→Q (.ref p) (upd H p (.rng 0 i))
theorem qD:CallR X (.type "range") yb:=by
 intro pins s σ H xs us Q I r h
 obtain⟨i,rfl,q⟩:=h
 obtain⟨u,rfl,⟨t,rfl⟩⟩:=ce r
 refine call_range_1 ?_
 exact⟨.ref s.heap.objs.size,_,I.laid (fun b o e=>Heap.get?_push_of_some _ e) (Nat.le_refl _) (show ObjOk X.prog X.w _ _ _ (.rng 0 i) from ⟨_,_,_,Heap.get?_push_size _ rfl⟩),rfl,q _ (I.hok.fresh (Nat.le_refl _))⟩
def se:List V→Hp→VK→Prop:=fun xs H Q=>∃ p,∃ n:Nat,xs=[.ref p]∧H p=some (.rng 0 (n:Int))∧n≤60000∧∀ l,H l=none→Q (.ref l) (upd H l (.lst ((List.range n).map fun k:Nat=>V.int (k:Int))))
theorem lZ{m:Nat}(hr:Room m X.A):CallR X (.type "list") se:=by
 intro pins s σ H xs us Q I r h
 obtain⟨p,n,rfl,e,hn,q⟩:=h
 obtain⟨u,rfl,ru⟩:=ce r
 cases ru;obtain⟨t,u,v,ep⟩ : ∃ t u v,s.heap.get? p=some { cls:=.type "range", data:=.fields #[.int 0 t,.int (n:Int) u,.int 1 v] }:=I.hok p _ e
 have hs:sizeLine=16777216:=sizeLine_eq
 refine call_list_range (n:=n) hr.hd (show IsRange s.heap p 0 (n:Int) 1 t u v from ep) (small_one (by omega) (by omega) (by omega) (by omega)) (by rw[rangeSize_one]; split <;> omega) (by omega) fun h' tk acc' c' hk hS hacc=>?_
 refine⟨.ref s.heap.objs.size,_,I.laid hk (Nat.le_refl _) (show ObjOk X.prog X.w _ h' _ (.lst ((List.range n).map fun k:Nat=>V.int (k:Int))) from ⟨by simp; omega,acc'.toList,c',?_,by simpa using hS⟩),rfl,q _ (I.hok.fresh (Nat.le_refl _))⟩
 refine n4 _ _ (by simp[hacc.1]) fun j x w' e1 e2=>?_
 rw[List.getElem?_map]at e1
 have hj:j<n:=by
  refine Classical.byContradiction fun hj=>?_
  rw[List.getElem?_eq_none (by simp; omega)]at e1; cases e1
 rw[List.getElem?_range hj]at e1
 cases e1;obtain⟨t',ht⟩:=hacc.2 j w' (by rw[← Array.getElem?_toList]; exact e2)
 exact⟨t',by rw[ht]; simp⟩
end
section
variable{X:Cx}
end
section
variable{prog:Program}{w:World}{K:Type}[DecidableEq K]{knd:KeyKind prog w K}{A:Around}{E:Value→Shared→Prop}{s:Shared}
end
section
variable{X:Cx}
theorem vF:bootBuiltins "set" = some (.type "set"):=by decide +kernel
theorem sZ:bootBuiltins "range" = some (.type "range"):=by decide +kernel
end
end L2
namespace L2
open PySem PySem.Spec PyProof.Rows PySem.SeqAt
def fo(xs:Array Nat):Prop:=∀ (a b:Nat) (ha:a<xs.size) (hb:b<xs.size),a<b→xs[a]<xs[b]
theorem jI{xs:Array Nat}(h:fo xs)(j:Nat):∀ (fuel lo hi:Nat),lo≤hi→hi≤xs.size→hi - lo≤fuel→(∀ k (hk:k<xs.size),k<lo→xs[k]<j)→(∀ k (hk:k<xs.size),hi≤k→j≤xs[k])→
  SetTable.below.go xs j fuel lo hi≤xs.size∧(∀ k (hk:k<xs.size),k<SetTable.below.go xs j fuel lo hi→xs[k]<j)∧(∀ k (hk:k<xs.size),SetTable.below.go xs j fuel lo hi≤k→j≤xs[k])
 | 0,lo,hi,h1,h2,h3,h4,h5=>by
  have e:lo=hi:=by omega
  subst e;exact⟨h2,h4,h5⟩
 | fuel+1,lo,hi,h1,h2,h3,h4,h5=>by
  unfold SetTable.below.go;split
  ·rename_i hlt
   have hm:(lo+hi) / 2<xs.size:=by omega
   have eg:xs.getD ((lo+hi) / 2) j=xs[(lo+hi) / 2]:=by simp[Array.getD,hm]
   dsimp only
   rw[eg];split
   ·rename_i hj
    refine jI h j fuel _ hi (by omega) h2 (by omega) (fun k hk hkm=>?_) h5
    rcases Nat.lt_or_ge k ((lo+hi) / 2) with z | z
    ·exact Nat.lt_trans (h k _ hk hm z) hj
    ·have:k=(lo+hi) / 2:=by omega
     subst this; exact hj
   ·rename_i hj
    refine jI h j fuel lo _ (by omega) (by omega) (by omega) h4 (fun k hk hkm=>?_)
    rcases Nat.lt_or_ge ((lo+hi) / 2) k with z | z
    ·exact Nat.le_trans (Nat.le_of_not_lt hj) (Nat.le_of_lt (h _ k hm hk z))
    ·have:k=(lo+hi) / 2:=by omega
     subst this; exact Nat.le_of_not_lt hj
  ·have e:lo=hi:=by omega
   subst e;exact⟨h2,h4,h5⟩
theorem fN{xs:Array Nat}(h:fo xs)(j:Nat):SetTable.below xs j≤xs.size∧(∀ k (hk:k<xs.size),k<SetTable.below xs j→xs[k]<j)∧(∀ k (hk:k<xs.size),SetTable.below xs j≤k→j≤xs[k]):=
 jI h j xs.size 0 xs.size (Nat.zero_le _) (Nat.le_refl _) (by omega) (fun k _ z=>absurd z (Nat.not_lt_zero _)) (fun k hk z=>absurd hk (by omega))
theorem oR{xs:Array Nat}(h:fo xs):SetTable.below xs 0=0:=by
 obtain⟨h1,h2,h3⟩:=fN h 0
 refine Classical.byContradiction fun hn=>?_
 exact absurd (h2 0 (by omega) (by omega)) (Nat.not_lt_zero _)
theorem oF{xs:Array Nat}(h:fo xs){i:Nat}(hi:i<xs.size):SetTable.below xs (xs[i]+1)=i+1:=by
 obtain⟨h1,h2,h3⟩:=fN h (xs[i]+1)
 rcases Nat.lt_trichotomy (SetTable.below xs (xs[i]+1)) (i+1) with z | z | z
 ·have:=h3 i hi (by omega); omega
 ·exact z
 ·have h4:=h2 (i+1) (by omega) z
  have h5:=h i (i+1) hi (by omega) (by omega)
  omega
theorem la{xs:Array Nat}{p x k:Nat}(hp:p≤xs.size)(hk:k<(SetTable.insertAt xs p x).size):(SetTable.insertAt xs p x)[k]=if h:k<p then xs[k]'(by omega) else if k=p then x else xs.getD (k - 1) 0:=by
 have hs:(SetTable.insertAt xs p x).size=xs.size+1:=by
  unfold SetTable.insertAt; simp; omega
 have e:(SetTable.insertAt xs p x)[k]? = some (if h:k<p then xs[k]'(by omega) else if k=p then x else xs.getD (k - 1) 0):=by
  unfold SetTable.insertAt;rw[Array.getElem?_append];simp only[Array.size_push,Array.size_extract]
  split
  ·rename_i h
   rw[Array.getElem?_push];simp only[Array.size_extract]
   by_cases hkp:k<p
   ·rw[if_neg (by omega),dif_pos hkp,Array.getElem?_extract]
    simp; omega
   ·have:k=p:=by omega
    subst this;rw[if_pos (by omega),dif_neg hkp,if_pos rfl]
  ·rename_i h
   rw[dif_neg (by omega),if_neg (by omega),Array.getElem?_extract]
   have hk':k - 1<xs.size:=by omega
   rw[if_pos (by omega),show p+(k - (min p xs.size - 0+1))=k - 1 by omega]
   simp[Array.getD,hk']
 rw[Array.getElem?_eq_getElem hk]at e
 exact Option.some.inj e
theorem mI{xs:Array Nat}(h:fo xs){j:Nat}(hj:∀ k (hk:k<xs.size),xs[k]≠j):fo (SetTable.insertAt xs (SetTable.below xs j) j):=by
 obtain⟨h1,h2,h3⟩:=fN h j
 have hs:(SetTable.insertAt xs (SetTable.below xs j) j).size=xs.size+1:=by
  unfold SetTable.insertAt; simp; omega
 generalize SetTable.below xs j=p at h1 h2 h3 hs;intro a b ha hb hab
 rw[la h1 ha,la h1 hb];have gd:∀ k,k<xs.size→∃ hk:k<xs.size,xs.getD k 0=xs[k]:=fun k hk=>⟨hk,by simp[Array.getD,hk]⟩
 by_cases a1:a<p
 ·rw[dif_pos a1]
  by_cases b1:b<p
  ·rw[dif_pos b1]; exact h a b _ _ hab
  ·rw[dif_neg b1]
   by_cases b2:b=p
   ·rw[if_pos b2]; exact h2 a (by omega) a1
   ·rw[if_neg b2]
    obtain⟨hk,e⟩:=gd (b - 1) (by omega)
    rw[e]; exact h a (b - 1) _ _ (by omega)
 ·rw[dif_neg a1,dif_neg (by omega)]
  by_cases a2:a=p
  ·rw[if_pos a2,if_neg (by omega)]
   obtain⟨hk,e⟩:=gd (b - 1) (by omega)
   rw[e];have:=h3 (b - 1) hk (by omega)
   have:=hj (b - 1) hk
   omega
  ·rw[if_neg a2,if_neg (by omega)]
   obtain⟨hk,e⟩:=gd (b - 1) (by omega)
   obtain⟨hk2,e2⟩:=gd (a - 1) (by omega)
   rw[e,e2]; exact h _ _ _ _ (by omega)
theorem rL{t:SetTable}{j:Nat}(h:fo t.place)(e:∀ i,t.slot j ≠ .live i):∀ k (hk:k<t.place.size),t.place[k]≠j:=fun k hk ek=>by
 obtain⟨h1,h2,h3⟩:=fN h j
 have hb:SetTable.below t.place j=k:=by
  rcases Nat.lt_trichotomy (SetTable.below t.place j) k with z | z | z
  ·have:=h3 (SetTable.below t.place j) (by omega) (Nat.le_refl _)
   have:=h (SetTable.below t.place j) k (by omega) hk z
   omega
  ·exact z
  ·have:=h2 k hk z; omega
 refine e k ?_
 unfold SetTable.slot;rw[hb]
 dsimp only
 rw[Array.getElem?_eq_getElem hk,ek];simp
theorem jx{t:SetTable}{hashAt:Nat→Int}{h:Int}:∀ (fuel:Nat) (p:SetTable.Probe),(∀ d,p.dummy=some d→t.slot d = .dummy)→∀ j dm,SetTable.probe.go t hashAt h fuel p=some (.empty j dm)→t.slot j = .empty∧∀ d,dm=some d→t.slot d = .dummy
 | 0,p,_,j,dm,e=>by unfold SetTable.probe.go at e; cases e
 | fuel+1,p,hp,j,dm,e=>by
  unfold SetTable.probe.go at e;have adv:∀ q:SetTable.Probe,(t.advance q).dummy=q.dummy:=fun q=>by unfold SetTable.advance; split <;> rfl
  cases hs:t.slot p.j with
  | empty=>
   rw[hs]at e
   cases e;exact⟨hs,hp⟩
  | dummy=>
   rw[hs]at e
   refine jx fuel _ (fun d hd=>?_) j dm e
   rw[adv]at hd
   cases hd;exact hs
  | live i=>
   rw[hs]at e
   dsimp only at e
   split at e
   ·cases e
   ·exact jx fuel _ (fun d hd=>by rw[adv]at hd; exact hp d hd) j dm e
structure b5 (L:Bool) (t:SetTable):Prop where
 led:t.led=L
 rise:fo t.place
theorem nF(n:Nat):fo (Array.range n):=fun a b ha hb hab=>by simpa using hab
theorem dX{L:Bool}{t:SetTable}(h:b5 L t)(n:Nat):b5 L (t.standIn n):=⟨h.led,nF n⟩
theorem rC{L:Bool}{t:SetTable}(h:b5 L t){hh:Int}{j:Nat}{b:Bool}(e:t.freeSlot hh=some (j,b)):b5 L (t.put j).1:=by
 refine⟨h.led,mI h.rise (rL h.rise ?_)⟩
 unfold SetTable.freeSlot at e;split at e
 ·rename_i j' dm hpr
  have:=jx (t:=t) _ (t.probeStart hh) (fun d hd=>by cases hd) j' dm hpr
  cases dm with
  | none=>
   cases e;exact fun i z=>by have:=this.1; rw[show (none:Option Nat).getD j'=j' from rfl,this]at z; cases z
  | some d=>
   cases e;exact fun i z=>by have:=this.2 d rfl; rw[show (some d:Option Nat).getD j'=d from rfl,this]at z; cases z
 ·cases e
theorem nh{L:Bool}{t:SetTable}(h:b5 L t)(es:Array (Int × Value))(hh:Int)(x:Value):b5 L (layNew t es hh x).2.1:=by
 unfold layNew
 cases e:t.freeSlot hh with
 | none=>exact dX h _
 | some q=>
  obtain⟨j,b⟩:=q
  have hg:=rC h e;show b5 L ((t.put j).1.orStandIn _)
  unfold SetTable.orStandIn;split
  ·exact hg
  ·exact dX hg _
theorem jh{l:List Nat}(h:l.Pairwise (· < ·)):fo l.toArray:=fun a b ha hb hab=>by
 have:=(List.pairwise_iff_getElem.mp h) a b (by simpa using ha) (by simpa using hb) hab
 simpa using this
theorem oH{L:Bool}{t:SetTable}(h:b5 L t)(es:Array (Int × Value))(n:Nat):b5 L (relayAll t es n).2.1:=by
 unfold relayAll;split
 ·rename_i t' order e
  dsimp only
  split
  ·unfold SetTable.relaid SetTable.laid at e
   cases ho:SetTable.layClean (SetTable.sizeAbove n - 1) (es.map (·.1)) with
   | none=>rw[ho]at e; cases e
   | some owner=>
    rw[ho]at e
    cases e;refine⟨h.led,jh ?_⟩
    refine List.pairwise_map.mpr ?_
    refine List.Pairwise.filterMap _ ?_ List.pairwise_lt_range
    intro a b hab x hx y hy
    obtain⟨k,_,rfl⟩:=Option.map_eq_some_iff.mp hx
    obtain⟨k',_,rfl⟩:=Option.map_eq_some_iff.mp hy
    exact hab
  ·exact dX h _
 ·exact dX h _
end L2
namespace L2
open PySem PySem.Spec PyProof.Rows PySem.SeqAt
section
variable{prog:Program}{w:World}{K:Type}[DecidableEq K]{knd:KeyKind prog w K}{A:Around}{E:Value→Shared→Prop}{s:Shared}{G:SetTable→Prop}
def Apart(knd:KeyKind prog w K)(l:List (Int × Value)):Prop:=l.Pairwise fun e e'=>∀ k,knd.is k e.2=true→knd.is k e'.2=false
theorem Apart.perm{l l':List (Int × Value)}(h:Apart knd l)(p:l'.Perm l):Apart knd l':=
 (p.pairwise_iff fun {x y} hxy k hk=>by
  cases e:knd.is k x.2 with
  | false=>rfl
  | true=>rw[hxy k e]at hk; cases hk).mpr h
theorem Apart.push{l:List (Int × Value)}{k:K}{x:Value}{hh:Int}(h:Apart knd l)(hn:∀ e∈l,knd.is k e.2=false)(hk:knd.is k x=true):Apart knd (l++[(hh,x)]):=by
 refine List.pairwise_append.mpr ⟨h,List.pairwise_singleton _ _,fun e he b hb k' hk'=>?_⟩
 rw[List.mem_singleton.mp hb];show knd.is k' x=false
 rw[KeyKind.is_eq_decide hk k'];refine decide_eq_false fun e'=>?_
 subst e';rw[hn e he]at hk'; cases hk'
structure lR (knd:KeyKind prog w K) (G:SetTable→Prop) (o:Obj) (es:Array (Int × Value)) (ep:Nat) (t:SetTable) (S:K→Bool) (n:Nat):Prop where
 ex:o.ExactSet
 dat:o.data = .set es ep t
 el:ElemsOf knd es.toList
 mem:∀ k,S k=true ↔ ∃ e∈es.toList,knd.is k e.2=true
 few:es.size<scanBound
 fit:t.fits es.size=true
 num:es.size=n
 good:G t
 apart:Apart knd es.toList
def SetG(knd:KeyKind prog w K)(G:SetTable→Prop)(h:Heap)(a:Addr)(S:K→Bool)(n:Nat):Prop:=∃ o es ep t,h.get? a=some o∧lR knd G o es ep t S n
theorem stored{h:Heap}{a:Addr}{o:Obj}{es:Array (Int × Value)}{ep:Nat}{t:SetTable}{S:K→Bool}{n:Nat}{es':Array (Int × Value)}{t':SetTable}{S':K→Bool}{n':Nat}(ho:h.get? a=some o)(T:lR knd G o es ep t S n)
  (T':∀ o',o'.ExactSet→o'.data = .set es' (ep+1) t'→lR knd G o' es' (ep+1) t' S' n'):∃ o',(h.update a (Obj.putSet es' t')).get? a=some o'∧lR knd G o' es' (ep+1) t' S' n':=by
 have hp:=putSet_of es' t' T.dat;have hg:=Heap.get?_update_self (Obj.putSet es' t') ho (by rw[hp]; rfl)
 rw[hp]at hg
 exact⟨_,hg,T' _ T.ex rfl⟩
theorem mR(gr:∀ t es n,G t→G (relayAll t es n).2.1){g:Bool→Sem Unit}(hg:∀ (b:Bool) (s₁:Shared) (Q':Unit→Shared→Prop),Q' () s₁→wpAny (model prog w) A (g b) Q' E s₁)
  {a:Addr} {o:Obj} {es:Array (Int × Value)} {ep:Nat} {t:SetTable} {S:K→Bool} {n:Nat} (ho:s.heap.get? a=some o) (T:lR knd G o es ep t S n)
  {es1:Array (Int × Value)} {t2:SetTable} {S':K→Bool} {n':Nat} (T1:∀ o',o'.ExactSet→o'.data = .set es1 (ep+1) t2→lR knd G o' es1 (ep+1) t2 S' n') {wasDummy:Bool} {R:Option Bool→Shared→Prop}
  (h:∀ h',Heap.SameBut a s.heap h'→SetG knd G h' a S' n'→R (some true) { s with heap:=h' }) :
  wpAny (model prog w) A (do
    storeSet a es1 t2
    if (!wasDummy&&t2.tooFull)=true then do
      g (relayAll t2 es1 (SetTable.grown es1.size)).2.2
      storeSet a (relayAll t2 es1 (SetTable.grown es1.size)).1 (relayAll t2 es1 (SetTable.grown es1.size)).2.1
      pure (some true)
     else pure (some true)) R E s:=by
 obtain⟨o1,ho1,U1⟩:=stored ho T T1
 refine wpAny_bind (wpAny_storeSet_of ho T.dat ?_ (fits_of_scanBound U1.few))
 have hsb1:=Heap.SameBut.update s.heap a (Obj.putSet es1 t2);split
 ·have hp:=relayAll_perm t2 es1 (SetTable.grown es1.size)
  have hfr:=relayAll_fits t2 es1 (SetTable.grown es1.size);have hgr:=gr t2 es1 (SetTable.grown es1.size) U1.good;generalize relayAll t2 es1 (SetTable.grown es1.size)=Rl at hp hfr hgr ⊢;obtain⟨es2,t3,gave2⟩:=Rl
  dsimp only at hp hfr hgr ⊢
  have hsz:es2.size=es1.size:=by rw[← Array.length_toList,hp.length_eq,Array.length_toList]
  obtain⟨o2,ho2,U2⟩:=stored (es':=es2) (t':=t3) (S':=S') (n':=n') ho1 U1 fun o' ex da=>⟨ex,da,U1.el.perm hp,fun k'=>(U1.mem k').trans ⟨fun ⟨e,he,q⟩=>⟨e,hp.mem_iff.mpr he,q⟩,fun ⟨e,he,q⟩=>⟨e,hp.mem_iff.mp he,q⟩⟩,by rw[hsz]; exact U1.few,hfr,by rw[hsz]; exact U1.num,hgr,U1.apart.perm hp⟩
  refine wpAny_bind (hg _ _ _ ?_)
  refine wpAny_bind (wpAny_storeSet_of ho1 U1.dat ?_ (fits_of_scanBound U2.few))
  exact wpAny_pure (h _ (hsb1.trans (Heap.SameBut.update _ a _)) ⟨_,_,_,_,ho2,U2⟩)
 ·exact wpAny_pure (h _ hsb1 ⟨_,_,_,_,ho1,U1⟩)
theorem zw(gl:∀ t es h x,G t→G (layNew t es h x).2.1)(gr:∀ t es n,G t→G (relayAll t es n).2.1)(gp:∀ t:SetTable,G t→G { t with plain:=false })
  {a:Addr} {S:K→Bool} {n:Nat} {k:K} {x:Value} {Q:Bool→Shared→Prop} (hkey:knd.is k x=true) (hsc:x.scannable=true) (hS:SetG knd G s.heap a S n) (hroom:n+1<scanBound)
  (h:∀ h',Heap.SameBut a s.heap h'→SetG knd G h' a (fun k'=>S k'||decide (k'=k)) (if S k then n else n+1)→Q (!S k) { s with heap:=h' }) :
  wpAny (model prog w) A (setAddHashed a x (knd.hash k)) Q E s:=by
 obtain⟨o,es,ep,t,ho,T⟩:=hS
 have hb1:es.size+1<scanBound:=by rw[T.num]; exact hroom
 unfold setAddHashed setAddHashedIn;refine wpAny_holding (wpAny_bind (wpAny_setState_of ho T.dat T.fit ?_))
 dsimp only
 rw[byScan_of hsc T.few T.el];simp only[↓reduceIte]
 unfold setAddByScan;refine wpAny_bind ?_
 refine wpAny_bind (wpAny_rule ?_)
 refine wpAny_bind (wpAny_setScan_of hkey ho T.dat T.fit T.el ?_)
 cases hr:List.findIdx? (fun e=>knd.is k e.2) es.toList with
 | some j=>
  dsimp only
  obtain⟨hj,hpj,_⟩:=List.findIdx?_eq_some_iff_getElem.mp hr
  have hSk:S k=true:=(T.mem k).mpr ⟨es.toList[j],List.getElem_mem hj,hpj⟩
  refine wpAny_pure (wpAny_pure ?_)
  have e:s={ s with heap:=s.heap }:=by cases s; rfl
  have q:=h s.heap (Heap.SameBut.refl a s.heap) ⟨o,es,ep,t,ho,T.ex,T.dat,T.el,fun k'=>by
   rw[Bool.or_eq_true,decide_eq_true_eq,← T.mem k'];exact⟨fun hk=>hk.elim id (fun e=>e ▸ hSk),.inl⟩,T.few,T.fit,by rw[hSk]; exact T.num,T.good,T.apart⟩
  rw[hSk]at q; rw[e]; exact q
 | none=>
  dsimp only
  have hno:=List.findIdx?_eq_none_iff.mp hr
  have hSk:S k=false:=by
   cases hk:S k with
   | false=>rfl
   | true=>obtain⟨e,he,hp⟩:=(T.mem k).mp hk; rw[hno e he]at hp; cases hp
  have hgw:∀ (b:Bool) {s₁:Shared} {Q':Unit→Shared→Prop},Q' () s₁→wpAny (model prog w) A (match b with | true=>rule "set.scan.the-table-gave-way" | false=>pure ()) Q' E s₁:=fun b s₁ Q' hq=>by
   cases b <;> first | exact wpAny_pure hq | exact wpAny_rule hq
  have hperm:=layNew_perm t es (knd.hash k) x;have hfits:=layNew_fits t es (knd.hash k) x;have hgood:=gl t es (knd.hash k) x T.good;generalize layNew t es (knd.hash k) x=Ly at hperm hfits hgood ⊢;obtain⟨es1,t1,wasDummy,gave⟩:=Ly
  dsimp only at hperm hfits hgood ⊢
  rw[Array.toList_push]at hperm
  have hsz1:es1.size=n+1:=by rw[← Array.length_toList,hperm.length_eq,List.length_append,Array.length_toList,T.num]; rfl
  have mk:∀ t2:SetTable,t2.fits es1.size=true→G t2→∀ o',o'.ExactSet→o'.data = .set es1 (ep+1) t2→lR knd G o' es1 (ep+1) t2 (fun k'=>S k'||decide (k'=k)) (n+1):=fun t2 hf2 g2 o' ex da=>
   ⟨ex,da,(T.el.push hkey hsc).perm hperm,mem_push_iff hkey T.mem hperm,by rw[hsz1]; exact hroom,hf2,hsz1,g2,(T.apart.push (fun e he=>by have:=hno e he; simpa using this) hkey).perm hperm⟩
  refine wpAny_bind (hgw _ ?_)
  have hend:∀ h',Heap.SameBut a s.heap h'→SetG knd G h' a (fun k'=>S k'||decide (k'=k)) (n+1)→Q true { s with heap:=h' }:=by
   intro h' hsb hS'; have:=h h' hsb; rw[hSk]at this; exact this hS'
  split
  ·refine wpAny_bind ?_
   rw[hashByValue_scannable 8 hsc];refine wpAny_pure ?_
   refine mR gr ?_ ho T (mk _ ?_ ?_) ?_
   ·intro b s₁ Q' hq; cases b <;> first | exact wpAny_pure hq | exact wpAny_rule hq
   ·split
    ·exact hfits
    ·exact SetTable.fits_plain_off hfits
   ·split
    ·exact hgood
    ·exact gp _ hgood
   ·intro h' hsb hS'; dsimp only; exact wpAny_pure (hend h' hsb hS')
  ·refine wpAny_bind (wpAny_pure ?_)
   simp only[↓reduceIte]
   refine mR gr ?_ ho T (mk _ hfits hgood) ?_
   ·intro b s₁ Q' hq; cases b <;> first | exact wpAny_pure hq | exact wpAny_rule hq
   ·intro h' hsb hS'; dsimp only; exact wpAny_pure (hend h' hsb hS')
end
end L2
namespace L2
open PySem PySem.Spec PyProof.Rows PySem.SeqAt
section
variable{prog:Program}{w:World}{A:Around}{R:Result→Shared→Prop}{I:Addr}{fp wr:List Addr}{Gm:Array GenState→Array GenState→Prop}{n:Nat}{P:Nat→Value→Prop}{St:Nat→Shared→Prop}{L:Bool}
theorem pA{t:SetTable}(h:b5 L t):b5 L { t with plain:=false }:=⟨h.led,h.rise⟩
theorem SetG.at'{K:Type}[DecidableEq K]{knd:KeyKind prog w K}{G:SetTable→Prop}{h h':Heap}{a:Addr}{S S':K→Bool}{m m':Nat}(x:SetG knd G h a S m)(e:∀ o,h.get? a=some o→h'.get? a=some o)(eS:∀ k,S k=S' k)(em:m=m'):SetG knd G h' a S' m':=by
 obtain⟨o,es,ep,t,ho,T⟩:=x
 have:S=S':=funext eS
 subst this; subst em
 exact⟨o,es,ep,t,e o ho,T⟩
end
section
variable{prog:Program}{w:World}{A:Around}{E:Value→Shared→Prop}{s:Shared}
def bJ(w:World):Bool:=!(w.params.followText "set-order")
theorem sY(a:Value){Q₁:Value→Shared→Prop}
  (h:Q₁ (.ref s.heap.objs.size) { s with heap:=s.heap.push { cls:=.type "set", dict:=none,data:=.set #[] 0 (.fresh 0 0 (bJ w)) } }) :
  codeAny (model prog w) A (.call (.builtin "set.__new__") ⟨[.type "set", a],[]⟩) (wants Q₁ E) s:=by
 refine codeAny_of_tree ?_
 show wpAny _ A.in1 (do checkBuiltinCall "set.__new__" ⟨[.type "set", a],[]⟩; again (.builtin "set.__new__" ⟨[.type "set", a],[]⟩)) _ _ s
 refine wpAny_bind (wpAny_of_eq (F.newCall_set_1 a) (wpAny_pure ⟨plainId_quiet F.plain_set_new _,codeAny_builtin F.entry_set_new ?_⟩))
 rw[Around.under_plainId F.plain_set_new _];unfold Builtin.«set.__new__» Builtin.Frozenset.newClass
 have hsub:=sub_set_self;obtain⟨hp,g,d,tk,os⟩:=s
 dsimp only
 wp_walk
 refine wpAny_askSetting (wpAny_pure ?_)
 dsimp only
 simp only[newObj]
 refine wpAny_bind (wpAny_alloc (wpAny_pure ?_))
 exact wpAny_pure h
end
end L2
namespace L2
open PySem PySem.Spec PyProof.Rows PySem.SeqAt
section
variable{X:Cx}
end
end L2
namespace L2
open PySem PySem.Spec PyProof.Rows PySem.SeqAt
theorem iC{α : Type}:∀ (l:List α) (i:Nat) (hi:i<l.length),(l[i]::l.eraseIdx i).Perm l
 | x::l,0,_=>.rfl
 | x::l,i+1,hi=>(List.Perm.swap x (l[i]'(by simpa using hi)) (l.eraseIdx i)).trans (List.Perm.cons x (iC l i (by simpa using hi)))
theorem og{α : Type}(next:Nat→Nat):∀ (fuel k:Nat) (left:List α) (out:Array α),fuel=left.length→(pickOrder.go next fuel k left out).toList.Perm (out.toList++left)
 | 0,k,left,out,h=>by
  have:left=[]:=List.eq_nil_of_length_eq_zero h.symm
  subst this;unfold pickOrder.go; simp
 | fuel+1,k,left,out,h=>by
  unfold pickOrder.go;have hi:next k % left.length<left.length:=Nat.mod_lt _ (by omega)
  rw[List.getElem?_eq_getElem hi]
  dsimp only
  refine(og next fuel (k+1) _ _ (by rw[List.length_eraseIdx]; rw[if_pos hi]; omega)).trans ?_
  rw[Array.toList_push,List.append_assoc];refine List.Perm.append_left _ ?_
  exact iC _ _ hi
theorem q9{α : Type}(next:Nat→Nat)(xs:Array α):(pickOrder next xs).toList.Perm xs.toList:=by
 unfold pickOrder;have:=og next xs.size 0 xs.toList #[] (by simp)
 simpa using this
section
variable{M:Model}{A:Around}{E:Value→Shared→Prop}
theorem ni{s:Shared}{n:Nat}{Q:Nat→Shared→Prop}(hn:n≠0)(h:∀ i d',i<n→Q i { s with drawn:=d' }):wpAny M A (choose .order n) Q E s:=fun Γ p hΓ=>by
 show Sem.wp M Γ (.choose .order n .pure) _ _ _ _
 rw[Sem.wp_choose];refine⟨hn,?_⟩
 rw[Sem.wp_pure];exact h _ _ (Nat.mod_lt _ (by omega))
theorem kO{α : Type}:∀ (n:Nat) (xs:List α) (s:Shared) (Q:List α→Shared→Prop),n=xs.length→(∀ ys d',ys.Perm xs→Q ys { s with drawn:=d' })→wpAny M A (drawOrder n xs) Q E s
 | 0,xs,s,Q,hn,h=>by
  have:xs=[]:=List.eq_nil_of_length_eq_zero hn.symm
  subst this;unfold drawOrder;exact wpAny_pure (by have:=h [] s.drawn .nil; cases s; exact this)
 | n+1,[],s,Q,hn,h=>by simp at hn
 | n+1,x::xs,s,Q,hn,h=>by
  unfold drawOrder;refine wpAny_bind (ni (by simp) fun i d' hi=>?_)
  rw[List.getElem?_eq_getElem hi]
  dsimp only
  refine wpAny_bind (kO n _ _ _ (by rw[List.length_eraseIdx,if_pos hi]; omega) fun ys d'' hp=>?_)
  refine wpAny_pure ?_
  exact h _ d'' ((List.Perm.cons _ hp).trans (iC _ _ hi))
end
end L2
namespace L2
open PySem PySem.Spec PyProof.Rows PySem.SeqAt
theorem slot_si_next:Slot "set_iterator" "__next__" "set_iterator.__next__" :=
 .of (owner := "set_iterator") (n := "__next__") (by rw[typeLookup_type,builtinLookup_eq_fast]; kernel_rfl) (by decide +kernel) (by decide +kernel) (by decide +kernel)
  (by first | exact .inl (by decide +kernel) | exact .inr (by decide +kernel)) (by rw[isSubtype_type]; kernel_rfl)
theorem dB:entryFor table "set_iterator.__next__" = some Builtin.«set_iterator.__next__»:=entryFor_of_tree (by kernel_rfl)
theorem ka:entryFor table "set.__iter__" = some Builtin.«frozenset.__iter__»:=
 entryFor_alias (id' := "frozenset.__iter__") (by kernel_rfl) rfl (by decide +kernel) (by kernel_rfl)
theorem mU : Manifest.owners.lookup (String.ofList ['r', 'o', 't', 'a', 'r', 'e', 't', 'i', '_', 't', 'e', 's'].reverse) = some Manifest.sig_set_iterator := by kernel_rfl
theorem ee(a:Value):argsOk "set_iterator.__next__" ⟨[a],[]⟩:=by
 unfold argsOk; rw [signature?_of (id := "set_iterator.__next__") (n:=['_','_','t','x','e','n','_','_']) (o:=['r','o','t','a','r','e','t','i','_','t','e','s']) (by kernel_rfl) mU]; kernel_rfl
section
variable{prog:Program}{w:World}{A:Around}{E:Value→Shared→Prop}{s:Shared}
def fm(w:World)(a:Addr)(ep:Nat)(es:Array (Int × Value)):List Value:=((if w.params.followText "set-order" then pickOrder (w.params.setOrder a ep) es else es).toList.map (·.2))
def cA(w:World)(t:SetTable)(i:Nat):Nat:=if w.params.followText "set-order" then 0 else if i=0 then 0 else t.place.getD (i - 1) 0+1
theorem iy(a:Addr)(ep:Nat)(es:Array (Int × Value)):(fm w a ep es).Perm (es.toList.map (·.2)):=by
 unfold fm;split
 ·exact(q9 _ _).map _
 ·exact .rfl
theorem lb{a:Addr}{o:Obj}{es:Array (Int × Value)}{ep:Nat}{t:SetTable}{i:Nat}{Q:Option (Value × Nat)→Shared→Prop}(ho:s.heap.get? a=some o)(hd:o.data = .set es ep t)(hf:t.fits es.size=true)(hg:b5 (bJ w) t)(hi:i≤es.size)
  (hn:w.params.followText "set-order" = true∨(!t.plain&&decide (es.size>1))=false) (h:Q (((fm w a ep es)[i]?).map fun x=>(x,cA w t (i+1))) s):wpAny (model prog w) A (setNext a (cA w t i) i ep) Q E s:=by
 have hps:t.place.size=es.size:=by
  unfold SetTable.fits at hf;simp only[Bool.and_eq_true,beq_iff_eq]at hf
  exact hf.1
 unfold setNext;refine wpAny_bind (wpAny_setState_of ho hd hf ?_)
 refine wpAny_bind ?_
 unfold setsByText;refine wpAny_bind (wpAny_askSetting (wpAny_pure ?_))
 show wpAny _ _ (if w.params.followText "set-order" = true then _ else _) _ _ _
 unfold fm cA at h;unfold cA
 cases hb:w.params.followText "set-order" with
 | true=>
  rw[hb]at h
  simp only[if_true]at h ⊢
  rw[if_neg (by simp)]
  refine wpAny_bind ?_
  unfold setWalk;refine wpAny_bind (wpAny_setState_of ho hd hf ?_)
  refine wpAny_bind ?_
  unfold setsByText;refine wpAny_bind (wpAny_askSetting (wpAny_pure ?_))
  show wpAny _ _ (if w.params.followText "set-order" = true then _ else _) _ _ _
  rw[if_pos hb];refine wpAny_bind (wpAny_askSetting (wpAny_pure ?_))
  refine wpAny_pure ?_
  rw[List.getElem?_map,Option.map_map,Array.getElem?_toList]at h
  exact h
 | false=>
  rw[hb]at h
  simp only[Bool.false_eq_true,if_false]at h ⊢
  have hled:t.led=true:=by rw[hg.led]; unfold bJ; rw[hb]; rfl
  refine wpAny_ite_split (fun hab=>?_) (fun _=>?_)
  ·rcases hn with z | z
   ·rw[hb]at z; cases z
   ·exact absurd (z.symm.trans hab) (by decide)
  refine wpAny_bind ?_
  show wpAny _ _ (if (!t.led && !es.isEmpty)=true then unsupported "set:maker-not-led" else pure ()) _ _ _
  rw[if_neg (by rw[hled]; simp)]
  refine wpAny_pure (wpAny_pure ?_)
  have hbel:SetTable.below t.place (if i=0 then 0 else t.place.getD (i - 1) 0+1)=i:=by
   by_cases h0:i=0
   ·rw[if_pos h0,oR hg.rise,h0]
   ·have hi1:i - 1<t.place.size:=by omega
    rw[if_neg h0,show t.place.getD (i - 1) 0=t.place[i - 1] by simp[Array.getD,hi1],oF hg.rise hi1]
    omega
  rw[hbel];rw[List.getElem?_map,Array.getElem?_toList,if_neg (by omega),Nat.add_sub_cancel]at h
  by_cases hlt:i<es.size
  ·have hlp:i<t.place.size:=by omega
   rw[Array.getElem?_eq_getElem hlt,Array.getElem?_eq_getElem hlp];rw[Array.getElem?_eq_getElem hlt,show t.place.getD i 0=t.place[i] by simp[Array.getD,hlp]]at h
   exact h
  ·rw[Array.getElem?_eq_none (by omega)]
   rw[Array.getElem?_eq_none (by omega)]at h
   exact h
end
end L2
namespace L2
open PySem PySem.Spec PyProof.Rows PySem.SeqAt
section
variable{prog:Program}{w:World}{A:Around}{E:Value→Shared→Prop}{s:Shared}
def IsSI(h:Heap)(it:Addr)(first:Value)(i:Nat)(a:Addr)(n ep:Nat):Prop:=∃ o,h.get? it=some o∧o.cls = .type "set_iterator" ∧ o.data = .fields #[first,.int i 0,.ref a,.int n 0,.int ep 0]
theorem IsSI.typeIs{it a:Addr}{first:Value}{i n ep:Nat}(x:IsSI s.heap it first i a n ep):s.TypeIs (.ref it) "set_iterator" := let ⟨o,ho,hc,_⟩:=x; ⟨o,ho,hc⟩
theorem uN{it a:Addr}{o:Obj}{es:Array (Int × Value)}{ep:Nat}{t:SetTable}{i:Nat}{v:Value}{Q:Option Value→Shared→Prop}(hit:IsSI s.heap it (.int (cA w t i) 0) i a es.size ep)(ho:s.heap.get? a=some o)(hd:o.data = .set es ep t)(hf:t.fits es.size=true)(hg:b5 (bJ w) t)
  (hn:w.params.followText "set-order" = true∨(!t.plain&&decide (es.size>1))=false) (hi:i<es.size) (hv:(fm w a ep es)[i]? = some v)
  (hQ:∀ h',IsSI h' it (.int (cA w t (i+1)) 0) (i+1) a es.size ep→Heap.SameBut it s.heap h'→Q (some v) { s with heap:=h' }):wpAny (model prog w) A (pyNext (.ref it)) Q E s:=by
 obtain⟨oi,hoi,hci,hdi⟩:=id hit
 unfold pyNext;refine wpAny_bind (wpAny_attempt (wpAny_callSpecial?_slot (name:=Str.ofString "__next__") hit.typeIs slot_si_next (wpAny_call_entry slot_si_next hit.typeIs dB ?_ (ee _))))
 unfold Builtin.«set_iterator.__next__»
 refine wpAny_bind (wpAny_pure ?_)
 refine wpAny_bind (wpAny_fieldsOf hoi hdi ?_)
 dsimp only
 refine wpAny_bind (wpAny_setEntries_of ho hd hf ?_)
 rw[if_neg (by simp)]
 simp only[Int.toNat_natCast]
 refine wpAny_bind (lb ho hd hf hg (by omega) hn ?_)
 rw[hv];show wpAny _ _ (setField (.ref it) 0 (rawInt (cA w t (i+1):Nat)) >>= fun _=>setField (.ref it) 1 (rawInt ((i:Int)+1)) >>= fun _=>ret v) _ _ _
 refine wpAny_bind (wpAny_setField hoi hdi (by simp) ?_)
 have hdi1:=Obj.data_mapFields hdi (fun xs=>xs.setIfInBounds 0 (rawInt (cA w t (i+1):Nat)))
 have hoi1:=Heap.get?_update_self (Obj.mapFields (fun xs=>xs.setIfInBounds 0 (rawInt (cA w t (i+1):Nat)))) hoi (Obj.isFreed_of_fields hdi1)
 refine wpAny_bind (wpAny_setField hoi1 hdi1 (by simp) ?_)
 have hdi2:=Obj.data_mapFields hdi1 (fun xs=>xs.setIfInBounds 1 (rawInt ((i:Int)+1)))
 have hoi2:=Heap.get?_update_self (Obj.mapFields (fun xs=>xs.setIfInBounds 1 (rawInt ((i:Int)+1)))) hoi1 (Obj.isFreed_of_fields hdi2)
 refine wpAny_pure ⟨_,rfl,wpAny_pure (hQ _ ⟨_,hoi2,?_,?_⟩ ((Heap.SameBut.update ..).trans (Heap.SameBut.update ..)))⟩
 ·rw[Obj.cls_mapFields,Obj.cls_mapFields]; exact hci
 ·rw[hdi2]; simp[rawInt]
theorem wt{it a:Addr}{o:Obj}{es:Array (Int × Value)}{ep:Nat}{t:SetTable}{Q:Option Value→Shared→Prop}(hh:A.handled=none)(hit:IsSI s.heap it (.int (cA w t es.size) 0) es.size a es.size ep)(ho:s.heap.get? a=some o)(hd:o.data = .set es ep t)(hf:t.fits es.size=true)(hg:b5 (bJ w) t)
  (hn:w.params.followText "set-order" = true∨(!t.plain&&decide (es.size>1))=false)
  (hQ:∀ h',Heap.ExtBut it s.heap h'→Q none { s with heap:=h' }):wpAny (model prog w) A (pyNext (.ref it)) Q E s:=by
 obtain⟨oi,hoi,hci,hdi⟩:=id hit
 have hv:(fm w a ep es)[es.size]? = none:=List.getElem?_eq_none (by rw[(iy (w:=w) a ep es).length_eq]; simp)
 unfold pyNext;refine wpAny_bind (wpAny_attempt (wpAny_callSpecial?_slot (name:=Str.ofString "__next__") hit.typeIs slot_si_next (wpAny_call_entry slot_si_next hit.typeIs dB ?_ (ee _))))
 unfold Builtin.«set_iterator.__next__»
 refine wpAny_bind (wpAny_pure ?_)
 refine wpAny_bind (wpAny_fieldsOf hoi hdi ?_)
 dsimp only
 refine wpAny_bind (wpAny_setEntries_of ho hd hf ?_)
 rw[if_neg (by simp)]
 simp only[Int.toNat_natCast]
 refine wpAny_bind (lb ho hd hf hg (Nat.le_refl _) hn ?_)
 rw[hv];show wpAny _ _ (setField (.ref it) 2 .none >>= fun _=>newExc (.type "StopIteration") [] >>= fun e=>raiseNew e) _ _ _
 refine wpAny_bind (wpAny_setField hoi hdi (by simp) ?_)
 refine wpAny_bind ?_
 simp only[newExc,newTuple]
 refine wpAny_bind (wpAny_newObj_type ?_ (by size_fits))
 refine wpAny_bind (m:=firstArgMember _ _) (wpAny_of_eq (a:=Value.none) (by first | rfl | (simp only[firstArgMember]; rfl)) ?_)
 refine wpAny_newObj_type ?_ (by size_fits)
 simp only[raiseNew]
 refine wpAny_bind (wpAny_handled ?_)
 rw[show A.in1.handled=none from hh];refine wpAny_bind (wpAny_pure (wpAny_throw ?_))
 refine wpAny_bind (wpAny_isInstance (T := "StopIteration") (b:=true) ⟨_,Heap.get?_push_size _ rfl,rfl⟩ isSubtype_stop ?_)
 exact wpAny_pure (hQ _ (((Heap.SameBut.update ..).extBut.push _).push _))
end
end L2
namespace L2
open PySem PySem.Spec PyProof.Rows PySem.SeqAt
section
variable{prog:Program}{w:World}{A:Around}{E:Value→Shared→Prop}{s:Shared}
theorem pB{a:Addr}{o:Obj}{es:Array (Int × Value)}{ep:Nat}{t:SetTable}{Q:Bool→Shared→Prop}(ho:s.heap.get? a=some o)(hd:o.data = .set es ep t)(hf:t.fits es.size=true)
  (h:Q (!(w.params.followText "set-order")&&(!t.plain&&decide (es.size>1))) s):wpAny (model prog w) A (setDrawn a) Q E s:=by
 unfold setDrawn;refine wpAny_bind (wpAny_setState_of ho hd hf ?_)
 refine wpAny_bind ?_
 unfold setsByText;refine wpAny_bind (wpAny_askSetting (wpAny_pure ?_))
 exact wpAny_pure h
theorem uV{a:Addr}{o:Obj}{es:Array (Int × Value)}{ep:Nat}{t:SetTable}{Q:Value→Shared→Prop}(ho:s.heap.get? a=some o)(hx:o.ExactSet)(hd:o.data = .set es ep t)(hf:t.fits es.size=true)(hfew:es.size<scanBound)
  (h1:(!(w.params.followText "set-order")&&(!t.plain&&decide (es.size>1)))=false→Q (.ref s.heap.objs.size) { s with heap:=s.heap.push { cls:=.type "set_iterator", data:=.fields #[.int 0 0,.int 0 0,.ref a,.int es.size 0,.int ep 0] } })
  (h2:∀ (ps:List Nat) d',ps.Perm (List.range es.size)→Q (.ref (s.heap.objs.size+1)) { s with heap:=(s.heap.push { cls:=.type "tuple", data:=.seq (ps.map fun i:Nat=>rawInt i).toArray }).push { cls:=.type "set_iterator", data:=.fields #[.ref s.heap.objs.size,.int 0 0,.ref a,.int es.size 0,.int ep 0] },drawn:=d' }) :
  wpAny (model prog w) A (pyIter (.ref a)) Q E s:=by
 have hT:s.TypeIs (.ref a) "set" := ⟨o,ho,hx.1⟩
 refine wpAny_pyIter_slot hT F.slot_set_iter (wpAny_call_entry F.slot_set_iter hT ka ?_ (F.args_set_iter_1 _))
 unfold Builtin.«frozenset.__iter__»
 refine wpAny_bind (wpAny_pure ?_)
 refine wpAny_bind ?_
 unfold Builtin.Frozenset.sizeOf;refine wpAny_bind (wpAny_setEntries_of ho hd hf (wpAny_pure ?_))
 refine wpAny_bind (pB ho hd hf ?_)
 dsimp only
 refine wpAny_ite_split (fun hab=>?_) (fun hab=>?_)
 ·refine wpAny_bind (kO _ _ _ _ (by simp) fun ps d' hp=>?_)
  have hlen:ps.length=es.size:=by rw[hp.length_eq]; simp
  refine wpAny_bind ?_
  unfold newTuple;have hz:=fits_of_scanBound hfew;refine wpAny_newObj_type ?_ (by show (List.map _ ps).toArray.size≤sizeLine; simp; omega)
  refine wpAny_bind ?_
  unfold setEpoch;refine wpAny_bind (wpAny_setState_of (Heap.get?_push_of_some _ ho) hd hf (wpAny_pure ?_))
  refine wpAny_bind ?_
  unfold newFields;refine wpAny_newObj_type (wpAny_pure ⟨_,rfl, "set_iterator", _,⟨_,Heap.get?_push_size _ rfl,rfl⟩,slot_si_next.lookup,?_⟩)
  rw[Heap.size_push];exact h2 ps d' hp
 ·refine wpAny_bind (wpAny_pure ?_)
  refine wpAny_bind ?_
  unfold setEpoch;refine wpAny_bind (wpAny_setState_of ho hd hf (wpAny_pure ?_))
  refine wpAny_bind ?_
  unfold newFields;refine wpAny_newObj_type (wpAny_pure ⟨_,rfl, "set_iterator", _,⟨_,Heap.get?_push_size _ rfl,rfl⟩,slot_si_next.lookup,?_⟩)
  exact h1 (by simpa using hab)
end
end L2
namespace L2
open PySem PySem.Spec PyProof.Rows PySem.SeqAt
section
variable{prog:Program}{w:World}{A:Around}{E:Value→Shared→Prop}{s:Shared}
theorem uY{it a tp:Addr}{o ot:Obj}{es:Array (Int × Value)}{ep ct:Nat}{t:SetTable}{i k:Nat}{ps:List Nat}{v:Value}{hh:Int}{Q:Option Value→Shared→Prop}(hit:IsSI s.heap it (.ref tp) i a es.size ep)(ho:s.heap.get? a=some o)(hd:o.data = .set es ep t)(hf:t.fits es.size=true)
  (hot:s.heap.get? tp=some ot) (hdt:ot.data = .seq (ps.map fun i:Nat=>rawInt i).toArray ct) (hk:ps[i]? = some k) (hv:es[k]? = some (hh,v))
  (hQ:∀ h',IsSI h' it (.ref tp) (i+1) a es.size ep→Heap.SameBut it s.heap h'→Q (some v) { s with heap:=h' }):wpAny (model prog w) A (pyNext (.ref it)) Q E s:=by
 obtain⟨oi,hoi,hci,hdi⟩:=id hit
 unfold pyNext;refine wpAny_bind (wpAny_attempt (wpAny_callSpecial?_slot (name:=Str.ofString "__next__") hit.typeIs slot_si_next (wpAny_call_entry slot_si_next hit.typeIs dB ?_ (ee _))))
 unfold Builtin.«set_iterator.__next__»
 refine wpAny_bind (wpAny_pure ?_)
 refine wpAny_bind (wpAny_fieldsOf hoi hdi ?_)
 dsimp only
 refine wpAny_bind (wpAny_setEntries_of ho hd hf ?_)
 rw[if_neg (by simp)]
 refine wpAny_bind (wpAny_seqItems hot hdt ?_)
 simp only[Int.toNat_natCast]
 have e1:(List.map (fun i:Nat=>rawInt (i:Int)) ps).toArray[i]? = some (.int (k:Int) 0):=by
  rw[List.getElem?_toArray,List.getElem?_map,hk]; rfl
 rw[e1]
 dsimp only
 refine wpAny_bind ?_
 unfold setNextDrawn;refine wpAny_bind (wpAny_setState_of ho hd hf ?_)
 dsimp only
 simp only[Int.toNat_natCast]
 rw[if_neg (by simp)]
 rw[hv];refine wpAny_pure ?_
 refine wpAny_bind (wpAny_setField hoi hdi (by simp) ?_)
 have hdi1:=Obj.data_mapFields hdi (fun xs=>xs.setIfInBounds 1 (rawInt ((i:Int)+1)))
 have hoi1:=Heap.get?_update_self (Obj.mapFields (fun xs=>xs.setIfInBounds 1 (rawInt ((i:Int)+1)))) hoi (Obj.isFreed_of_fields hdi1)
 refine wpAny_pure ⟨_,rfl,wpAny_pure (hQ _ ⟨_,hoi1,?_,?_⟩ (Heap.SameBut.update ..))⟩
 ·rw[Obj.cls_mapFields]; exact hci
 ·rw[hdi1]; simp[rawInt]
theorem wn{it a tp:Addr}{o ot:Obj}{es:Array (Int × Value)}{ep ct:Nat}{t:SetTable}{ps:List Nat}{Q:Option Value→Shared→Prop}(hh:A.handled=none)(hit:IsSI s.heap it (.ref tp) es.size a es.size ep)(ho:s.heap.get? a=some o)(hd:o.data = .set es ep t)(hf:t.fits es.size=true)
  (hot:s.heap.get? tp=some ot) (hdt:ot.data = .seq (ps.map fun i:Nat=>rawInt i).toArray ct) (hp:ps.length=es.size)
  (hQ:∀ h',Heap.ExtBut it s.heap h'→Q none { s with heap:=h' }):wpAny (model prog w) A (pyNext (.ref it)) Q E s:=by
 obtain⟨oi,hoi,hci,hdi⟩:=id hit
 unfold pyNext;refine wpAny_bind (wpAny_attempt (wpAny_callSpecial?_slot (name:=Str.ofString "__next__") hit.typeIs slot_si_next (wpAny_call_entry slot_si_next hit.typeIs dB ?_ (ee _))))
 unfold Builtin.«set_iterator.__next__»
 refine wpAny_bind (wpAny_pure ?_)
 refine wpAny_bind (wpAny_fieldsOf hoi hdi ?_)
 dsimp only
 refine wpAny_bind (wpAny_setEntries_of ho hd hf ?_)
 rw[if_neg (by simp)]
 refine wpAny_bind (wpAny_seqItems hot hdt ?_)
 simp only[Int.toNat_natCast]
 have e1:(List.map (fun i:Nat=>rawInt (i:Int)) ps).toArray[es.size]? = none:=by
  rw[List.getElem?_toArray,List.getElem?_eq_none (by simp; omega)]
 rw[e1]
 dsimp only
 refine wpAny_bind (wpAny_setField hoi hdi (by simp) ?_)
 have hdi1:=Obj.data_mapFields hdi (fun xs=>xs.setIfInBounds 0 (rawInt 0))
 have hoi1:=Heap.get?_update_self (Obj.mapFields (fun xs=>xs.setIfInBounds 0 (rawInt 0))) hoi (Obj.isFreed_of_fields hdi1)
 refine wpAny_bind (wpAny_setField hoi1 hdi1 (by simp) ?_)
 refine wpAny_bind ?_
 simp only[newExc,newTuple]
 refine wpAny_bind (wpAny_newObj_type ?_ (by size_fits))
 refine wpAny_bind (m:=firstArgMember _ _) (wpAny_of_eq (a:=Value.none) (by first | rfl | (simp only[firstArgMember]; rfl)) ?_)
 refine wpAny_newObj_type ?_ (by size_fits)
 simp only[raiseNew]
 refine wpAny_bind (wpAny_handled ?_)
 rw[show A.in1.handled=none from hh];refine wpAny_bind (wpAny_pure (wpAny_throw ?_))
 refine wpAny_bind (wpAny_isInstance (T := "StopIteration") (b:=true) ⟨_,Heap.get?_push_size _ rfl,rfl⟩ isSubtype_stop ?_)
 exact wpAny_pure (hQ _ ((((Heap.SameBut.update ..).trans (Heap.SameBut.update ..)).extBut.push _).push _))
end
end L2
namespace L2
open PySem PySem.Spec PyProof.Rows PySem.SeqAt
theorem iZ:Slot "set_iterator" "__iter__" "set_iterator.__iter__" :=
 .of (owner := "set_iterator") (n := "__iter__") (by rw[typeLookup_type,builtinLookup_eq_fast]; kernel_rfl) (by decide +kernel) (by decide +kernel) (by decide +kernel)
  (by first | exact .inl (by decide +kernel) | exact .inr (by decide +kernel)) (by rw[isSubtype_type]; kernel_rfl)
theorem lh:entryFor table "set_iterator.__iter__" = some Builtin.«dict_keyiterator.__iter__»:=
 entryFor_alias (id' := "dict_keyiterator.__iter__") (by kernel_rfl) rfl (by decide +kernel) (by kernel_rfl)
theorem mK(a:Value):argsOk "set_iterator.__iter__" ⟨[a],[]⟩:=by
 unfold argsOk; rw [signature?_of (id := "set_iterator.__iter__") (n:=['_','_','r','e','t','i','_','_']) (o:=['r','o','t','a','r','e','t','i','_','t','e','s']) (by kernel_rfl) mU]; kernel_rfl
section
variable{prog:Program}{w:World}{A:Around}{E:Value→Shared→Prop}{s:Shared}
theorem nP{it a:Addr}{first:Value}{i n ep:Nat}{Q:Value→Shared→Prop}(hit:IsSI s.heap it first i a n ep)(h:Q (.ref it) s):wpAny (model prog w) A (pyIter (.ref it)) Q E s:=
 wpAny_pyIter_slot hit.typeIs iZ (wpAny_call_entry iZ hit.typeIs lh (wpAny_bind (wpAny_pure (wpAny_pure ⟨_,rfl, "set_iterator", _,hit.typeIs,slot_si_next.lookup,h⟩))) (mK _))
theorem IsSI.at'{h h':Heap}{it a:Addr}{first:Value}{i n ep:Nat}(x:IsSI h it first i a n ep)(e:∀ o,h.get? it=some o→h'.get? it=some o):IsSI h' it first i a n ep:=let ⟨o,ho,r⟩:=x; ⟨o,e _ ho,r⟩
theorem xP(hh:A.handled=none)(I a:Addr)(hne:a≠I){o:Obj}{es:Array (Int × Value)}{ep:Nat}{t:SetTable}(hd:o.data = .set es ep t)(hf:t.fits es.size=true)(hg:b5 (bJ w) t)(hn:w.params.followText "set-order" = true∨(!t.plain&&decide (es.size>1))=false) :
  Walks prog w A I [I,a] [I] es.size (fun i v=>(fm w a ep es)[i]? = some v) (fun i h=>IsSI h I (.int (cA w t i) 0) i a es.size ep∧h.get? a=some o) where
 sub:=fun b hb=>by simp at hb; simp[hb]
 frame:=fun _ _ _ st hk=>⟨st.1.at' fun o e=>hk I (by simp) o e,hk a (by simp) o st.2⟩
 item:=fun i s Q E hi st hQ=>by
  have hl:(fm w a ep es).length=es.size:=by rw[(iy (w:=w) a ep es).length_eq]; simp
  have hv:(fm w a ep es)[i]? = some (fm w a ep es)[i]:=List.getElem?_eq_getElem (by omega)
  refine uN st.1 st.2 hd hf hg hn hi hv fun h' hit' hs'=>?_
  exact hQ _ h' s.toks hv ⟨hit',hs'.extBut a o hne st.2⟩ (fun b o hb e=>hs'.extBut b o (fun h=>hb (by simp[h])) e)
 done:=fun s Q E st hQ=>wt hh st.1 st.2 hd hf hg hn fun h' he'=>hQ h' s.toks fun b o hb e=>he' b o (fun h=>hb (by simp[h])) e
 self:=fun _ _ _ _ st hQ=>nP st.1 hQ
theorem yf(hh:A.handled=none)(I a tp:Addr)(hne:a≠I)(hnt:tp≠I){o ot:Obj}{es:Array (Int × Value)}{ep ct:Nat}{t:SetTable}{ps:List Nat}(hd:o.data = .set es ep t)(hf:t.fits es.size=true)(hdt:ot.data = .seq (ps.map fun i:Nat=>rawInt i).toArray ct)(hp:ps.Perm (List.range es.size)) :
  Walks prog w A I [I,a,tp] [I] es.size (fun i v=>(ps.map fun k=>(es.getD k (0,.none)).2)[i]? = some v) (fun i h=>IsSI h I (.ref tp) i a es.size ep∧h.get? a=some o∧h.get? tp=some ot) where
 sub:=fun b hb=>by simp at hb; simp[hb]
 frame:=fun _ _ _ st hk=>⟨st.1.at' fun o e=>hk I (by simp) o e,hk a (by simp) o st.2.1,hk tp (by simp) ot st.2.2⟩
 item:=fun i s Q E hi st hQ=>by
  have hl:ps.length=es.size:=by rw[hp.length_eq]; simp
  have hk:ps[i]? = some (ps[i]'(by omega)):=List.getElem?_eq_getElem (by omega)
  have hlt:ps[i]'(by omega)<es.size:=List.mem_range.mp (hp.mem_iff.mp (List.getElem_mem _))
  have hv:(ps.map fun k=>(es.getD k (0,.none)).2)[i]? = some (es[ps[i]'(by omega)]'hlt).2:=by
   rw[List.getElem?_map,hk];simp[Array.getD,hlt]
  refine uY st.1 st.2.1 hd hf st.2.2 hdt hk (hh:=(es[ps[i]'(by omega)]'hlt).1) (v:=(es[ps[i]'(by omega)]'hlt).2) (Array.getElem?_eq_getElem hlt) fun h' hit' hs'=>?_
  exact hQ _ h' s.toks hv ⟨hit',hs'.extBut a o hne st.2.1,hs'.extBut tp ot hnt st.2.2⟩ (fun b o hb e=>hs'.extBut b o (fun h=>hb (by simp[h])) e)
 done:=fun s Q E st hQ=>wn hh st.1 st.2.1 hd hf st.2.2 hdt (by rw[hp.length_eq]; simp) fun h' he'=>hQ h' s.toks fun b o hb e=>he' b o (fun h=>hb (by simp[h])) e
 self:=fun _ _ _ _ st hQ=>nP st.1 hQ
end
end L2
namespace L2
open PySem PySem.Spec PyProof.Rows PySem.SeqAt
section
variable{prog:Program}{w:World}{A:Around}{E:Value→Shared→Prop}{s:Shared}
theorem mj{a:Addr}{Q:Bool→Shared→Prop}(hT:s.TypeIs (.ref a) "set") (h:Q false s):wpAny (model prog w) A (Builtin.List.listLengthHint (.ref a)) Q E s:=by
 unfold Builtin.List.listLengthHint;refine wpAny_bind (wpAny_specialOf hT F.slot_set_len.lookup ?_)
 generalize hid:("set.__len__" : String)=id0
 wp_delta
 rw[show splitId id0=some ("set", "__len__") from by subst hid; decide +kernel]
 subst hid;refine wpAny_bind (wpAny_isInstance (T := "set") (b:=true) hT (by rw[isSubtype_type]; kernel_rfl) ?_)
 refine wpAny_ite_split (fun hab=>absurd hab (by decide)) (fun _=>?_)
 refine wpAny_ite_split (fun _=>?_) (fun hab=>absurd (by decide +kernel) hab)
 refine wpAny_bind (wpAny_typeOf hT ?_)
 exact wpAny_pure h
theorem tX{l:List Value}{acc:Array Value}(h:ItemsOf (fun i v=>l[i]? = some v) acc l.length):acc.toList=l:=by
 refine List.ext_getElem? fun i=>?_
 rw[Array.getElem?_toList]
 cases e:acc[i]? with
 | some v=>exact(h.2 i v e).symm
 | none=>
  have:acc.size≤i:=by simpa using e
  exact(List.getElem?_eq_none (by have:=h.1; omega)).symm
theorem m6{es:Array (Int × Value)}{ps:List Nat}(hp:ps.Perm (List.range es.size)):(ps.map fun k=>(es.getD k (0,.none)).2).Perm (es.toList.map (·.2)):=by
 refine(hp.map _).trans ?_
 refine List.Perm.of_eq ?_
 refine List.ext_getElem (by simp) fun i h1 h2=>?_
 have hi:i<es.size:=by simpa using h1
 simp[Array.getD,hi]
theorem oU{R:Result→Shared→Prop}{a:Addr}{o:Obj}{es:Array (Int × Value)}{ep:Nat}{t:SetTable}(hh:A.handled=none)(ho:s.heap.get? a=some o)(hx:o.ExactSet)(hd:o.data = .set es ep t)(hf:t.fits es.size=true)(hfew:es.size<scanBound)(hg:b5 (bJ w) t)
  (S:Addr) (res:Value) (c₀ : Nat) (hS:s.heap.get? S=some { cls:=.type "list", data:=.seq #[] c₀ })
  (hR:∀ h' d' tk acc' c',(∀ b o,b≠S→s.heap.get? b=some o→h'.get? b=some o)→h'.get? S=some { cls:=.type "list", dict:=none,data:=.seq acc' c',slots:=#[] }→acc'.toList.Perm (es.toList.map (·.2))→R (.ok (.ret res)) { s with heap:=h',drawn:=d',toks:=tk }) :
  wpAny (model prog w) A.in1 (Builtin.List.listExtendWith (.ref S) (.ref a) res)
   (fun fin s'=>match fin with | .done f=>R (.ok f) s' | .again c'=>c'.quiet=true∧codeAny (model prog w) A c' R s') (fun e s'=>R (.error e) s') s:=by
 have hz:=fits_of_scanBound hfew;have halt:a<s.heap.objs.size:=Heap.lt_size ho
 have hSlt:S<s.heap.objs.size:=Heap.lt_size hS
 have hSa:S≠a:=fun e=>by
  rw[e,ho]at hS
  cases hS
  cases hd
 have hT:s.TypeIs (.ref a) "set" := ⟨o,ho,hx.1⟩
 have e1:Builtin.List.listSameRef (.ref S) (.ref a)=false:=by simp[Builtin.List.listSameRef,hSa]
 have key:∀ (h2:Heap) (d2:Drawn) (c tk:Nat) (I:Addr) (fp:List Addr) (l:List Value) (St:Nat→Heap→Prop),l.length=es.size→l.Perm (es.toList.map (·.2))→Walks prog w A.in1 I fp [I] es.size (fun i v=>l[i]? = some v) St→S∉fp→s.heap.objs.size≤I→
   (∀ b o,b≠S→s.heap.get? b=some o→h2.get? b=some o)→h2.get? S=some { cls:=.type "list", data:=.seq #[] c }→St 0 h2→codeAny (model prog w) A (.builtin "list.extend.loop" ⟨[.ref S,.ref I,res],[]⟩) R { s with heap:=h2,drawn:=d2,toks:=tk }:=by
  intro h2 d2 c tk I fp l St hl hp W hSf hI hk hS2 hst
  refine codeAny_extend_loopS W.toS hz S hSf res es.size 0 _ #[] c rfl (Nat.zero_le _) hst hS2 (ItemsOf.nil _) fun s' acc' c' hm hS' hacc=>?_
  rw[Moved.eq_with hm];refine hR s'.heap d2 s'.toks acc' c' (fun b o hb e=>hm.heap b o (fun hmem=>?_) (hk b o hb e)) hS' (by rw[tX (by rw[hl]; exact hacc)]; exact hp)
  rcases List.mem_cons.mp hmem with e' | hmem
  ·exact hb e'
  ·have:=Heap.lt_size e
   rw[List.mem_singleton.mp hmem]at this
   exact absurd this (Nat.not_lt.mpr hI)
 unfold Builtin.List.listExtendWith;refine wpAny_bind (wpAny_typeOf hT ?_)
 rw[if_neg (by rw[e1]; decide)]
 /- the list makes room, then the loop -/
 have touch:∀ (h2:Heap) (d2:Drawn) (I:Addr) (fp:List Addr) (l:List Value) (St:Nat→Heap→Prop),l.length=es.size→l.Perm (es.toList.map (·.2))→Walks prog w A.in1 I fp [I] es.size (fun i v=>l[i]? = some v) St→S∉fp→s.heap.objs.size≤I→
   (∀ b o,s.heap.get? b=some o→h2.get? b=some o)→St 0 h2→
   wpAny (model prog w) A.in1 (updateSeq S (·.push .none) >>= fun _=>updateSeq S (·.pop)) (fun _ s'=>codeAny (model prog w) A (.builtin "list.extend.loop" ⟨[.ref S,.ref I,res],[]⟩) R s') (fun e s'=>R (.error e) s') { s with heap:=h2,drawn:=d2 }:=by
  intro h2 d2 I fp l St hl hp W hSf hI hk hst
  have hS₁:=hk _ _ hS;refine wpAny_bind (wpAny_updateSeq hS₁ rfl ?_)
  have hS₂:=Heap.get?_update_self (Obj.mapSeq (·.push Value.none)) hS₁ rfl;refine wpAny_updateSeq (hz:=by seq_fits) hS₂ rfl ?_
  have hS₃:=Heap.get?_update_self (Obj.mapSeq (·.pop)) hS₂ rfl
  have oth:∀ b o,b≠S→h2.get? b=some o→((h2.update S (Obj.mapSeq (·.push Value.none))).update S (Obj.mapSeq (·.pop))).get? b=some o:=fun b o hb e=>
   (Heap.get?_update_other _ _ (Ne.symm hb)).trans ((Heap.get?_update_other _ _ (Ne.symm hb)).trans e)
  exact key _ d2 _ s.toks I fp l St hl hp W hSf hI (fun b o hb e=>oth b o hb (hk b o e)) hS₃ (W.frame 0 _ _ hst fun b hb o e=>oth b o (fun z=>hSf (z ▸ hb)) e)
 refine wpAny_bind (uV ho hx hd hf hfew (fun hnd=>?_) fun ps d' hp=>?_)
 ·have hTi:Shared.TypeIs { s with heap:=s.heap.push { cls:=.type "set_iterator", data:=.fields #[.int 0 0,.int 0 0,.ref a,.int es.size 0,.int ep 0] } } (.ref a) "set" := ⟨o,Heap.get?_push_of_some _ ho,hx.1⟩
  refine wpAny_bind (wpAny_holding (mj hTi ?_))
  have hn:w.params.followText "set-order" = true∨(!t.plain&&decide (es.size>1))=false:=by
   cases hb:w.params.followText "set-order" with
   | true=>exact .inl rfl
   | false=>rw[hb]at hnd; exact .inr (by simpa using hnd)
  have hst:IsSI (s.heap.push { cls:=.type "set_iterator", data:=.fields #[.int 0 0,.int 0 0,.ref a,.int es.size 0,.int ep 0] }) s.heap.objs.size (.int (cA w t 0) 0) 0 a es.size ep:=by
   refine⟨_,Heap.get?_push_size _ rfl,rfl,?_⟩
   unfold cA;split <;> simp
  refine wpAny_ite_split (fun _=>?_) (fun hab=>absurd (by decide +kernel) hab)
  refine wpAny_bind (wpAny_rule ?_)
  refine wpAny_bind (wpAny_mono (touch _ s.drawn _ _ _ _ (by rw[(iy (w:=w) a ep es).length_eq]; simp) (iy a ep es) (xP (A:=A.in1) hh s.heap.objs.size a (Nat.ne_of_lt halt) hd hf hg hn) (fun hm=>?_) (Nat.le_refl _) (fun b o e=>Heap.get?_push_of_some _ e) ⟨hst,Heap.get?_push_of_some _ ho⟩) (fun _ s' hc=>wpAny_pure ⟨plainId_quiet F.plain_extend_loop _,hc⟩) (fun _ _ he=>he))
  rcases List.mem_cons.mp hm with z | z
  ·exact absurd z (Nat.ne_of_lt hSlt)
  ·exact hSa (List.mem_singleton.mp z)
 ·have hTi:Shared.TypeIs { s with heap:=(s.heap.push { cls:=.type "tuple", data:=.seq (ps.map fun i:Nat=>rawInt i).toArray }).push { cls:=.type "set_iterator", data:=.fields #[.ref s.heap.objs.size,.int 0 0,.ref a,.int es.size 0,.int ep 0] },drawn:=d' } (.ref a) "set" := ⟨o,Heap.get?_push_of_some _ (Heap.get?_push_of_some _ ho),hx.1⟩
  refine wpAny_bind (wpAny_holding (mj hTi ?_))
  refine wpAny_ite_split (fun _=>?_) (fun hab=>absurd (by decide +kernel) hab)
  refine wpAny_bind (wpAny_rule ?_)
  have hst:IsSI ((s.heap.push { cls:=.type "tuple", data:=.seq (ps.map fun i:Nat=>rawInt i).toArray }).push { cls:=.type "set_iterator", data:=.fields #[.ref s.heap.objs.size,.int 0 0,.ref a,.int es.size 0,.int ep 0] }) (s.heap.objs.size+1) (.ref s.heap.objs.size) 0 a es.size ep:=by
   have:=Heap.get?_push_size (s.heap.push { cls:=.type "tuple", data:=.seq (ps.map fun i:Nat=>rawInt i).toArray }) (rfl:Obj.isFreed { cls:=.type "set_iterator", data:=.fields #[.ref s.heap.objs.size,.int 0 0,.ref a,.int es.size 0,.int ep 0] }=false)
   rw[Heap.size_push]at this
   exact⟨_,this,rfl,rfl⟩
  refine wpAny_bind (wpAny_mono (touch _ d' _ _ _ _ (by rw[List.length_map,hp.length_eq]; simp) (m6 hp) (yf (A:=A.in1) hh (s.heap.objs.size+1) a s.heap.objs.size (Nat.ne_of_lt (Nat.lt_succ_of_lt halt)) (Nat.ne_of_lt (Nat.lt_succ_self _)) hd hf rfl hp) (fun hm=>?_) (Nat.le_succ _) (fun b o e=>Heap.get?_push_of_some _ (Heap.get?_push_of_some _ e)) ⟨hst,Heap.get?_push_of_some _ (Heap.get?_push_of_some _ ho),Heap.get?_push_of_some _ (Heap.get?_push_size _ rfl)⟩) (fun _ s' hc=>wpAny_pure ⟨plainId_quiet F.plain_extend_loop _,hc⟩) (fun _ _ he=>he))
  rcases List.mem_cons.mp hm with z | z
  ·exact absurd z (Nat.ne_of_lt (Nat.lt_succ_of_lt hSlt))
  ·rcases List.mem_cons.mp z with z | z
   ·exact hSa z
   ·exact absurd (List.mem_singleton.mp z) (Nat.ne_of_lt hSlt)
theorem pE{a:Addr}{o:Obj}{es:Array (Int × Value)}{ep:Nat}{t:SetTable}{Q:List Value→Shared→Prop}(hh:A.handled=none)(ho:s.heap.get? a=some o)(hx:o.ExactSet)(hd:o.data = .set es ep t)(hf:t.fits es.size=true)(hfew:es.size<scanBound)(hg:b5 (bJ w) t)
  (hQ:∀ h' d' tk acc,(∀ b o,s.heap.get? b=some o→h'.get? b=some o)→s.heap.objs.size<h'.objs.size→acc.Perm (es.toList.map (·.2))→Q acc { s with heap:=h',drawn:=d',toks:=tk }):wpAny (model prog w) A (collect (.ref a)) Q E s:=by
 have ext:∀ R:Result→Shared→Prop,(∀ h' d' tk acc' c',(∀ b o,s.heap.get? b=some o→h'.get? b=some o)→h'.get? s.heap.objs.size=some { cls:=.type "list", dict:=none,data:=.seq acc' c',slots:=#[] }→acc'.toList.Perm (es.toList.map (·.2))→R (.ok (.ret (.ref s.heap.objs.size))) { s with heap:=h',drawn:=d',toks:=tk })→
   codeAny (model prog w) A (.builtin "proto.collect" ⟨[.ref a],[]⟩) R s:=fun R hR=>by
  refine codeAny_builtin F.entry_proto_collect ?_
  rw[Around.under_plainId F.plain_proto_collect _];show wpAny _ A.in1 (newList [] >>= fun l=>again (.builtin "list.__iadd__" ⟨[l,.ref a],[]⟩)) _ _ s
  refine wpAny_bind (wpAny_newObj_type ?_)
  refine wpAny_pure ⟨plainId_quiet F.plain_list_iadd _,codeAny_builtin F.entry_list_iadd ?_⟩
  rw[Around.under_plainId F.plain_list_iadd _];show wpAny _ A.in1 (Builtin.List.listExtendWith (.ref s.heap.objs.size) (.ref a) (.ref s.heap.objs.size)) _ _ _
  refine oU (R:=R) (s:={ s with heap:=s.heap.push { cls:=.type "list", data:=.seq ([]:List Value).toArray } }) hh (Heap.get?_push_of_some _ ho) hx hd hf hfew hg s.heap.objs.size _ 0 (Heap.get?_push_size _ rfl) fun h' d' tk acc' c' hk hS' hp=>?_
  exact hR h' d' tk acc' c' (fun b o e=>hk b o (Nat.ne_of_lt (Heap.lt_size e)) (Heap.get?_push_of_some _ e)) hS' hp
 unfold collect;refine wpAny_bind (wpAny_runValue (ext _ fun h' d' tk acc' c' hk hS' hp=>?_))
 show wpAny _ A (load s.heap.objs.size >>= _) _ _ _
 refine wpAny_bind (wpAny_load hS' ?_)
 exact wpAny_pure (hQ h' d' tk acc'.toList hk (Heap.lt_size hS') hp)
end
section
variable{X:Cx}
end
end L2
namespace L2
open PySem PySem.Spec PyProof PyProof.Rows
section
variable{X:Cx}
def oD(K:PySem.W.Frag):List V→Hp→VK→Prop:=fun xs H Q=>∃ (p:Addr) (ns:List Int),xs=[.ref p]∧SqL K H p (ns.map V.int)∧ns≠[]∧∀ M,M∈ns→(∀ a∈ns,a≤M)→Q (.int M) H
theorem eG{K:PySem.W.Frag}{H:Hp}{Q:VK}(p:Addr):oD K [.ref p] H Q=∃ ns:List Int,SqL K H p (ns.map V.int)∧ns≠[]∧∀ M,M∈ns→(∀ a∈ns,a≤M)→Q (.int M) H:=propext ⟨fun ⟨_,bs,e,q⟩=>by cases e; exact⟨bs,q⟩,fun ⟨bs,q⟩=>⟨p,bs,rfl,q⟩⟩
theorem pO(hc:X.calm=true):CallR X (.builtin "max") (oD X.K):=by
 intro pins s σ H xs us Q I r h
 obtain⟨p,ns,rfl,hq,hne,q⟩:=h
 obtain⟨u,rfl,ru⟩:=ce r
 cases ru;obtain⟨its,rv,pl,hz⟩:=I.list hq
 have hi:IntsAre its ns:=oE rv
 obtain⟨xs,e⟩:=hi.allInts.items
 have hns:ns=xs.toList.map (·.1):=by
  rw[← hi.numsOf,← nums_intItems,← e]
 have hsz:0<xs.size:=by
  have h3:=List.length_pos_iff.mpr hne; rw[hns,List.length_map,Array.length_toList]at h3; exact h3
 have hl:=pl.isList;rw[e]at hl
 refine max_intList (I.ok.hd hc) hl hsz fun v h' tk hv hk=>?_
 obtain⟨t,rfl⟩:=intItems_at hv
 obtain⟨h1,h2⟩:=argBest_gt (numAt xs) (xs.size - 1)
 refine⟨.int (numAt xs (argBest (fun i j=>decide (numAt xs i>numAt xs j)) (xs.size - 1))),H,I.kept (t':=tk) hk,⟨t,rfl⟩,q _ ?_ fun a ha=>?_⟩
 ·rw[hns,numAt_eq]; exact getD_mem (by rw[List.length_map,Array.length_toList]; omega)
 ·rw[hns]at ha
  obtain⟨j,hj,rfl⟩:=mem_getD ha
  rw[List.length_map,Array.length_toList]at hj
  rw[← numAt_eq]; exact h2 j (by omega)
theorem qv(K:PySem.W.Frag)(hK:X.K=K:=by rfl)(hc:X.calm=true:=by rfl):CallR X (.builtin "max") (oD K):=hK ▸ pO hc
theorem xD:bootBuiltins "max" = some (.builtin "max"):=by decide +kernel
end
end L2
namespace L2
open PySem PySem.Spec PyProof PyProof.Rows
section
variable{X:Cx}{pins:List (Addr × Obj)}{σ : St}{H:Hp}{s:Shared}{d:Addr}{kvs:List (Str × V)}
end
section
variable{X:Cx}
end
end L2
namespace L2
open PySem PySem.Spec PyProof PyProof.Rows
section
variable{prog:Program}{w:World}{A:Around}{E:Value→Shared→Prop}{s:Shared}
variable{z TI TO i1 i2 t1 t2:Addr}{xs ys:Array Value}{k1 k2:Nat}{a b:Value}
end
end L2
namespace L2
open PySem PySem.Spec PyProof PyProof.Rows
section
variable{prog:Program}{w:World}{A:Around}{E:Value→Shared→Prop}{s:Shared}{z TI TO i1 i2 t1 t2:Addr}{xs ys:Array Value}{k1 k2:Nat}{a b:Value}
end
end L2
namespace L2
open PySem PySem.Spec PyProof PyProof.Rows
end L2
namespace L2
open PySem PySem.Spec PyProof PyProof.Rows
section
variable{prog:Program}{w:World}{A:Around}{E:Value→Shared→Prop}{s:Shared}
end
section
variable{X:Cx}
theorem uW(xs:List V)(k:Nat):jG xs none (some (k:Int))=xs.take k:=by
 unfold jG;rw[HT.sIx_none,HT.sIx_nat,List.drop_zero,Nat.sub_zero];exact List.take_eq_take_min.symm
end
section
variable{K:PySem.W.Frag}{a b:Addr}{xs ys:List V}{g:TG}{te:TE}{nT:Nat}{σ : St}{D:Addr}{Q:VK}{H:Hp}
end
theorem jJ{α : Type}{x:α}{xs:List α}:cX (x::xs) 0=some x:=aC (j:=0) rfl
end L2
namespace L2
open PySem PySem.Spec PyProof PyProof.Rows
section
variable{X:Cx}
end
end L2
namespace L2
open PySem PySem.Spec PyProof PyProof.Rows
section
variable{K:PySem.W.Frag}{a:Addr}{xs:List V}{g:TG}{σ : St}{H:Hp}
end
end L2
namespace L2
open PySem PySem.Spec PyProof PyProof.Rows
section
variable{X:Cx}
end
end L2
namespace L2
open PySem PySem.Spec PyProof PyProof.Rows PySem.SeqAt
section
variable{X:Cx}
end
end L2
namespace L2
open PySem PySem.Spec PyProof.Rows PySem.SeqAt
section
variable{P:Program}{w:World}{K:PySem.W.Frag}{mg:Str→Option Value}{base:Heap}
end
section
variable{X:Cx}{o e value:Expr}{es:List Expr}{f m:Str}{pos pos' apos p:Pos}{ta tv:TE}{t:TA}{C:Addr}{x:Str}{ps:List Str}{sp:Sp}{j k:Nat}
end
section
variable{C:Addr}{f m:Str}{sp:Sp}{ta tv:TE}{t:TA}{σ : St}{H:Hp}{Q:VK}
end
theorem v3{f:Str}:List.lookup f ([]:List (Str × V))=none:=rfl
theorem sE{f:Str}{v:V}:wf f v []=[(f,v)]:=rfl
end L2
namespace L2
open PySem PySem.Spec PyProof.Rows PySem.SeqAt
section
variable{X:Cx}
end
end L2
namespace L2
open PySem PySem.Spec PyProof.Rows
section
variable{X:Cx}{tg e:Expr}
end
end L2
namespace L2
open PySem PySem.Spec PyProof.Rows PySem.SeqAt
def iG(l:List Str)(x:Str):List Str:=if l.any (· == x)=true then l else l++[x]
def ft(val:Nat→Str)(i:Nat):List Str:=((List.range i).map val).foldl iG []
theorem lQ(val:Nat→Str):ft val 0=[]:=rfl
theorem iw(val:Nat→Str)(i:Nat):ft val (i+1)=iG (ft val i) (val i):=by
 unfold ft; rw[List.range_succ,List.map_append,List.foldl_append]; rfl
theorem kn(val:Nat→Str):∀ i,(ft val i).length≤i
 | 0=>by rw[lQ]; exact Nat.le_refl _
 | i+1=>by
  rw[iw]; unfold iG
  have ih:=kn val i;split
  ·omega
  ·rw[List.length_append,List.length_singleton]; omega
theorem kZ(l:List Str)(v k:Str):(iG l v).any (· == k)=(l.any (· == k)||decide (k=v)):=by
 unfold iG
 by_cases h:l.any (· == v)=true
 ·rw[if_pos h]
  by_cases e:k=v
  ·subst e; rw[h]; simp
  ·simp[e]
 ·rw[if_neg h,List.any_append]
  by_cases e:k=v
  ·subst e; simp
  ·have hb:(v == k)=false:=by simpa [beq_iff_eq] using (fun h':v=k=>e h'.symm)
   simp[hb,e]
theorem qx(l:List Str)(v:Str):(iG l v).length=if l.any (· == v) then l.length else l.length+1:=by
 unfold iG; split <;> simp
theorem nS(val:Nat→Str):∀ (i:Nat) (k:Str),(ft val i).any (· == k)=((List.range i).map val).any (· == k)
 | 0,k=>rfl
 | i+1,k=>by
  rw[iw,kZ,nS val i k,List.range_succ,List.map_append,List.any_append]
  congr 1
  by_cases e:k=val i
  ·simp[e]
  ·simp[e]; exact fun h=>e h.symm
theorem nI:∀ {vs:List Value} {ss:List Str},StrsAre vs ss→∀ (i:Nat) (v:Value),vs[i]? = some v→∃ t,v = .str (ss.getD i "") t
 | _,_,.nil,i,v,h=>by simp at h
 | _,_,.cons n t hr,0,v,h=>by simp at h; exact⟨t,by rw[← h]; rfl⟩
 | _,_,.cons n t hr,i+1,v,h=>by
  simp only[List.getElem?_cons_succ]at h
  obtain⟨t',e⟩:=nI hr i v h
  exact⟨t',by rw[e]; rfl⟩
theorem ku(prog:Program)(w:World)(x:Str)(t:Tok):(strKind prog w).is x (.str x t)=true:=by
 show Value.isStrOf x (.str x t)=true
 simp[Value.isStrOf]
section
variable{prog:Program}{w:World}{A:Around}{R:Result→Shared→Prop}{I:Addr}{fp wr:List Addr}{Gm:Array GenState→Array GenState→Prop}{n:Nat}{P:Nat→Value→Prop}{St:Nat→Shared→Prop}{L:Bool}
theorem rZ(W:WalksS prog w A.in1 I fp wr Gm n P St)(S:Addr)(hSf:S∉fp)(val:Nat→Str)(hval:∀ i v,P i v→∃ t,v = .str (val i) t)(hb:n+1<scanBound) :
  ∀ (k i:Nat) (s:Shared),n - i=k→i≤n→St i s→SetG (strKind prog w) (b5 L) s.heap S (fun k'=>(ft val i).any (· == k')) (ft val i).length→
   (∀ s',Moved (S::wr) Gm s s'→SetG (strKind prog w) (b5 L) s'.heap S (fun k'=>(ft val n).any (· == k')) (ft val n).length→R (.ok (.ret .none)) s')→
   codeAny (model prog w) A (.builtin "set.update.loop" ⟨[.ref S,.ref I],[]⟩) R s:=by
 have hSw:S∉wr:=fun h=>hSf (W.sub _ h)
 have hsub:∀ b∈wr,b∈S::wr:=fun b hb=>List.mem_cons_of_mem _ hb
 intro k
 induction k with
 | zero=>
  intro i s hk hi hst hS hR
  have hin:i=n:=by omega
  subst hin;refine codeAny_builtin F.entry_set_update_loop ?_
  rw[Around.under_plainId F.plain_set_update_loop _];show wpAny _ A.in1 (pyNext (.ref I) >>= _) _ _ s
  refine wpAny_bind (W.done s _ _ hst fun s' hm=>?_)
  show wpAny _ A.in1 (ret Value.none) _ _ s'
  exact wpAny_pure (hR s' (hm.mono hsub) (hS.at' (fun o e=>hm.heap S _ hSw e) (fun _=>rfl) rfl))
 | succ k ih=>
  intro i s hk hi hst hS hR
  have hlt:i<n:=by omega
  refine codeAny_builtin F.entry_set_update_loop ?_
  rw[Around.under_plainId F.plain_set_update_loop _];show wpAny _ A.in1 (pyNext (.ref I) >>= _) _ _ s
  refine wpAny_bind (W.item i s _ _ hlt hst fun v s' hP hst' hm=>?_)
  obtain⟨t,rfl⟩:=hval i v hP
  have hS':=hS.at' (h':=s'.heap) (fun o e=>hm.heap S _ hSw e) (fun _=>rfl) rfl
  show wpAny _ A.in1 (holding [Value.str (val i) t] (setAdd S (.str (val i) t)) >>= _) _ _ s'
  refine wpAny_bind (wpAny_holding ?_)
  unfold setAdd;refine wpAny_holding ?_
  refine wpAny_bind ((strKind prog w).pyHash (k:=val i) (ku _ _ _ _) ?_)
  have hroom:(ft val i).length+1<scanBound:=by have:=kn val i; omega
  refine zw (G:=b5 L) (knd:=strKind prog w) (s:={ s' with toks:=s'.toks+1 }) (fun t es h x g=>nh g es h x) (fun t es m g=>oH g es m) (fun t g=>pA g) (ku _ _ _ _) rfl hS' hroom fun h' hsb hS2=>?_
  have hSi:=hS2.at' (h':=h') (fun o e=>e) (S':=fun k'=>(ft val (i+1)).any (· == k')) (m':=(ft val (i+1)).length) (fun k'=>by rw[iw,kZ]) (by rw[iw,qx])
  refine wpAny_pure ⟨plainId_quiet F.plain_set_update_loop _,ih (i+1) _ (by omega) hlt (W.frame _ s' _ _ hst' (Nat.le_succ _) fun b hb o e=>?_) hSi fun s'' hm'' hS''=>?_⟩
  ·rw[hsb.2 b (fun h:b=S=>hSf (by rw[← h]; exact hb))]; exact e
  ·refine hR s'' (Moved.trans W.gtrans ((hm.mono hsub).then_heap (Nat.le_succ _) fun b o hb e=>?_) hm'') hS''
   rw[hsb.2 b (fun h:b=S=>hb (by rw[h]; exact List.mem_cons_self))]; exact e
end
section
variable{prog:Program}{w:World}{A:Around}{E:Value→Shared→Prop}{s:Shared}
theorem rF{l:Addr}{items:Array Value}{ns:List Str}{Q:Value→Shared→Prop}(hh:A.handled=none)(hl:s.heap.IsList l items)(hi:StrsAre items.toList ns)(hb:items.size+1<scanBound)
  (h:∀ (h':Heap) (tk:Nat),SetG (strKind prog w) (b5 (bJ w)) h' s.heap.objs.size (fun k'=>(ft (fun i=>ns.getD i "") items.size).any (· == k')) (ft (fun i=>ns.getD i "") items.size).length→
   (∀ b o,b<s.heap.objs.size→s.heap.get? b=some o→h'.get? b=some o)→Q (.ref s.heap.objs.size) { s with heap:=h',toks:=tk }) :
  wpAny (model prog w) A (call (.type "set") [.ref l]) Q E s:=by
 obtain⟨c,tl,hmro⟩:=F.called_set.mro
 have hmade:=F.called_set.made;have hsub:=F.called_set.sub;refine wpAny_call (codeAny_of_tree ?_)
 show wpAny _ _ (callAny (.type "set") _) _ _ _
 refine wpAny_pure ⟨Code.quiet_builtin _ (by decide +kernel),codeAny_builtin F.entry_type_call ?_⟩
 rw[Around.under_plain (weight_type_call_type "set" [.ref l] []) rfl];have h1:=F.called_set.notType;have h2:=F.called_set.canCreate;have hct:=F.typeCall_set_1 (.ref l)
 repeat (any_goals (first | assumption | wp_step))
 refine codeAny_mono (sY (.ref l) (E:=E) (Q₁:=fun obj s₁=>obj = .ref s.heap.objs.size∧s₁={ s with heap:=s.heap.push { cls:=.type "set", dict:=none,data:=.set #[] 0 (.fresh 0 0 (bJ w)) } }) ⟨rfl,rfl⟩) fun r s₁ hr=>?_
 cases r with
 | error e=>exact hr
 | ok fl=>
  cases fl with
  | ret obj=>
   obtain⟨rfl,rfl⟩:=hr
   have hS:(s.heap.push { cls:=.type "set", dict:=none,data:=.set #[] 0 (.fresh 0 0 (bJ w)) }).get? s.heap.objs.size=some { cls:=.type "set", dict:=none,data:=.set #[] 0 (.fresh 0 0 (bJ w)) }:=Heap.get?_push_size _ rfl
   have hT:Shared.TypeIs { s with heap:=s.heap.push { cls:=.type "set", dict:=none,data:=.set #[] 0 (.fresh 0 0 (bJ w)) } } (.ref s.heap.objs.size) "set" := ⟨_,hS,rfl⟩
   have hli:=F.called_set.init.lookup;have hbi:=F.called_set.init.bind (.ref s.heap.objs.size)
   repeat (any_goals (first | assumption | wp_step))
   refine codeAny_mono (codeAny_call_builtin (R:=wants (fun r s₂=>r = .none∧∃ h' tk,s₂={ s with heap:=h',toks:=tk }∧
     SetG (strKind prog w) (b5 (bJ w)) h' s.heap.objs.size (fun k'=>(ft (fun i=>ns.getD i "") items.size).any (· == k')) (ft (fun i=>ns.getD i "") items.size).length∧
     (∀ b o,b<s.heap.objs.size→s.heap.get? b=some o→h'.get? b=some o)) E) F.called_set.init.plain F.entry_set_init (check_set_init_1 hT ?_)) fun r₂ s₂ hr₂=>?_
   ·obtain⟨ol,hol,hcl,nl,hdl⟩:=hl
    obtain⟨ocls,odict,odata,oslots⟩:=ol
    simp only at hcl hdl
    subst hcl; subst hdl
    have hol':(s.heap.push { cls:=.type "set", dict:=none,data:=.set #[] 0 (.fresh 0 0 (bJ w)) }).get? l=some { cls:=.type "list", dict:=odict,data:=.seq items nl,slots:=oslots }:=Heap.get?_push_of_some _ hol
    have hsls:=F.sub_list_set;have hslf:=F.sub_list_frozenset;have hne:(Value.type "list" == Value.type "dict")=false:=by decide
    have hl1:(s.heap.push { cls:=.type "set", dict:=none,data:=.set #[] 0 (.fresh 0 0 (bJ w)) }).IsList l items:=⟨_,hol',rfl,nl,rfl⟩
    unfold Builtin.«set.__init__» noKeywords Builtin.Frozenset.updateFrom
    generalize hPI:pyIter=PI
    wp_walk
    subst hPI;refine wpAny_pyIter_list hl1 ?_
    refine wpAny_bind (wpAny_runValue ?_)
    have hlS:l<s.heap.objs.size:=Heap.lt_size hol
    have hh3:A.in1.in1.in1.handled=none:=by simp[hh]
    have hneI:l≠(s.heap.push { cls:=.type "set", dict:=none,data:=.set #[] 0 (.fresh 0 0 (bJ w)) }).objs.size:=by
     rw[Heap.size_push]; exact Nat.ne_of_lt (Nat.lt_succ_of_lt hlS)
    have hSf:s.heap.objs.size∉[(s.heap.push { cls:=.type "set", dict:=none,data:=.set #[] 0 (.fresh 0 0 (bJ w)) }).objs.size,l]:=by
     rw[Heap.size_push]; simp only[List.mem_cons,List.mem_singleton,List.not_mem_nil,or_false,not_or]
     exact⟨Nat.ne_of_lt (Nat.lt_succ_self _),Nat.ne_of_gt hlS⟩
    have hval:∀ (i:Nat) (v:Value),items[i]? = some v→∃ t,v = .str ((fun i=>ns.getD i "") i) t:=fun i v hv=>nI hi i v (by rw[Array.getElem?_toList]; exact hv)
    refine rZ (L:=bJ w) ((Walks.list hh3 _ l hneI items).toS) s.heap.objs.size hSf (fun i=>ns.getD i "") hval hb (items.size - 0) 0 _ (by omega) (Nat.zero_le _) ⟨⟨_,Heap.get?_push_size _ rfl,rfl,rfl⟩,(hl1.push _)⟩ ?hS0 ?hR
    case hS0=>
     refine⟨{ cls:=.type "set", dict:=none,data:=.set #[] 0 (.fresh 0 0 (bJ w)) },#[],0,.fresh 0 0 (bJ w),Heap.get?_push_of_some _ hS,?_⟩
     exact⟨⟨rfl,rfl,rfl⟩,rfl,fun e he=>by simp at he,fun k=>by simp[lQ],by decide,rfl,rfl,⟨rfl,fun a b ha=>absurd ha (Nat.not_lt_zero _)⟩,List.Pairwise.nil⟩
    case hR=>
     intro s' hm hS'
     obtain⟨h',g',d',tk',os'⟩:=s'
     have eg:g'=s.gens:=hm.gens
     have ed:d'=s.drawn:=hm.drawn
     have eo:os'=s.os:=hm.os
     subst eg; subst ed; subst eo
     show wpAny _ _ _ _ _ _
     refine wpAny_pure ?_
     show wpAny _ _ (ret Value.none) _ _ _
     refine wpAny_pure ⟨rfl,h',tk',rfl,hS',fun b o hb e=>?_⟩
     have hb1:b≠s.heap.objs.size:=Nat.ne_of_lt hb
     have hb2:b≠(s.heap.push { cls:=.type "set", dict:=none,data:=.set #[] 0 (.fresh 0 0 (bJ w)) }).objs.size:=by
      rw[Heap.size_push]; exact Nat.ne_of_lt (Nat.lt_succ_of_lt hb)
     exact hm.heap b o (by simp only[List.mem_cons,List.mem_singleton,List.not_mem_nil,or_false,not_or]; exact⟨hb1,hb2⟩) (Heap.get?_push_of_some _ (Heap.get?_push_of_some _ e))
   ·cases r₂ with
    | error e=>exact hr₂
    | ok fl₂=>
     cases fl₂ with
     | ret r=>
      obtain⟨rfl,h',tk,rfl,hS',hk'⟩:=hr₂
      repeat (any_goals (first | assumption | wp_step))
      exact h _ _ hS' hk'
     | _=>exact hr₂.elim
  | _=>exact hr.elim
end
def ut(K:PySem.W.Frag)(SO:Addr→List Str→HO):List V→Hp→VK→Prop:=fun xs H Q=>∃ p,∃ ns:List Str,xs=[.ref p]∧SqL K H p (ns.map V.str)∧ns.length≤60∧∀ (l:Addr) (ds:List Str),H l=none→ds.Nodup→(∀ x,x∈ds ↔ x∈ns)→ds.length≤ns.length→Q (.ref l) (upd H l (SO l ds))
def kI(SO:Addr→List Str→HO):List V→Hp→VK→Prop:=fun xs H Q=>∃ p,∃ ds:List Str,xs=[.ref p]∧H p=some (SO p ds)∧ds.length≤60∧∀ (l:Addr) (ts:List Str),H l=none→ts.Perm ds→sortedS ts=true→Q (.ref l) (upd H l (.lst (ts.map V.str)))
def gP(e:Int × Value):Str:=match e.2 with
 | .str d _=>d
 | _ => ""
def yh(w:World)(h:Heap)(a:Addr)(ds:List Str):Prop:=∃ o es ep t,h.get? a=some o∧o.ExactSet∧o.data = .set es ep t∧es.size<scanBound∧t.fits es.size=true∧b5 (bJ w) t∧(∀ e∈es.toList,∃ tk,e.2 = .str (gP e) tk)∧es.toList.map gP=ds
def fH(w:World)(a:Addr)(ds:List Str):HO:=.ext fun h=>yh w h a ds
theorem xh{prog:Program}{w:World}{h:Heap}{a:Addr}{S:Str→Bool}{n:Nat}(x:SetG (strKind prog w) (b5 (bJ w)) h a S n):∃ ds,yh w h a ds∧ds.Nodup∧(∀ k,k∈ds ↔ S k=true)∧ds.length=n:=by
 obtain⟨o,es,ep,t,ho,T⟩:=x
 have hk:∀ e∈es.toList,∃ tk,e.2 = .str (gP e) tk:=fun e he=>by
  obtain⟨⟨k,hk,_⟩,_⟩:=T.el e he
  obtain⟨tk,e2⟩:=Value.isStrOf_shape hk
  exact⟨tk,by unfold gP; rw[e2]⟩
 have his:∀ e∈es.toList,∀ k,(strKind prog w).is k e.2=true ↔ k=gP e:=fun e he k=>by
  obtain⟨tk,e2⟩:=hk e he
  constructor
  ·intro z
   obtain⟨tk',e3⟩:=Value.isStrOf_shape z
   rw[e3]at e2
   cases e2; rfl
  ·rintro rfl; rw[e2]; exact ku _ _ _ _
 refine⟨es.toList.map gP,⟨o,es,ep,t,ho,T.ex,T.dat,T.few,T.fit,T.good,hk,rfl⟩,?_,fun k=>?_,by rw[List.length_map,Array.length_toList]; exact T.num⟩
 ·refine List.pairwise_map.mpr (List.Pairwise.imp_of_mem (fun {x y} hx hy hab e=>?_) T.apart)
  have h1:=hab (gP x) ((his x hx _).mpr rfl);rw[(his y hy _).mpr e]at h1; cases h1
 ·rw[T.mem,List.mem_map]
  constructor
  ·rintro⟨e,he,rfl⟩; exact⟨e,he,(his e he _).mpr rfl⟩
  ·rintro⟨e,he,z⟩; exact⟨e,he,((his e he _).mp z).symm⟩
section
variable{X:Cx}
theorem oG{m:Nat}(hr:Room m X.A){K:PySem.W.Frag}(hK:X.K=K):CallR X (.type "set") (ut K (fH X.w)):=by
 subst hK;intro pins s σ H xs us Q I r h
 obtain⟨p,ns,rfl,hq,h60,q⟩:=h
 obtain⟨u,rfl,ru⟩:=ce r
 cases ru;obtain⟨its,rv,pl,hz⟩:=I.list hq
 have hlen:its.length=ns.length:=by rw[← rv.length,List.length_map]
 refine rF (ns:=ns) hr.hd pl.isList (by simpa using i0 rv) (by simp only[List.size_toArray]; unfold scanBound; omega) fun h' tk hS hk=>?_
 obtain⟨ds,hg,hnd,hmem,hdl⟩:=xh hS
 obtain⟨o,es,ep,t,ho,hrest⟩:=id hg
 refine⟨.ref s.heap.objs.size,_,I.laid (fun b o e=>hk b o (Heap.lt_size e) e) (Nat.le_refl _) (show ObjOk X.prog X.w _ h' _ (fH X.w s.heap.objs.size ds) from ⟨hg,⟨o,ho⟩,fun h1 h2 g k=>?_⟩),rfl,q _ ds (I.hok.fresh (Nat.le_refl _)) hnd (fun x=>?_) ?_⟩
 ·obtain⟨o,es,ep,t,ho,b4⟩:=g
  exact⟨o,es,ep,t,k o ho,b4⟩
 ·rw[hmem,nS]
  simp only[List.size_toArray,List.any_map,List.any_eq_true,List.mem_range]
  constructor
  ·rintro⟨i,hi,e⟩
   have e':ns.getD i "" = x:=by simpa using e
   rw[← e',List.getD_eq_getElem?_getD,List.getElem?_eq_getElem (by omega)]
   exact List.getElem_mem _
  ·intro hx
   obtain⟨i,hi,e⟩:=List.mem_iff_getElem.mp hx
   exact⟨i,by omega,by simp[List.getD_eq_getElem?_getD,List.getElem?_eq_getElem hi,e]⟩
 ·rw[hdl]
  have:=kn (fun i=>ns.getD i "") its.toArray.size
  simp only[List.size_toArray]at this ⊢
  omega
end
def jf(v:Value):Str:=match v with
 | .str d _=>d
 | _ => ""
theorem ou:∀ (l:List Value),(∀ v∈l,∃ tk,v = .str (jf v) tk)→StrsAre l (l.map jf)
 | [],_=>.nil
 | v::l,h=>by
  obtain⟨tk,e⟩:=h v List.mem_cons_self
  have r:=ou l fun u hu=>h u (List.mem_cons_of_mem _ hu)
  rw[List.map_cons];generalize jf v=d at e ⊢;subst e;exact .cons d tk r
section
variable{prog:Program}{w:World}{A:Around}{E:Value→Shared→Prop}{s:Shared}
theorem oO{a:Addr}{o:Obj}{es:Array (Int × Value)}{ep:Nat}{t:SetTable}{Q:Value→Shared→Prop}(hh:A.handled=none)(ho:s.heap.get? a=some o)(hx:o.ExactSet)(hd:o.data = .set es ep t)(hf:t.fits es.size=true)(h64:es.size<64)(hg:b5 (bJ w) t)
  (hint:∀ e∈es.toList,∃ tk,e.2 = .str (gP e) tk)
  (hQ:∀ h' d' tk q out c ns',(∀ b o,s.heap.get? b=some o→h'.get? b=some o)→s.heap.objs.size≤q→h'.get? q=some (seqObj "list" out c)→StrsAre out.toList ns'→ns'.Perm (es.toList.map gP)→sortedS ns'=true→Q (.ref q) { s with heap:=h',drawn:=d',toks:=tk }) :
  wpAny (model prog w) A (call (.builtin "sorted") [.ref a]) Q E s:=by
 refine Calls.call_function_entry kind_sorted plain_sorted entry_sorted (args_sorted1 _) ?_
 unfold Builtin.«sorted»
 refine wpAny_bind (m:=checkCount "sorted" 1 1 _) (wpAny_pure ?_)
 refine wpAny_bind (pE hh ho hx hd hf (by unfold scanBound; omega) hg fun h' d' tk acc hk hlt hp=>?_)
 have hal:acc.length=es.size:=by rw[hp.length_eq]; simp
 have hI:StrsAre acc (acc.map jf):=ou acc fun v hv=>by
  obtain⟨e,he,rfl⟩:=List.mem_map.mp (hp.mem_iff.mp hv)
  exact hint e he
 have hperm:(acc.map jf).Perm (es.toList.map gP):=by
  have:=hp.map jf
  rw[List.map_map]at this
  exact this
 refine wpAny_bind (wpAny_newList ?_ (by rw[hal,sizeLine_eq]; omega))
 have hoL:(h'.push (seqObj "list" acc.toArray 0)).get? h'.objs.size=some (seqObj "list" acc.toArray 0):=Heap.get?_push_size _ rfl
 show wpAny _ _ _ _ _ { s with heap:=h'.push (seqObj "list" acc.toArray 0),drawn:=d',toks:=tk }
 refine wpAny_bind (wpAny_holding (wpAny_call_entry slot_list_sort ⟨_,hoL,rfl⟩ entry_list_sort (list_sort_treeK strKind_oneLt hoL hI.keysOf (fun v₁ v₂ b4 e=>keyKind_strs (by rw[← e]; exact hI)) (by omega) fun st' b1 b2=>⟨_,rfl,?_⟩) (args_list_sort _)))
 obtain⟨ns',a1,a2,a3⟩:=sorted_out_str hI b1 b2
 generalize (arrOf st').map (·.2)=out at a1 ⊢;obtain⟨c,hc⟩:=sortedHeap_at (out:=out) hoL
 refine wpAny_pure ⟨_,rfl,hQ _ d' tk h'.objs.size out c ns' (fun b o e=>?_) (Nat.le_of_lt hlt) hc a1 (a2.trans hperm) a3⟩
 have hb:=Heap.lt_size (hk b o e);rw[sortedHeap_old (Nat.ne_of_lt hb) (by rw[Heap.size_push]; exact Nat.lt_succ_of_lt hb)]
 exact Heap.get?_push_of_some _ (hk b o e)
end
section
variable{X:Cx}
theorem li{m:Nat}(hr:Room m X.A):CallR X (.builtin "sorted") (kI (fH X.w)):=by
 intro pins s σ H xs us Q I r h
 obtain⟨p,ds,rfl,e,h60,q⟩:=h
 obtain⟨u,rfl,ru⟩:=ce r
 cases ru;obtain⟨o,es,ep,t,ho,hx,hd,hfew,hf,hg,hint,hds⟩:=(show ObjOk X.prog X.w H s.heap p (fH X.w p ds) from I.hok p _ e).1
 have hz:es.size≤60:=by rw[← hds,List.length_map,Array.length_toList]at h60; exact h60
 have hs:sizeLine=16777216:=sizeLine_eq
 refine oO hr.hd ho hx hd hf (by omega) hg hint fun h' d' tk qa out c ns' hk hq hc a1 a2 a3=>?_
 have hl:ns'.length≤60:=by rw[a2.length_eq,List.length_map,Array.length_toList]; exact hz
 have I2:=I.laid (t':=tk) (a:=qa) (o:=.lst (ns'.map V.str)) hk hq (show ObjOk X.prog X.w _ h' _ (.lst (ns'.map V.str)) from ⟨by rw[List.length_map]; omega,out.toList,c,iM a1,by simpa using hc⟩)
 refine⟨.ref qa,_,?_,rfl,q _ ns' (I.hok.fresh hq) (by rw[← hds]; exact a2) a3⟩
 exact⟨I2.ok,I2.os,I2.bare,I2.base,I2.loc,I2.cell,I2.free,I2.freeC,I2.pin,I2.hok,I2.len⟩
theorem ng{m:Nat}(K:PySem.W.Frag)(w:World)(hr:Room m X.A)(hK:X.K=K:=by rfl)(hw:X.w=w:=by rfl):CallR X (.type "set") (ut K (fH w)):=hw ▸ oG hr hK
theorem kC{m:Nat}(w:World)(hr:Room m X.A)(hw:X.w=w:=by rfl):CallR X (.builtin "sorted") (kI (fH w)):=hw ▸ li hr
end
section
variable{X:Cx}{c a b:Expr}{tA tB1 tB2:TT}{pos:Pos}
end
end L2
namespace L2
open PySem PySem.Spec PyProof.Rows PySem.SeqAt PySem.Builtin PySem.Builtin.Str PySem.StrLaws
section
variable{X:Cx}
end
end L2
namespace L2
open PySem PySem.Spec PyProof.Rows PySem.SeqAt PySem.Builtin PySem.Builtin.Str PySem.StrLaws
end L2
namespace L2
open PySem PySem.Spec PyProof.Rows
section
variable{X:Cx}
end
end L2
namespace L2
open PySem PySem.Spec PyProof.Rows
abbrev cB:=List (Option Int)
def MO(P:Program)(w:World):HeapKind P w (cB):=ud (cP P w) (show 0≤7 by decide)
def fL(P:Program)(w:World)(a:Addr)(xs:List (cB × Addr × Value)):HO:=
 .ext fun h=>∃ o es ep,h.get? a=some o∧o.ExactDict∧o.data = .dict es ep∧es.toList=xs.map (entryOfKey (MO P w))∧(xs.map (·.1)).Nodup
def KeyO(H:Hp)(k:cB)(b:Addr):Prop:=H b=some (.tup (k.map bL))
def ORow(H:Hp)(p:cB × V)(q:cB × Addr × Value):Prop:=q.1=p.1∧KeyO H p.1 q.2.1∧RelV p.2 q.2.2
def DO(P:Program)(w:World)(H:Hp)(a:Addr)(kvs:List (cB × V)):Prop:=
 ∃ xs,H a=some (fL P w a xs)∧(a == sysModules)=false∧xs.length≤sizeLine∧Paired (ORow H) kvs xs
theorem KeyO.mono{H H':Hp}{k:cB}{b:Addr}(h:KeyO H k b)(sm:∀ c xs,H c=some (.tup xs)→H' c=some (.tup xs)):KeyO H' k b:=by
 exact sm _ _ h
theorem DO.mono{P:Program}{w:World}{H H':Hp}{a:Addr}{kvs:List (cB × V)}(h:DO P w H a kvs)(sm:Same H H'):DO P w H' a kvs:=by
 obtain⟨xs,h1,h2,h3,h4⟩:=h
 exact⟨xs,sm _ _ h1,h2,h3,Paired.imp' (fun p q z=>⟨z.1,z.2.1.mono fun c ys e=>sm _ _ e,z.2.2⟩) h4⟩
section
variable{P:Program}{w:World}{H:Hp}
theorem ORow.val:∀ {kvs:List (cB × V)} {xs:List (cB × Addr × Value)} (k:cB),Paired (ORow H) kvs xs→RelO (aX kvs k) ((atKey xs k).map (·.2))
 | _,_,k,.nil=>True.intro
 | _,_,k,@Paired.cons _ _ _ p q kvs xs r t=>by
  have ih:=ORow.val k t;obtain⟨e1,e2,e3⟩:=r
  by_cases h:p.1=k
  ·have h1:aX (p::kvs) k=some p.2:=by simp[aX,h]
   have h2:atKey (q::xs) k=some q.2:=by simp[atKey,e1,h]
   rw[h1,h2]; exact e3
  ·have hn:¬ q.1=k:=fun z=>h (e1.symm.trans z)
   have h1:aX (p::kvs) k=aX kvs k:=by simp[aX,h]
   have h2:atKey (q::xs) k=atKey xs k:=by simp[atKey,hn]
   rw[h1,h2]; exact ih
end
section
variable{X:Cx}{pins:List (Addr × Obj)}{σ : St}{H:Hp}{s:Shared}{a b:Addr}{k:cB}{kvs:List (cB × V)}
theorem Inv.keyO(I:Inv X pins σ H s)(h:KeyO H k b):(MO X.prog X.w).is s.heap k b:=by
 obtain⟨_,its2,r2,o2,e2,c2,n2,d2⟩ : (k.map bL).length≤sizeLine∧∃ its:List Value,Vals (k.map bL) its∧IsTup s.heap b its.toArray:=by obtain⟨z,its,r,p⟩:=I.hok b _ h; exact⟨z,its,r,p.tup⟩
 exact⟨b,o2,_,n2,rfl,e2,c2,d2,by simpa using fA r2⟩
theorem Inv.dO(I:Inv X pins σ H s)(h:DO X.prog X.w H a kvs):∃ xs,H a=some (fL X.prog X.w a xs)∧(a == sysModules)=false∧xs.length≤sizeLine∧Paired (ORow H) kvs xs∧s.heap.DictOfH (MO X.prog X.w) a xs:=by
 obtain⟨xs,h1,h2,h3,h4⟩:=h
 obtain⟨⟨o,es,ep,e1,e2,e3,e4,e5⟩,_,_⟩:=I.hok a _ h1
 refine⟨xs,h1,h2,h3,h4,o,es,ep,e1,e2,e3,e4,?_,e5⟩
 have all:∀ {l:List (cB × V)} {m:List (cB × Addr × Value)},Paired (ORow H) l m→∀ x∈m,(MO X.prog X.w).is s.heap x.1 x.2.1:=by
  intro l m r
  induction r with
  | nil=>intro x hx; simp at hx
  | cons r t ih=>
   intro x hx
   rcases List.mem_cons.mp hx with rfl | hx
   ·rw[r.1]; exact I.keyO r.2.1
   ·exact ih x hx
 exact all h4
theorem jw{P:Program}{w:World}{H':Hp}{h':Heap}{xs:List (cB × Addr × Value)}(m:h'.DictOfH (MO P w) a xs):ObjOk P w H' h' a (fL P w a xs):=by
 obtain⟨o,es,ep,e1,e2,e3,e4,_,e5⟩:=m
 exact⟨⟨o,es,ep,e1,e2,e3,e4,e5⟩,⟨o,e1⟩,fun h1 h2 ⟨o,es,ep,q1,q⟩ z=>⟨o,es,ep,z _ q1,q⟩⟩
def n8(P:Program)(w:World):R2:=fun x y H Q=>∃ b a k kvs,x = .ref b∧y = .ref a∧DO P w H a kvs∧KeyO H k b∧Q (.bl (!(aX kvs k).isSome)) H
theorem q8{n:Nat}(hr:Room n X.A):OpR X (compareOp .NotIn) (n8 X.prog X.w):=by
 intro pins s σ H x y v u Q I rx ry h
 obtain⟨b,a,k,kvs,rfl,rfl,hd,hk,q⟩:=h
 cases rx
 cases ry;obtain⟨xs,h1,h2,h3,h4,m⟩:=I.dO hd
 refine wpAny_notIn_heap (show (MO X.prog X.w).room X.A.in1 from by show X.A.units+1+1<cLine; have:=hr.un; omega) (I.keyO hk) h2 m ?_
 have e:=(ORow.val k h4).isSome_eq;rw[Option.isSome_map]at e
 rw[← e];exact⟨.bl _,H,I.tok _,rfl,q⟩
def ua(P:Program)(w:World):jF:=fun o i v H Q=>∃ a b k kvs,o = .ref a∧i = .ref b∧DO P w H a kvs∧KeyO H k b∧aX kvs k=none∧kvs.length<sizeLine∧∀ u,DO P w (upd H a u) a (kvs++[(k,v)])→Q (upd H a u)
theorem ye{n:Nat}(hr:Room n X.A):PSet X (ua X.prog X.w):=by
 intro pins s σ H o i v ov iv u Q I ro ri rv h
 obtain⟨a,b,k,kvs,rfl,rfl,hd,hk,hv,hl,q⟩:=h
 cases ro
 cases ri;obtain⟨xs,h1,h2,h3,h4,m⟩:=I.dO hd
 have hx:atKey xs k=none:=by
  have e:=ORow.val k h4;rw[hv]at e
  cases hq:atKey xs k with
  | none=>rfl
  | some p=>rw[hq]at e; exact e.elim
 refine wpAny_setItem_heap (hsz:=h3) (show (MO X.prog X.w).room X.A.in1 from by show X.A.units+1+1<cLine; have:=hr.un; omega) (I.keyO hk) m fun h' m' hs=>?_
 rw[storedH_new hx]at m'
 have keep:∀ c ys,H c=some (.tup ys)→upd H a (fL X.prog X.w a (xs++[(k,b,u)])) c=some (.tup ys):=fun c ys e=>by
  rw[am (fF e h1 (fun z=>nomatch z))]; exact e
 refine⟨upd H a (fL X.prog X.w a (xs++[(k,b,u)])),gb I (by rw[h1]; exact True.intro) hs (let ⟨o,_,_,e,_⟩:=m'; ⟨o,e⟩) (jw m'),q _ ⟨_,ai,h2,?_,?_⟩⟩
 ·rw[List.length_append,← Paired.length h4]
  show kvs.length+1≤sizeLine
  omega
 ·exact Paired.snoc ⟨rfl,hk.mono keep,rv⟩ (Paired.imp' (fun p q z=>⟨z.1,z.2.1.mono keep,z.2.2⟩) h4)
def kd(P:Program)(w:World)(tk tv:TE):TE:=fun σ H Q=>∀ p,H p=none→∀ u,DO P w (upd H p u) p []→tk σ (upd H p u) fun y H1=>tv σ H1 fun z H2=>∃ b k,y = .ref b∧KeyO H2 k b∧DO P w H2 p []∧∀ u',DO P w (upd H2 p u') p [(k,z)]→Q (.ref p) (upd H2 p u')
theorem q0{n:Nat}(hr:Room n X.A){ek ev:Expr}{tk tv:TE}{pos:Pos}(hk:PE X ek tk)(hv:PE X ev tv):PE X (.Dict [some ek] [ev] pos) (kd X.prog X.w tk tv):=by
 intro pins s σ H Q I q
 have hn:=I.hok.fresh (Nat.le_refl s.heap.objs.size);have hm:(s.heap.push { cls:=.type "dict", data:=.dict #[] }).DictOfH (MO X.prog X.w) s.heap.objs.size []:=⟨_,#[],0,Heap.get?_push_size _ rfl,⟨rfl,rfl,rfl⟩,rfl,rfl,(fun x hx=>by simp at hx),List.nodup_nil⟩
 have I1:=I.laid (a:=s.heap.objs.size) (o:=fL X.prog X.w s.heap.objs.size []) (t':=s.toks) (fun _ _ q=>Heap.get?_push_of_some _ q) (Nat.le_refl _) (jw hm)
 have hD:DO X.prog X.w (upd H s.heap.objs.size (fL X.prog X.w s.heap.objs.size [])) s.heap.objs.size []:=⟨[],ai,beq_eq_false_iff_ne.mpr (Ne.symm (Nat.ne_of_lt I.big)),Nat.zero_le _,.nil⟩
 refine wpAny_Dict_any rfl rfl (by simp) (by simp) (pairTrees_cons_walk (aY (hk pins _ σ _ _ I1 (q _ hn _ hD)) fun u s1 ⟨x,H1,I1',rx,q1⟩=>aY (hv pins s1 σ H1 _ I1' q1) fun w2 s2 ⟨y,H2,I2,ry,b,k,ex,kk,d2,q2⟩=>pairTrees_nil_walk ?_))
 subst ex;obtain rfl:u=Value.ref b:=rx
 obtain⟨xs,h1,h2,h3,h4,m⟩:=I2.dO d2
 cases h4;unfold storeAll;rw[List.forIn_cons];refine wpAny_bind (wpAny_bind (wpAny_dictSet_heap (knd:=MO X.prog X.w) (k:=k) (xs:=[]) (hsz:=Nat.zero_le _) (show (MO X.prog X.w).room X.A from by show X.A.units+1<cLine; have:=hr.un; omega) (I2.keyO kk) m fun h' m' hs=>wpAny_pure ?_))
 dsimp only
 rw[List.forIn_nil];refine wpAny_pure ?_
 have keep:∀ c ys,H2 c=some (.tup ys)→upd H2 s.heap.objs.size (fL X.prog X.w s.heap.objs.size [(k,b,w2)]) c=some (.tup ys):=fun c ys e=>by
  rw[am (fF e h1 (fun z=>nomatch z))]; exact e
 have m2:h'.DictOfH (MO X.prog X.w) s.heap.objs.size [(k,b,w2)]:=m'
 exact⟨.ref s.heap.objs.size,upd H2 s.heap.objs.size (fL X.prog X.w s.heap.objs.size [(k,b,w2)]),gb I2 (by rw[h1]; exact True.intro) hs (let ⟨o,_,_,e,_⟩:=m2; ⟨o,e⟩) (jw m2),rfl,q2 _ ⟨_,ai,h2,by rw[sizeLine_eq]; simp,.cons ⟨rfl,kk.mono keep,ry⟩ .nil⟩⟩
end
end L2
namespace L2
open PySem PySem.Spec PyProof.Rows
section
variable{X:Cx}{E:XK}{x:Str}{C:Addr}{bmB:List Value}{B newId initId:String}{np cpos pos:Pos}{e:Expr}{es:List Expr}{t:TA}
end
section
variable{P:Program}{w:World}{K:PySem.W.Frag}{mg:Str→Option Value}{base:Heap}
end
section
variable{X:Cx}
end
section
variable{X:Cx}{Ee:XK}
end
section
variable{X:Cx}{pins:List (Addr × Obj)}{σ : St}{H:Hp}{s:Shared}
end
section
variable{X:Cx}{x n:Str}{C:Addr}{bmB:List Value}{B newId initId:String}{np hp pos:Pos}{body suite:List Stmt}{b₀ : Stmt}{tb:XK→TS}{th:TS}{b4:List ExceptHandler}
end
end L2
namespace L2
open PySem PySem.Spec PyProof.Rows
section
variable{prog:Program}{w:World}{A:Around}{E:Value→Shared→Prop}{h:Heap}{g:Array GenState}{d:Drawn}{t:Nat}{os:OsState}{a:Addr}{o:Obj}{K:PySem.W.Frag}
 {x:Str} {C:Addr} {bmB:List Value} {B newId:String} {mg:Str→Option Value}
end
section
variable{X:Cx}
end
end L2
namespace L2
open PySem PySem.Spec PyProof.Rows
section
variable{P:Program}{w:World}{K:PySem.W.Frag}{mg:Str→Option Value}{base:Heap}
end
section
variable{X:Cx}
end
section
variable{X:Cx}{E:XK}{x n:Str}{C:Addr}{np cpos hp pos:Pos}{e:Expr}{es body suite:List Stmt}{b₀ : Stmt}{t:TA}{tb:XK→TS}{th:TS}{b4:List ExceptHandler}
end
section
variable{X:Cx}{x:Str}{C:Addr}{np hp pos:Pos}{body suite:List Stmt}{b₀ : Stmt}{tb:XK→TS}{th:TS}{b4:List ExceptHandler}
end
end L2
namespace L2
open PySem PySem.Spec PyProof PyProof.Rows
section
variable{K:PySem.W.Frag}{a b:Addr}{xs ys:List V}{g:TG}{te:TE}{nT:Nat}{σ : St}{D:Addr}{Q:VK}{H:Hp}
end
section
variable{prog:Program}{w:World}{A:Around}{E:Value→Shared→Prop}{s:Shared}
end
end L2
namespace L2
open PySem PySem.Spec PyProof PyProof.Rows
section
variable{X:Cx}
end
section
variable{X:Cx}
end
section
variable{d:Addr}{o:Obj}{kvs:List (bc × V)}{g:TG}{σ : St}{H:Hp}
end
end L2
namespace PySem.SeqAt
open AutoSeq1 (wpAny_loadPart')
open MeetsSeq MeetsSeq2 MeetsSeq3
end PySem.SeqAt
namespace L2
open PySem PySem.Spec PyProof PyProof.Rows
section
variable{X:Cx}
end
end L2
namespace L2
open PySem PySem.Spec PyProof PyProof.Rows
section
variable{X:Cx}
end
end L2
namespace L2
open PySem PySem.Spec PyProof.Rows
section
variable{X:Cx}{pins:List (Addr × Obj)}{σ : St}{H:Hp}{s:Shared}{a:Addr}{kvs:List (Option Int × V)}
end
section
variable{X:Cx}(P:Program)(w:World)
end
end L2
namespace L2
open PySem PySem.Spec PyProof PyProof.Rows
section
variable{prog:Program}{w:World}{A:Around}{E:Value→Shared→Prop}{s:Shared}
variable{z TI TO i1 i2 t1 t2:Addr}{xs ys:Array Value}{k1 k2:Nat}{a b:Value}
end
section
variable{K:PySem.W.Frag}{a b:Addr}{xs ys:List V}{g:TG}{te:TE}{nT:Nat}{σ : St}{D:Addr}{Q:VK}{H:Hp}
end
end L2
namespace L2
open PySem PySem.Spec PyProof PyProof.Rows PySem.SeqAt
theorem nK{α : Type}[BEq α][LawfulBEq α]{y:α}:∀ {l:List α} {j:Nat},j<l.idxOf y→∀ (h:j<l.length),l[j]≠y
 | n::r,0,h,_=>by
  intro e
  have e':n=y:=e
  subst e';simp at h
 | n::r,j+1,h,h2=>by
  rw[List.idxOf_cons]at h
  cases hb:n == y with
  | true=>rw[hb]at h; exact absurd h (Nat.not_lt_zero _)
  | false=>
   rw[hb]at h
   have h':j+1<r.idxOf y+1:=h
   have q:=nK (y:=y) (l:=r) (j:=j) (by omega) (by simpa using h2)
   simpa using q
section
variable{X:Cx}
def va(K:PySem.W.Frag):V→List V→Hp→VK→Prop:=fun x vs H Q=>∃ (p:Addr) (ss:List (Option Int)) (y:Option Int),x = .ref p∧vs=[bL y]∧SqL K H p (ss.map bL)∧y∈ss∧Q (.int (ss.idxOf y:Nat)) H
theorem p5(K:PySem.W.Frag)(hK:X.K=K:=by rfl):MtR X "list.index" (va K):=by
 subst hK;intro pins s σ H x xs v us Q I rx r h
 obtain⟨p,ss,y,rfl,rfl,hq,hy,q⟩:=h
 cases rx;obtain⟨u,rfl,ru⟩:=ce r
 obtain⟨its,rv,pl,hz⟩:=I.list hq
 have hlen:its.length=ss.length:=by rw[← rv.length,List.length_map]
 rw[List.length_map]at hz
 have hs:sizeLine=16777216:=sizeLine_eq
 obtain⟨⟨cls,dd,data,sl⟩,ho,hc,n,hd⟩:=pl.isList
 simp only at hc hd
 subst hc hd;have hj:ss.idxOf y<ss.length:=List.idxOf_lt_length_iff.mpr hy
 have rel:∀ (i:Nat) (h:i<its.length),RelV (bL (ss[i]'(by omega))) its[i]:=fun i h=>by
  obtain⟨x,hx,rx⟩:=rv.of (i:=i) (u:=its[i]) (List.getElem?_eq_getElem h)
  rw[List.getElem?_map,List.getElem?_eq_getElem (by omega)]at hx
  have hx':bL (ss[i]'(by omega))=x:=Option.some.inj hx
  subst hx';exact rx
 have eqq:∀ (i:Nat) (h:i<its.length),du (bL y) its[i]=decide (ss[i]'(by omega)=y):=fun i h=>by
  rw[jN (rel i h) (dG _),nM]
 refine call_meets PySem.F.slot_list_index ⟨_,ho,rfl⟩ PySem.F.entry_list_index (PySem.F.args_list_index_2 _ _)
  (list_indexAt p its.toArray n dd sl u (du (bL y)) (ss.idxOf y) (by simpa [hlen] using hj) (by omega) ?_ ?_) ⟨ho,fun z hz=>?_,⟨.int _,H,I.tok _,⟨_,rfl⟩,q⟩⟩
 ·show du (bL y) its[ss.idxOf y]=true
  rw[eqq _ (by omega),List.getElem_idxOf hj]; simp
 ·intro j hjs hlt
  have hj':j<its.length:=by simpa using hjs
  show du (bL y) its[j]=false
  rw[eqq j hj'];exact decide_eq_false (nK hlt _)
 ·have hz':z∈its:=by simpa using hz
  obtain⟨i,hi,rfl⟩:=List.mem_iff_getElem.mp hz'
  rw[jN (rel i hi) (dG _)];exact hJ (A:=X.A.in1) (s:=s) (rel i hi) ru (dG _) (dG _)
end
section
variable{X:Cx}
end
section
variable{X:Cx}
end
end L2
namespace L2
open PySem PySem.Spec PyProof PyProof.Rows
section
variable{X:Cx}
end
section
variable{prog:Program}{w:World}{κ : Type}[DecidableEq κ]{knd:HeapKind prog w κ}{A:Around}{E:Value→Shared→Prop}{s:Shared}
end
section
variable{X:Cx}
end
end L2
namespace L2
open PySem PySem.Spec PyProof PyProof.Rows
section
variable{X:Cx}{pins:List (Addr × Obj)}{σ : List (Option V)}{H:Hp}{s:Shared}
end
section
variable{X:Cx}
end
open PySem.SeqAt
section
variable{X:Cx}
end
end L2
namespace PySem.SeqAt
open AutoSeq1 (wpAny_loadPart')
open MeetsSeq MeetsSeq2 MeetsSeq3
open SeqRoads2
section
variable{A:Around}{s:Shared}
end
end PySem.SeqAt
namespace L2
open PySem PySem.Spec PyProof PyProof.Rows PySem.SeqAt
section
variable{X:Cx}{pins:List (Addr × Obj)}{σ : St}{H:Hp}{s:Shared}
end
end L2
namespace PySem
section
variable{M:Program}{w:World}{A:Around}{R:Result→Shared→Prop}{I:Addr}{fp wr:List Addr}{n:Nat}{Pv:Nat→Value→Prop}{St:Nat→Heap→Prop}
end
end PySem
namespace PySem
section
variable{M:Program}{w:World}{A:Around}{E:Value→Shared→Prop}{s:Shared}
end
end PySem
namespace L2
open PySem PySem.Spec PyProof PyProof.Rows PySem.SeqAt
section
variable{X:Cx}
end
end L2
namespace L2
open PySem PySem.Spec PyProof PyProof.Rows
section
variable{X:Cx}
end
end L2
namespace L2
open PySem PySem.Spec PyProof.Rows
abbrev xG:=Str × List (Option Int)
section
variable{P:Program}{w:World}{H:Hp}
end
section
variable{X:Cx}{pins:List (Addr × Obj)}{σ : St}{H:Hp}{s:Shared}{a b:Addr}{k:xG}{kvs:List (xG × V)}
end
end L2
namespace L2
open PySem PySem.Spec PyProof.Rows
section
variable{prog:Program}{w:World}{A:Around}{E:Value→Shared→Prop}{s:Shared}
end
section
variable{X:Cx}{pins:List (Addr × Obj)}{σ : St}{H:Hp}{s:Shared}
end
section
variable{X:Cx}{pins:List (Addr × Obj)}{σ : St}{H H1:Hp}{s s1:Shared}
end
end L2
namespace L2
open PySem PySem.Spec PyProof.Rows PySem.SeqAt PySem.Builtin PySem.Builtin.Str PySem.StrLaws
end L2
namespace L2
open PySem
end L2
namespace L2
open PySem PySem.Spec PyProof.Rows PySem.SeqAt
section
variable{prog:Program}{w:World}{K:Type}[DecidableEq K]{knd:KeyKind prog w K}{A:Around}{E:Value→Shared→Prop}{s:Shared}{L:Bool}
end
end L2
namespace L2
open PySem PySem.Spec PyProof.Rows PySem.SeqAt
section
variable{prog:Program}{w:World}{K:Type}[DecidableEq K]{knd:KeyKind prog w K}{A:Around}{E:Value→Shared→Prop}{s:Shared}
end
section
variable{X:Cx}
end
end L2
namespace L2
open PySem PySem.Spec PyProof.Rows PySem.SeqAt PySem.Builtin PySem.Builtin.Str PySem.StrLaws
end L2
namespace L2
open PySem PySem.Spec PyProof.Rows PySem.SeqAt
section
variable{X:Cx}{x n:Str}{C:Addr}{bmB:List Value}{B newId initId:String}{np hp pos:Pos}{body suite orelse:List Stmt}{b₀ : Stmt}{tb:XK→TS}{th te:TS}{b4:List ExceptHandler}
end
end L2
namespace L2
open PySem PySem.Spec PyProof.Rows
section
variable{M:Model}{A:Around}{E:Value→Shared→Prop}{s:Shared}
end
section
variable{X:Cx}{N0 T:List Str}{scope:Scope}{tg elt iter:Expr}{ifs:List Expr}{pos:Pos}{wi:TI}{g:TG}{tc:TT}{te:TE}
end
section
variable{X:Cx}{N0 T:List Str}{scope:Scope}{C:Addr}{fp:List Addr}{s:Shared}{H:Hp}{E1:XK}{x:Str}
end
end L2
namespace L2
open PySem PySem.Spec PyProof.Rows PySem.SeqAt
section
variable{X:Cx}{e:Expr}{te:TE}{lo hi:Option Expr}{st:Expr}{tl th ts:TO}{pos p2:Pos}
end
section
variable{X:Cx}
end
end L2
namespace L2
open PySem PySem.Spec PyProof.Rows
section
variable{X:Cx}{n:Nat}(P:Program)(w:World)(hr:Room n X.A)
include hr
theorem pj(hP:X.prog=P:=by rfl)(hw:X.w=w:=by rfl):OpR X (compareOp .NotIn) (n8 P w):=by subst hP hw; exact q8 hr
theorem xb(hP:X.prog=P:=by rfl)(hw:X.w=w:=by rfl):PSet X (ua P w):=by subst hP hw; exact ye hr
theorem pC{ek ev:Expr}{tk tv:TE}{pos:Pos}(hk:PE X ek tk)(hv:PE X ev tv)(hP:X.prog=P:=by rfl)(hw:X.w=w:=by rfl):PE X (.Dict [some ek] [ev] pos) (kd P w tk tv):=by subst hP hw; exact q0 hr hk hv
end
end L2
namespace L2
open PySem PySem.Spec PyProof.Rows
theorem kz:∀ (names:List (Str × NameKind)) (n:Nat) (acc:List (Str × Addr)) {x:Str} {c:Addr},(cellsFrom n names acc).lookup x=some c→acc.lookup x=some c∨(n≤c∧(x,NameKind.cell)∈names)
 | [],n,acc,x,c,h=>.inl h
 | (nm,k)::r,n,acc,x,c,h=>by
  unfold cellsFrom at h;split at h
  ·rename_i hk
   have hk':k = .cell:=by simpa using hk
   rcases kz r (n+1) _ h with z | ⟨z1,z2⟩
   ·rw[List.lookup_cons]at z
    cases hx:(x == nm) with
    | true=>
     rw[hx]at z
     have e1:x=nm:=by simpa using hx
     have e2:n=c:=Option.some.inj z
     rw[e1,hk']; exact .inr ⟨Nat.le_of_eq e2,List.mem_cons_self⟩
    | false=>rw[hx]at z; exact .inl z
   ·exact .inr ⟨by omega,List.mem_cons_of_mem _ z2⟩
  ·rcases kz r n _ h with z | ⟨z1,z2⟩
   ·exact .inl z
   ·exact .inr ⟨z1,List.mem_cons_of_mem _ z2⟩
theorem mG:∀ (names:List (Str × NameKind)) (n:Nat) (acc:List (Str × Addr)),(∀ (x:Str) (c:Nat),acc.lookup x=some c→c<n)→(∀ x y c,acc.lookup x=some c→acc.lookup y=some c→x=y)→
  ∀ x y c,(cellsFrom n names acc).lookup x=some c→(cellsFrom n names acc).lookup y=some c→x=y
 | [],n,acc,hb,hi=>hi
 | (nm,k)::r,n,acc,hb,hi=>by
  unfold cellsFrom;split
  ·refine mG r (n+1) _ (fun x c h=>?_) fun x y c h1 h2=>?_
   ·rw[List.lookup_cons]at h
    cases hx:(x == nm) with
    | true=>rw[hx]at h; have q:(n:Nat)=c:=Option.some.inj h; omega
    | false=>rw[hx]at h; have:=hb x c h; omega
   ·rw[List.lookup_cons]at h1 h2
    cases hx:(x == nm) with
    | true=>
     rw[hx]at h1
     have e:(n:Nat)=c:=Option.some.inj h1
     have ex:x=nm:=by simpa using hx
     cases hy:(y == nm) with
     | true=>
      have ey:y=nm:=by simpa using hy
      rw[ex,ey]
     | false=>rw[hy]at h2; have:=hb y c h2; omega
    | false=>
     rw[hx]at h1
     cases hy:(y == nm) with
     | true=>rw[hy]at h2; have e:(n:Nat)=c:=Option.some.inj h2; have:=hb x c h1; omega
     | false=>rw[hy]at h2; exact hi x y c h1 h2
  ·exact mG r n acc hb hi
theorem kB:∀ (names:List (Str × NameKind)) (h:Heap) (acc:List (Str × Addr)),(∀ x c,acc.lookup x=some c→∃ v,h.IsCell c v)→∀ x c,(cellsFrom h.objs.size names acc).lookup x=some c→∃ v,(pushCells h names).IsCell c v
 | [],h,acc,ha=>ha
 | (nm,k)::r,h,acc,ha=>by
  unfold cellsFrom pushCells;split
  ·have:=kB r (h.push { cls:=.type "cell", data:=.cell none }) ((nm,h.objs.size)::acc) fun x c e=>by
    rw[List.lookup_cons]at e
    cases hx:(x == nm) with
    | true=>rw[hx]at e; have e':h.objs.size=c:=Option.some.inj e; subst e'; exact⟨none,_,Heap.get?_push_size _ rfl,rfl⟩
    | false=>rw[hx]at e; obtain⟨v,z⟩:=ha x c e; exact⟨v,z.keeps fun b o q=>Heap.get?_push_of_some _ q⟩
   rwa [Heap.size_push]at this
  ·exact kB r h acc ha
theorem jS:∀ (names:List (Str × NameKind)) (n:Nat) (acc:List (Str × Addr)) {x:Str},(∃ c,acc.lookup x=some c)→∃ c,(cellsFrom n names acc).lookup x=some c
 | [],n,acc,x,h=>h
 | (nm,k)::r,n,acc,x,h=>by
  unfold cellsFrom;split
  ·refine jS r (n+1) _ ?_
   rw[List.lookup_cons]
   cases hx:(x == nm) with
   | true=>exact⟨_,rfl⟩
   | false=>exact h
  ·exact jS r n acc h
theorem mQ:∀ (names:List (Str × NameKind)) (n:Nat) (acc:List (Str × Addr)) {x:Str},(x,NameKind.cell)∈names→∃ c,(cellsFrom n names acc).lookup x=some c
 | (nm,k)::r,n,acc,x,h=>by
  unfold cellsFrom;rcases List.mem_cons.mp h with e | h
  ·have e1:x=nm:=congrArg (·.1) e
   have e2:NameKind.cell=k:=congrArg (·.2) e
   subst e1 e2;rw[if_pos (by rfl)]
   refine jS r (n+1) _ ⟨n,?_⟩
   rw[List.lookup_cons,beq_self_eq_true]
  ·split
   ·exact mQ r _ _ h
   ·exact mQ r _ _ h
theorem kf:∀ (names:List (Str × NameKind)) (n:Nat) (acc:List (Str × Addr)) {x:Str},(x,NameKind.cell)∉names→(cellsFrom n names acc).lookup x=acc.lookup x
 | [],n,acc,x,h=>rfl
 | (nm,k)::r,n,acc,x,h=>by
  unfold cellsFrom;split
  ·rename_i hk
   have hk':k = .cell:=by simpa using hk
   rw[kf r (n+1) _ fun z=>h (List.mem_cons_of_mem _ z),List.lookup_cons]
   cases hx:(x == nm) with
   | true=>exact absurd (by rw[show x=nm by simpa using hx,hk']; exact List.mem_cons_self) h
   | false=>rfl
  ·exact kf r n acc fun z=>h (List.mem_cons_of_mem _ z)
theorem px:∀ (names:List (Str × NameKind)) (n n0:Nat) (acc:List (Str × Addr)) {x:Str},n0≤n→(∀ c:Nat,acc.lookup x=some c→n0≤c)→∀ c:Nat,(cellsFrom n names acc).lookup x=some c→n0≤c
 | [],n,n0,acc,x,hn,h=>h
 | (nm,k)::r,n,n0,acc,x,hn,h=>by
  unfold cellsFrom;split
  ·refine px r (n+1) n0 _ (by omega) fun c e=>?_
   rw[List.lookup_cons]at e
   cases hx:(x == nm) with
   | true=>rw[hx]at e; have q:(n:Nat)=c:=Option.some.inj e; omega
   | false=>rw[hx]at e; exact h c e
  ·exact px r n n0 acc hn h
theorem mO:∀ (names:List (Str × NameKind)) (n:Nat) (acc:List (Str × Addr)) {x:Str},(x,NameKind.cell)∈names→∀ c:Nat,(cellsFrom n names acc).lookup x=some c→n≤c
 | (nm,k)::r,n,acc,x,h,c,e=>by
  unfold cellsFrom at e;rcases List.mem_cons.mp h with z | h
  ·have e1:x=nm:=congrArg (·.1) z
   have e2:NameKind.cell=k:=congrArg (·.2) z
   subst e1 e2;rw[if_pos (by rfl)]at e
   refine px r (n+1) n _ (by omega) (fun c q=>?_) c e
   rw[List.lookup_cons,beq_self_eq_true]at q
   have q:(n:Nat)=c:=Option.some.inj q; omega
  ·split at e
   ·have:=mO r _ _ h c e; omega
   ·exact mO r _ _ h c e
theorem dz{env:Env}{x:Str}{k:NameKind}:∀ {names:List (Str × NameKind)},
  (names.map fun (n,k)=>if (k == NameKind.free&&env.scope.kind == .function&&env.kindOf n == some .cell) then (n,NameKind.cell) else (n,k)).lookup x=some k→(k = .cell∨k = .free)→(x,NameKind.free)∈names∨(x,NameKind.cell)∈names
 | [],h,_=>by simp at h
 | (n,k0)::r,h,hk=>by
  have ih:=@dz env x k r;rw[List.map_cons]at h
  by_cases hf:(k0 == NameKind.free&&env.scope.kind == .function&&env.kindOf n == some .cell)=true
  ·have hk0:k0 = .free:=by
    have:(k0 == NameKind.free)=true:=by
     rw[Bool.and_eq_true,Bool.and_eq_true]at hf; exact hf.1.1
    simpa using this
   dsimp only at h
   rw[if_pos hf,List.lookup_cons]at h
   cases hx:(x == n) with
   | true=>
    have:x=n:=by simpa using hx
    rw[this,hk0]; exact .inl List.mem_cons_self
   | false=>
    rw[hx]at h
    rcases ih h hk with z | z
    ·exact .inl (List.mem_cons_of_mem _ z)
    ·exact .inr (List.mem_cons_of_mem _ z)
  ·dsimp only at h
   rw[if_neg hf,List.lookup_cons]at h
   cases hx:(x == n) with
   | true=>
    rw[hx]at h
    have e:k0=k:=Option.some.inj h
    have:x=n:=by simpa using hx
    rcases hk with z | z
    ·rw[this,e,z]; exact .inr List.mem_cons_self
    ·rw[this,e,z]; exact .inl List.mem_cons_self
   | false=>
    rw[hx]at h
    rcases ih h hk with z | z
    ·exact .inl (List.mem_cons_of_mem _ z)
    ·exact .inr (List.mem_cons_of_mem _ z)
theorem nB{env:Env}{x:Str}:∀ {names:List (Str × NameKind)},(names.map fun (n,k)=>if (k == NameKind.free&&env.scope.kind == .function&&env.kindOf n == some .cell) then (n,NameKind.cell) else (n,k)).lookup x=some .local→(x,NameKind.local)∈names:=by
 intro names
 induction names with
 | nil=>intro z; simp at z
 | cons y r ih=>
  obtain⟨n,k⟩:=y
  intro z
  rw[List.map_cons]at z
  dsimp only at z
  by_cases hfk:(k == NameKind.free&&env.scope.kind == .function&&env.kindOf n == some .cell)=true
  ·rw[if_pos hfk,List.lookup_cons]at z
   cases hx:(x == n) with
   | true=>rw[hx]at z; cases z
   | false=>rw[hx]at z; exact List.mem_cons_of_mem _ (ih z)
  ·rw[if_neg hfk,List.lookup_cons]at z
   cases hx:(x == n) with
   | true=>
    rw[hx]at z
    have ek:k = .local:=Option.some.inj z
    have en:x=n:=by simpa using hx
    rw[ek,en]; exact List.mem_cons_self
   | false=>rw[hx]at z; exact List.mem_cons_of_mem _ (ih z)
theorem vc{M:Model}{A:Around}{E:Value→Shared→Prop}{s:Shared}{scope:Scope}{globals:Addr}{closure:List (Str × Addr)}{qual:Str}{func:Option Addr}{code:Value}{env:Env}{builtins:Addr}{Q:Env→Shared→Prop}
  (hQ:Q (newEnv scope s.heap.objs.size globals (cellsFrom (s.heap.objs.size+1) scope.names closure) qual func code (some env) builtins) { s with heap:=pushCells (s.heap.push { cls:=.type "dict", data:=.dict #[] }) scope.names }) :
  wpAny M A (newFunctionEnv scope globals closure [] qual func code (some env) builtins) Q E s:=by
 simp only[newFunctionEnv,Option.isSome_some,if_true]
 refine wpAny_bind (wpAny_alloc ?_)
 refine wpAny_bind (wpAny_layCells _ (fun name kind cells=>by cases hkc:kind == NameKind.cell <;> simp[hkc]) _ _ _ _ ?_)
 rw[show ({ s with heap:=s.heap.push { cls:=.type "dict", data:=.dict #[] } }:Shared).heap.objs.size=s.heap.objs.size+1 from Heap.size_push ..];refine wpAny_bind ?_
 rw[List.forIn_nil];exact wpAny_pure (wpAny_pure hQ)
def tY(scope:Scope)(x:Str):Bool:=scope.names.any fun y=>y.1 == x&&y.2 == .cell
def bt(X:Cx)(N0 T:List Str)(scope:Scope)(C:Addr)(fp:List Addr)(s:Shared)(H:Hp):Cx:=
 { X with N:=N0++T,s₀:=s,H₀:=H,env:=compEnvC scope (cellsFrom (C+1) scope.names (bS X.env.cells scope.names [])) C X.env,outer:=X.stack,stack:=X.stack,ex:=fp,fn:=tY scope,pn:=[],xe:=fun _ _=>False }
structure iF (X:Cx) (N0 T:List Str) (scope:Scope):Prop where
 kind:scope.kind = .function
 names:∀ y∈scope.names,y.2 = .local→scope.names.lookup y.1=some .local
 free:∀ y∈scope.names,y.2 = .free→X.env.kindOf y.1=some .cell∨X.env.kindOf y.1=some .free
 apart:∀ y∈scope.names,y.2 = .local∨y.2 = .cell→y.1∉N0
 len0:N0.length=X.N.length
 same:∀ (i:Nat) (x:Str) (k:NameKind),N0[i]? = some x→(x,k)∈scope.names→X.N[i]? = some x
section
variable{X:Cx}{N0 T:List Str}{scope:Scope}{tg elt iter:Expr}{ifs:List Expr}{pos:Pos}{wi:TI}{g:TG}{tc:TT}{te:TE}
theorem pT{pins:List (Addr × Obj)}{σ : St}{H:Hp}{s:Shared}{E:Value→Shared→Prop}{it:Addr}{fp:List Addr}{tn:Nat→Heap→Prop}{J:It}{Q:VK}{RR:Value→Addr→Result→Shared→Prop}
  (S:iF X N0 T scope) (hc:X.calm=true)
  (hg:∀ C fp s H,PG (bt X N0 T scope C fp s H) tg g) (hfr:kQ g X.N.length) (hi:∀ C fp s H,PIfs (bt X N0 T scope C fp s H) ifs tc) (he:∀ C fp s H,PE (bt X N0 T scope C fp s H) elt te)
  (I:Inv X pins σ H s) (Tn:kr X.prog X.w X.K tg J fp it tn) (st:tn 0 s.heap) (hf:∀ b∈fp,fv X pins H b)
  (h:∀ D,H D=none→dW J g tc te T.length σ D Q (upd H D (.lst [])))
  (hRR:∀ D C s' H' m,s'.heap.Ns C m→H' C=none→C≠X.env.locals→(∀ x c,X.env.cells.lookup x=some c→c≠C)→(∀ p∈X.pn++pins,p.1≠C)→X.s₀.heap.objs.size≤C→Inv X pins σ H' s'→
   (∀ h',Heap.SameBut C s'.heap h'→Inv X pins σ H' { s' with heap:=h' })→Q (.ref D) H'→RR (.ref D) C (.ok .next) s') :
  wpAny (model X.prog X.w) X.A (newList []) (fun acc s₃=>wpAny (model X.prog X.w) X.A (newFunctionEnv scope X.env.globals (bS X.env.cells scope.names []) [] X.env.qual none .none (some X.env)) (fun cenv s₄=>
   codeAny (model X.prog X.w) X.A (.compStart (.ListComp elt [⟨tg,iter,ifs,0⟩] scope pos) 0 (.ref it) acc { cenv with scope:=relabel scope X.env }) (RR acc cenv.locals) s₄) E s₃) E s:=by
 refine wpAny_newObj_type (vc ?_)
 dsimp only
 generalize hH2:s.heap.push { cls:=.type "list", dict:=none,data:=.seq ([]:List Value).toArray }=P2 at ⊢;have hC:P2.objs.size=s.heap.objs.size+1:=by rw[← hH2,Heap.size_push]
 -- the new list D, the block's names C
 obtain⟨D,hD⟩ : ∃ D:Nat,D=s.heap.objs.size:=⟨_,rfl⟩
 obtain⟨C,hCC⟩ : ∃ C:Nat,C=P2.objs.size:=⟨_,rfl⟩
 obtain⟨h₁,hh1⟩ : ∃ h₁:Heap,h₁=pushCells (P2.push { cls:=.type "dict", data:=.dict #[] }) scope.names:=⟨_,rfl⟩
 have kp1:∀ b o,P2.get? b=some o→h₁.get? b=some o:=fun b o e=>hh1 ▸ pushCells_keeps _ _ b o (Heap.get?_push_of_some _ e)
 have hns₁:h₁.Ns C (fun _=>none):=by rw[hh1,hCC]; exact(Heap.Ns.new P2 (.type "dict")).keeps (pushCells_keeps _ _)
 have hsz1:(P2.push { cls:=.type "dict", data:=.dict #[] }).objs.size=C+1:=by rw[Heap.size_push,hCC]
 rw[← hh1,← hCC];rw[← hD]at hC ⊢
 rw[← hCC]at hC
 have hDC:D≠C:=by omega
 have hDlt:D<C:=by omega
 have neD:∀ b o,s.heap.get? b=some o→b≠D:=fun b o e=>hD ▸ Nat.ne_of_lt (Heap.lt_size e)
 have neC:∀ b o,s.heap.get? b=some o→b≠C:=fun b o e=>Nat.ne_of_lt (Nat.lt_trans (hD ▸ Heap.lt_size e) hDlt)
 have old:∀ b o,s.heap.get? b=some o→h₁.get? b=some o:=fun b o e=>kp1 b o (hH2 ▸ Heap.get?_push_of_some _ e)
 have hHD:H D=none:=I.hok.fresh (by omega)
 have hHC:H C=none:=I.hok.fresh (by omega)
 have dat:h₁.get? D=some { cls:=.type "list", data:=.seq ([]:List Value).toArray 0 }:=by
  refine kp1 _ _ ?_
  rw[← hH2,hD];exact Heap.get?_push_size _ rfl
 -- the block's context stands
 have hcl:∀ x c,(bS X.env.cells scope.names []).lookup x=some c→X.env.cells.lookup x=some c:=fun x c e=>
  gQ (fun y hy hk=>I.ok.has y.1 (S.free y hy hk)) (fun y c z=>by simp at z) e
 have hlt:∀ (x:Str) (c:Nat),X.env.cells.lookup x=some c→c<D:=fun x c e=>by obtain⟨v,z⟩:=I.cell x c e; rw[hD]; exact z.lt
 have hcf:∀ (x:Str) (c:Nat),(cellsFrom (C+1) scope.names (bS X.env.cells scope.names [])).lookup x=some c→X.env.cells.lookup x=some c∨C<c:=fun x c e=>by
  rcases kz _ _ _ e with z | ⟨z,_⟩
  ·exact .inl (hcl x c z)
  ·exact .inr z
 have okC:(bt X N0 T scope C fp s H).Ok:=by
  refine⟨I.ok.mod,?_,I.ok.glob,I.ok.blt,?_,mG _ _ _ (fun x c e=>?_) (fun x y c e1 e2=>I.ok.inj x y c (hcl x c e1) (hcl y c e2)),fun x hx=>?_,fun x c z e=>?_,I.ok.hd,I.ok.frames,.inl rfl,fun b hb=>⟨?_,fun x c e=>?_⟩,
   I.bs,?_,fun b o e hb=>?_,fun b hb z=>?_,I.stack,I.stkFree⟩
  ·show (relabel scope X.env).kind = .function
   exact S.kind
  ·show s.heap.objs.size≤C
   omega
  ·have:=hlt x c (hcl x c e); omega
  ·have hx':(relabel scope X.env).names.lookup x=some .cell∨(relabel scope X.env).names.lookup x=some .free:=hx
   have m:(x,NameKind.free)∈scope.names∨(x,NameKind.cell)∈scope.names:=by
    rcases hx' with z | z
    ·exact dz z (.inl rfl)
    ·exact dz z (.inr rfl)
   rcases m with m | m
   ·exact jS _ _ _ (dU m)
   ·exact mQ _ _ _ m
  ·have m:(x,NameKind.cell)∈scope.names:=by
    obtain⟨y,hy,q⟩:=List.any_eq_true.mp (show tY scope x=true from z)
    rw[Bool.and_eq_true]at q
    have q1:y.1=x:=by simpa using q.1
    have q2:y.2 = .cell:=by simpa using q.2
    rw[← q1,← q2]; exact hy
   have:=mO _ _ _ m c e
   show s.heap.objs.size≤c
   omega
  ·show b≠C
   obtain⟨o,e,_⟩:=Tn.obj 0 _ st b hb
   exact neC b o e
  ·rcases hcf x c e with z | z
   ·exact(hf b hb).2.2.2.2.1 x c z
   ·obtain⟨o,e,_⟩:=Tn.obj 0 _ st b hb
    have q:@LT.lt Nat _ b s.heap.objs.size:=Heap.lt_size e
    intro ecb
    have ecb':@Eq Nat c b:=ecb
    have zz:C<c:=z
    omega
  ·exact Nat.le_trans I.ok.bsz I.sz
  ·obtain⟨_,_,_,z,_⟩:=hf b hb
   rcases z with z | z
   ·exact I.ok.noex b o e z
   ·exact absurd (Nat.lt_of_lt_of_le (Nat.lt_of_lt_of_le (Heap.lt_size e) I.ok.bsz) z) (Nat.lt_irrefl _)
  ·obtain⟨_,z1,z2,_⟩:=hf b hb
   rcases List.mem_cons.mp (I.stkSub b z) with q | q
   ·exact z1 q
   ·exact z2 q
 have I1:Inv (bt X N0 T scope C fp s H) [] (σ++List.replicate T.length none) (upd H D (.lst [])) { s with heap:=h₁ }:=by
  refine⟨okC,rfl,I.bare,Un.laid (h:=s.heap) old (by omega) hHD,⟨_,hns₁,fun i x v e1 e2 e3=>?_⟩,fun x c e=>?_,?_,fun x c e=>?_,fun p hp=>(by simp[bt]at hp),I.hok.laid old (by omega) ?_,?_⟩
  ·have e1':(N0++T)[i]? = some x:=e1
   have hl:=I.len;have hl0:=S.len0
   have hi:i<σ.length:=by
    rcases Nat.lt_or_ge i σ.length with z | z
    ·exact z
    ·rw[List.getElem?_append_right z]at e2
     rw[List.getElem?_replicate]at e2
     split at e2 <;> cases e2
   rw[List.getElem?_append_left hi]at e2
   rw[List.getElem?_append_left (by omega)]at e1'
   have hxN:x∈N0:=List.mem_of_getElem? e1'
   have e3':(relabel scope X.env).names.lookup x=some .local∨(relabel scope X.env).names.lookup x=some .cell∨(relabel scope X.env).names.lookup x=some .free:=e3
   have hnc:(x,NameKind.cell)∉scope.names:=fun m=>S.apart _ m (.inr rfl) hxN
   have fr:(relabel scope X.env).names.lookup x=some .cell∨(relabel scope X.env).names.lookup x=some .free:=by
    rcases e3' with z | z | z
    ·exact absurd hxN (S.apart (x,.local) (nB z) (.inl rfl))
    ·exact .inl z
    ·exact .inr z
   have m:(x,NameKind.free)∈scope.names:=by
    rcases fr with z | z
    ·exact(dz z (.inl rfl)).resolve_right hnc
    ·exact(dz z (.inr rfl)).resolve_right hnc
   have kX:=S.free _ m rfl;obtain⟨mm,hn,hl'⟩:=I.loc
   obtain⟨u,r,lk⟩:=hl' i x v (S.same i x _ e1' m) e2 (.inr kX)
   refine⟨u,r,.inr ⟨fr,?_⟩⟩
   rcases lk with ⟨z,_⟩ | ⟨_,c,ec,cc⟩
   ·rcases kX with q | q
    ·rw[q]at z; cases z
    ·rw[q]at z; cases z
   ·obtain⟨c',ec'⟩:=dU (cells:=X.env.cells) (acc:=[]) m
    have:=hcl x c' ec'
    rw[ec]at this; cases this
    exact⟨c,(kf _ _ _ hnc).trans ec',cc.keeps old⟩
  ·have q:=kB scope.names (P2.push { cls:=.type "dict", data:=.dict #[] }) (bS X.env.cells scope.names []) (fun x c e=>by
    obtain⟨v,z⟩:=I.cell x c (hcl x c e)
    exact⟨v,z.keeps fun b o q=>Heap.get?_push_of_some _ (hH2 ▸ Heap.get?_push_of_some _ q)⟩) x c
   rw[hsz1,← hh1]at q
   exact q e
  ·show upd H D (.lst []) C=none
   rw[am (Ne.symm hDC)]; exact hHC
  ·rcases hcf x c e with e | e
   ·have q:=I.freeC x c e
    obtain⟨v,o,z,_⟩:=I.cell x c e
    rw[am (neD c o z)]; exact q
   ·have e':C<c:=e
    have q1:c≠D:=fun q=>by have q':@Eq Nat c D:=q; omega
    rw[am q1]; exact I.hok.fresh (by omega)
  ·exact⟨Nat.zero_le _,[],0,.nil,dat⟩
  ·show (σ++List.replicate T.length none).length=(N0++T).length
   rw[List.length_append,List.length_append,List.length_replicate,I.len,S.len0]
 have st1:tn 0 h₁:=Tn.keep _ _ _ st fun b _ o e=>old b o e
 have fp1:∀ {H':Hp},(∀ b∈fp,H' b=none)→∀ b∈fp,fv (bt X N0 T scope C fp s H) [] H' b:=fun hn b hb=>
  ⟨hn b hb,(okC.exf b hb).1,okC.exfs b hb,.inl hb,(okC.exf b hb).2,fun p hp=>(by simp[bt]at hp)⟩
 have fp0:∀ b∈fp,upd H D (.lst []) b=none:=fun b hb=>by
  obtain⟨o,e,_⟩:=Tn.obj 0 _ st b hb
  rw[am (neD b o e)]; exact(hf b hb).1
 obtain⟨W,⟨m0,w0⟩,turn⟩:=h D hHD
 have loop:∀ s₃ : Shared,s₃={ s with heap:=h₁ }→
   codeAny (model X.prog X.w) X.A (.compLoop (.ListComp elt [⟨tg,iter,ifs,0⟩] scope pos) 0 (.ref it) (.ref D) (compEnvC scope (cellsFrom (C+1) scope.names (bS X.env.cells scope.names [])) C X.env)) (RR (.ref D) C) s₃:=by
  rintro s₃ rfl
  refine ef (fun n s'=>∃ i H' ys,Inv (bt X N0 T scope C fp s H) [] (σ++List.replicate T.length none) H' s'∧tn i s'.heap∧(∀ b∈fp,H' b=none)∧W i n ys H') ?_ m0 ⟨0,_,[],I1,st1,fp0,w0⟩
  rintro n s3 ⟨i,H3,ys,I3,st3,fr3,w3⟩
  rcases turn i n ys H3 w3 with ⟨stop,qn⟩ | ⟨go,step⟩
  ·refine aY (Tn.done (bt X N0 T scope C fp s H) rfl rfl rfl hc i [] s3 _ H3 (fun _ _=>False) I3 (fp1 fr3) st3 stop) fun r s4 ⟨hr,I4⟩=>?_
   subst hr;obtain⟨m,hm,_⟩:=I4.loc
   have hch:∀ b∈fp,(b∈X.ex∨X.s₀.heap.objs.size≤b)∧b≠X.env.locals∧(∀ x c,X.env.cells.lookup x=some c→c≠b)∧∀ p∈X.pn++pins,p.1≠b:=fun b hb=>
    ⟨(hf b hb).2.2.2.1,(hf b hb).2.1,(hf b hb).2.2.2.2.1,(hf b hb).2.2.2.2.2⟩
   have u4:Un (hG X.stack) fp H H3 s.heap s4.heap:=I4.base
   refine hRR D C s4 H3 m hm I4.free (Ne.symm (Nat.ne_of_lt (Nat.lt_trans (hD ▸ I.lt) hDlt))) (fun x c e=>?_) (fun p hp=>?_) (Nat.le_trans (hD ▸ I.sz) (Nat.le_of_lt hDlt)) (I.call' (ch:=fp) I4.os u4 I4.hok I4.bare hch) (fun h' hs'=>?_) qn
   ·obtain⟨v,o,q,_⟩:=I.cell x c e
    exact neC c o q
   ·exact neC _ _ (I.pin p hp).1
   ·refine I.call' (ch:=fp) (s':={ s4 with heap:=h' }) I4.os ⟨fun b o q n' hb hx=>(hs'.2 b (neC b o q)).trans (u4.keep b o q n' hb hx),fun b o q n' hb hx=>?_,u4.free,fun b o q hx=>?_,u4.tups,u4.frzs,u4.tbls⟩ (I4.hok.sameBut hs' I4.free) I4.bare hch
    ·obtain⟨sl,e⟩:=u4.slot b o q n' hb hx
     exact⟨sl,(hs'.2 b (neC b o q)).trans e⟩
    ·obtain⟨o',e⟩:=u4.there b o q hx
     exact⟨o',(hs'.2 b (neC b o q)).trans e⟩
  ·refine aY (Tn.item (bt X N0 T scope C fp s H) rfl rfl rfl hc i [] s3 _ H3 (fun _ _=>False) I3 (fp1 fr3) st3 go) fun r s4 ⟨u,hr,h4⟩=>?_
   subst hr;refine aY h4 fun _ s5 ⟨x,H5,I5,r5,y5,st5,fr5⟩=>?_
   have I5':=I5.pinned (fp1 fr5) (Tn.obj _ _ st5);refine aY (hg C fp s H _ s5 _ H5 x u _ I5' r5 (hfr _ _ _ _ (step x H5 y5))) fun _ s6 ⟨σ6,H6,I6,q6,l6,k6⟩=>?_
   have back:∀ {H7:Hp} {s7:Shared},Inv (bt X N0 T scope C fp s H) ([]++g6 fp s5.heap) σ6 H7 s7→(∀ {m':Nat} {zs:List V},m'<n→W (i+1) m' zs H7→∃ m,m<n∧∃ i H' ys,Inv (bt X N0 T scope C fp s H) [] (σ++List.replicate T.length none) H' s7∧tn i s7.heap∧(∀ b∈fp,H' b=none)∧W i m ys H'):=fun {H7 s7} I7 {m' zs} hm w7=>by
    refine⟨m',hm,i+1,H7,zs,I7.unpinned.weak (by rw[l6]) (fun j v e=>?_),Tn.keep _ _ _ st5 fun b hb o e=>(I7.pin (b,o) (List.mem_append_right _ (List.mem_append_right _ (dj hb e)))).1,fun b hb=>?_,w7⟩
    ·have hj:j<σ.length:=by
      rcases Nat.lt_or_ge j σ.length with z | z
      ·exact z
      ·rw[List.getElem?_append_right z,List.getElem?_replicate]at e
       split at e <;> cases e
     rw[k6 j (by rw[← I.len]; exact hj)]
     exact e
    ·obtain⟨o,e,d⟩:=Tn.obj _ _ st5 b hb
     exact(I7.pin (b,o) (List.mem_append_right _ (List.mem_append_right _ (dj hb e)))).2.1
   refine aY (hi C fp s H _ s6 σ6 H6 _ I6 q6) fun b s7 ⟨H7,I7,q7⟩=>?_
   cases b with
   | false=>
    obtain⟨m',hm,w7⟩:=(show ∃ m',m'<n∧W (i+1) m' ys H7 from by simpa using q7)
    exact back I7 hm w7
   | true=>
    rw[if_pos rfl]at q7
    refine aY (he C fp s H _ s7 σ6 H7 _ I7 q7) fun v s8 ⟨y,H8,I8,r8,hD8,hz,m',hm,w8⟩=>?_
    refine aY (iL (X:=bt X N0 T scope C fp s H) _ s8 σ6 H8 (.ref D) [y] (.ref D) [v] (fun _ H9=>H9=upd H8 D (.lst (ys++[y]))) I8 rfl (.cons r8 .nil) ⟨D,ys,y,rfl,rfl,hD8,hz,rfl⟩) fun v9 s9 ⟨y9,H9,I9,_,e9⟩=>?_
    subst e9;exact back I9 hm w8
 exact codeAny_compStart_list (loop _ rfl) (Tn.self X.A 0 _ _ _ st1 (loop _ rfl))
theorem m7{i:Nat}{x:Str}{pos' spos:Pos}(S:iF X N0 T scope)(hc:X.calm=true)(hN:X.N.Nodup)(hi':X.N[i]? = some x)(hx:X.env.scope.names.lookup x=some .local)(hI:PI X tg iter wi)
  (hg:∀ C fp s H,PG (bt X N0 T scope C fp s H) tg g) (hfr:kQ g X.N.length) (hi:∀ C fp s H,PIfs (bt X N0 T scope C fp s H) ifs tc) (he:∀ C fp s H,PE (bt X N0 T scope C fp s H) elt te)
  (hsw:swapsWith (.ListComp elt [⟨tg,iter,ifs,0⟩] scope pos) (some (.Name x pos')) spos.line X.env=pure true:=by rfl)
  (hs:∀ x,foldedSetIterable iter X.env x=pure x:=by intro _; rfl):PS X (.Assign [.Name x pos'] (.ListComp elt [⟨tg,iter,ifs,0⟩] scope pos) spos) (kj (lD wi g tc te T.length) (fI i)):=by
 intro pins s σ H D I h
 rw[exec_Assign_Name_used _ _ _ _ hsw];refine wpAny_bind (wpAny_standAt (wpAny_bind ?_))
 show wpAny _ X.A (do let _ ← comprehension (.ListComp elt [⟨tg,iter,ifs,0⟩] scope pos) scope X.env _ (newList []) false (eval iter X.env) (some (assign (.Name x pos') X.env))) _ _ s
 refine wpAny_bind (wpAny_mono (wpAny_comprehension_free (use:=some (assign (.Name x pos') X.env)) (Q:=fun _ s'=>SP X pins D .next s') rfl hs (fB fun x hx hk=>I.ok.has x.1 (S.free x hx hk)) S.kind S.names
  (aY (hI pins s σ H _ I h) fun v s1 h1=>aY h1 fun itv s2 h2=>?_)) (fun _ s' hq=>wpAny_pure (wpAny_pure hq)) fun _ _ e=>e)
 obtain⟨it,fp,tn,J,H2,e,I2,Tn,st2,f2,q2⟩:=h2
 subst e;refine pT (RR:=fun acc C=>compPost (model X.prog X.w) X.A X.xe (some (assign (.Name x pos') X.env)) (fun _ s'=>SP X pins D .next s') acc C) S hc hg hfr hi he I2 Tn st2 f2 q2 ?_
 intro L C s' H' m hn hC hL hcells hpins hfresh I' hI' q
 show wpAny _ X.A (assign (.Name x pos') X.env (.ref L)) _ _ _
 refine wpAny_assign_Name (iV (v:=.ref L) I' hN hi' (.inl hx) rfl (fun s'' I'' ⟨a,hsa,ha⟩=>?_) (.inr hx))
 have hCa:C≠a:=by
  rintro rfl
  rcases ha with z | z
  ·exact hL z
  ·exact hcells x C z rfl
 refine⟨m,hn.sameBut hsa hCa,fun h' hs'=>?_⟩
 exact⟨σ.set i (some (.ref L)),H',I''.turned (t':=s''.toks) (fun b o hb e=>(hs'.2 b hb).trans e) hC hL (.inr hfresh) hcells hpins,q⟩
end
structure CompScO (fsc:Scope) (N N0 T:List Str) (scope:Scope):Prop where
 kind:scope.kind = .function
 names:∀ y∈scope.names,y.2 = .local→scope.names.lookup y.1=some .local
 free:∀ y∈scope.names,y.2 = .free→fsc.names.lookup y.1=some .cell∨fsc.names.lookup y.1=some .free
 apart:∀ y∈scope.names,y.2 = .local∨y.2 = .cell→y.1∉N0
 len0:N0.length=N.length
 same:((N0.zip N).all fun p=>p.1 == p.2 || !(scope.names.any fun y=>y.1 == p.1))=true
theorem CompScO.to{X:Cx}{fsc:Scope}{N N0 T:List Str}{scope:Scope}(S:CompScO fsc N N0 T scope)(h1:X.env.scope=fsc)(h2:X.N=N):iF X N0 T scope:=by
 subst h1 h2;refine⟨S.kind,S.names,S.free,S.apart,S.len0,fun i x k e m=>?_⟩
 have hl:=S.len0;have hi:i<N0.length:=(List.getElem?_eq_some_iff.mp e).1
 have hN:X.N[i]? = some X.N[i]:=List.getElem?_eq_getElem (by omega)
 have hz:(x,X.N[i])∈N0.zip X.N:=List.mem_of_getElem? (i:=i) (by rw[List.getElem?_zip_eq_some]; exact⟨e,hN⟩)
 have q:=List.all_eq_true.mp S.same _ hz;simp only[Bool.or_eq_true,beq_iff_eq,Bool.not_eq_true']at q
 rcases q with q | q
 ·rw[hN,← q]
 ·have:(scope.names.any fun y=>y.1 == x)=true:=List.any_eq_true.mpr ⟨_,m,by simp⟩
  rw[this]at q; cases q
section
variable{X:Cx}{N0 T:List Str}{scope:Scope}{C:Addr}{fp:List Addr}{s:Shared}{H:Hp}{x:Str}
theorem v6(fsc:Scope)(h:(bo scope fsc).names.lookup x=some .globalImplicit)(e:X.env.scope=fsc:=by rfl):Gl (bt X N0 T scope C fp s H) x:=by subst e; exact h
theorem xZ(fsc:Scope)(h:((bo scope fsc).names.lookup x=some .local||(bo scope fsc).names.lookup x=some .cell||(bo scope fsc).names.lookup x=some .free)=true)(e:X.env.scope=fsc:=by rfl):az (bt X N0 T scope C fp s H).env.scope x:=by
 subst e;simp only[Bool.or_eq_true,decide_eq_true_eq]at h
 rcases h with (h | h) | h
 ·exact .inl h
 ·exact .inr (.inl h)
 ·exact .inr (.inr h)
theorem yd(fsc:Scope)(h:((bo scope fsc).names.lookup x=some .local||(bo scope fsc).names.lookup x=some .cell)=true)(e:X.env.scope=fsc:=by rfl):aT (bt X N0 T scope C fp s H).env.scope x:=by
 subst e;simp only[Bool.or_eq_true,decide_eq_true_eq]at h
 rcases h with h | h
 ·exact .inl h
 ·exact .inr h
theorem z7(fsc:Scope)(h:(tY scope x||(bo scope fsc).names.lookup x=some .local)=true)(e:X.env.scope=fsc:=by rfl):(bt X N0 T scope C fp s H).fn x=true∨(bt X N0 T scope C fp s H).env.scope.names.lookup x=some .local:=by
 subst e;simp only[Bool.or_eq_true,decide_eq_true_eq]at h
 rcases h with h | h
 ·exact .inl h
 ·exact .inr h
end
theorem oY(P:Program)(w:World)(tk tv:TE){σ : St}{H:Hp}{Q:VK}:kd P w tk tv σ H Q=∀ p,H p=none→∀ u,DO P w (upd H p u) p []→tk σ (upd H p u) fun y H1=>tv σ H1 fun z H2=>∃ b k,y = .ref b∧KeyO H2 k b∧DO P w H2 p []∧∀ u',DO P w (upd H2 p u') p [(k,z)]→Q (.ref p) (upd H2 p u'):=rfl
end L2
namespace L2
open PySem PySem.Spec PyProof.Rows
section
variable{X:Cx}
end
end L2
namespace L2
open PySem PySem.Spec PyProof PyProof.Rows
section
variable{prog:Program}{w:World}{A:Around}{E:Value→Shared→Prop}{s:Shared}{d:Addr}{es:Array DictEntry}{ep:Nat}
end
section
variable{X:Cx}
end
end L2
section
open PySem PySem.Spec PyProof.Rows L2
seal L2.PE L2.PT L2.PW L2.PA L2.PS L2.PSs L2.PG L2.PGs L2.PSet L2.PI L2.PIfs L2.OpR L2.UnR L2.CallR L2.IxR L2.MtR L2.SlR L2.PO L2.PPs
local macro_rules | `(tactic| walk_at "rd1")=>`(tactic| try simp only [gm,eV,cZ,cN,eY,gk,gw,eW,fU,eX,fP,fc,fT,fY,fQ,jb,g_,eU,jg,f_,gX,gC,gZ,g0,eh,fV,fO,fR,eQ,ia,gg,hV,eN,dh,eE,gy,e_,fS,eC,fg,fb,eI,fZ,dE,g7,i5,dR,dQ,dH,dS,dJ,fW,eL,eB,fe,dg,dP,eR,gq,gA,gf,dL,dk,fj,eZ,fh,eA,cM,cO,dF,dI,eT,eF,eP,cY,gz,ga,eG,eK,dD,fX,gj,gx,gh,L2.start,List.map_cons,List.map_nil,List.length_cons,List.length_nil,List.replicate,List.cons_append,List.nil_append,List.append_nil,List.getElem?_cons_zero,List.getElem?_cons_succ,List.set_cons_zero,List.set_cons_succ,Nat.reduceAdd,Nat.reduceSub,Option.some.injEq,exists_eq_left',exists_eq_left,V.int.injEq,V.ref.injEq,V.str.injEq,V.bl.injEq,g8,hX,gi,and_true,true_and,decide_eq_true_eq,Bool.not_true,Bool.not_false,if_true,Bool.false_eq_true,if_false,ite_true,ite_false])
local macro_rules | `(tactic| walk_at "nx")=>`(tactic| ((first | rw [eJ] | (dsimp only; rw [eJ])); walk_at "rd1"))
local macro_rules | `(tactic| walk_at "lk")=>`(tactic| repeat (first | exact lk_hit | exact v3 | rw [lk_miss (by decide +kernel)]))
local macro_rules | `(tactic| walk_at "pf")=>`(tactic| repeat (first | rw [putF_hit] | rw [sE] | rw [putF_miss (by decide +kernel)]))
namespace K12
open PySem L2
abbrev bF:Stmt:=top 1
theorem oN:bf ["numbers", "ways"] ["numbers", "ways"] (defScope bF):=mKk
abbrev gLk (s : Stmt) (n : Str) : Prop:=(defScope s).names.lookup n=some .globalImplicit
theorem oIn {a b : Prop} (h : a) : a ∨ b:=.inl h
abbrev aH:Stmt:=top 2
theorem sc_finer_kinds:bf ["rooms", "kinds", "seen", "finer", "at", "room", "mark"] ["rooms", "kinds"] (defScope aH):=mKk
theorem Bi:gLk aH "enumerate":=by decide +kernel
abbrev aU:Stmt:=top 3
theorem sc_kinds_upto:bf ["rooms", "most", "kinds", "finer"] ["rooms", "most"] (defScope aU):=mKk
theorem AB:(defScope aU).names.lookup ("kinds" : Str)=some .local:=by decide +kernel
abbrev aQ:Stmt:=top 4
theorem sc_merged_rooms:bf ["rooms", "kinds", "merged", "at", "room"] ["rooms", "kinds"] (defScope aQ):=mKk
theorem A5:gLk aQ "enumerate":=by decide +kernel
abbrev aN:Stmt:=top 5
theorem sc_rooms_led_to:bf ["rooms", "order", "met", "at", "room", "way"] ["rooms"] (defScope aN):=mKk
abbrev aw:Stmt:=top 6
theorem sc_numbered_rooms:bf ["rooms", "order", "numbers", "number", "room"] ["rooms"] (defScope aw):=mKk
theorem Bj:az (defScope aw) "rooms" := Or.inr (Or.inl (by decide +kernel))
theorem Bm:az (defScope aw) "numbers" := Or.inr (Or.inl (by decide +kernel))
theorem Aq:aT (defScope aw) "numbers" := Or.inr (by decide +kernel)
theorem Aj:gLk aw "enumerate":=by decide +kernel
abbrev aI:Stmt:=top 7
theorem ji:bf ["rooms", "place"] ["rooms", "place"] (defScope aI):=mKk
theorem BG:gLk aI "enumerate":=by decide +kernel
abbrev bV:Stmt:=top 8
theorem qm:bf ["things", "places"] ["things", "places"] (defScope bV):=mKk
abbrev ao:Stmt:=top 9
theorem sc_least_upto:bf ["rule", "most", "kinds", "words", "rooms", "places"] ["rule", "most"] (defScope ao):=mKk
theorem AX:az (defScope ao) "rooms" := Or.inr (Or.inl (by decide +kernel))
theorem Bq:aT (defScope ao) "rooms" := Or.inr (by decide +kernel)
theorem Av:az (defScope ao) "places" := Or.inr (Or.inl (by decide +kernel))
theorem By:aT (defScope ao) "places" := Or.inr (by decide +kernel)
theorem Bx:gLk ao "range":=by decide +kernel
abbrev bH:Stmt:=top 10
theorem ll:bf ["rule"] ["rule"] (defScope bH):=mKk
abbrev bC:Stmt:=top 12
theorem kA:bf ["_law_script", "_law_k"] ["_law_script", "_law_k"] (defScope bC):=mKk
abbrev bj:Stmt:=top 13
theorem sc_law_mixed:bf ["_law_cell", "_law_many", "_law_number", "_law_found", "_law_k"] ["_law_cell", "_law_many"] (defScope bj):=mKk
theorem Ah:gLk bj "range":=by decide +kernel
abbrev aD:Stmt:=top 14
theorem sc_law_words:bf ["_law_cell", "_law_many", "_law_sides", "_law_letters", "_law_xs", "_law_size", "_law_at", "_law_words_here", "_law_k", "_law_word", "_law_j"] ["_law_cell", "_law_many", "_law_sides"] (defScope aD):=mKk
theorem yF:gLk aD "range":=by decide +kernel
abbrev b9:Stmt:=top 15
theorem pG:bf ["_law_number", "_law_share", "_law_many"] ["_law_number", "_law_share", "_law_many"] (defScope b9):=mKk
abbrev av:Stmt:=top 16
theorem sc_law_rule:bf ["_law_script", "_law_first", "_law_many", "_law_cell", "_law_size", "_law_share", "_law_xs", "_law_k", "_law_rooms", "_law_r"] ["_law_script"] (defScope av):=mKk
theorem kq:az (defScope av) "_law_many" := Or.inr (Or.inl (by decide +kernel))
theorem BF:aT (defScope av) "_law_many" := Or.inr (by decide +kernel)
theorem mF:az (defScope av) "_law_size" := Or.inr (Or.inl (by decide +kernel))
theorem wc:aT (defScope av) "_law_size" := Or.inr (by decide +kernel)
theorem zg:aT (defScope av) "_law_share" := Or.inr (by decide +kernel)
theorem t8:az (defScope av) "_law_xs" := Or.inr (Or.inl (by decide +kernel))
theorem zu:aT (defScope av) "_law_xs" := Or.inr (by decide +kernel)
theorem lI:az (defScope av) "_law_r" := Or.inr (Or.inl (by decide +kernel))
theorem zZ:aT (defScope av) "_law_r" := Or.inr (by decide +kernel)
theorem ww:gLk av "range":=by decide +kernel
abbrev aS:Stmt:=top 17
theorem sc_law_strange:bf ["_law_words_here", "_law_sides", "_law_many", "_law_found", "_law_size", "_law_word"] ["_law_words_here", "_law_sides", "_law_many"] (defScope aS):=mKk
theorem z8:gLk aS "range":=by decide +kernel
abbrev aR:Stmt:=top 18
theorem sc_law_stand:bf ["_law_size", "_law_xs", "_law_stand_here", "_law_x", "_law_k", "_law_at", "_law_mine"] ["_law_size", "_law_xs"] (defScope aR):=mKk
theorem wg:gLk aR "range":=by decide +kernel
abbrev aj:Stmt:=top 19
theorem sc_law_dressed:bf ["_law_rule_here", "_law_cell", "_law_size", "_law_xs", "_law_stand_here", "_law_places", "_law_strange_here", "_law_words_here", "_law_rooms", "_law_k", "_law_room", "_law_j", "_law_to_here"] ["_law_rule_here", "_law_cell"] (defScope aj):=mKk
theorem vY:az (defScope aj) "_law_stand_here" := Or.inr (Or.inl (by decide +kernel))
theorem yG:aT (defScope aj) "_law_stand_here" := Or.inr (by decide +kernel)
theorem Bs:(defScope aj).names.lookup ("_law_places" : Str)=some .local:=by decide +kernel
theorem sv:gLk aj "range":=by decide +kernel
abbrev aJ:Stmt:=top 20
theorem sc_law_spoiled:bf ["_law_rule_here", "_law_cell", "_law_rooms", "_law_room", "_law_at"] ["_law_rule_here", "_law_cell"] (defScope aJ):=mKk
theorem Bp:(defScope aJ).names.lookup ("_law_rooms" : Str)=some .local:=by decide +kernel
abbrev cq:Stmt:=top 21
theorem qz:bf ["_law_rule_here", "_law_room", "_law_word"] ["_law_rule_here", "_law_room", "_law_word"] (defScope cq):=mKk
abbrev aP:Stmt:=top 22
theorem sc_law_like:bf ["_law_one", "_law_other", "_law_words_here", "_law_known", "_law_todo", "_law_here", "_law_there", "_law_word", "_law_pair"] ["_law_one", "_law_other"] (defScope aP):=mKk
abbrev bA:Stmt:=top 23
theorem nc:bf ["_law_rule_here"] ["_law_rule_here"] (defScope bA):=mKk
abbrev bm:Stmt:=top 24
theorem sc_law:bf ["_law_script", "_law_rule_here", "_law_dressed_here", "_law_spoiled_here", "_law_handed", "_law_one", "_law_other", "_law_third"] ["_law_script"] (defScope bm):=mKk
abbrev letters:Str := "abcdefghijklmnopqrstuvwxyz"
def ly(K:PySem.W.Frag):Sp:=fun vs H Q _=>∃ (a:Addr) (ns:List Int),vs=[.ref a]∧SqL K H a (ns.map V.int)∧ns.length≤63∧∀ H',Q (.bl true) H'
def lW(K:PySem.W.Frag):Sp:=fun vs H Q _=>∃ (a:Addr) (ns:List Int) (k:Int),vs=[.ref a,.int k]∧SqL K H a (ns.map V.int)∧0≤k∧Q (.int (ns.getD k.toNat 0)) H
def jc:Sp:=fun vs H Q _=>∃ (c n:Int),vs=[.int c,.int n]∧0≤n∧n≤100000∧∀ (p:Addr) (H':Hp) (ms:List Int),Same H H'→H p=none→H' p=some (.lst (ms.map V.int))→(ms.length:Int)=n→(∀ m∈ms,0≤m∧m<2147483647)→Q (.ref p) H'
def aG:Option Nat→V
 | none=>.non
 | some n=>.int n
def ur:Sp:=fun vs H Q _=>∃ (m s n:Int),vs=[.int m,.int s,.int n]∧0<s∧s<1073741824∧0<n∧n<1073741824∧∀ o:Option Nat,(∀ k,o=some k→(k:Int)<n)→Q (aG o) H
theorem sq(x:Str)(c:Nat):(x++(⟨#[c]⟩ : Str)).length=x.length+1:=by rw[Str.length_append]; rfl
section
variable{P:Program}{w:World}{K:PySem.W.Frag}{mg:Str→Option Value}{base:Heap}
theorem vh(D:DefAt K mg "_law_cell_at" bC) (z_len:mg "len" = none):bv P w K mg base 1 "_law_cell_at" ["_law_script", "_law_k"] (lW K):=by
 refine D.cal kA (fun _ _ _ _ _ _ us hl=>match us,hl with | [_,_],_=>rfl) (fun vs H Q E h=>by obtain⟨a,ns,k,rfl,_⟩:=h; rfl) (fun f cdv A outer s H vs Q E hr h=>?_)
 obtain⟨a,ns,k,rfl,hS,h0,q⟩:=h
 refine⟨_,(ab (bZ (aZ lL (pv 1) (bq (br K) z_len bR (aa (pv 0) ac)) (bd _)) (ap (bg (aB (aM K) (pv 0) (pv 1) (fun _ _=>rfl)))) bD)
   (ap (bg ah))),?_⟩
 try simp only[eJ,gm,eV,cZ,cN,eY,gk,gw,eW,fU,eX,fP,fc,fT,fY,fQ,jb,g_,eU,jg,f_,gX,gC,gZ,g0,eh,fV,fO,fR,eQ,ia,gg,hV,eN,dh,eE,gy,e_,fS,eC,fg,fb,eI,fZ,dE,g7,i5,dR,dQ,dH,dS,dJ,fW,eL,eB,fe,dg,dP,eR,gq,gA,gf,dL,dk,fj,eZ,fh,eA,cM,cO,dF,dI,eT,eF,eP,cY,gz,ga,eG,eK,dD,fX,gj,gx,gh,L2.start,List.map_cons,List.map_nil,List.length_cons,List.length_nil,List.replicate,List.cons_append,List.nil_append,List.append_nil,List.getElem?_cons_zero,List.getElem?_cons_succ,List.set_cons_zero,List.set_cons_succ,Nat.reduceAdd,Nat.reduceSub,Option.some.injEq,exists_eq_left',exists_eq_left,V.int.injEq,V.ref.injEq,V.str.injEq,V.bl.injEq,g8,hX,gi,and_true,true_and,decide_eq_true_eq,Bool.not_true,Bool.not_false,if_true,Bool.false_eq_true,if_false,ite_true,ite_false]
 refine⟨_,.inl hS,bp (fun c=>?_) (fun c=>?_)⟩
 ·rw[List.length_map]at c
  refine⟨_,.int (ns.getD k.toNat 0),.inl hS,qe h0 ?_,q⟩
  rw[List.getD_eq_getElem?_getD,List.getElem?_eq_getElem (by omega)]; rfl
 ·rw[List.length_map]at c
  have e:ns.getD k.toNat 0=0:=by
   rw[List.getD_eq_getElem?_getD,List.getElem?_eq_none (by omega)]; rfl
  rw[e]at q; exact q
theorem rY(D:DefAt K mg "_law_mixed" bj) (z_range:mg "range" = none):bv P w K mg base 1 "_law_mixed" ["_law_cell", "_law_many"] jc:=by
 refine D.cal sc_law_mixed (fun _ _ _ _ _ _ us hl=>match us,hl with | [_,_],_=>rfl) (fun vs H Q E h=>by obtain⟨c,n,rfl,_⟩:=h; rfl) (fun f cdv A outer s H vs Q E hr h=>?_)
 obtain⟨c,n,rfl,h0,h1,q⟩:=h
 refine⟨_,(ab (ax 2 sc_law_mixed.nd (aq a_ ah (aq bh (pv 0) ah)))
   (ab (ax 3 sc_law_mixed.nd (cj ac))
   (ab (b_ PassesOwn.never rfl (bP Ah z_range (aa (pv 1) ac)) (bb 4 sc_law_mixed.nd) (ab (ax 2 sc_law_mixed.nd (aq bh (aq df (pv 2) ah) ah))
   (ap (cC (ci K PySem.F.plainAttrs_list PySem.F.slot_list_append PySem.F.type_list_append bN (pv 3) (aa (pv 2) ac))))))
   (ap (bg (pv 3)))))),?_⟩
 try simp only[eJ,gm,eV,cZ,cN,eY,gk,gw,eW,fU,eX,fP,fc,fT,fY,fQ,jb,g_,eU,jg,f_,gX,gC,gZ,g0,eh,fV,fO,fR,eQ,ia,gg,hV,eN,dh,eE,gy,e_,fS,eC,fg,fb,eI,fZ,dE,g7,i5,dR,dQ,dH,dS,dJ,fW,eL,eB,fe,dg,dP,eR,gq,gA,gf,dL,dk,fj,eZ,fh,eA,cM,cO,dF,dI,eT,eF,eP,cY,gz,ga,eG,eK,dD,fX,gj,gx,gh,L2.start,List.map_cons,List.map_nil,List.length_cons,List.length_nil,List.replicate,List.cons_append,List.nil_append,List.append_nil,List.getElem?_cons_zero,List.getElem?_cons_succ,List.set_cons_zero,List.set_cons_succ,Nat.reduceAdd,Nat.reduceSub,Option.some.injEq,exists_eq_left',exists_eq_left,V.int.injEq,V.ref.injEq,V.str.injEq,V.bl.injEq,g8,hX,gi,and_true,true_and,decide_eq_true_eq,Bool.not_true,Bool.not_false,if_true,Bool.false_eq_true,if_false,ite_true,ite_false]
 refine⟨by decide,by decide,fun p hp=>⟨by omega,by omega,?_⟩⟩
 refine b8 (fun i σ H'=>∃ (m:Int) (ms:List Int) (o:Option V),σ=[some (.int c),some (.int n),some (.int m),some (.ref p),o]∧Same H H'∧H' p=some (.lst (ms.map V.int))∧ms.length=i∧(∀ x∈ms,0≤x∧x<2147483647)∧0≤m∧m<2147483648)
  ⟨_,[],none,rfl,au hp _,ai,rfl,(by simp),by omega,by omega⟩ ?_ ?_
 ·rintro i σ H' hi ⟨m,ms,o,rfl,sm,hl,hn,hb,m0,m1⟩
  try simp only[eJ,gm,eV,cZ,cN,eY,gk,gw,eW,fU,eX,fP,fc,fT,fY,fQ,jb,g_,eU,jg,f_,gX,gC,gZ,g0,eh,fV,fO,fR,eQ,ia,gg,hV,eN,dh,eE,gy,e_,fS,eC,fg,fb,eI,fZ,dE,g7,i5,dR,dQ,dH,dS,dJ,fW,eL,eB,fe,dg,dP,eR,gq,gA,gf,dL,dk,fj,eZ,fh,eA,cM,cO,dF,dI,eT,eF,eP,cY,gz,ga,eG,eK,dD,fX,gj,gx,gh,L2.start,List.map_cons,List.map_nil,List.length_cons,List.length_nil,List.replicate,List.cons_append,List.nil_append,List.append_nil,List.getElem?_cons_zero,List.getElem?_cons_succ,List.set_cons_zero,List.set_cons_succ,Nat.reduceAdd,Nat.reduceSub,Option.some.injEq,exists_eq_left',exists_eq_left,V.int.injEq,V.ref.injEq,V.str.injEq,V.bl.injEq,g8,hX,gi,and_true,true_and,decide_eq_true_eq,Bool.not_true,Bool.not_false,if_true,Bool.false_eq_true,if_false,ite_true,ite_false]
  refine⟨.inl ⟨by omega,by omega⟩,by decide,⟨_,SqL.of hl⟩,_,hl,by rw[List.length_map]; exact b6 (by omega),?_⟩
  refine⟨_,ms++[m * 16807 % 2147483647],_,rfl,fun b o' e=>?_,?_,by simp[hn],fun x hx=>?_,by omega,by omega⟩
  ·rw[am (aV e hp)]; exact sm b o' e
  ·rw[ai,List.map_append]; rfl
  ·rcases List.mem_append.mp hx with z | z
   ·exact hb x z
   ·rw[List.mem_singleton.mp z]; omega
 ·rintro σ H' ⟨m,ms,o,rfl,sm,hl,hn,hb,m0,m1⟩
  try simp only[eJ,gm,eV,cZ,cN,eY,gk,gw,eW,fU,eX,fP,fc,fT,fY,fQ,jb,g_,eU,jg,f_,gX,gC,gZ,g0,eh,fV,fO,fR,eQ,ia,gg,hV,eN,dh,eE,gy,e_,fS,eC,fg,fb,eI,fZ,dE,g7,i5,dR,dQ,dH,dS,dJ,fW,eL,eB,fe,dg,dP,eR,gq,gA,gf,dL,dk,fj,eZ,fh,eA,cM,cO,dF,dI,eT,eF,eP,cY,gz,ga,eG,eK,dD,fX,gj,gx,gh,L2.start,List.map_cons,List.map_nil,List.length_cons,List.length_nil,List.replicate,List.cons_append,List.nil_append,List.append_nil,List.getElem?_cons_zero,List.getElem?_cons_succ,List.set_cons_zero,List.set_cons_succ,Nat.reduceAdd,Nat.reduceSub,Option.some.injEq,exists_eq_left',exists_eq_left,V.int.injEq,V.ref.injEq,V.str.injEq,V.bl.injEq,g8,hX,gi,and_true,true_and,decide_eq_true_eq,Bool.not_true,Bool.not_false,if_true,Bool.false_eq_true,if_false,ite_true,ite_false]
  exact q p H' ms sm hp hl (by omega) hb
theorem xa(D:DefAt K mg "_law_way" b9):bv P w K mg base 1 "_law_way" ["_law_number", "_law_share", "_law_many"] ur:=by
 refine D.cal pG (fun _ _ _ _ _ _ us hl=>match us,hl with | [_,_,_],_=>rfl) (fun vs H Q E h=>by obtain⟨m,s,n,rfl,_⟩:=h; rfl) (fun f cdv A outer s H vs Q E hr h=>?_)
 obtain⟨m,s,n,rfl,s0,s1,n0,n1,q⟩:=h
 refine⟨_,(ab (bZ (aZ d9 (aq bh (pv 0) (pv 1)) ah (bd _)) (ap (bg cE)) bD)
   (ap (bg (aq bh (aq bO (pv 0) (pv 1)) (pv 2))))),?_⟩
 try simp only[eJ,gm,eV,cZ,cN,eY,gk,gw,eW,fU,eX,fP,fc,fT,fY,fQ,jb,g_,eU,jg,f_,gX,gC,gZ,g0,eh,fV,fO,fR,eQ,ia,gg,hV,eN,dh,eE,gy,e_,fS,eC,fg,fb,eI,fZ,dE,g7,i5,dR,dQ,dH,dS,dJ,fW,eL,eB,fe,dg,dP,eR,gq,gA,gf,dL,dk,fj,eZ,fh,eA,cM,cO,dF,dI,eT,eF,eP,cY,gz,ga,eG,eK,dD,fX,gj,gx,gh,L2.start,List.map_cons,List.map_nil,List.length_cons,List.length_nil,List.replicate,List.cons_append,List.nil_append,List.append_nil,List.getElem?_cons_zero,List.getElem?_cons_succ,List.set_cons_zero,List.set_cons_succ,Nat.reduceAdd,Nat.reduceSub,Option.some.injEq,exists_eq_left',exists_eq_left,V.int.injEq,V.ref.injEq,V.str.injEq,V.bl.injEq,g8,hX,gi,and_true,true_and,decide_eq_true_eq,Bool.not_true,Bool.not_false,if_true,Bool.false_eq_true,if_false,ite_true,ite_false]
 refine⟨s0,bp (fun c=>?_) (fun c=>?_)⟩
 ·exact q none (fun k e=>by cases e)
 ·refine⟨⟨s0,s1⟩,n0,?_⟩
  have a1:=Int.emod_nonneg (m / s) (show n≠0 by omega)
  have a2:=Int.emod_lt_of_pos (m / s) n0;have q':=q (some (m / s % n).toNat) (fun k e=>by cases e; omega)
  have e:V.int (m / s % n)=aG (some (m / s % n).toNat):=by
   show _=V.int (((m / s % n).toNat:Nat):Int)
   rw[show (((m / s % n).toNat:Nat):Int)=m / s % n by omega]
  rw[e]; exact q'
end
set_option genInjectivity false in
set_option genSizeOf false in
structure Rl where
 s:Int
 ws:List Str
 rs:List (List (Option Nat))
structure bI (r:Rl):Prop where
 s:r.s=1∨r.s=2
 nw:r.ws.length≤16
 n0:1≤r.rs.length
 n1:r.rs.length≤60
 row:∀ x∈r.rs,x.length=r.ws.length∧∀ k,some k∈x→k<r.rs.length
 lw:∀ w∈r.ws,w.length≤10
def RoomsAs(H:Hp)(p:Addr)(rs:List (List (Option Nat)))(as:List Addr):Prop:=
 H p=some (.lst (as.map V.ref))∧as.length=rs.length∧∀ (i:Nat) a x,as[i]? = some a→rs[i]? = some x→H a=some (.lst (x.map aG))
def RuleAt(H:Hp)(p:Addr)(r:Rl):Prop:=∃ pw pr as,H p=some (.tup [.int r.s,.ref pw,.ref pr])∧H pw=some (.lst (r.ws.map V.str))∧RoomsAs H pr r.rs as
theorem RoomsAs.mono{H H':Hp}{p:Addr}{rs:List (List (Option Nat))}{as:List Addr}(sm:Same H H')(h:RoomsAs H p rs as):RoomsAs H' p rs as:=by
 obtain⟨h1,h2,h3⟩:=h
 exact⟨sm _ _ h1,h2,fun i a x e1 e2=>sm _ _ (h3 i a x e1 e2)⟩
theorem RuleAt.mono{H H':Hp}{p:Addr}{r:Rl}(sm:Same H H')(h:RuleAt H p r):RuleAt H' p r:=by
 obtain⟨pw,pr,as,h1,h2,h3⟩:=h
 exact⟨pw,pr,as,sm _ _ h1,sm _ _ h2,h3.mono sm⟩
theorem iS(ss:List Str):(ss.map V.str).all bn=true:=by
 rw[List.all_eq_true]; intro x hx; obtain⟨s,_,rfl⟩:=List.mem_map.mp hx; rfl
theorem ki(y:Str)(ss:List Str):jj (.str y) (ss.map V.str)=decide (y∈ss):=by
 rw[Bool.eq_iff_iff];unfold jj;rw[List.any_eq_true,decide_eq_true_eq]
 constructor
 ·rintro⟨x,hx,e⟩
  obtain⟨s,hs,rfl⟩:=List.mem_map.mp hx
  have e':(s == y)=true:=e
  rw[← eq_of_beq e']; exact hs
 ·intro h
  exact⟨.str y,List.mem_map.mpr ⟨y,h,rfl⟩,by show (y == y)=true; simp⟩
theorem qd(x:List (Option Nat)):∀ v∈x.map aG,bn v=true:=by
 intro v hv
 obtain⟨o,_,rfl⟩:=List.mem_map.mp hv
 cases o <;> rfl
theorem ql(x:List Str):∀ v∈x.map V.str,bn v=true:=by
 intro v hv
 obtain⟨o,_,rfl⟩:=List.mem_map.mp hv
 rfl
theorem sC{K:PySem.W.Frag}{H:Hp}{p q:Addr}{rs:List (List (Option Nat))}{as bs:List Addr}(h1:RoomsAs H p rs as)(h2:RoomsAs H q rs bs):EqN K H 2 (.ref p) (.ref q) true:=by
 obtain⟨a1,a2,a3⟩:=h1
 obtain⟨b1,b2,b3⟩:=h2
 refine EqN.seq (.inl ⟨SqL.of a1,SqL.of b1⟩) (by simp; omega) fun i x y e1 e2=>?_
 rw[List.getElem?_map]at e1 e2
 cases qa:as[i]? with
 | none=>rw[qa]at e1; cases e1
 | some a=>
  cases qb:bs[i]? with
  | none=>rw[qb]at e2; cases e2
  | some b=>
   rw[qa]at e1; rw[qb]at e2
   cases e1; cases e2
   have hi:i<rs.length:=by have:=(List.getElem?_eq_some_iff.mp qa).1; omega
   exact EqN.seqFlat (.inl ⟨SqL.of (a3 i a _ qa (List.getElem?_eq_getElem hi)),SqL.of (b3 i b _ qb (List.getElem?_eq_getElem hi))⟩) (qd _)
theorem g5{K:PySem.W.Frag}{H:Hp}{p q:Addr}{r:Rl}(h1:RuleAt H p r)(h2:RuleAt H q r):EqN K H 3 (.ref p) (.ref q) true:=by
 obtain⟨pw,pr,as,a1,a2,a3⟩:=h1
 obtain⟨qw,qr,bs,b1,b2,b3⟩:=h2
 refine EqN.seq (.inr ⟨SqT.of a1,SqT.of b1⟩) rfl fun i x y e1 e2=>?_
 match i,e1,e2 with
 | 0,e1,e2=>cases e1; cases e2; exact EqN.refl rfl
 | 1,e1,e2=>cases e1; cases e2; exact EqN.seqFlat (.inl ⟨SqL.of a2,SqL.of b2⟩) (ql _)
 | 2,e1,e2=>cases e1; cases e2; exact sC a3 b3
 | i+3,e1,e2=>simp at e1
theorem j0{K:PySem.W.Frag}{pr L:Addr}{g:TG}{te:TE}{nT:Nat}{σ : L2.St}{Q:VK}{H:Hp}{rs:List (List (Option Nat))}{as:List Addr}(hR:RoomsAs H pr rs as)(hn:rs.length≤60)(hL:H L=none)
  (hs:∀ (a:Addr) (xs:List V) (H':Hp) (C:VK),H' a=some (.lst xs)→(∀ l,H' l=none→C (.ref l) (upd H' l (.lst xs)))→g (.ref a) (σ++List.replicate nT none) H' fun σ2 H2=>te σ2 H2 C)
  (q:∀ H' bs,Same H H'→RoomsAs H' L rs bs→(∀ b∈bs,H b=none∧b≠L)→bs.Nodup→Q (.ref L) H'):dW (j1 K pr) g jE te nT σ L Q (upd H L (.lst [])):=by
 obtain⟨h1,h2,h3⟩:=hR
 refine de (xs:=as.map V.ref) (fun i ys H'=>∃ bs:List Addr,Same H H'∧H' L=some (.lst ys)∧ys=bs.map V.ref∧bs.length=i∧(∀ b∈bs,H b=none∧b≠L∧∃ o,H' b=some o)∧bs.Nodup∧∀ (j:Nat) b x,bs[j]? = some b→rs[j]? = some x→H' b=some (.lst (x.map aG)))
  ⟨[],au hL _,ai,rfl,rfl,by simp,List.nodup_nil,by simp⟩ (fun i ys H' _ h=>by obtain⟨_,sm,_⟩:=h; exact SqL.of (sm _ _ h1)) ?_ ?_
 ·rintro i ys H' x hx hi ⟨bs,sm,hl,rfl,hb,hbn,hnd,hbx⟩
  rw[List.getElem?_map]at hx
  cases qa:as[i]? with
  | none=>rw[qa]at hx; cases hx
  | some a=>
   rw[qa]at hx; cases hx
   have hi':i<rs.length:=by have:=(List.getElem?_eq_some_iff.mp qa).1; omega
   have ha:=h3 i a _ qa (List.getElem?_eq_getElem hi');have e:=hs a _ H' (fE (as.map V.ref).length i (fun i ys H'=>∃ bs:List Addr,Same H H'∧H' L=some (.lst ys)∧ys=bs.map V.ref∧bs.length=i∧(∀ b∈bs,H b=none∧b≠L∧∃ o,H' b=some o)∧bs.Nodup∧∀ (j:Nat) b x,bs[j]? = some b→rs[j]? = some x→H' b=some (.lst (x.map aG))) L (bs.map V.ref)) (sm _ _ ha) ?_
   ·have e2:(ic (as.map V.ref).length i (fun i ys H'=>∃ bs:List Addr,Same H H'∧H' L=some (.lst ys)∧ys=bs.map V.ref∧bs.length=i∧(∀ b∈bs,H b=none∧b≠L∧∃ o,H' b=some o)∧bs.Nodup∧∀ (j:Nat) b x,bs[j]? = some b→rs[j]? = some x→H' b=some (.lst (x.map aG))) L (bs.map V.ref) te)=fun σ2 H2=>te σ2 H2 (fE (as.map V.ref).length i (fun i ys H'=>∃ bs:List Addr,Same H H'∧H' L=some (.lst ys)∧ys=bs.map V.ref∧bs.length=i∧(∀ b∈bs,H b=none∧b≠L∧∃ o,H' b=some o)∧bs.Nodup∧∀ (j:Nat) b x,bs[j]? = some b→rs[j]? = some x→H' b=some (.lst (x.map aG))) L (bs.map V.ref)):=by
     funext σ2 H2; exact dE
    rw[e2]; exact e
   ·intro l hl0
    have nl:l≠L:=by
     rintro rfl
     rw[hl]at hl0; cases hl0
    have hl':upd H' l (.lst ((rs[i]).map aG)) L=some (.lst (bs.map V.ref)):=by rw[am (Ne.symm nl)]; exact hl
    refine fJ hi (by rw[List.length_map]; exact hb) (by rw[List.length_map,h2]; exact bM (by omega)) hl' ⟨bs++[l],(sm.trans (au hl0 _)).upd hL _,ai,by rw[List.map_append]; rfl,by simp[hb],?_,?_,?_⟩
    ·intro b hb'
     rcases List.mem_append.mp hb' with z | z
     ·obtain⟨z1,z2,o,z3⟩:=hbn b z
      exact⟨z1,z2,o,by rw[am z2]; exact(au hl0 _) _ _ z3⟩
     ·rw[List.mem_singleton.mp z]
      exact⟨sm.free hl0,nl,_,by rw[am nl]; exact ai⟩
    ·rw[List.nodup_append]
     refine⟨hnd,by simp,fun b hb' c hc=>?_⟩
     rw[List.mem_singleton.mp hc];rintro rfl
     obtain⟨_,_,o,z⟩:=hbn b hb'
     rw[hl0]at z; cases z
    ·intro j b x e1 e2
     rcases Nat.lt_or_ge j bs.length with z | z
     ·rw[List.getElem?_append_left z]at e1
      have q1:=hbx j b x e1 e2;have q2:=(hbn b (List.mem_of_getElem? e1)).2.1;rw[am q2]; exact(au hl0 _) _ _ q1
     ·rw[List.getElem?_append_right z]at e1
      have hj:j - bs.length=0:=by
       have:=(List.getElem?_eq_some_iff.mp e1).1
       simp at this; omega
      rw[hj]at e1
      have e1':l=b:=by simpa using e1
      subst e1';have hji:j=i:=by omega
      subst hji;rw[List.getElem?_eq_getElem hi']at e2
      cases e2;rw[am nl]; exact ai
 ·rintro ys H' ⟨bs,sm,hl,rfl,hb,hbn,hnd,hbx⟩
  exact q H' bs sm ⟨hl,by rw[hb,List.length_map,h2],hbx⟩ (fun b z=>⟨(hbn b z).1,(hbn b z).2.1⟩) hnd
abbrev aL:=List (List (Option Nat))
def ak{α : Type}[DecidableEq α]:List α→List α→List α
 | acc,[]=>acc
 | acc,m::ms=>ak (if m∈acc then acc else acc++[m]) ms
section
variable{α : Type}[DecidableEq α]
theorem cv:∀ (ms acc:List α) (m:α),ak acc (ms++[m])=if m∈ak acc ms then ak acc ms else ak acc ms++[m]
 | [],acc,m=>rfl
 | x::ms,acc,m=>by
  show ak _ (ms++[m])=_
  rw[cv ms]; rfl
theorem iB:∀ (ms acc:List α),∃ t,ak acc ms=acc++t
 | [],acc=>⟨[],by simp[ak]⟩
 | m::ms,acc=>by
  obtain⟨t,e⟩:=iB ms (if m∈acc then acc else acc++[m])
  show ∃ t,ak (if m∈acc then acc else acc++[m]) ms=acc++t
  by_cases h:m∈acc
  ·rw[if_pos h]at e ⊢; exact⟨t,e⟩
  ·rw[if_neg h]at e ⊢; exact⟨[m]++t,by rw[e,List.append_assoc]⟩
theorem bu:∀ (ms acc:List α) (x:α),x∈ak acc ms ↔ x∈acc∨x∈ms
 | [],acc,x=>by simp[ak]
 | m::ms,acc,x=>by
  show x∈ak (if m∈acc then acc else acc++[m]) ms ↔ _
  rw[bu ms]
  by_cases h:m∈acc
  ·rw[if_pos h]
   constructor
   ·rintro(z | z)
    ·exact .inl z
    ·exact .inr (List.mem_cons_of_mem _ z)
   ·rintro(z | z)
    ·exact .inl z
    ·rcases List.mem_cons.mp z with rfl | z
     ·exact .inl h
     ·exact .inr z
  ·rw[if_neg h,List.mem_append,List.mem_singleton,List.mem_cons,or_assoc]
theorem iW:∀ (ms acc:List α),acc.Nodup→(ak acc ms).Nodup
 | [],acc,h=>h
 | m::ms,acc,h=>by
  show (ak (if m∈acc then acc else acc++[m]) ms).Nodup
  refine iW ms _ ?_
  by_cases hm:m∈acc
  ·rw[if_pos hm]; exact h
  ·rw[if_neg hm,List.nodup_append]
   exact⟨h,by simp,fun x hx y hy e=>by rw[List.mem_singleton.mp hy]at e; exact hm (e ▸ hx)⟩
theorem qR{l t:List α}{x:α}(h:x∈l):(l++t).idxOf x=l.idxOf x:=by
 rw[List.idxOf_append,if_pos h]
def b0(ms:List α):List Nat:=ms.map fun m=>(ak [] ms).idxOf m
theorem m8{ms:List α}{i:Nat}{m:α}(h:ms[i]? = some m):(ak [] (ms.take (i+1))).idxOf m=(ak [] ms).idxOf m:=by
 have e:ms=ms.take (i+1)++ms.drop (i+1):=(List.take_append_drop _ _).symm
 have hm:m∈ms.take (i+1):=by
  rw[List.take_add_one,h]; simp
 have step:∀ (a b acc:List α),ak acc (a++b)=ak (ak acc a) b:=by
  intro a
  induction a with
  | nil=>intro b acc; rfl
  | cons x a ih=>intro b acc; exact ih b _
 have q:ak [] ms=ak (ak [] (ms.take (i+1))) (ms.drop (i+1)):=by
  rw[← step,← e]
 obtain⟨t,ht⟩:=iB (ms.drop (i+1)) (ak [] (ms.take (i+1)))
 rw[q,ht,qR ((bu _ _ _).mpr (.inr hm))]
def gK(x:α)(l:List α):Nat:=l.idxOf x
theorem vB{x:α}{l:List α}(h:x∈l):gK x l<l.length:=List.idxOf_lt_length_iff.mpr h
theorem jo{ms:List α}{i:Nat}{m:α}(h:ms[i]? = some m):(b0 ms)[i]? = some (gK m (ak [] (ms.take (i+1)))):=by
 unfold gK;rw[m8 h];unfold b0;rw[List.getElem?_map,h]; rfl
theorem tF(x:α)(l:List α):gK x (x::l)=0:=by unfold gK; simp
theorem ra{x y:α}(h:y≠x)(l:List α):gK x (y::l)=gK x l+1:=by
 unfold gK;rw[List.idxOf_cons];have hb:(y == x)=false:=beq_eq_false_iff_ne.mpr h
 rw[hb]; rfl
theorem nz{ms:List α}{i j:Nat}{m m':α}(h:ms[i]? = some m)(h':ms[j]? = some m'):(b0 ms)[i]? = (b0 ms)[j]? ↔ m=m':=by
 unfold b0;rw[List.getElem?_map,List.getElem?_map,h,h'];show some _=some _ ↔ _
 have hm:m∈ak [] ms:=(bu _ _ _).mpr (.inr (List.mem_of_getElem? h))
 have hm':m'∈ak [] ms:=(bu _ _ _).mpr (.inr (List.mem_of_getElem? h'))
 constructor
 ·intro e
  have e':(ak [] ms).idxOf m=(ak [] ms).idxOf m':=Option.some.inj e
  have h1:=List.getElem_idxOf (List.idxOf_lt_length_iff.mpr hm);have h2:=List.getElem_idxOf (List.idxOf_lt_length_iff.mpr hm');rw[← h1,← h2]
  congr 1
 ·rintro rfl; rfl
def cH(l:List Nat):Prop:=∀ i,ak [] (l.take i)=List.range (ak [] (l.take i)).length
theorem cK:∀ (ms acc:List α),(ak acc ms).length≤acc.length+ms.length
 | [],acc=>by simp[ak]
 | m::ms,acc=>by
  have h:=cK ms (if m∈acc then acc else acc++[m])
  show (ak (if m∈acc then acc else acc++[m]) ms).length≤_
  by_cases hm:m∈acc
  ·rw[if_pos hm]at h ⊢; rw[List.length_cons]; omega
  ·rw[if_neg hm]at h ⊢; rw[List.length_append]at h; rw[List.length_cons]; simp at h; omega
end
section
variable{α β : Type}[DecidableEq α][DecidableEq β]
theorem iu(f:α→β):∀ (ms acc:List α),(∀ x∈acc++ms,∀ y∈acc++ms,f x=f y→x=y)→ak (acc.map f) (ms.map f)=(ak acc ms).map f
 | [],acc,_=>rfl
 | m::ms,acc,h=>by
  show ak (if f m∈acc.map f then acc.map f else acc.map f++[f m]) (ms.map f)=(ak (if m∈acc then acc else acc++[m]) ms).map f
  by_cases hm:m∈acc
  ·rw[if_pos hm,if_pos (List.mem_map.mpr ⟨m,hm,rfl⟩)]
   exact iu f ms acc fun x hx y hy=>h x (by simp at hx ⊢; rcases hx with z | z <;> simp[z]) y (by simp at hy ⊢; rcases hy with z | z <;> simp[z])
  ·have hn:f m∉acc.map f:=fun z=>by
    obtain⟨x,hx,e⟩:=List.mem_map.mp z
    have:=h x (by simp[hx]) m (by simp) e
    exact hm (this ▸ hx)
   rw[if_neg hm,if_neg hn];have ih:=iu f ms (acc++[m]) fun x hx y hy=>h x (by simp at hx ⊢; rcases hx with z | z | z <;> simp[z]) y (by simp at hy ⊢; rcases hy with z | z | z <;> simp[z])
   rw[List.map_append]at ih
   exact ih
end
theorem j4{α : Type}[DecidableEq α]{l:List α}(nd:l.Nodup)(c:Nat)(hc:c≤l.length):(l.take c).map (fun x=>l.idxOf x)=List.range c:=by
 refine List.ext_getElem (by simp; omega) fun i h1 h2=>?_
 have hi:i<l.length:=by simp at h1; omega
 rw[List.getElem_map,List.getElem_take,List.getElem_range];exact nd.idxOf_getElem _ hi
theorem ff{α : Type}[DecidableEq α](ms:List α):cH (b0 ms):=by
 intro i
 have hnd:=iW ms [] List.nodup_nil;have e1:(b0 ms).take i=(ms.take i).map fun m=>(ak [] ms).idxOf m:=by unfold b0; rw[List.map_take]
 have inj:∀ x∈[]++ms.take i,∀ y∈[]++ms.take i,(ak [] ms).idxOf x=(ak [] ms).idxOf y→x=y:=fun x hx y hy e=>by
  have hx':x∈ak [] ms:=(bu _ _ _).mpr (.inr (List.mem_of_mem_take (by simpa using hx)))
  have hy':y∈ak [] ms:=(bu _ _ _).mpr (.inr (List.mem_of_mem_take (by simpa using hy)))
  have h1:=List.getElem_idxOf (List.idxOf_lt_length_iff.mpr hx');have h2:=List.getElem_idxOf (List.idxOf_lt_length_iff.mpr hy');rw[← h1,← h2]; congr 1
 have e2:=iu (fun m=>(ak [] ms).idxOf m) (ms.take i) [] inj
 rw[List.map_nil]at e2
 have step:∀ (a b acc:List α),ak acc (a++b)=ak (ak acc a) b:=by
  intro a
  induction a with
  | nil=>intro b acc; rfl
  | cons x a ih=>intro b acc; exact ih b _
 have q:ak [] ms=ak (ak [] (ms.take i)) (ms.drop i):=by rw[← step,List.take_append_drop]
 obtain⟨t,ht⟩:=iB (ms.drop i) (ak [] (ms.take i))
 have e3:ak [] (ms.take i)=(ak [] ms).take (ak [] (ms.take i)).length:=by rw[q,ht,List.take_left]
 have hlen:(ak [] (ms.take i)).length≤(ak [] ms).length:=by rw[q,ht,List.length_append]; omega
 rw[e1,e2,List.length_map]
 conv=>lhs; rw[e3]
 exact j4 hnd _ hlen
theorem iT{l:List Nat}{i:Nat}{x:Nat}(h:cH l)(hx:l[i]? = some x)(hn:x∉l.take i):x=(ak [] (l.take i)).length:=by
 have h1:=h i;have h2:=h (i+1);rw[List.take_add_one,hx]at h2
 show _=_
 have hn':x∉ak [] (l.take i):=fun z=>by
  rcases(bu _ _ _).mp z with z | z
  ·cases z
  ·exact hn z
 have e:ak [] (l.take i++(some x).toList)=ak [] (l.take i)++[x]:=by
  show ak [] (l.take i++[x])=_
  rw[cv,if_neg hn']
 rw[e,List.length_append,List.length_singleton,List.range_succ,← h1]at h2
 have:=List.append_cancel_left h2
 simpa using this
theorem kP{a b:List Nat}(ha:cH a)(hb:cH b)(hl:a.length=b.length)(h:∀ i j:Nat,i<a.length→j<a.length→(a[i]? = a[j]? ↔ b[i]? = b[j]?)):a=b:=by
 have key:∀ i,i≤a.length→a.take i=b.take i:=by
  intro i
  induction i with
  | zero=>intro _; simp
  | succ i ih=>
   intro hi
   have ih':=ih (by omega)
   have hai:i<a.length:=by omega
   have hbi:i<b.length:=by omega
   rw[List.take_add_one,List.take_add_one,ih',List.getElem?_eq_getElem hai,List.getElem?_eq_getElem hbi]
   congr 2
   by_cases hm:a[i]∈a.take i
   ·obtain⟨j,hj,e⟩:=List.mem_iff_getElem.mp hm
    have hj':j<i:=by simp at hj; omega
    rw[List.getElem_take]at e
    have q:=(h j i (by omega) hai).mp (by rw[List.getElem?_eq_getElem (by omega),List.getElem?_eq_getElem hai,e])
    rw[List.getElem?_eq_getElem (by omega),List.getElem?_eq_getElem hbi]at q
    have q':b[j]=b[i]:=Option.some.inj q
    rw[← q',← e];have e1:(a.take i)[j]? = (b.take i)[j]?:=by rw[ih']
    rw[List.getElem?_take_of_lt hj',List.getElem?_take_of_lt hj',List.getElem?_eq_getElem (by omega),List.getElem?_eq_getElem (by omega)]at e1
    exact e1
   ·have hn:b[i]∉b.take i:=fun z=>by
     obtain⟨j,hj,e⟩:=List.mem_iff_getElem.mp z
     have hj':j<i:=by simp at hj; omega
     rw[List.getElem_take]at e
     have q:=(h j i (by omega) hai).mpr (by rw[List.getElem?_eq_getElem (by omega),List.getElem?_eq_getElem hbi,e])
     rw[List.getElem?_eq_getElem (by omega),List.getElem?_eq_getElem hai]at q
     have q':a[j]=a[i]:=Option.some.inj q
     exact hm (q' ▸ List.mem_iff_getElem.mpr ⟨j,by simp; omega,by rw[List.getElem_take]⟩)
    rw[iT ha (List.getElem?_eq_getElem hai) hm,iT hb (List.getElem?_eq_getElem hbi) hn,ih']
 have:=key a.length (Nat.le_refl _)
 rw[List.take_length]at this
 rw[this,hl,List.take_length]
def mark(R:aL)(ks:List Nat)(i:Nat):Nat × List (Option Nat):=(ks.getD i 0,(R.getD i []).map (Option.map fun k=>ks.getD k 0))
def bW(R:aL)(ks:List Nat):List (Nat × List (Option Nat)):=(List.range R.length).map (mark R ks)
def finer(R:aL)(ks:List Nat):List Nat:=b0 (bW R ks)
def iter(R:aL):Nat→List Nat
 | 0=>R.map fun _=>0
 | t+1=>finer R (iter R t)
def af(R:aL):List Nat:=iter R (R.length * R.length)
theorem lf(R:aL)(ks:List Nat):(bW R ks).length=R.length:=by simp[bW]
theorem dN(R:aL)(ks:List Nat):(finer R ks).length=R.length:=by simp[finer,b0,bW]
theorem bE(R:aL):∀ t,(iter R t).length=R.length
 | 0=>by simp[iter]
 | t+1=>dN R _
theorem gD{R:aL}{ks:List Nat}{i:Nat}(h:i<R.length):(bW R ks)[i]? = some (mark R ks i):=by
 unfold bW; rw[List.getElem?_map,List.getElem?_range h]; rfl
theorem iD{R:aL}{ks:List Nat}{i j:Nat}(hi:i<R.length)(hj:j<R.length):(finer R ks)[i]? = (finer R ks)[j]? ↔ mark R ks i=mark R ks j:=nz (gD hi) (gD hj)
theorem nr(n:Nat):cH (List.replicate n 0):=by
 intro i
 rw[List.take_replicate]
 have:∀ k,ak ([0]:List Nat) (List.replicate k 0)=[0]:=by
  intro k
  induction k with
  | zero=>rfl
  | succ k ih=>rw[List.replicate_succ]; show ak (if 0∈[0] then [0] else [0]++[0]) _=_; rw[if_pos (by simp)]; exact ih
 cases h:min i n with
 | zero=>rfl
 | succ k=>
  rw[List.replicate_succ];show ak (if (0:Nat)∈[] then [] else []++[0]) (List.replicate k 0)=List.range (ak (if (0:Nat)∈[] then [] else []++[0]) (List.replicate k 0)).length
  rw[if_neg (by simp),List.nil_append,this]; rfl
theorem bY(R:aL):∀ t,cH (iter R t)
 | 0=>by
  show cH (R.map fun _=>0)
  rw[List.map_const'];exact nr _
 | t+1=>ff _
def cy(n:Nat)(ks:List Nat):Nat:=((List.range n).flatMap fun i=>(List.range n).map fun j=>(i,j)).countP fun p=>decide (ks[p.1]? = ks[p.2]?)
theorem kU{α : Type}{p q:α→Bool}:∀ {l:List α},(∀ x∈l,p x=true→q x=true)→(∃ x∈l,q x=true∧p x=false)→l.countP p<l.countP q
 | [],_,⟨x,hx,_⟩=>by simp at hx
 | y::l,h,⟨x,hx,h1,h2⟩=>by
  have mono:∀ {l:List α},(∀ x∈l,p x=true→q x=true)→l.countP p≤l.countP q:=by
   intro l hl
   exact List.countP_mono_left hl
  rw[List.countP_cons,List.countP_cons];rcases List.mem_cons.mp hx with rfl | hx
  ·have:=mono (l:=l) fun z hz=>h z (List.mem_cons_of_mem _ hz)
   rw[h1,h2]; simp; omega
  ·have:=kU (fun z hz=>h z (List.mem_cons_of_mem _ hz)) ⟨x,hx,h1,h2⟩
   have hy:=h y List.mem_cons_self
   cases hp:p y with
   | true=>rw[hy hp]; simp; omega
   | false=>cases q y <;> simp <;> omega
theorem jH{R:aL}{ks:List Nat}(hl:ks.length=R.length)(hc:cH ks)(hne:finer R ks≠ks):cy R.length (finer R ks)<cy R.length ks:=by
 have sub:∀ i j,i<R.length→j<R.length→(finer R ks)[i]? = (finer R ks)[j]?→ks[i]? = ks[j]?:=fun i j hi hj e=>by
  have m:=(iD hi hj).mp e;have m1:ks.getD i 0=ks.getD j 0:=congrArg (·.1) m
  rw[List.getD_eq_getElem?_getD,List.getD_eq_getElem?_getD,List.getElem?_eq_getElem (by omega),List.getElem?_eq_getElem (by omega)]at m1
  rw[List.getElem?_eq_getElem (by omega),List.getElem?_eq_getElem (by omega)]
  exact congrArg some m1
 refine kU (fun x hx e=>?_) ?_
 ·obtain⟨i,hi,hx⟩:=List.mem_flatMap.mp hx
  obtain⟨j,hj,rfl⟩:=List.mem_map.mp hx
  exact decide_eq_true (sub i j (List.mem_range.mp hi) (List.mem_range.mp hj) (of_decide_eq_true e))
 ·refine Classical.byContradiction fun hno=>hne ?_
  refine kP (ff _) hc (by rw[dN,hl]) fun i j hi hj=>?_
  rw[dN]at hi hj
  refine⟨sub i j hi hj,fun e=>Classical.byContradiction fun e2=>hno ⟨(i,j),?_,decide_eq_true e,decide_eq_false e2⟩⟩
  exact List.mem_flatMap.mpr ⟨i,List.mem_range.mpr hi,List.mem_map.mpr ⟨j,List.mem_range.mpr hj,rfl⟩⟩
theorem mC(n:Nat)(ks:List Nat):cy n ks≤n * n:=by
 unfold cy;refine Nat.le_trans List.countP_le_length ?_
 have:∀ (l:List Nat),(l.flatMap fun i=>(List.range n).map fun j=>(i,j)).length=l.length * n:=by
  intro l
  induction l with
  | nil=>simp
  | cons x l ih=>rw[List.flatMap_cons,List.length_append,ih,List.length_map,List.length_range,List.length_cons,Nat.succ_mul]; omega
 rw[this,List.length_range]; exact Nat.le_refl _
theorem mw{R:aL}{t:Nat}(h:iter R (t+1)=iter R t):∀ s,iter R (t+s)=iter R t
 | 0=>rfl
 | s+1=>by
  show finer R (iter R (t+s))=_
  rw[mw h s]; exact h
theorem iX{R:aL}{t:Nat}(h:iter R (t+1)=iter R t)(ht:t≤R.length * R.length):iter R t=af R:=by
 unfold af;have:=mw h (R.length * R.length - t)
 rw[show t+(R.length * R.length - t)=R.length * R.length by omega]at this
 exact this.symm
def cf(ks:List Nat)(x:List (Option Nat)):List (Option Nat):=x.map (Option.map fun k=>ks.getD k 0)
def bz(R:aL)(ks:List Nat)(i:Nat):aL:=(List.range (ak [] (ks.take i)).length).map fun k=>cf ks (R.getD (ks.idxOf k) [])
def merged(R:aL):aL:=bz R (af R) R.length
theorem nv{l:List Nat}{i x:Nat}(hx:l[i]? = some x)(hn:x∉l.take i):l.idxOf x=i:=by
 obtain⟨hi,e⟩:=List.getElem?_eq_some_iff.mp hx
 have h0:l=l.take i++l.drop i:=(List.take_append_drop _ _).symm
 have h1:l.drop i=x::l.drop (i+1):=by rw[List.drop_eq_getElem_cons hi,e]
 rw[h0,List.idxOf_append,if_neg hn,h1,List.idxOf_cons_self,List.length_take];omega
theorem ny{R:aL}{ks:List Nat}(hc:cH ks)(hl:ks.length=R.length){i:Nat}(hi:i<R.length) :
  bz R ks (i+1)=if ks.getD i 0=(bz R ks i).length then bz R ks i++[cf ks (R.getD i [])] else bz R ks i:=by
 have hik:i<ks.length:=by omega
 have hk:ks[i]? = some ks[i]:=List.getElem?_eq_getElem hik
 have hg:ks.getD i 0=ks[i]:=by rw[List.getD_eq_getElem?_getD,hk]; rfl
 have hml:(bz R ks i).length=(ak [] (ks.take i)).length:=by simp[bz]
 rw[hg,hml];have ht:ks.take (i+1)=ks.take i++[ks[i]]:=by rw[List.take_add_one,hk]; rfl
 by_cases hm:ks[i]∈ks.take i
 ·have hf:ks[i]∈ak [] (ks.take i):=(bu _ _ _).mpr (.inr hm)
  have hlt:ks[i]<(ak [] (ks.take i)).length:=by
   have:=hc i
   rw[this]at hf
   exact List.mem_range.mp hf
  rw[if_neg (by omega)]
  unfold bz;rw[ht,cv,if_pos hf]
 ·have hn:ks[i]∉ak [] (ks.take i):=fun z=>by
   rcases(bu _ _ _).mp z with z | z
   ·cases z
   ·exact hm z
  have e:=iT hc hk hm;rw[if_pos e];unfold bz;rw[ht,cv,if_neg hn,List.length_append,List.length_singleton,List.range_succ,List.map_append]
  congr 1
  rw[← e];show [cf ks (R.getD (ks.idxOf ks[i]) [])]=_
  rw[nv hk hm]
def aE:List Nat→List (Option Nat)→List Nat
 | o,[]=>o
 | o,none::x=>aE o x
 | o,some k::x=>aE (if k∈o then o else o++[k]) x
theorem gT:∀ (x:List (Option Nat)) (o:List Nat) (w:Option Nat),aE o (x++[w])=match w with
  | none=>aE o x
  | some k=>if k∈aE o x then aE o x else aE o x++[k]
 | [],o,none=>rfl
 | [],o,some k=>rfl
 | none::x,o,w=>gT x o w
 | some k::x,o,w=>gT x _ w
theorem ie:∀ (x:List (Option Nat)) (o:List Nat),∃ t,aE o x=o++t
 | [],o=>⟨[],by simp[aE]⟩
 | none::x,o=>ie x o
 | some k::x,o=>by
  obtain⟨t,e⟩:=ie x (if k∈o then o else o++[k])
  show ∃ t,aE (if k∈o then o else o++[k]) x=o++t
  by_cases h:k∈o
  ·rw[if_pos h]at e ⊢; exact⟨t,e⟩
  ·rw[if_neg h]at e ⊢; exact⟨[k]++t,by rw[e,List.append_assoc]⟩
theorem c_:∀ (x:List (Option Nat)) (o:List Nat) (k:Nat),k∈aE o x ↔ k∈o∨some k∈x
 | [],o,k=>by simp[aE]
 | none::x,o,k=>by rw[show aE o (none::x)=aE o x from rfl,c_ x]; simp
 | some j::x,o,k=>by
  rw[show aE o (some j::x)=aE (if j∈o then o else o++[j]) x from rfl,c_ x]
  by_cases h:j∈o
  ·rw[if_pos h]
   constructor
   ·rintro(z | z)
    ·exact .inl z
    ·exact .inr (List.mem_cons_of_mem _ z)
   ·rintro(z | z)
    ·exact .inl z
    ·rcases List.mem_cons.mp z with e | z
     ·cases e; exact .inl h
     ·exact .inr z
  ·rw[if_neg h]; simp[or_assoc]
theorem d7:∀ (x:List (Option Nat)) (o:List Nat),o.Nodup→(aE o x).Nodup
 | [],o,h=>h
 | none::x,o,h=>d7 x o h
 | some k::x,o,h=>by
  refine d7 x _ ?_
  by_cases hm:k∈o
  ·rw[if_pos hm]; exact h
  ·rw[if_neg hm,List.nodup_append]
   exact⟨h,by simp,fun a ha b hb e=>by rw[List.mem_singleton.mp hb]at e; exact hm (e ▸ ha)⟩
def aA(M:aL):Nat→List Nat
 | 0=>[0]
 | t+1=>match (aA M t)[t]? with
  | some r=>aE (aA M t) (M.getD r [])
  | none=>aA M t
def ay(M:aL):List Nat:=aA M M.length
def cS(M:aL):Prop:=∀ x∈M,∀ k,some k∈x→k<M.length
theorem iq:∀ (m:Nat) (l:List Nat),l.Nodup→(∀ x∈l,x<m)→l.length≤m
 | 0,l,_,h=>by
  cases l with
  | nil=>exact Nat.le_refl _
  | cons x l=>exact absurd (h x List.mem_cons_self) (Nat.not_lt_zero _)
 | m+1,l,nd,h=>by
  have h1:=iq m (l.filter (fun x=>decide (x≠m))) (nd.filter _) fun x hx=>by
   obtain⟨hx,hd⟩:=List.mem_filter.mp hx
   have:=h x hx
   have:=of_decide_eq_true hd
   omega
  have h2:l.length≤(l.filter (fun x=>decide (x≠m))).length+1:=by
   have:∀ (l:List Nat),l.Nodup→l.length≤(l.filter (fun x=>decide (x≠m))).length+1:=by
    intro l
    induction l with
    | nil=>intro _; simp
    | cons y l ih=>
     intro nd
     by_cases e:y=m
     ·subst e
      have hy:y∉l:=(List.nodup_cons.mp nd).1
      have e2:l.filter (fun x=>decide (x≠y))=l:=List.filter_eq_self.mpr fun x hx=>decide_eq_true (fun z=>hy (z ▸ hx))
      rw[List.filter_cons_of_neg (by simp),e2,List.length_cons]; exact Nat.le_refl _
     ·rw[List.filter_cons_of_pos (by simpa using e),List.length_cons,List.length_cons]
      have:=ih (List.nodup_cons.mp nd).2
      omega
   exact this l nd
  omega
theorem cG{M:aL}(hi:cS M)(h0:1≤M.length):∀ t,(aA M t).Nodup∧∀ x∈aA M t,x<M.length
 | 0=>⟨by simp[aA],fun x hx=>by simp[aA]at hx; omega⟩
 | t+1=>by
  obtain⟨nd,lt⟩:=cG hi h0 t
  show (match (aA M t)[t]? with | some r=>aE (aA M t) (M.getD r []) | none=>aA M t).Nodup∧∀ x∈(match (aA M t)[t]? with | some r=>aE (aA M t) (M.getD r []) | none=>aA M t),x<M.length
  cases e:(aA M t)[t]? with
  | none=>exact⟨nd,lt⟩
  | some r=>
   refine⟨d7 _ _ nd,fun x hx=>?_⟩
   rcases(c_ _ _ _).mp hx with z | z
   ·exact lt x z
   ·have hr:r<M.length:=lt r (List.mem_of_getElem? e)
    rw[List.getD_eq_getElem?_getD,List.getElem?_eq_getElem hr]at z
    exact hi _ (List.getElem_mem hr) x z
theorem i8{M:aL}(hi:cS M)(h0:1≤M.length)(t:Nat):(aA M t).length≤M.length:=iq _ _ (cG hi h0 t).1 (cG hi h0 t).2
theorem kg{M:aL}{t:Nat}(h:(aA M t).length≤t):∀ s,aA M (t+s)=aA M t
 | 0=>rfl
 | s+1=>by
  have ih:=kg h s;show (match (aA M (t+s))[t+s]? with | some r=>aE (aA M (t+s)) (M.getD r []) | none=>aA M (t+s))=_
  rw[ih,List.getElem?_eq_none (by omega)]
theorem iR{M:aL}{t:Nat}(h:(aA M t).length≤t)(ht:t≤M.length):aA M t=ay M:=by
 unfold ay;have:=kg h (M.length - t)
 rw[show t+(M.length - t)=M.length by omega]at this
 exact this.symm
def dY(o:List Nat)(x:List (Option Nat)):List (Option Nat):=x.map (Option.map fun k=>o.idxOf k)
def aO(M:aL):aL:=(ay M).map fun r=>dY (ay M) (M.getD r [])
def cV(N:aL)(p:Nat):Bool:=(List.range N.length).any fun i=>decide ((N.getD i []).getD p none≠some i)
def places(N:aL)(w:Nat):List Nat:=(List.range w).filter (cV N)
def ae(R:aL):aL:=aO (merged R)
theorem je{M:aL}(t:Nat):∃ u,aA M (t+1)=aA M t++u:=by
 show ∃ u,(match (aA M t)[t]? with | some r=>aE (aA M t) (M.getD r []) | none=>aA M t)=aA M t++u
 cases e:(aA M t)[t]? with
 | none=>exact⟨[],by simp⟩
 | some r=>exact ie _ _
theorem j8{M:aL}:∀ (t j r:Nat),j<t→(aA M t)[j]? = some r→∀ k,some k∈M.getD r []→k∈aA M t
 | 0,j,r,h,_,_,_=>absurd h (Nat.not_lt_zero _)
 | t+1,j,r,h,hr,k,hk=>by
  obtain⟨u,hu⟩:=je (M:=M) t
  rcases Nat.lt_or_ge j (aA M t).length with hj | hj
  ·have hr':(aA M t)[j]? = some r:=by rw[hu,List.getElem?_append_left hj]at hr; exact hr
   rcases Nat.lt_or_ge j t with hjt | hjt
   ·rw[hu]; exact List.mem_append_left _ (j8 t j r hjt hr' k hk)
   ·have e:j=t:=by omega
    subst e;show k∈(match (aA M j)[j]? with | some r=>aE (aA M j) (M.getD r []) | none=>aA M j)
    rw[hr'];exact(c_ _ _ _).mpr (.inr hk)
  ·have hn:(aA M t)[t]? = none:=List.getElem?_eq_none (by omega)
   have e:aA M (t+1)=aA M t:=by
    show (match (aA M t)[t]? with | some r=>aE (aA M t) (M.getD r []) | none=>aA M t)=_
    rw[hn]
   rw[e,List.getElem?_eq_none hj]at hr
   cases hr
theorem cU{M:aL}(hi:cS M)(h0:1≤M.length){r k:Nat}(hr:r∈ay M)(hk:some k∈M.getD r []):k∈ay M:=by
 obtain⟨j,hj,e⟩:=List.mem_iff_getElem.mp hr
 have hl:=i8 hi h0 M.length;exact j8 M.length j r (Nat.lt_of_lt_of_le hj hl) (by rw[← e]; exact List.getElem?_eq_getElem hj) k hk
theorem dy{M:aL}(hi:cS M)(h0:1≤M.length):(ay M).Nodup∧(∀ x∈ay M,x<M.length)∧(ay M).length≤M.length:=⟨(cG hi h0 _).1,(cG hi h0 _).2,i8 hi h0 _⟩
theorem ii(M:aL):∀ t,(aA M t)[0]? = some 0
 | 0=>rfl
 | t+1=>by
  obtain⟨u,hu⟩:=je (M:=M) t
  have h:=ii M t;have hl:0<(aA M t).length:=(List.getElem?_eq_some_iff.mp h).1
  rw[hu,List.getElem?_append_left hl]; exact h
theorem fw{R:aL}(hc:1≤R.length)(hi:cS R):cS (merged R)∧1≤(merged R).length∧(merged R).length≤R.length:=by
 have hl:(af R).length=R.length:=bE R _
 have hcn:cH (af R):=bY R _
 have hall:=hcn R.length;rw[← hl,List.take_length]at hall
 have hml:(merged R).length=(ak [] (af R)).length:=by
  unfold merged bz;rw[List.length_map,List.length_range,← hl,List.take_length]
 have hle:(merged R).length≤R.length:=by
  have:=cK (af R) []
  rw[hml]; simp at this; omega
 have mem:∀ k∈af R,k<(merged R).length:=fun k hk=>by
  have:k∈ak [] (af R):=(bu _ _ _).mpr (.inr hk)
  rw[hall]at this
  rw[hml]; exact List.mem_range.mp this
 refine⟨fun x hx k hk=>?_,?_,hle⟩
 ·unfold merged bz at hx
  obtain⟨j,hj,rfl⟩:=List.mem_map.mp hx
  unfold cf at hk;obtain⟨o,ho,e⟩:=List.mem_map.mp hk
  cases o with
  | none=>cases e
  | some k'=>
   have e':(af R).getD k' 0=k:=Option.some.inj e
   refine mem k ?_
   have hk':k'<R.length:=by
    by_cases hjj:(af R).idxOf j<R.length
    ·rw[List.getD_eq_getElem?_getD,List.getElem?_eq_getElem hjj]at ho
     exact hi _ (List.getElem_mem hjj) k' ho
    ·rw[List.getD_eq_getElem?_getD,List.getElem?_eq_none (by omega)]at ho
     cases ho
   rw[← e',List.getD_eq_getElem?_getD,List.getElem?_eq_getElem (by omega)]
   exact List.getElem_mem _
 ·have h0:(af R)[0]∈af R:=List.getElem_mem (by omega)
  have:=mem _ h0
  omega
theorem jP{R:aL}{m:Nat}(hr:∀ x∈R,x.length=m):∀ x∈merged R,x.length=m:=by
 have hl:(af R).length=R.length:=bE R _
 have hcn:cH (af R):=bY R _
 intro x hx
 unfold merged bz at hx;obtain⟨j,hj,rfl⟩:=List.mem_map.mp hx
 have hj':j∈ak [] ((af R).take R.length):=by
  have:=hcn R.length
  rw[this]; exact hj
 have hjk:j∈af R:=by
  rcases(bu _ _ _).mp hj' with z | z
  ·cases z
  ·exact List.mem_of_mem_take z
 have hlt:(af R).idxOf j<R.length:=by rw[← hl]; exact List.idxOf_lt_length_iff.mpr hjk
 unfold cf;rw[List.length_map,List.getD_eq_getElem?_getD,List.getElem?_eq_getElem hlt];exact hr _ (List.getElem_mem hlt)
theorem dC{M:aL}{m:Nat}(hi:cS M)(h0:1≤M.length)(hr:∀ x∈M,x.length=m):cS (aO M)∧1≤(aO M).length∧(aO M).length≤M.length∧∀ x∈aO M,x.length=m:=by
 obtain⟨nd,lt,le⟩:=dy hi h0
 have hol:(aO M).length=(ay M).length:=by simp[aO]
 have h1:0<(ay M).length:=(List.getElem?_eq_some_iff.mp (ii M M.length)).1
 have row:∀ r∈ay M,∃ x,M.getD r []=x∧x∈M:=fun r hr'=>by
  have:=lt r hr'
  exact⟨_,rfl,by rw[List.getD_eq_getElem?_getD,List.getElem?_eq_getElem this]; exact List.getElem_mem _⟩
 refine⟨fun x hx k hk=>?_,by omega,by omega,fun x hx=>?_⟩
 ·unfold aO at hx
  obtain⟨r,hr',rfl⟩:=List.mem_map.mp hx
  unfold dY at hk;obtain⟨o,ho,e⟩:=List.mem_map.mp hk
  cases o with
  | none=>cases e
  | some k'=>
   have e':(ay M).idxOf k'=k:=Option.some.inj e
   rw[← e',hol];exact List.idxOf_lt_length_iff.mpr (cU hi h0 hr' ho)
 ·unfold aO at hx
  obtain⟨r,hr',rfl⟩:=List.mem_map.mp hx
  obtain⟨y,e,hy⟩:=row r hr'
  unfold dY;rw[List.length_map,e]; exact hr y hy
theorem ix{R:aL}(E:Nat→Nat→Prop)(hE:∀ u v,E u v→u<R.length→v<R.length→∀ p:Nat,((R.getD u [])[p]? = none∧(R.getD v [])[p]? = none)∨((R.getD u [])[p]? = some none∧(R.getD v [])[p]? = some none)∨
   ∃ x y,(R.getD u [])[p]? = some (some x)∧(R.getD v [])[p]? = some (some y)∧E x y∧x<R.length∧y<R.length) :
  ∀ (t u v:Nat),E u v→u<R.length→v<R.length→(iter R t)[u]? = (iter R t)[v]?
 | 0,u,v,_,hu,hv=>by
  show (R.map fun _=>0)[u]? = (R.map fun _=>0)[v]?
  rw[List.getElem?_map,List.getElem?_map,List.getElem?_eq_getElem hu,List.getElem?_eq_getElem hv]; rfl
 | t+1,u,v,h,hu,hv=>by
  have ih:=ix E hE t;refine(iD hu hv).mpr ?_
  have gd:∀ x y,E x y→x<R.length→y<R.length→(iter R t).getD x 0=(iter R t).getD y 0:=fun x y e hx hy=>by
   rw[List.getD_eq_getElem?_getD,List.getD_eq_getElem?_getD,ih x y e hx hy]
  refine Prod.ext (gd u v h hu hv) ?_
  show (R.getD u []).map _=(R.getD v []).map _
  refine List.ext_getElem? fun p=>?_
  rw[List.getElem?_map,List.getElem?_map];rcases hE u v h hu hv p with ⟨h1,h2⟩ | ⟨h1,h2⟩ | ⟨x,y,h1,h2,hxy,hx,hy⟩
  ·rw[h1,h2]
  ·rw[h1,h2]
  ·rw[h1,h2]
   exact congrArg (fun z=>some (some z)) (gd x y hxy hx hy)
theorem jq(R:aL):finer R (af R)=af R:=by
 -- the pairs can't get fewer for ever
 have key:∀ t,(∃ s,s≤t∧iter R (s+1)=iter R s)∨cy R.length (iter R (t+1))+(t+1)≤R.length * R.length:=by
  intro t
  induction t with
  | zero=>
   by_cases h:iter R 1=iter R 0
   ·exact .inl ⟨0,Nat.le_refl _,h⟩
   ·have:=jH (R:=R) (bE R 0) (bY R 0) h
    have:=mC R.length (iter R 0)
    refine .inr ?_
    show cy R.length (finer R (iter R 0))+1≤_
    omega
  | succ t ih=>
   rcases ih with ⟨s,hs,e⟩ | ih
   ·exact .inl ⟨s,by omega,e⟩
   ·by_cases h:iter R (t+1+1)=iter R (t+1)
    ·exact .inl ⟨t+1,Nat.le_refl _,h⟩
    ·have:=jH (R:=R) (bE R (t+1)) (bY R (t+1)) h
     refine .inr ?_
     show cy R.length (finer R (iter R (t+1)))+(t+1+1)≤_
     omega
 rcases key (R.length * R.length) with ⟨s,hs,e⟩ | h
 ·have e1:=iX e hs
  rw[← e1]; exact e
 ·omega
theorem qS{l:List Nat}(hc:cH l)(hi:∀ i j,i<l.length→j<l.length→l[i]? = l[j]?→i=j):l=List.range l.length:=by
 refine kP hc ?_ (by simp) fun i j h1 h2=>?_
 ·have:List.range l.length=b0 (List.range l.length):=by
   have hf:∀ (n:Nat),ak [] (List.range n)=List.range n:=by
    intro n
    induction n with
    | zero=>rfl
    | succ n ih=>
     rw[List.range_succ,cv,ih,if_neg (by simp)]
   unfold b0;rw[hf];refine List.ext_getElem (by simp) fun i h1 h2=>?_
   rw[List.getElem_map];have:=(List.nodup_range (n:=l.length)).idxOf_getElem i (by simpa using h1)
   rw[this,List.getElem_range]
  rw[this]; exact ff _
 ·rw[List.getElem?_range h1,List.getElem?_range h2]
  constructor
  ·intro e; rw[hi i j h1 h2 e]
  ·intro e
   have:i=j:=Option.some.inj e
   rw[this]
def ck(N:aL)(ps:List Nat):aL:=N.map fun y=>ps.map fun x=>y.getD x none
theorem aF{α : Type}{l:List α}{i:Nat}{d:α}(h:i<l.length):l.getD i d=l[i]:=by rw[List.getD_eq_getElem?_getD,List.getElem?_eq_getElem h]; rfl
theorem dM{R:aL}{u:Nat}(hu:u<R.length):(af R).getD u 0<(merged R).length∧cf (af R) (R.getD u [])=(merged R).getD ((af R).getD u 0) []:=by
 have hl:(af R).length=R.length:=bE R _
 have hcn:cH (af R):=bY R _
 have hk:(af R).getD u 0=(af R)[u]'(by omega):=aF (by omega)
 have hmem:(af R).getD u 0∈af R:=by rw[hk]; exact List.getElem_mem _
 generalize (af R).getD u 0=k at hk hmem;have hall:=hcn R.length;rw[← hl,List.take_length]at hall
 have hml:(merged R).length=(ak [] (af R)).length:=by
  unfold merged bz;rw[List.length_map,List.length_range,← hl,List.take_length]
 have hlt:k<(merged R).length:=by
  have:k∈ak [] (af R):=(bu _ _ _).mpr (.inr hmem)
  rw[hall]at this
  rw[hml]; exact List.mem_range.mp this
 refine⟨hlt,?_⟩
 have hix:(af R).idxOf k<R.length:=by rw[← hl]; exact List.idxOf_lt_length_iff.mpr hmem
 have hki:(af R)[(af R).idxOf k]'(by omega)=k:=List.getElem_idxOf (List.idxOf_lt_length_iff.mpr hmem)
 have e:(merged R).getD k []=cf (af R) (R.getD ((af R).idxOf k) []):=by
  rw[List.getD_eq_getElem?_getD];unfold merged bz;rw[List.getElem?_map,List.getElem?_range (by rw[← hl,List.take_length,← hml]; exact hlt)]; rfl
 rw[e]
 have q:(finer R (af R))[u]? = (finer R (af R))[(af R).idxOf k]?:=by
  rw[jq,List.getElem?_eq_getElem (by omega),List.getElem?_eq_getElem (by omega),hki]
  exact congrArg some hk.symm
 exact congrArg (·.2) ((iD hu hix).mp q)
theorem kM{R:aL}{k:Nat}(h:k<(merged R).length):∃ u,u<R.length∧(af R).getD u 0=k:=by
 have hl:(af R).length=R.length:=bE R _
 have hcn:cH (af R):=bY R _
 have hall:=hcn R.length;rw[← hl,List.take_length]at hall
 have hml:(merged R).length=(ak [] (af R)).length:=by
  unfold merged bz;rw[List.length_map,List.length_range,← hl,List.take_length]
 have hm:k∈ak [] (af R):=by rw[hall]; exact List.mem_range.mpr (by omega)
 have hk:k∈af R:=by
  rcases(bu _ _ _).mp hm with z | z
  ·cases z
  ·exact z
 obtain⟨u,hu,e⟩:=List.mem_iff_getElem.mp hk
 exact⟨u,by omega,by rw[aF hu]; exact e⟩
structure Rm (R:aL) (m:Nat):Prop where
 n0:1≤R.length
 row:∀ x∈R,x.length=m
 ins:cS R
theorem Rm.merged{R:aL}{m:Nat}(h:Rm R m):Rm (merged R) m:=⟨(fw h.n0 h.ins).2.1,jP h.row,(fw h.n0 h.ins).1⟩
theorem Rm.ordered{R:aL}{m:Nat}(h:Rm R m):Rm (aO R) m:=⟨(dC h.ins h.n0 h.row).2.1,(dC h.ins h.n0 h.row).2.2.2,(dC h.ins h.n0 h.row).1⟩
theorem Rm.least{R:aL}{m:Nat}(h:Rm R m):Rm (ae R) m:=h.merged.ordered
theorem ij{N:aL}{ps:List Nat}{i:Nat}(h:i<N.length):(ck N ps).getD i []=ps.map fun x=>(N.getD i []).getD x none:=by
 unfold ck;rw[aF (by simpa using h),List.getElem_map,aF h]
theorem cI(N:aL)(ps:List Nat):(ck N ps).length=N.length:=by simp[ck]
theorem uZ{N:aL}{m:Nat}(h:Rm N m)(ps:List Nat)(hp:∀ x∈ps,x<m):Rm (ck N ps) ps.length:=by
 refine⟨by rw[cI]; exact h.n0,fun x hx=>?_,fun x hx k hk=>?_⟩
 ·obtain⟨y,hy,rfl⟩:=List.mem_map.mp hx
  simp
 ·obtain⟨y,hy,rfl⟩:=List.mem_map.mp hx
  obtain⟨p,hpm,e⟩:=List.mem_map.mp hk
  have hlt:p<y.length:=by rw[h.row y hy]; exact hp p hpm
  rw[aF hlt]at e
  rw[cI];exact h.ins y hy k (e ▸ List.getElem_mem hlt)
theorem ik{N:aL}{p i:Nat}(h:cV N p=false)(hi:i<N.length):(N.getD i []).getD p none=some i:=by
 unfold cV at h;rw[List.any_eq_false]at h
 have:=h i (List.mem_range.mpr hi)
 simpa using this
theorem leastN_len{R:aL}:(ae R).length=(ay (merged R)).length:=by unfold ae aO; rw[List.length_map]
theorem jR{R:aL}{i:Nat}(h:i<(ae R).length):(ae R).getD i []=dY (ay (merged R)) ((merged R).getD ((ay (merged R))[i]'(by rw[← leastN_len]; exact h)) []):=by
 rw[List.getD_eq_getElem?_getD];show (((ay (merged R)).map fun r=>dY (ay (merged R)) ((merged R).getD r []))[i]?).getD []=_
 rw[List.getElem?_map,List.getElem?_eq_getElem (by rw[← leastN_len]; exact h)]; rfl
theorem qf{R:aL}{m:Nat}(h:Rm R m):∀ i j,i<(ae R).length→j<(ae R).length→(af (ck (ae R) (places (ae R) m)))[i]? = (af (ck (ae R) (places (ae R) m)))[j]?→i=j:=by
 have hM:=h.merged;have hN:=h.least;obtain⟨ond,olt,ole⟩:=dy hM.ins hM.n0
 have hplt:∀ x∈places (ae R) m,x<m:=fun x hx=>List.mem_range.mp (List.mem_filter.mp hx).1
 have hF:=uZ hN (places (ae R) m) hplt;generalize hFd:ck (ae R) (places (ae R) m)=F at hF ⊢;have hFl:F.length=(ae R).length:=by rw[← hFd,cI]
 have hkl:(af F).length=F.length:=bE F _
 let o:=ay (merged R)
 let K:=af R
 have hol:o.length=(ae R).length:=leastN_len.symm
 -- a word's way from two least rooms of one kind
 have way:∀ i j,i<(ae R).length→j<(ae R).length→(af F)[i]? = (af F)[j]?→∀ p,p<m→
   (((ae R).getD i []).getD p none=none∧((ae R).getD j []).getD p none=none)∨∃ x y,((ae R).getD i []).getD p none=some x∧((ae R).getD j []).getD p none=some y∧x<(ae R).length∧y<(ae R).length∧(af F)[x]? = (af F)[y]?:=by
  intro i j hi hj e p hp
  by_cases hd:cV (ae R) p=true
  ·have hpm:p∈places (ae R) m:=List.mem_filter.mpr ⟨List.mem_range.mpr hp,hd⟩
   obtain⟨q,hq,eq⟩:=List.mem_iff_getElem.mp hpm
   have mk:mark F (af F) i=mark F (af F) j:=(iD (by omega) (by omega)).mp (by rw[jq]; exact e)
   have rows:(F.getD i []).map (Option.map fun k=>(af F).getD k 0)=(F.getD j []).map (Option.map fun k=>(af F).getD k 0):=congrArg (·.2) mk
   have at':∀ i,i<(ae R).length→((F.getD i []).map (Option.map fun k=>(af F).getD k 0))[q]? = some ((((ae R).getD i []).getD p none).map fun k=>(af F).getD k 0):=fun i hi=>by
    rw[← hFd,ij hi,List.getElem?_map,List.getElem?_map,List.getElem?_eq_getElem hq,eq]; rfl
   have r1:=at' i hi;have r2:=at' j hj;rw[rows,r2]at r1
   have r3:=Option.some.inj r1
   have mem:∀ i,i<(ae R).length→∀ x,((ae R).getD i []).getD p none=some x→x<(ae R).length:=fun i hi x hx=>by
    rw[aF hi]at hx
    have hlt:p<((ae R)[i]).length:=by rw[hN.row _ (List.getElem_mem hi)]; exact hp
    rw[aF hlt]at hx
    exact hN.ins _ (List.getElem_mem hi) x (hx ▸ List.getElem_mem hlt)
   cases e1:((ae R).getD i []).getD p none with
   | none=>
    cases e2:((ae R).getD j []).getD p none with
    | none=>exact .inl ⟨rfl,rfl⟩
    | some y=>rw[e1,e2]at r3; cases r3
   | some x=>
    cases e2:((ae R).getD j []).getD p none with
    | none=>rw[e1,e2]at r3; cases r3
    | some y=>
     rw[e1,e2]at r3
     have hx:=mem i hi x e1;have hy:=mem j hj y e2;have r4:(af F).getD y 0=(af F).getD x 0:=Option.some.inj r3
     refine .inr ⟨x,y,rfl,rfl,hx,hy,?_⟩
     rw[aF (by omega),aF (by omega)]at r4
     rw[List.getElem?_eq_getElem (by omega),List.getElem?_eq_getElem (by omega),r4]
  ·have hd':cV (ae R) p=false:=by simpa using hd
   exact .inr ⟨i,j,ik hd' hi,ik hd' hj,hi,hj,e⟩
 let E:Nat→Nat→Prop:=fun u v=>K.getD u 0=K.getD v 0∨∃ i j,i<(ae R).length∧j<(ae R).length∧o[i]? = some (K.getD u 0)∧o[j]? = some (K.getD v 0)∧(af F)[i]? = (af F)[j]?
 have bis:∀ u v,E u v→u<R.length→v<R.length→∀ p:Nat,((R.getD u [])[p]? = none∧(R.getD v [])[p]? = none)∨((R.getD u [])[p]? = some none∧(R.getD v [])[p]? = some none)∨
   ∃ x y,(R.getD u [])[p]? = some (some x)∧(R.getD v [])[p]? = some (some y)∧E x y∧x<R.length∧y<R.length:=by
  intro u v he hu hv p
  have ru:=h.row _ (List.getElem_mem hu);have rv:=h.row _ (List.getElem_mem hv);have gu:R.getD u []=R[u]:=aF hu
  have gv:R.getD v []=R[v]:=aF hv
  rcases Nat.lt_or_ge p m with hp | hp
  ·have ins:∀ u (hu:u<R.length) x,(R[u])[p]? = some (some x)→x<R.length:=fun u hu x hx=>h.ins _ (List.getElem_mem hu) x (List.mem_of_getElem? hx)
   obtain⟨_,wu⟩:=dM hu
   obtain⟨_,wv⟩:=dM hv
   rw[gu]at wu ⊢
   rw[gv]at wv ⊢
   obtain⟨a,ha⟩ : ∃ a,(R[u])[p]? = some a:=⟨(R[u])[p]'(by omega),List.getElem?_eq_getElem (by omega)⟩
   obtain⟨b,hb⟩ : ∃ b,(R[v])[p]? = some b:=⟨(R[v])[p]'(by omega),List.getElem?_eq_getElem (by omega)⟩
   have wua:(cf K R[u])[p]? = some (a.map fun k=>K.getD k 0):=by unfold cf; rw[List.getElem?_map,ha]; rfl
   have wvb:(cf K R[v])[p]? = some (b.map fun k=>K.getD k 0):=by unfold cf; rw[List.getElem?_map,hb]; rfl
   rw[ha,hb];rcases he with he | ⟨i,j,hi,hj,oi,oj,eij⟩
   ·have q:(cf K R[u])[p]? = (cf K R[v])[p]?:=by
     show (cf (af R) R[u])[p]? = (cf (af R) R[v])[p]?
     rw[wu,wv];have he':(af R).getD u 0=(af R).getD v 0:=he
     rw[he']
    rw[wua,wvb]at q
    have q':=Option.some.inj q
    cases a with
    | none=>cases b with
     | none=>exact .inr (.inl ⟨rfl,rfl⟩)
     | some y=>cases q'
    | some x=>cases b with
     | none=>cases q'
     | some y=>exact .inr (.inr ⟨x,y,rfl,rfl,.inl (Option.some.inj q'),ins u hu x ha,ins v hv y hb⟩)
   ·have row:∀ i (hi:i<(ae R).length) u (hu:u<R.length),o[i]? = some (K.getD u 0)→∀ a:Option Nat,(cf K R[u])[p]? = some (a.map fun k=>K.getD k 0)→((ae R).getD i []).getD p none=(a.map fun k=>K.getD k 0).map (fun k=>o.idxOf k):=fun i hi u hu oi a wa=>by
     have hio:i<o.length:=by omega
     rw[jR hi]
     have e1:(ay (merged R))[i]'hio=K.getD u 0:=by
      have:=oi
      rw[List.getElem?_eq_getElem hio]at this
      exact Option.some.inj this
     rw[e1];obtain⟨_,wu⟩:=dM hu
     rw[aF hu]at wu
     rw[← wu];unfold dY;rw[List.getD_eq_getElem?_getD,List.getElem?_map];have wa':(cf (af R) R[u])[p]? = some (a.map fun k=>K.getD k 0):=wa
     rw[wa']; rfl
    have na:=row i hi u hu oi a wua;have nb:=row j hj v hv oj b wvb
    have inO:∀ i (hi:i<(ae R).length) u (hu:u<R.length),o[i]? = some (K.getD u 0)→∀ x,(R[u])[p]? = some (some x)→K.getD x 0∈o:=fun i hi u hu oi x hx=>by
     refine cU hM.ins hM.n0 (List.mem_of_getElem? oi) ?_
     obtain⟨_,wu⟩:=dM hu
     rw[aF hu]at wu
     show some (K.getD x 0)∈(merged R).getD ((af R).getD u 0) []
     rw[← wu];refine List.mem_map.mpr ⟨some x,List.mem_of_getElem? hx,rfl⟩
    rcases way i j hi hj eij p hp with ⟨w1,w2⟩ | ⟨x',y',w1,w2,hx',hy',exy⟩
    ·cases a with
     | none=>cases b with
      | none=>exact .inr (.inl ⟨rfl,rfl⟩)
      | some y=>rw[w2]at nb; cases nb
     | some x=>rw[w1]at na; cases na
    ·cases a with
     | none=>rw[w1]at na; cases na
     | some x=>cases b with
      | none=>rw[w2]at nb; cases nb
      | some y=>
       rw[w1]at na
       rw[w2]at nb
       have na':x'=o.idxOf (K.getD x 0):=Option.some.inj na
       have nb':y'=o.idxOf (K.getD y 0):=Option.some.inj nb
       have mx:=inO i hi u hu oi x ha;have my:=inO j hj v hv oj y hb;refine .inr (.inr ⟨x,y,rfl,rfl,.inr ⟨x',y',hx',hy',?_,?_,exy⟩,ins u hu x ha,ins v hv y hb⟩)
       ·rw[na',List.getElem?_eq_getElem (List.idxOf_lt_length_iff.mpr mx),List.getElem_idxOf]
       ·rw[nb',List.getElem?_eq_getElem (List.idxOf_lt_length_iff.mpr my),List.getElem_idxOf]
  ·exact .inl ⟨by rw[gu]; exact List.getElem?_eq_none (by omega),by rw[gv]; exact List.getElem?_eq_none (by omega)⟩
 intro i j hi hj e
 have hio:i<o.length:=by omega
 have hjo:j<o.length:=by omega
 obtain⟨u,hu,eu⟩:=kM (olt _ (List.getElem_mem hio))
 obtain⟨v,hv,ev⟩:=kM (olt _ (List.getElem_mem hjo))
 have q:=ix E bis (R.length * R.length) u v (.inr ⟨i,j,hi,hj,by rw[List.getElem?_eq_getElem hio]; exact congrArg some eu.symm,by rw[List.getElem?_eq_getElem hjo]; exact congrArg some ev.symm,e⟩) hu hv
 have hkR:(af R).length=R.length:=bE R _
 have q':(af R)[u]? = (af R)[v]?:=q
 have q2:(af R).getD u 0=(af R).getD v 0:=by rw[List.getD_eq_getElem?_getD,List.getD_eq_getElem?_getD,q']
 rw[eu,ev]at q2
 exact(List.getElem_inj ond).mp q2
theorem fG(f:Nat→Nat):∀ (x:List (Option Nat)) (o:List Nat),(∀ a,(a∈o∨some a∈x)→∀ b,(b∈o∨some b∈x)→f a=f b→a=b)→aE (o.map f) (x.map (Option.map f))=(aE o x).map f
 | [],o,_=>rfl
 | none::x,o,h=>fG f x o fun a ha b hb=>h a (by rcases ha with z | z <;> simp[z]) b (by rcases hb with z | z <;> simp[z])
 | some k::x,o,h=>by
  show aE (if f k∈o.map f then o.map f else o.map f++[f k]) (x.map (Option.map f))=(aE (if k∈o then o else o++[k]) x).map f
  by_cases hm:k∈o
  ·rw[if_pos hm,if_pos (List.mem_map.mpr ⟨k,hm,rfl⟩)]
   exact fG f x o fun a ha b hb=>h a (by rcases ha with z | z <;> simp[z]) b (by rcases hb with z | z <;> simp[z])
  ·have hn:f k∉o.map f:=fun z=>by
    obtain⟨a,ha,e⟩:=List.mem_map.mp z
    have:=h a (.inl ha) k (.inr (by simp)) e
    exact hm (this ▸ ha)
   rw[if_neg hm,if_neg hn]
   have conv:∀ a,(a∈o++[k]∨some a∈x)→(a∈o∨some a∈some k::x):=fun a ha=>by
    rcases ha with z | z
    ·rcases List.mem_append.mp z with z | z
     ·exact .inl z
     ·rw[List.mem_singleton.mp z]; exact .inr List.mem_cons_self
    ·exact .inr (List.mem_cons_of_mem _ z)
   have ih:=fG f x (o++[k]) fun a ha b hb=>h a (conv a ha) b (conv b hb)
   rw[List.map_append]at ih
   exact ih
theorem jn(P:Nat→Bool)(f:Nat→Option Nat)(t:Nat):∀ (l o:List Nat),t∈o→(∀ p∈l,P p=false→f p=some t)→aE o ((l.filter P).map f)=aE o (l.map f)
 | [],_,_,_=>rfl
 | p::l,o,ht,h=>by
  have ih:=fun o ht=>jn P f t l o ht fun q hq=>h q (List.mem_cons_of_mem _ hq)
  cases hp:P p with
  | true=>
   rw[List.filter_cons_of_pos hp,List.map_cons,List.map_cons]
   cases hf:f p with
   | none=>exact ih o ht
   | some k=>
    show aE (if k∈o then o else o++[k]) _=aE (if k∈o then o else o++[k]) _
    by_cases hk:k∈o
    ·rw[if_pos hk]; exact ih o ht
    ·rw[if_neg hk]; exact ih _ (List.mem_append_left _ ht)
  | false=>
   rw[List.filter_cons_of_neg (by simp[hp]),List.map_cons,h p List.mem_cons_self hp]
   show _=aE (if t∈o then o else o++[t]) _
   rw[if_pos ht]; exact ih o ht
theorem jT{M:aL}(t:Nat):∀ s,∃ u,aA M (t+s)=aA M t++u
 | 0=>⟨[],by simp⟩
 | s+1=>by
  obtain⟨u,hu⟩:=jT t s
  obtain⟨v,hv⟩:=je (M:=M) (t+s)
  exact⟨u++v,by rw[show t+(s+1)=t+s+1 by omega,hv,hu,List.append_assoc]⟩
theorem kD{M:aL}(hi:cS M)(h0:1≤M.length)(t:Nat):∃ u,ay M=aA M t++u:=by
 rcases Nat.lt_or_ge t M.length with h | h
 ·obtain⟨u,hu⟩:=jT (M:=M) t (M.length - t)
  rw[show t+(M.length - t)=M.length by omega]at hu
  exact⟨u,hu⟩
 ·have hl:=i8 hi h0 M.length
  have:=kg (M:=M) (t:=M.length) hl (t - M.length)
  rw[show M.length+(t - M.length)=t by omega]at this
  exact⟨[],by rw[this]; unfold ay; simp⟩
theorem m5{l a b:List Nat}(nd:l.Nodup)(h:l=a++b):a.map (fun x=>l.idxOf x)=List.range a.length:=by
 have:=j4 nd a.length (by rw[h,List.length_append]; omega)
 have e:l.take a.length=a:=by rw[h,List.take_left]
 rwa [e]at this
theorem nq{M:aL}{m:Nat}(h:Rm M m):∀ t,aA (aO M) t=List.range (aA M t).length:=by
 obtain⟨ond,olt,ole⟩:=dy h.ins h.n0
 have main:∀ t,aA (aO M) t=(aA M t).map fun x=>(ay M).idxOf x:=by
  intro t
  induction t with
  | zero=>
   show [0]=[(ay M).idxOf 0]
   have h0:=ii M M.length;obtain⟨hl,e⟩:=List.getElem?_eq_some_iff.mp h0
   have:=ond.idxOf_getElem 0 hl
   have e':(ay M)[0]'hl=0:=e
   rw[e']at this
   rw[this]
  | succ t ih=>
   obtain⟨u,hu⟩:=kD h.ins h.n0 t
   show (match (aA (aO M) t)[t]? with | some r=>aE (aA (aO M) t) ((aO M).getD r []) | none=>aA (aO M) t)=List.map _ (match (aA M t)[t]? with | some r=>aE (aA M t) (M.getD r []) | none=>aA M t)
   rw[ih,List.getElem?_map]
   cases e:(aA M t)[t]? with
   | none=>rfl
   | some r=>
    show aE _ ((aO M).getD ((ay M).idxOf r) [])=_
    have hro:r∈ay M:=by rw[hu]; exact List.mem_append_left _ (List.mem_of_getElem? e)
    have hlt:=List.idxOf_lt_length_iff.mpr hro
    have hrow:(aO M).getD ((ay M).idxOf r) []=dY (ay M) (M.getD r []):=by
     unfold aO;rw[List.getD_eq_getElem?_getD,List.getElem?_map,List.getElem?_eq_getElem hlt,List.getElem_idxOf]; rfl
    rw[hrow];unfold dY;refine fG _ _ _ fun a ha b hb e2=>?_
    have mem:∀ a,(a∈aA M t∨some a∈M.getD r [])→a∈ay M:=fun a ha=>by
     rcases ha with z | z
     ·rw[hu]; exact List.mem_append_left _ z
     ·exact cU h.ins h.n0 hro z
    have h1:=List.getElem_idxOf (List.idxOf_lt_length_iff.mpr (mem a ha));have h2:=List.getElem_idxOf (List.idxOf_lt_length_iff.mpr (mem b hb));rw[← h1,← h2]; congr 1
 intro t
 obtain⟨u,hu⟩:=kD h.ins h.n0 t
 rw[main,m5 ond hu]
theorem qC{x:List (Option Nat)}{m:Nat}(h:x.length=m):(List.range m).map (fun p=>x.getD p none)=x:=by
 refine List.ext_getElem (by simp[h]) fun i h1 h2=>?_
 rw[List.getElem_map,List.getElem_range,aF h2]
theorem kF{R:aL}{m:Nat}(h:Rm R m):∀ t,aA (ck (ae R) (places (ae R) m)) t=List.range (aA (merged R) t).length:=by
 have hN:=h.least;have hb:=nq h.merged;intro t
 have:aA (ck (ae R) (places (ae R) m)) t=aA (ae R) t:=by
  induction t with
  | zero=>rfl
  | succ t ih=>
   show (match (aA (ck (ae R) (places (ae R) m)) t)[t]? with | some r=>aE (aA (ck (ae R) (places (ae R) m)) t) ((ck (ae R) (places (ae R) m)).getD r []) | none=>aA (ck (ae R) (places (ae R) m)) t)=(match (aA (ae R) t)[t]? with | some r=>aE (aA (ae R) t) ((ae R).getD r []) | none=>aA (ae R) t)
   rw[ih]
   cases e:(aA (ae R) t)[t]? with
   | none=>rfl
   | some r=>
    have hr:r<(ae R).length:=(cG hN.ins hN.n0 t).2 r (List.mem_of_getElem? e)
    show aE _ ((ck (ae R) (places (ae R) m)).getD r [])=aE _ ((ae R).getD r [])
    rw[ij hr];have e2:=jn (cV (ae R)) (fun p=>((ae R).getD r []).getD p none) r (List.range m) (aA (ae R) t) (List.mem_of_getElem? e) fun p _ hp=>ik hp hr
    have e3:(List.range m).map (fun p=>((ae R).getD r []).getD p none)=(ae R).getD r []:=qC (by rw[aF hr]; exact hN.row _ (List.getElem_mem hr))
    rw[e3]at e2
    exact e2
 rw[this];exact hb t
theorem lj{R:aL}{m:Nat}(h:Rm R m){t:Nat}(ht:t<(ae R).length):t<(aA (merged R) t).length:=by
 have hM:=h.merged;refine Classical.byContradiction fun hn=>?_
 have hl:(ae R).length=(ay (merged R)).length:=leastN_len
 obtain⟨ond,olt,ole⟩:=dy hM.ins hM.n0
 have:=iR (M:=merged R) (t:=t) (by omega) (by omega)
 rw[this]at hn
 omega
theorem nD{R:aL}{m:Nat}(h:Rm R m):af (ck (ae R) (places (ae R) m))=List.range (ae R).length:=by
 have hkl:(af (ck (ae R) (places (ae R) m))).length=(ae R).length:=by
  rw[show af (ck (ae R) (places (ae R) m))=iter _ _ from rfl,bE,cI]
 have:=qS (l:=af (ck (ae R) (places (ae R) m))) (bY _ _) fun i j hi hj e=>qf h i j (by omega) (by omega) e
 rw[hkl]at this
 exact this
abbrev nV (k:Nat):V:=.int (k:Int)
structure dA (R:aL) (m:Nat):Prop where
 n0:1≤R.length
 n1:R.length≤60
 m1:m≤16
 row:∀ x∈R,x.length=m
 ins:cS R
def NumAt(H:Hp)(p:Addr)(k v:Nat):Prop:=(∃ ks:List Nat,H p=some (.lst (ks.map nV))∧ks[k]? = some v)∨∃ kvs,H p=some (.dK kvs)∧aX kvs (.inl (k:Int))=some (nV v)
theorem NumAt.mono{H H':Hp}{p:Addr}{k v:Nat}(h:NumAt H p k v)(sm:Same H H'):NumAt H' p k v:=by
 rcases h with ⟨ks,h1,h2⟩ | ⟨kvs,h1,h2⟩
 ·exact .inl ⟨ks,sm _ _ h1,h2⟩
 ·exact .inr ⟨kvs,sm _ _ h1,h2⟩
def lx:Sp:=fun vs H Q _=>∃ (p b:Addr) (x:List (Option Nat)) (f:Nat→Nat),vs=[.ref p,.ref b]∧H b=some (.lst (x.map aG))∧x.length≤1000∧(∀ k,some k∈x→NumAt H p k (f k))∧
 ∀ (L:Addr) (H':Hp),Same H H'→H L=none→H' L=some (.lst ((x.map (Option.map f)).map aG))→Q (.ref L) H'
def nQ:Sp:=fun vs H Q _=>∃ (p q:Addr) (R:aL) (m:Nat) (as:List Addr) (ks:List Nat),vs=[.ref p,.ref q]∧RoomsAs H p R as∧dA R m∧H q=some (.lst (ks.map nV))∧ks.length=R.length∧
 ∀ (L:Addr) (H':Hp),Same H H'→H L=none→H' L=some (.lst ((finer R ks).map nV))→Q (.ref L) H'
def ow:Sp:=fun vs H Q _=>∃ (p:Addr) (R:aL) (m:Nat) (as:List Addr) (mo:Nat),vs=[.ref p,nV mo]∧R.length≤mo∧RoomsAs H p R as∧dA R m∧
 ∀ (L:Addr) (H':Hp),Same H H'→H L=none→H' L=some (.lst ((af R).map nV))→Q (.ref L) H'
section
variable{P:Program}{w:World}{K:PySem.W.Frag}{mg:Str→Option Value}{base:Heap}
theorem oy(D:DefAt K mg "ways_by" bF):bv P w K mg base 1 "ways_by" ["numbers", "ways"] lx:=by
 refine D.cal oN (fun _ _ _ _ _ _ us hl=>match us,hl with | [_,_],_=>rfl) (fun vs H Q E h=>by obtain⟨p,b,x,f,rfl,_⟩:=h; rfl) (fun f cdv A outer s H vs Q E hr h=>?_)
 obtain⟨p,b,x,f,rfl,hb,hx,hn,q⟩:=h
 refine⟨_,(ap (bg (di (CompSc.to (fsc:=(defScope bF)) (N:=["numbers", "ways"]) (N0:=["numbers", "ways"]) (T:=["way"]) ⟨by decide +kernel,by decide +kernel,by decide +kernel,by decide +kernel,by decide +kernel,by decide +kernel,by decide +kernel⟩ rfl rfl) rfl (cr K (pv 1)) (fun _ _ _ _=>(bb 2 (show (["numbers", "ways", "way"]:List Str).Nodup from by decide +kernel) (hx:=(fz (defScope bF) (by decide +kernel))) (hf:=iI (defScope bF) (by decide +kernel)))) (bU (show (["numbers", "ways"]:List Str).length≤2 from by decide)) (fun _ _ _ _=>cm) (fun _ _ _ _=>(rT (aZ i9 (pv 2 (hv:=(bQ (defScope bF) (by decide +kernel)))) cE (bd _)) cE (aB (zP K) (pv 0 (hv:=(bQ (defScope bF) (by decide +kernel)))) (pv 2 (hv:=(bQ (defScope bF) (by decide +kernel)))) (fun _ _=>rfl))))))),?_⟩
 walk_at "rd1";refine⟨⟨_,SqL.of hb⟩,fun L hL=>?_⟩
 refine de (xs:=x.map aG) (fun i ys H'=>Same H H'∧H' L=some (.lst ys)∧ys=((x.take i).map (Option.map f)).map aG) ⟨au hL _,ai,rfl⟩ (fun i ys H' _ h=>SqL.of (h.1 _ _ hb)) ?_ ?_
 ·rintro i ys H' v hv hi ⟨sm,hl,rfl⟩
  rw[List.length_map]at hi
  rw[List.getElem?_map,List.getElem?_eq_getElem hi]at hv
  cases hv;have hz:(((x.take i).map (Option.map f)).map aG).length=i:=by simp; omega
  have fin:∀ z,z=aG ((x[i]).map f)→fE (x.map aG).length i (fun i ys H'=>Same H H'∧H' L=some (.lst ys)∧ys=((x.take i).map (Option.map f)).map aG) L (((x.take i).map (Option.map f)).map aG) z H':=fun z e=>by
   subst e;refine fJ (by rw[List.length_map]; exact hi) hz (by rw[List.length_map]; exact bM (by omega)) hl ⟨sm.upd hL _,ai,?_⟩
   rw[List.take_add_one,List.getElem?_eq_getElem hi,List.map_append,List.map_append]; rfl
  have hm:=List.getElem_mem hi
  cases hxi:x[i] with
  | none=>
   rw[hxi]at fin
   walk_at "rd1";refine bp (fun c=>?_) (fun c=>?_)
   ·exact fin _ rfl
   ·exact absurd rfl c
  | some k=>
   rw[hxi]at fin hm
   walk_at "rd1";refine bp (fun c=>?_) (fun c=>?_)
   ·cases c
   ·rcases(hn k hm).mono sm with ⟨ks,h1,h2⟩ | ⟨kvs,h1,h2⟩
    ·exact .inl ⟨_,_,.inl (SqL.of h1),aC (by rw[List.getElem?_map,h2]; rfl),fin _ rfl⟩
    ·exact .inr ⟨p,kvs,.inl (k:Int),_,rfl,rfl,h1,h2,fin _ rfl⟩
 ·rintro ys H' ⟨sm,hl,rfl⟩
  rw[List.length_map,List.take_length]at hl
  exact q L H' sm hL hl
def cW(m:Nat × List (Option Nat)):cT:=((m.1:Int),m.2.map (Option.map fun n:Nat=>(n:Int)))
theorem tU{m m':Nat × List (Option Nat)}(h:cW m=cW m'):m=m':=by
 obtain⟨a,b⟩:=m
 obtain⟨c,d⟩:=m'
 unfold cW at h;have h1:(a:Int)=(c:Int):=congrArg (·.1) h
 have h2:b.map (Option.map fun n:Nat=>(n:Int))=d.map (Option.map fun n:Nat=>(n:Int)):=congrArg (·.2) h
 have h3:b=d:=by
  refine List.map_inj_right (f:=Option.map fun n:Nat=>(n:Int)) (fun x y e=>?_) |>.mp h2
  cases x <;> cases y <;> simp_all
  omega
 rw[h3,show a=c by omega]
def cD(k:Nat):List (Nat × List (Option Nat))→List (cT × V)
 | []=>[]
 | m::ms=>(cW m,nV k)::cD (k+1) ms
theorem iz:∀ (F:List (Nat × List (Option Nat))) (k:Nat),(cD k F).length=F.length
 | [],k=>rfl
 | m::F,k=>by show (cD (k+1) F).length+1=_; rw[iz F]; rfl
theorem jr:∀ (F:List (Nat × List (Option Nat))) (k:Nat) (m:Nat × List (Option Nat)),cD k (F++[m])=cD k F++[(cW m,nV (k+F.length))]
 | [],k,m=>rfl
 | x::F,k,m=>by
  show (cW x,nV k)::cD (k+1) (F++[m])=_
  rw[jr F,List.length_cons,show k+1+F.length=k+(F.length+1) by omega]; rfl
theorem fK:∀ (F:List (Nat × List (Option Nat))) (k:Nat) (m:Nat × List (Option Nat)),aX (cD k F) (cW m)=if m∈F then some (nV (k+gK m F)) else none
 | [],k,m=>rfl
 | x::F,k,m=>by
  by_cases h:x=m
  ·subst h
   rw[if_pos List.mem_cons_self,tF];show aX ((cW x,nV k)::cD (k+1) F) (cW x)=_
   simp[aX]
  ·have hn:¬ cW x=cW m:=fun z=>h (tU z)
   have e:aX (cD k (x::F)) (cW m)=aX (cD (k+1) F) (cW m):=by
    show aX ((cW x,nV k)::cD (k+1) F) (cW m)=_
    simp[aX,hn]
   rw[e,fK F]
   by_cases hm:m∈F
   ·rw[if_pos hm,if_pos (List.mem_cons_of_mem _ hm),ra h,show k+1+gK m F=k+(gK m F+1) by omega]
   ·rw[if_neg hm,if_neg (by simp[Ne.symm h,hm])]
theorem vt(x:List (Option Nat)):x.map aG=(x.map (Option.map fun n:Nat=>(n:Int))).map bL:=by
 rw[List.map_map];refine List.map_congr_left fun o _=>?_
 cases o <;> rfl
theorem DN.updL{H:Hp}{a fp:Addr}{kvs:List (cT × V)}{xs:List V}{o:HO}(h:DN P w H a kvs)(hf:H fp=some (.lst xs)):DN P w (upd H fp o) a kvs:=by
 obtain⟨ys,h1,h2,h3,h4⟩:=h
 have ht:∀ c zs,H c=some (.tup zs)→upd H fp o c=some (.tup zs):=fun c zs e=>by rw[am (fF e hf (fun z=>nomatch z))]; exact e
 exact⟨ys,by rw[am (fF h1 hf (fun z=>nomatch z))]; exact h1,h2,h3,Paired.imp' (fun p q z=>⟨z.1,z.2.1.mono ht,z.2.2⟩) h4⟩
theorem DN.keyUpd{H:Hp}{a b:Addr}{k:cT}{kvs:List (cT × V)}{u:HO}(h:DN P w H a kvs)(hk:KeyAt H k b):KeyAt (upd H a u) k b:=by
 obtain⟨ys,h1,_⟩:=h
 exact hk.mono fun c zs e=>by rw[am (fF e h1 (fun z=>nomatch z))]; exact e
theorem sV(D:DefAt K mg "finer_kinds" aH) (z_enumerate:mg "enumerate" = none) (z_tuple:mg "tuple" = none) (z_len:mg "len" = none) (c_ways_by:bv P w K mg base 1 "ways_by" ["numbers", "ways"] lx) :
  bv P w K mg base 2 "finer_kinds" ["rooms", "kinds"] nQ:=by
 refine D.cal sc_finer_kinds (fun _ _ _ _ _ _ us hl=>match us,hl with | [_,_],_=>rfl) (fun vs H Q E h=>by obtain⟨p,q,R,m,as,ks,rfl,_⟩:=h; rfl) (fun f cdv A outer s H vs Q E hr h=>?_)
 obtain⟨p,q,R,m,as,ks,rfl,hR,ok,hq,hlk,qq⟩:=h
 obtain⟨h1,h2,h3⟩:=hR
 have n1:=ok.n1
 refine⟨_,(ab (ax 2 sc_finer_kinds.nd sG)
   (ab (ax 3 sc_finer_kinds.nd (cj ac))
   (ab (b_ PassesOwn.never rfl (ir K Bi z_enumerate (aa (pv 0) ac)) (h7 K (n:=2) (cn (bb 4 sc_finer_kinds.nd) (cn (bb 5 sc_finer_kinds.nd) hU))) (ab (ax 6 sc_finer_kinds.nd (dZ (aa (aB (aM K) (pv 1) (pv 4) (fun _ _=>rfl)) (aa (cJ (qh K) z_tuple mS (aa (aW c_ways_by hr (aa (pv 1) (aa (pv 5) ac))) ac)) ac))))
   (ab (bZ (aZ (qK hr) (pv 6) (pv 2) (by with_unfolding_all rfl)) (ap (cz (bq rB z_len bR (aa (pv 2) ac)) (cL (pv 2) (pv 6) (xX hr)))) bD)
   (ap (cC (ci K PySem.F.plainAttrs_list PySem.F.slot_list_append PySem.F.type_list_append bN (pv 3) (aa (aB (Ab hr) (pv 2) (pv 6) (fun _ _=>rfl)) ac)))))))
   (ap (bg (pv 3)))))),?_⟩
 walk_at "rd1";refine fun sp hsp u hdn=>?_
 generalize hH1:upd H sp u=H1 at hdn ⊢;have sm1:=dc hH1 hsp;walk_at "nx";refine⟨by decide,fun fp hfp=>?_⟩
 have hdn2:=hdn.mono (au hfp (.lst []));generalize hH2:upd H1 fp _=H2 at hdn2 ⊢;have sm2:=dc hH2 hfp;have e2:=gJ hH2;have hsp2:∃ o,H2 sp=some o:=by obtain⟨ys,z,_⟩:=hdn2; exact⟨_,z⟩
 walk_at "nx";refine⟨⟨_,(sm1.trans sm2) _ _ h1⟩,?_⟩
 refine iP (xs:=as.map V.ref) (fun i σ H'=>∃ o4 o5 o6:Option V,σ=[some (.ref p),some (.ref q),some (.ref sp),some (.ref fp),o4,o5,o6]∧Same H H'∧DN P w H' sp (cD 0 (ak [] ((bW R ks).take i)))∧H' fp=some (.lst (((finer R ks).take i).map nV)))
  ⟨none,none,none,rfl,sm1.trans sm2,hdn2,e2⟩ (fun i σ H' _ h=>by obtain⟨_,_,_,_,sm,_⟩:=h; exact SqL.of (sm _ _ h1)) ?_ ?_
 ·rintro i v t σ H' hv ⟨o4,o5,o6,rfl,sm,hdn,hf⟩ ht
  have hia:i<as.length:=by have:=(List.getElem?_eq_some_iff.mp hv).1; simpa using this
  have hi:i<R.length:=by omega
  rw[List.getElem?_map,List.getElem?_eq_getElem hia]at hv
  cases hv;have hrow:=h3 i _ _ (List.getElem?_eq_getElem hia) (List.getElem?_eq_getElem hi);have hkd:ks[i]? = some (ks.getD i 0):=by rw[List.getD_eq_getElem?_getD,List.getElem?_eq_getElem (by omega)]; rfl
  have hms:(bW R ks)[i]? = some (mark R ks i):=gD hi
  have hdt:=hdn.mono (au ht (.tup [nV i,.ref as[i]]));have ett:upd H' t (.tup [nV i,.ref as[i]]) t=some (.tup [nV i,.ref as[i]]):=ai
  have smt:=sm.trans (au ht (.tup [nV i,.ref as[i]]));have hft:=(au ht (.tup [nV i,.ref as[i]])) _ _ hf;generalize upd H' t (.tup [nV i,.ref as[i]])=Ht at hdt ett smt hft ⊢;walk_at "rd1";refine⟨t,_,rfl,SqT.of ett,rfl,?_⟩
  walk_at "rd1";refine⟨_,_,.inl (SqL.of (smt _ _ hq)),aC (by rw[List.getElem?_map,hkd]; rfl),?_⟩
  refine⟨q,as[i],R[i],fun k=>ks.getD k 0,rfl,smt _ _ hrow,by rw[ok.row _ (List.getElem_mem hi)]; have:=ok.m1; omega,fun k hk=>.inl ⟨ks,smt _ _ hq,?_⟩,fun L H3 sm3 hL hl3=>?_⟩
  ·have:=ok.ins _ (List.getElem_mem hi) k hk
   show ks[k]? = some (ks.getD k 0)
   rw[List.getD_eq_getElem?_getD,List.getElem?_eq_getElem (by omega)]; rfl
  walk_at "rd1";refine⟨_,.inl ⟨SqL.of hl3,fun tp htp=>?_⟩⟩
  generalize hH4:upd H3 tp _=H4
  have sm4:=dc hH4 htp;have e4:=gJ hH4;refine⟨by decide,fun mp hmp=>?_⟩
  generalize hH5:upd H4 mp _=H5
  have sm5:=dc hH5 hmp;have e5:=gJ hH5;have smx:Same Ht H5:=(sm3.trans sm4).trans sm5
  have hke:KeyAt H5 (cW (mark R ks i)) mp:=by
   refine⟨tp,e5,?_⟩
   have e6:=sm5 _ _ e4;rw[e6,vt];show some (HO.tup _)=some (HO.tup (((R.getD i []).map (Option.map fun k=>ks.getD k 0)).map (Option.map fun n:Nat=>(n:Int)) |>.map bL))
   rw[List.getD_eq_getElem?_getD,List.getElem?_eq_getElem hi]; rfl
  have hd5:=hdt.mono smx;have hf5:=smx _ _ hft;have sm05:=smt.trans smx;have hspn:H fp=none:=sm1.free hfp
  have htk:(bW R ks).take (i+1)=(bW R ks).take i++[mark R ks i]:=by rw[List.take_add_one,hms]; rfl
  have hFl:(ak [] ((bW R ks).take i)).length≤60:=by
   have:=cK ((bW R ks).take i) []
   rw[List.length_take,lf]at this
   simp at this; omega
  refine gF (fun σ' H'=>∃ (b:V),σ'=[some (.ref p),some (.ref q),some (.ref sp),some (.ref fp),some (nV i),some (.ref as[i]),some (.ref mp)]∧Same H H'∧KeyAt H' (cW (mark R ks i)) mp∧DN P w H' sp (cD 0 (ak [] ((bW R ks).take (i+1))))∧H' fp=some (.lst (((finer R ks).take i).map nV))) (fun kk hkk=>?_) ?_
  ·walk_at "rd1"
   refine⟨mp,sp,_,_,rfl,rfl,hd5,hke,?_⟩
   rw[fK]
   by_cases hm:mark R ks i∈ak [] ((bW R ks).take i)
   ·rw[if_pos hm]
    walk_at "rd1";refine hkk _ _ ⟨.non,rfl,sm05,hke,?_,hf5⟩
    rw[htk,cv,if_pos hm]; exact hd5
   ·rw[if_neg hm]
    walk_at "rd1";refine⟨sp,_,rfl,hd5,sp,mp,_,_,rfl,rfl,hd5,hke,by rw[fK,if_neg hm],by rw[iz]; exact b6 (by omega),fun u' hdu=>?_⟩
    refine hkk _ _ ⟨.non,rfl,sm05.upd hsp _,DN.keyUpd hd5 hke,?_,?_⟩
    ·rw[htk,cv,if_neg hm,jr,Nat.zero_add]
     rw[iz]at hdu
     exact hdu
    ·obtain⟨ys,z,_⟩:=hd5
     rw[am (fF hf5 z (fun z=>nomatch z))]; exact hf5
  rintro σ' H6 ⟨_,rfl,sm6,hk6,hd6,hf6⟩
  walk_at "nx";have hm6:mark R ks i∈ak [] ((bW R ks).take (i+1)):=(bu _ _ _).mpr (.inr (by rw[htk]; simp))
  refine⟨⟨_,SqL.of hf6⟩,sp,mp,_,_,_,rfl,rfl,hd6,hk6,by rw[fK,if_pos hm6],?_⟩
  walk_at "rd1";refine⟨_,hf6,by rw[List.length_map,List.length_take,dN]; exact b6 (by omega),_,_,_,rfl,sm6.upd hspn _,DN.updL hd6 hf6,?_⟩
  rw[ai,List.take_add_one (l:=finer R ks)];have e:(finer R ks)[i]? = some (gK (mark R ks i) (ak [] ((bW R ks).take (i+1)))):=jo hms
  rw[e,Nat.zero_add,List.map_append]; rfl
 ·rintro σ H' ⟨o4,o5,o6,rfl,sm,hdn,hf⟩
  walk_at "nx";rw[List.length_map,List.take_of_length_le (by rw[dN]; omega)]at hf
  exact qq fp H' sm (sm1.free hfp) hf
theorem ke(ks:List Nat):ks.map nV=(ks.map fun k:Nat=>(k:Int)).map V.int:=by rw[List.map_map]; rfl
theorem ints_inj{a b:List Nat}:(a.map fun k:Nat=>(k:Int))=(b.map fun k:Nat=>(k:Int)) ↔ a=b:=by
 refine List.map_inj_right (fun x y e=>?_)
 omega
theorem tz{R:aL}{ks:List Nat}(h:ks.length=R.length){y:Nat}(hy:y∈finer R ks):y<R.length:=by
 obtain⟨i,hi,e⟩:=List.mem_iff_getElem.mp hy
 have hiR:i<R.length:=by rw[dN]at hi; exact hi
 have e2:(finer R ks)[i]? = some (gK (mark R ks i) (ak [] ((bW R ks).take (i+1)))):=jo (gD hiR)
 rw[List.getElem?_eq_getElem hi,e]at e2
 have e3:=Option.some.inj e2;have hm:mark R ks i∈ak [] ((bW R ks).take (i+1)):=(bu _ _ _).mpr (.inr (by rw[List.take_add_one,gD hiR]; simp))
 have h1:gK (mark R ks i) (ak [] ((bW R ks).take (i+1)))<(ak [] ((bW R ks).take (i+1))).length:=vB hm
 have h2:=cK ((bW R ks).take (i+1)) [];rw[List.length_take,lf]at h2
 simp at h2
 omega
theorem tM(D:DefAt K mg "kinds_upto" aU) (z_max:mg "max" = none) (c_finer_kinds:bv P w K mg base 2 "finer_kinds" ["rooms", "kinds"] nQ):bv P w K mg base 3 "kinds_upto" ["rooms", "most"] ow:=by
 refine D.cal sc_kinds_upto (fun _ _ _ _ _ _ us hl=>match us,hl with | [_,_],_=>rfl) (fun vs H Q E h=>by obtain⟨p,R,m,as,mo,rfl,_⟩:=h; rfl) (fun f cdv A outer s H vs Q E hr h=>?_)
 obtain⟨p,R,m,as,mo,rfl,hmo,hR,ok,q⟩:=h
 have n1:=ok.n1;have h2:=hR.2.1
 refine⟨_,(ab (jZ (CompSc.to (fsc:=(defScope aU)) (N:=["rooms", "most", "kinds", "finer"]) (N0:=["rooms", "most", "kinds", "finer"]) (T:=["room"]) ⟨by decide +kernel,by decide +kernel,by decide +kernel,by decide +kernel,by decide +kernel,by decide +kernel,by decide +kernel⟩ rfl rfl) rfl sc_kinds_upto.nd (i:=2) rfl AB (cr K (pv 0)) (fun _ _ _ _=>(bb 4 (show (["rooms", "most", "kinds", "finer", "room"]:List Str).Nodup from by decide +kernel) (hx:=(fz (defScope aU) (by decide +kernel))) (hf:=iI (defScope aU) (by decide +kernel)))) (bU (show (["rooms", "most", "kinds", "finer"]:List Str).length≤4 from by decide)) (fun _ _ _ _=>cm) (fun _ _ _ _=>ah))
   (ab (ax 3 sc_kinds_upto.nd (aW c_finer_kinds hr (aa (pv 0) (aa (pv 2) ac))))
   (ab (jB PassesOwn.never (aZ (jd K hr) (pv 3) (pv 2) (bd _)) (ab (bZ (aZ ya (bq (qv K) z_max xD (aa (pv 3) ac)) (pv 1) (bd _)) (ap (bg cE)) bD)
   (ab (ax 2 sc_kinds_upto.nd (pv 3))
   (ap (ax 3 sc_kinds_upto.nd (aW c_finer_kinds hr (aa (pv 0) (aa (pv 2) ac))))))))
   (ap (bg (pv 2)))))),?_⟩
 walk_at "rd1";refine⟨⟨_,SqL.of hR.1⟩,fun L hL=>?_⟩
 refine de (xs:=as.map V.ref) (fun i ys H'=>Same H H'∧H' L=some (.lst ys)∧ys=(List.replicate i 0).map nV) ⟨au hL _,ai,rfl⟩ (fun i ys H' _ h=>SqL.of (h.1 _ _ hR.1)) ?_ ?_
 ·rintro i ys H' v hv hi ⟨sm,hl,rfl⟩
  rw[List.length_map]at hi
  walk_at "rd1";refine fJ (by rw[List.length_map]; exact hi) (by simp) (by rw[List.length_map]; exact bM (by omega)) hl ⟨sm.upd hL _,ai,?_⟩
  rw[List.replicate_succ',List.map_append]; rfl
 rintro ys H1 ⟨sm1,hl1,rfl⟩
 rw[List.length_map,h2]at hl1
 have hl1':H1 L=some (.lst ((iter R 0).map nV)):=by
  show _=some (HO.lst ((R.map fun _=>0).map nV))
  rw[List.map_const']; exact hl1
 walk_at "nx";refine⟨p,L,R,m,as,iter R 0,rfl,hR.mono sm1,ok,hl1',bE R 0,fun L2 H2 sm2 hL2 hl2=>?_⟩
 walk_at "nx"
 refine⟨fun mm σ H'=>∃ (t:Nat) (a b:Addr),mm=cy R.length (iter R t)∧mm+t≤R.length * R.length∧σ=[some (.ref p),some (nV mo),some (.ref a),some (.ref b)]∧Same H H'∧H a=none∧H' a=some (.lst ((iter R t).map nV))∧H' b=some (.lst ((iter R (t+1)).map nV))∧H b=none,
  ⟨_,0,L,L2,rfl,by have:=mC R.length (iter R 0); omega,rfl,sm1.trans sm2,hL,sm2 _ _ hl1',hl2,sm1.free hL2⟩,?_⟩
 rintro mm σ H' ⟨t,a,b,rfl,hmm,rfl,sm,ha,hla,hlb,hb⟩
 walk_at "rd1";rw[ke]at hla hlb
 refine⟨0,_,by decide,EqN.ints (SqL.of hlb) (SqL.of hla),?_⟩
 walk_at "rd1"
 by_cases he:iter R (t+1)=iter R t
 ·rw[decide_eq_true (ints_inj.mpr he)]
  walk_at "rd1";walk_at "nx";rw[← ke,iX he (by omega)]at hla
  exact q a H' sm ha hla
 ·rw[decide_eq_false (fun z=>he (ints_inj.mp z))]
  walk_at "rd1";refine⟨fun σ' H'=>∃ mm,mm<cy R.length (iter R t)∧∃ (t':Nat) (a b:Addr),mm=cy R.length (iter R t')∧mm+t'≤R.length * R.length∧σ'=[some (.ref p),some (nV mo),some (.ref a),some (.ref b)]∧Same H H'∧H a=none∧H' a=some (.lst ((iter R t').map nV))∧H' b=some (.lst ((iter R (t'+1)).map nV))∧H b=none,fun _ _ h=>h,?_⟩
  have hne:(iter R (t+1)).map (fun k:Nat=>(k:Int))≠[]:=by
   have h0:=bE R (t+1);have h1:=ok.n0;intro z
   have:=congrArg List.length z
   rw[List.length_map,List.length_nil]at this
   omega
  refine⟨_,SqL.of hlb,hne,fun M hM _=>?_⟩
  have hMlt:M<(R.length:Int):=by
   obtain⟨y,hy,rfl⟩:=List.mem_map.mp hM
   have:=tz (R:=R) (ks:=iter R t) (bE R t) hy
   omega
  walk_at "rd1";refine bp (fun c=>?_) (fun c=>?_)
  ·exfalso; have c':M≥(mo:Int):=by simpa using c
   omega
  walk_at "nx";walk_at "nx";rw[← ke]at hla hlb
  refine⟨p,b,R,m,as,iter R (t+1),rfl,hR.mono sm,ok,hlb,bE R _,fun L3 H3 sm3 hL3 hl3=>?_⟩
  have hlt:=jH (R:=R) (bE R t) (bY R t) he;exact⟨_,hlt,t+1,b,L3,rfl,(by show cy R.length (finer R (iter R t))+(t+1)≤_; omega),rfl,sm.trans sm3,hb,sm3 _ _ hlb,hl3,sm.free hL3⟩
structure NR (H H':Hp) (mp:Addr) (rs:aL) (as:List Addr):Prop where
 at':RoomsAs H' mp rs as
 new:∀ a∈as,H a=none∧a≠mp
 nd:as.Nodup
theorem NR.held{H H':Hp}{mp:Addr}{rs:aL}{as:List Addr}(h:NR H H' mp rs as){a:Addr}(ha:a∈as):∃ o,H' a=some o:=by
 obtain⟨i,hi,e⟩:=List.mem_iff_getElem.mp ha
 have hl:=h.at'.2.1;exact⟨_,h.at'.2.2 i a _ (by rw[← e]; exact List.getElem?_eq_getElem hi) (List.getElem?_eq_getElem (by omega))⟩
theorem NR.mono{H H' H2:Hp}{mp:Addr}{rs:aL}{as:List Addr}(h:NR H H' mp rs as)(sm:Same H' H2):NR H H2 mp rs as:=⟨h.at'.mono sm,h.new,h.nd⟩
theorem NR.push{H H':Hp}{mp L:Addr}{rs:aL}{as:List Addr}{x:List (Option Nat)}{H0:Hp}(h:NR H H0 mp rs as)(sm:Same H0 H')(smH:Same H H0)(hL0:H0 L=none)(hL:H' L=some (.lst (x.map aG))) :
  NR H (upd H' mp (.lst (as.map V.ref++[.ref L]))) mp (rs++[x]) (as++[L]):=by
 obtain⟨h1,h2,h3⟩:=h.at'
 have nL:L≠mp:=Ne.symm (aV h1 hL0)
 refine⟨⟨by rw[ai,List.map_append]; rfl,by simp[h2],fun i a y e1 e2=>?_⟩,fun a ha=>?_,?_⟩
 ·rcases Nat.lt_or_ge i as.length with z | z
  ·rw[List.getElem?_append_left z]at e1
   rw[List.getElem?_append_left (by omega)]at e2
   have hn:=(h.new a (List.mem_of_getElem? e1)).2;rw[am hn]; exact sm _ _ (h3 i a y e1 e2)
  ·rw[List.getElem?_append_right z]at e1
   rw[List.getElem?_append_right (by omega)]at e2
   have hj0:i - as.length=0:=by
    have:=(List.getElem?_eq_some_iff.mp e1).1
    simp at this; omega
   rw[hj0]at e1
   rw[show i - rs.length=0 by omega]at e2
   have e1':L=a:=by simpa using e1
   have e2':x=y:=by simpa using e2
   subst e1' e2';rw[am nL]; exact hL
 ·rcases List.mem_append.mp ha with z | z
  ·exact h.new a z
  ·rw[List.mem_singleton.mp z]; exact⟨smH.free hL0,nL⟩
 ·rw[List.nodup_append]
  refine⟨h.nd,by simp,fun a ha b hb e=>?_⟩
  rw[List.mem_singleton.mp hb]at e
  subst e;obtain⟨o,z⟩:=h.held ha
  rw[hL0]at z; cases z
def uG(g:aL→aL):Sp:=fun vs H Q _=>∃ (p:Addr) (R:aL) (m:Nat) (as:List Addr),vs=[.ref p]∧RoomsAs H p R as∧dA R m∧∀ (L:Addr) (H':Hp) (bs:List Addr),Same H H'→H L=none→NR H H' L (g R) bs→Q (.ref L) H'
def mD:Sp:=fun vs H Q _=>∃ (p kp:Addr) (R:aL) (m:Nat) (as:List Addr),vs=[.ref p,.ref kp]∧RoomsAs H p R as∧dA R m∧H kp=some (.lst ((af R).map nV))∧∀ (L:Addr) (H':Hp) (bs:List Addr),Same H H'→H L=none→NR H H' L (merged R) bs→Q (.ref L) H'
theorem qG(D:DefAt K mg "merged_rooms" aQ) (z_enumerate:mg "enumerate" = none) (z_len:mg "len" = none) (c_ways_by:bv P w K mg base 1 "ways_by" ["numbers", "ways"] lx) :
  bv P w K mg base 4 "merged_rooms" ["rooms", "kinds"] mD:=by
 refine D.cal sc_merged_rooms (fun _ _ _ _ _ _ us hl=>match us,hl with | [_,_],_=>rfl) (fun vs H Q E h=>by obtain⟨p,kp,R,m,as,rfl,_⟩:=h; rfl) (fun f cdv A outer s H vs Q E hr h=>?_)
 obtain⟨p,kp,R,m,as,rfl,hR,ok,hk1,q⟩:=h
 obtain⟨h1,h2,h3⟩:=hR
 have n1:=ok.n1;have hlk:(af R).length=R.length:=bE R _
 have hcn:cH (af R):=bY R _
 refine⟨_,(ab (ax 2 sc_merged_rooms.nd (cj ac))
   (ab (b_ PassesOwn.never rfl (ir K A5 z_enumerate (aa (pv 0) ac)) (h7 K (n:=2) (cn (bb 3 sc_merged_rooms.nd) (cn (bb 4 sc_merged_rooms.nd) hU))) (ap (bZ (aZ d9 (aB (aM K) (pv 1) (pv 3) (fun _ _=>rfl)) (bq (br K) z_len bR (aa (pv 2) ac)) (bd _)) (ap (cC (ci K PySem.F.plainAttrs_list PySem.F.slot_list_append PySem.F.type_list_append bN (pv 2) (aa (aW c_ways_by hr (aa (pv 1) (aa (pv 4) ac))) ac)))) bD)))
   (ap (bg (pv 2))))),?_⟩
 walk_at "rd1";refine⟨by decide,fun mp hmp=>?_⟩
 generalize hH2:upd H mp _=H2
 have sm2:=dc hH2 hmp;have e2:=gJ hH2;have hmpH:H mp=none:=hmp
 walk_at "nx";refine⟨⟨_,sm2 _ _ h1⟩,?_⟩
 refine iP (xs:=as.map V.ref) (fun i σ H'=>∃ (o3 o4:Option V) (bs:List Addr),σ=[some (.ref p),some (.ref kp),some (.ref mp),o3,o4]∧Same H H'∧H' kp=some (.lst ((af R).map nV))∧NR H H' mp (bz R (af R) i) bs)
  ⟨none,none,[],rfl,sm2,sm2 _ _ hk1,⟨e2,rfl,by simp⟩,by simp,List.nodup_nil⟩ (fun i σ H' _ h=>by obtain⟨_,_,_,_,sm,_⟩:=h; exact SqL.of (sm _ _ h1)) ?_ ?_
 ·rintro i v t σ H' hv ⟨o3,o4,bs,rfl,sm,hk,hN⟩ ht
  have hia:i<as.length:=by have:=(List.getElem?_eq_some_iff.mp hv).1; simpa using this
  have hi:i<R.length:=by omega
  rw[List.getElem?_map,List.getElem?_eq_getElem hia]at hv
  cases hv;have hrow:=h3 i _ _ (List.getElem?_eq_getElem hia) (List.getElem?_eq_getElem hi);have hkd:(af R)[i]? = some ((af R).getD i 0):=by rw[List.getD_eq_getElem?_getD,List.getElem?_eq_getElem (by omega)]; rfl
  have st:=au ht (.tup [nV i,.ref as[i]]);have ett:upd H' t (.tup [nV i,.ref as[i]]) t=some (.tup [nV i,.ref as[i]]):=ai
  have smt:=sm.trans st;have hkt:=st _ _ hk;have hNt:=hN.mono st;generalize upd H' t (.tup [nV i,.ref as[i]])=Ht at st ett smt hkt hNt ⊢;have hml:bs.length=(bz R (af R) i).length:=hNt.at'.2.1
  have hms:=ny hcn hlk hi
  have hbl:(bz R (af R) i).length≤60:=by
   show ((List.range _).map _).length≤60
   rw[List.length_map,List.length_range];have:=cK ((af R).take i) []
   rw[List.length_take]at this
   simp at this; omega
  walk_at "rd1";refine⟨t,_,rfl,SqT.of ett,rfl,?_⟩
  walk_at "rd1";refine⟨_,_,.inl (SqL.of hkt),aC (by rw[List.getElem?_map,hkd]; rfl),⟨_,.inl (SqL.of hNt.at'.1),?_⟩⟩
  rw[List.length_map,hml];walk_at "rd1";refine bp (fun c=>?_) (fun c=>?_)
  ·rw[if_pos (by omega)]at hms
   refine⟨⟨_,SqL.of hNt.at'.1⟩,kp,as[i],R[i],fun k=>(af R).getD k 0,rfl,smt _ _ hrow,by rw[ok.row _ (List.getElem_mem hi)]; have:=ok.m1; omega,fun k hk'=>.inl ⟨_,hkt,?_⟩,fun L H3 sm3 hL hl3=>?_⟩
   ·have:=ok.ins _ (List.getElem_mem hi) k hk'
    show (af R)[k]? = some ((af R).getD k 0)
    rw[List.getD_eq_getElem?_getD,List.getElem?_eq_getElem (by omega)]; rfl
   walk_at "rd1";refine⟨_,sm3 _ _ hNt.at'.1,by rw[List.length_map]; exact b6 (by omega),_,_,bs++[L],rfl,(smt.trans sm3).upd hmpH _,?_,?_⟩
   ·rw[am (fun z=>?_)]
    ·exact sm3 _ _ hkt
    ·subst z
     rw[hk1]at hmp; cases hmp
   ·rw[hms]
    have e:R.getD i []=R[i]:=by rw[List.getD_eq_getElem?_getD,List.getElem?_eq_getElem hi]; rfl
    rw[e];exact hNt.push sm3 smt hL hl3
  ·rw[if_neg (by omega)]at hms
   exact⟨_,_,bs,rfl,smt,hkt,by rw[hms]; exact hNt⟩
 ·rintro σ H' ⟨o3,o4,bs,rfl,sm,hk,hN⟩
  walk_at "nx";rw[List.length_map,h2]at hN
  exact q mp H' bs sm hmpH hN
def db(o:List Nat):List (bc × V):=o.map fun k:Nat=>(Sum.inl (k:Int),V.bl true)
theorem kK(k:Nat):∀ (o:List Nat),(aX (db o) (.inl (k:Int))).isSome=decide (k∈o)
 | []=>rfl
 | x::o=>by
  have ih:=kK k o;show (aX ((Sum.inl (x:Int),V.bl true)::db o) (.inl (k:Int))).isSome=_
  by_cases h:x=k
  ·subst h; simp[aX]
  ·have hn:¬ ((Sum.inl (x:Int):bc)=Sum.inl (k:Int)):=fun z=>h (by have:=Sum.inl.inj z; omega)
   have e:aX ((Sum.inl (x:Int),V.bl true)::db o) (.inl (k:Int))=aX (db o) (.inl (k:Int)):=by simp[aX,hn]
   rw[e,ih];simp[Ne.symm h]
theorem qo{k:Nat}{o:List Nat}(h:k∉o):cx (db o) (.inl (k:Int)) (.bl true)=db (o++[k]):=by
 unfold cx
 have hn:((db o).any fun kv=>decide (kv.1=(Sum.inl (k:Int):bc)))=false:=by
  rw[List.any_eq_false];intro x hx
  obtain⟨y,hy,rfl⟩:=List.mem_map.mp hx
  have:y≠k:=fun e=>h (e ▸ hy)
  simp; omega
 rw[if_neg (by rw[hn]; exact Bool.false_ne_true)]
 unfold db;rw[List.map_append]; rfl
def nY:Sp:=fun vs H Q _=>∃ (p:Addr) (R:aL) (m:Nat) (as:List Addr),vs=[.ref p]∧RoomsAs H p R as∧dA R m∧∀ (L:Addr) (H':Hp),Same H H'→H L=none→H' L=some (.lst ((ay R).map nV))→Q (.ref L) H'
theorem xK(D:DefAt K mg "rooms_led_to" aN) (z_len:mg "len" = none):bv P w K mg base 1 "rooms_led_to" ["rooms"] nY:=by
 refine D.cal sc_rooms_led_to (fun _ _ _ _ _ _ us hl=>match us,hl with | [_],_=>rfl) (fun vs H Q E h=>by obtain⟨p,R,m,as,rfl,_⟩:=h; rfl) (fun f cdv A outer s H vs Q E hr h=>?_)
 obtain⟨p,R,m,as,rfl,hR,ok,q⟩:=h
 obtain⟨h1,h2,h3⟩:=hR
 have n1:=ok.n1
 refine⟨_,(ab (ax 1 sc_rooms_led_to.nd (cj (aa ah ac)))
   (ab (ax 2 sc_rooms_led_to.nd (vv (rU ah gL vm) rfl rfl (by decide) (by decide)))
   (ab (ax 3 sc_rooms_led_to.nd ah)
   (ab (jB PassesOwn.never (aZ lL (pv 3) (bq (br K) z_len bR (aa (pv 1) ac)) (bd _)) (ab (ax 4 sc_rooms_led_to.nd (aB (aM K) (pv 1) (pv 3) (fun _ _=>rfl)))
   (ab (b_ PassesOwn.never rfl (cr K (aB (aM K) (pv 0) (pv 4) (fun _ _=>rfl))) (bb 5 sc_rooms_led_to.nd) (ap (bZ (PW.pt' (h_ (aZ im (pv 5) cE (bd _)) (g4 (aZ (qT hr) (pv 5) (pv 2) (by with_unfolding_all rfl))))) (ab (cz gL (cL (pv 2) (pv 5) (uI hr)))
   (ap (cC (ci K PySem.F.plainAttrs_list PySem.F.slot_list_append PySem.F.type_list_append bN (pv 1) (aa (pv 5) ac))))) bD)))
   (ap (ax 3 sc_rooms_led_to.nd (aq a_ (pv 3) ah))))))
   (ap (bg (pv 1))))))),?_⟩
 walk_at "rd1";refine⟨by decide,fun op hop=>?_⟩
 generalize hH1:upd H op _=H1
 have sm1:=dc hH1 hop;have e1:=gJ hH1;walk_at "nx";refine fun dp hdp=>⟨ai,[(.inl 0,.bl true)],rfl,by decide,?_⟩
 rw[uL];generalize hH2:upd H1 dp _=H2
 have sm2:=dc hH2 hdp;have e2:H2 dp=some (.dK (db [0])):=gJ hH2
 have hdpH:H dp=none:=sm1.free hdp
 walk_at "nx";walk_at "nx"
 refine⟨fun mm σ H'=>∃ (t:Nat) (o4 o5:Option V),mm=R.length - t∧t≤(aA R t).length∧σ=[some (.ref p),some (.ref op),some (.ref dp),some (.int (t:Int)),o4,o5]∧Same H H'∧H' op=some (.lst ((aA R t).map nV))∧H' dp=some (.dK (db (aA R t))),
  ⟨_,0,none,none,rfl,Nat.zero_le _,rfl,sm1.trans sm2,sm2 _ _ e1,e2⟩,?_⟩
 rintro mm σ H' ⟨t,o4,o5,rfl,htl,rfl,sm,ho,hd⟩
 have hbl:=i8 ok.ins ok.n0 t;have hbf:=(cG ok.ins ok.n0 t).2;walk_at "rd1";refine⟨_,.inl (SqL.of ho),?_⟩
 rw[List.length_map];refine bp (fun c=>?_) (fun c=>?_)
 ·have ht:t<(aA R t).length:=by simpa using c
  refine⟨fun σ' H'=>∃ mm,mm<R.length - t∧∃ (t':Nat) (o4 o5:Option V),mm=R.length - t'∧t'≤(aA R t').length∧σ'=[some (.ref p),some (.ref op),some (.ref dp),some (.int (t':Int)),o4,o5]∧Same H H'∧H' op=some (.lst ((aA R t').map nV))∧H' dp=some (.dK (db (aA R t'))),fun _ _ h=>h,?_⟩
  walk_at "rd1";refine⟨_,_,.inl (SqL.of ho),aC (by rw[List.getElem?_map,List.getElem?_eq_getElem ht]; rfl),?_⟩
  have hr':(aA R t)[t]<R.length:=hbf _ (List.getElem_mem ht)
  have hbt:(aA R t)[t]? = some (aA R t)[t]:=List.getElem?_eq_getElem ht
  have hb1:aA R (t+1)=aE (aA R t) (R.getD (aA R t)[t] []):=by
   show (match (aA R t)[t]? with | some r=>aE (aA R t) (R.getD r []) | none=>aA R t)=_
   rw[hbt]
  generalize (aA R t)[t]=r at hr' hbt hb1 ⊢;have hra:r<as.length:=by omega
  have hrow:=h3 r _ _ (List.getElem?_eq_getElem hra) (List.getElem?_eq_getElem hr');have hgd:R.getD r []=R[r]:=by rw[List.getD_eq_getElem?_getD,List.getElem?_eq_getElem hr']; rfl
  rw[hgd]at hb1
  have hrm:=ok.row _ (List.getElem_mem hr');have hm1:=ok.m1;walk_at "nx";refine⟨_,_,.inl (SqL.of (sm _ _ h1)),aC (by rw[List.getElem?_map,List.getElem?_eq_getElem hra]; rfl),?_⟩
  walk_at "rd1";refine⟨⟨_,SqL.of (sm _ _ hrow)⟩,?_⟩
  refine i3 (xs:=(R[r]).map aG) (fun j σ H'=>∃ o5,σ=[some (.ref p),some (.ref op),some (.ref dp),some (.int (t:Int)),some (nV r),o5]∧Same H H'∧H' op=some (.lst ((aE (aA R t) ((R[r]).take j)).map nV))∧H' dp=some (.dK (db (aE (aA R t) ((R[r]).take j)))))
   ⟨o5,rfl,sm,ho,hd⟩ (fun j σ H' _ h=>by obtain⟨_,_,sm,_⟩:=h; exact SqL.of (sm _ _ hrow)) ?_ ?_
  ·rintro j v σ H' hv ⟨o5,rfl,sm,ho,hd⟩
   have hj:j<(R[r]).length:=by have:=(List.getElem?_eq_some_iff.mp hv).1; simpa using this
   rw[List.getElem?_map,List.getElem?_eq_getElem hj]at hv
   cases hv;have htk:(R[r]).take (j+1)=(R[r]).take j++[(R[r])[j]]:=by rw[List.take_add_one,List.getElem?_eq_getElem hj]; rfl
   have hes:=gT ((R[r]).take j) (aA R t) (R[r])[j];rw[← htk]at hes
   have hxm:=List.getElem_mem hj;generalize (R[r])[j]=xo at hes hxm ⊢
   have hel:(aE (aA R t) ((R[r]).take j)).length≤R.length:=by
    refine iq _ _ (d7 _ _ (cG ok.ins ok.n0 t).1) fun y hy=>?_
    rcases(c_ _ _ _).mp hy with z | z
    ·exact hbf y z
    ·exact ok.ins _ (List.getElem_mem hr') y (List.mem_of_mem_take z)
   have hop':op≠dp:=by
    rintro rfl
    rw[e1]at hdp; cases hdp
   cases xo with
   | none=>
    walk_at "rd1";refine bp (fun c=>?_) (fun c=>?_)
    ·exact absurd c (by decide)
    ·exact⟨_,rfl,sm,by rw[hes]; exact ho,by rw[hes]; exact hd⟩
   | some k=>
    rw[show aG (some k)=V.int (k:Int) from rfl];walk_at "rd1";refine bp (fun c=>?_) (fun c=>?_)
    ·refine⟨dp,_,.inl (k:Int),rfl,rfl,hd,?_⟩
     rw[kK]
     by_cases hm:k∈aE (aA R t) ((R[r]).take j)
     ·rw[decide_eq_true hm]
      walk_at "rd1";simp only[if_pos hm]at hes
      exact⟨_,rfl,sm,by rw[hes]; exact ho,by rw[hes]; exact hd⟩
     ·rw[decide_eq_false hm]
      simp only[if_neg hm]at hes
      walk_at "rd1";refine⟨dp,_,.inl (k:Int),rfl,rfl,hd,by show (List.map _ _).length<_; rw[List.length_map]; exact b6 (by omega),?_⟩
      rw[qo hm];walk_at "nx";have ho':upd H' dp (.dK (db (aE (aA R t) ((R[r]).take j)++[k]))) op=some (.lst ((aE (aA R t) ((R[r]).take j)).map nV)):=by rw[am hop']; exact ho
      refine⟨⟨_,SqL.of ho'⟩,_,ho',by rw[List.length_map]; exact b6 (by omega),_,rfl,(sm.upd hdpH _).upd hop _,?_,?_⟩
      ·rw[ai,hes,List.map_append]; rfl
      ·rw[am (Ne.symm hop'),ai,hes]
    ·exact absurd (by simp) c
  ·rintro σ H' ⟨o5,rfl,sm,ho,hd⟩
   rw[List.length_map,List.take_length,← hb1]at ho hd
   walk_at "nx";refine⟨_,(by omega:R.length - (t+1)<R.length - t),t+1,some (nV r),o5,rfl,?_,?_,sm,ho,hd⟩
   ·obtain⟨u,hu⟩:=je (M:=R) t
    rw[hu,List.length_append]; omega
   ·rw[show ((t+1:Nat):Int)=(t:Int)+1 by omega]
 ·have ht:(aA R t).length≤t:=by
   have:¬ ((t:Int)<((aA R t).length:Int)):=by simpa using c
   omega
  walk_at "nx";rw[iR ht (by omega)]at ho
  exact q op H' sm hop ho
def bK(k:Nat):List Nat→List (bc × V)
 | []=>[]
 | r::o=>(Sum.inl (r:Int),nV k)::bK (k+1) o
theorem jl:∀ (o:List Nat) (k:Nat),(bK k o).length=o.length
 | [],_=>rfl
 | r::o,k=>by show (bK (k+1) o).length+1=_; rw[jl o]; rfl
theorem jk:∀ (o:List Nat) (k:Nat),∀ kv∈bK k o,∃ r∈o,kv.1=Sum.inl (r:Int)
 | [],_,kv,h=>by simp[bK]at h
 | r::o,k,kv,h=>by
  rcases List.mem_cons.mp h with rfl | h
  ·exact⟨r,List.mem_cons_self,rfl⟩
  ·obtain⟨x,hx,e⟩:=jk o (k+1) kv h
   exact⟨x,List.mem_cons_of_mem _ hx,e⟩
theorem iK:∀ (o:List Nat) (k r:Nat),bK k (o++[r])=bK k o++[(Sum.inl (r:Int),nV (k+o.length))]
 | [],k,r=>rfl
 | x::o,k,r=>by
  show (Sum.inl (x:Int),nV k)::bK (k+1) (o++[r])=_
  rw[iK o,List.length_cons,show k+1+o.length=k+(o.length+1) by omega]; rfl
theorem nE{o:List Nat}{r:Nat}(h:r∉o):cx (bK 0 o) (.inl (r:Int)) (nV o.length)=bK 0 (o++[r]):=by
 unfold cx
 have hn:((bK 0 o).any fun kv=>decide (kv.1=(Sum.inl (r:Int):bc)))=false:=by
  rw[List.any_eq_false];intro x hx
  obtain⟨y,hy,e⟩:=jk o 0 x hx
  have:y≠r:=fun e=>h (e ▸ hy)
  rw[e]; simp; omega
 rw[if_neg (by rw[hn]; exact Bool.false_ne_true),iK,Nat.zero_add]
theorem ju:∀ (o:List Nat) (k r:Nat),r∈o→aX (bK k o) (.inl (r:Int))=some (nV (k+o.idxOf r))
 | [],_,_,h=>by cases h
 | x::o,k,r,h=>by
  by_cases e:x=r
  ·subst e
   rw[List.idxOf_cons_self];show aX ((Sum.inl (x:Int),nV k)::bK (k+1) o) (.inl (x:Int))=_
   simp[aX]
  ·have hr:r∈o:=(List.mem_cons.mp h).resolve_left (fun z=>e z.symm)
   have hn:¬ ((Sum.inl (x:Int):bc)=Sum.inl (r:Int)):=fun z=>e (by have:=Sum.inl.inj z; omega)
   have e1:aX (bK k (x::o)) (.inl (r:Int))=aX (bK (k+1) o) (.inl (r:Int)):=by
    show aX ((Sum.inl (x:Int),nV k)::bK (k+1) o) (.inl (r:Int))=_
    simp[aX,hn]
   rw[e1,ju o (k+1) r hr,List.idxOf_cons];have hb:(x == r)=false:=beq_eq_false_iff_ne.mpr e
   rw[hb];show some (nV (k+1+o.idxOf r))=some (nV (k+(o.idxOf r+1)))
   rw[show k+1+o.idxOf r=k+(o.idxOf r+1) by omega]
theorem nA(D:DefAt K mg "numbered_rooms" aw) (z_enumerate:mg "enumerate" = none) (c_rooms_led_to:bv P w K mg base 1 "rooms_led_to" ["rooms"] nY) (c_ways_by:bv P w K mg base 1 "ways_by" ["numbers", "ways"] lx) :
  bv P w K mg base 2 "numbered_rooms" ["rooms"] (uG aO):=by
 refine D.cal sc_numbered_rooms (fun _ _ _ _ _ _ us hl=>match us,hl with | [_],_=>rfl) (fun vs H Q E h=>by obtain⟨p,R,m,as,rfl,_⟩:=h; rfl) (fun f cdv A outer s H vs Q E hr h=>?_)
 obtain⟨p,R,m,as,rfl,hR,ok,q⟩:=h
 obtain⟨h1,h2,h3⟩:=hR
 have n1:=ok.n1;have hm1:=ok.m1;obtain⟨ond,olt,ole⟩:=dy ok.ins ok.n0
 refine⟨_,(ab (ax 1 sc_numbered_rooms.nd (aW c_rooms_led_to hr (aa (pv 0 (hv:=Bj)) ac)))
   (ab (ax 2 sc_numbered_rooms.nd tO (hx:=Aq))
   (ab (b_ PassesOwn.never rfl (ir K Aj z_enumerate (aa (pv 1) ac)) (h7 K (n:=2) (cn (bb 3 sc_numbered_rooms.nd) (cn (bb 4 sc_numbered_rooms.nd) hU))) (ap (cz (pv 3) (cL (pv 2 (hv:=Bm)) (pv 4) (uI hr)))))
   (ap (bg (di (CompSc.to (fsc:=(defScope aw)) (N:=["rooms", "order", "numbers", "number", "room"]) (N0:=["rooms", "order", "numbers", "number", "room'"]) (T:=["room"]) ⟨by decide +kernel,by decide +kernel,by decide +kernel,by decide +kernel,by decide +kernel,by decide +kernel,by decide +kernel⟩ rfl rfl) rfl (cr K (pv 1)) (fun _ _ _ _=>(bb 5 (show (["rooms", "order", "numbers", "number", "room'", "room"]:List Str).Nodup from by decide +kernel) (hx:=(fz (defScope aw) (by decide +kernel))) (hf:=iI (defScope aw) (by decide +kernel)))) (bU (show (["rooms", "order", "numbers", "number", "room"]:List Str).length≤5 from by decide)) (fun _ _ _ _=>cm) (fun _ _ _ _=>(aW c_ways_by hr (aa (pv 2 (hv:=(bQ (defScope aw) (by decide +kernel)))) (aa (aB (aM K) (pv 0 (hv:=(bQ (defScope aw) (by decide +kernel)))) (pv 5 (hv:=(bQ (defScope aw) (by decide +kernel)))) (fun _ _=>rfl)) ac)) (hg:=(nU (defScope aw) (by decide +kernel))))))))))),?_⟩
 walk_at "rd1";refine⟨p,R,m,as,rfl,⟨h1,h2,h3⟩,ok,fun op H1 sm1 hop ho=>?_⟩
 walk_at "nx";refine fun np hnp=>?_
 generalize hH2:upd H1 np _=H2
 have sm2:=dc hH2 hnp;have e2:=gJ hH2;have hnpH:H np=none:=sm1.free hnp
 walk_at "nx";refine⟨⟨_,sm2 _ _ ho⟩,?_⟩
 refine iP (xs:=(ay R).map nV) (fun i σ H'=>∃ (o3 o4:Option V),σ=[some (.ref p),some (.ref op),some (.ref np),o3,o4]∧Same H H'∧H' op=some (.lst ((ay R).map nV))∧H' np=some (.dK (bK 0 ((ay R).take i))))
  ⟨none,none,rfl,sm1.trans sm2,sm2 _ _ ho,e2⟩ (fun i σ H' _ h=>by obtain⟨_,_,_,_,z,_⟩:=h; exact SqL.of z) ?_ ?_
 ·rintro i v t σ H' hv ⟨o3,o4,rfl,sm,ho',hn⟩ ht
  have hi:i<(ay R).length:=by have:=(List.getElem?_eq_some_iff.mp hv).1; simpa using this
  rw[List.getElem?_map,List.getElem?_eq_getElem hi]at hv
  cases hv
  have hnot:(ay R)[i]∉(ay R).take i:=fun z=>by
   obtain⟨j,hj,e⟩:=List.mem_iff_getElem.mp z
   rw[List.getElem_take]at e
   have:=(List.getElem_inj ond).mp e
   simp at hj; omega
  have htk:(ay R).take (i+1)=(ay R).take i++[(ay R)[i]]:=by rw[List.take_add_one,List.getElem?_eq_getElem hi]; rfl
  have hlt:((ay R).take i).length=i:=by rw[List.length_take]; omega
  generalize (ay R)[i]=r at hnot htk ⊢;have st:=au ht (.tup [nV i,nV r]);have ett:upd H' t (.tup [nV i,nV r]) t=some (.tup [nV i,nV r]):=ai
  have smt:=sm.trans st;have hot:=st _ _ ho';have hnt:=st _ _ hn;generalize upd H' t (.tup [nV i,nV r])=Ht at st ett smt hot hnt ⊢;walk_at "rd1";refine⟨t,_,rfl,SqT.of ett,rfl,?_⟩
  walk_at "rd1";refine⟨np,_,.inl (r:Int),rfl,rfl,hnt,by rw[jl]; exact b6 (by omega),?_⟩
  refine⟨_,_,rfl,smt.upd hnpH _,?_,?_⟩
  ·rw[am (fF hot hnt (fun z=>nomatch z))]; exact hot
  ·have e:=nE hnot
   rw[hlt]at e
   rw[ai,htk,← e]
 ·rintro σ H3 ⟨o3,o4,rfl,sm3,ho3,hn3⟩
  rw[List.length_map,List.take_length]at hn3
  walk_at "nx";refine⟨⟨_,SqL.of ho3⟩,fun L hL=>?_⟩
  refine de (xs:=(ay R).map nV) (fun i ys H'=>∃ bs:List Addr,Same H3 H'∧ys=bs.map V.ref∧bs.length=i∧NR H H' L ((aO R).take i) bs) ⟨[],au hL _,rfl,rfl,⟨⟨ai,rfl,by simp⟩,by simp,List.nodup_nil⟩⟩ (fun i ys H' _ h=>by obtain⟨_,sm,_⟩:=h; exact SqL.of (sm _ _ ho3)) ?_ ?_
  ·rintro i ys H' v hv hi ⟨bs,sm,rfl,hb,hN⟩
   rw[List.length_map]at hi
   rw[List.getElem?_map,List.getElem?_eq_getElem hi]at hv
   cases hv;have hrm:=List.getElem_mem hi;have hod:(aO R)[i]? = some (dY (ay R) (R.getD (ay R)[i] [])):=by unfold aO; rw[List.getElem?_map,List.getElem?_eq_getElem hi]; rfl
   generalize (ay R)[i]=r at hrm hod ⊢;have hr':=olt r hrm;have hra:r<as.length:=by omega
   have hrow:=h3 r _ _ (List.getElem?_eq_getElem hra) (List.getElem?_eq_getElem hr');have hgd:R.getD r []=R[r]:=by rw[List.getD_eq_getElem?_getD,List.getElem?_eq_getElem hr']; rfl
   walk_at "rd1";refine⟨_,_,.inl (SqL.of ((sm3.trans sm) _ _ h1)),aC (by rw[List.getElem?_map,List.getElem?_eq_getElem hra]; rfl),?_⟩
   refine⟨np,as[r],R[r],fun k=>(ay R).idxOf k,rfl,(sm3.trans sm) _ _ hrow,by rw[ok.row _ (List.getElem_mem hr')]; omega,fun k hk=>.inr ⟨_,sm _ _ hn3,?_⟩,fun L' H4 sm4 hL' hl4=>?_⟩
   ·rw[ju _ _ _ (cU ok.ins ok.n0 hrm (by rw[hgd]; exact hk)),Nat.zero_add]
   ·have hps:=hN.push sm4 (sm3.trans sm) hL' hl4
    refine fJ (by rw[List.length_map]; exact hi) (by rw[List.length_map]; exact hb) (by rw[List.length_map]; exact bM (by omega)) (sm4 _ _ hN.at'.1) ⟨bs++[L'],?_,by rw[List.map_append]; rfl,by simp[hb],?_⟩
    ·intro b o e
     have hbL:b≠L:=aV e hL
     rw[am hbL]; exact sm4 _ _ (sm _ _ e)
    ·rw[List.take_add_one,hod]
     have e:dY (ay R) (R.getD r [])=(R[r]).map (Option.map fun k=>(ay R).idxOf k):=by rw[hgd]; rfl
     rw[e]; exact hps
  ·rintro ys H' ⟨bs,sm,rfl,hb,hN⟩
   have hol:(aO R).length=(ay R).length:=by simp[aO]
   rw[List.length_map,List.take_of_length_le (by omega)]at hN
   exact q L H' bs (sm3.trans sm) (sm3.free hL) hN
def rP:Sp:=fun vs H Q _=>∃ (p:Addr) (N:aL) (m:Nat) (as:List Addr) (pl:Nat),vs=[.ref p,nV pl]∧RoomsAs H p N as∧dA N m∧pl<m∧∀ H',Same H H'→Q (.bl (cV N pl)) H'
theorem u5(D:DefAt K mg "does_something" aI) (z_enumerate:mg "enumerate" = none) (z_any:mg "any" = none):bv P w K mg base 1 "does_something" ["rooms", "place"] rP:=by
 refine D.cal ji (fun _ _ _ _ _ _ us hl=>match us,hl with | [_,_],_=>rfl) (fun vs H Q E h=>by obtain⟨p,N,m,as,pl,rfl,_⟩:=h; rfl) (fun f cdv A outer s H vs Q E hr h=>?_)
 obtain⟨p,N,m,as,pl,rfl,hR,ok,hpl,q⟩:=h
 obtain⟨h1,h2,h3⟩:=hR
 have n1:=ok.n1;refine⟨_,(ap (bg (bq (q5 K) z_any v4 (aa (di (CompSc.to (fsc:=(defScope aI)) (N:=["rooms", "place"]) (N0:=["rooms", "place"]) (T:=["number", "room"]) ⟨by decide +kernel,by decide +kernel,by decide +kernel,by decide +kernel,by decide +kernel,by decide +kernel,by decide +kernel⟩ rfl rfl) rfl (ir K BG z_enumerate (aa (pv 0) ac)) (fun _ _ _ _=>(h7 K (n:=2) (cn (bb 2 (show (["rooms", "place", "number", "room"]:List Str).Nodup from by decide +kernel) (hx:=(fz (defScope aI) (by decide +kernel))) (hf:=iI (defScope aI) (by decide +kernel))) (cn (bb 3 (show (["rooms", "place", "number", "room"]:List Str).Nodup from by decide +kernel) (hx:=(fz (defScope aI) (by decide +kernel))) (hf:=iI (defScope aI) (by decide +kernel))) hU)))) (uO (kN (bU (show (["rooms", "place"]:List Str).length≤2 from by decide)) km (kN (bU (show (["rooms", "place"]:List Str).length≤3 from by decide)) km t6 nR) (sR km nR))) (fun _ _ _ _=>cm) (fun _ _ _ _=>(gn vI (aB (aM K) (pv 3 (hv:=(bQ (defScope aI) (by decide +kernel)))) (pv 1 (hv:=(bQ (defScope aI) (by decide +kernel)))) (fun _ _=>rfl)) (pv 2 (hv:=(bQ (defScope aI) (by decide +kernel)))) (bd _)))) ac)))),?_⟩
 walk_at "rd1";refine⟨⟨_,h1⟩,fun L hL=>?_⟩
 refine pY (xs:=as.map V.ref) (fun i ys H'=>Same H H'∧H' L=some (.lst ys)∧ys=((List.range i).map fun i=>decide ((N.getD i []).getD pl none≠some i)).map V.bl) ⟨au hL _,ai,rfl⟩ (fun i ys H' _ h=>SqL.of (h.1 _ _ h1)) ?_ ?_
 ·rintro i ys H' v t hv hi ⟨sm,hl,rfl⟩ ht
  rw[List.length_map]at hi
  rw[List.getElem?_map,List.getElem?_eq_getElem hi]at hv
  cases hv;have hi':i<N.length:=by omega
  have hrow:=h3 i _ _ (List.getElem?_eq_getElem hi) (List.getElem?_eq_getElem hi');have hgd:N.getD i []=N[i]:=by rw[List.getD_eq_getElem?_getD,List.getElem?_eq_getElem hi']; rfl
  have hrl:=ok.row _ (List.getElem_mem hi');have st:=au ht (.tup [nV i,.ref as[i]]);have nt:L≠t:=aV hl ht
  walk_at "rd1";refine⟨t,_,rfl,SqT.of ai,rfl,?_⟩
  walk_at "rd1";refine⟨_,_,.inl (SqL.of (st _ _ (sm _ _ hrow))),aC (by rw[List.getElem?_map,List.getElem?_eq_getElem (by omega)]; rfl),?_⟩
  refine⟨((N[i])[pl]'(by omega)).map (fun n:Nat=>(n:Int)),(i:Int),?_,rfl,?_⟩
  ·cases (N[i])[pl]'(by omega) <;> rfl
  ·refine fJ (by rw[List.length_map]; exact hi) (by simp) (by rw[List.length_map]; exact bM (by omega)) (by rw[am nt]; exact hl) ⟨(sm.trans st).upd hL _,ai,?_⟩
   rw[List.range_succ,List.map_append,List.map_append]
   congr 1
   show [V.bl _]=[V.bl _]
   congr 2
   show decide (_≠_)=decide ((N.getD i []).getD pl none≠some i)
   rw[hgd,List.getD_eq_getElem?_getD,List.getElem?_eq_getElem (by omega)]
   show decide (_≠_)=decide ((N[i])[pl]'(by omega)≠some i)
   cases (N[i])[pl]'(by omega) with
   | none=>simp
   | some k=>simp; omega
 ·rintro ys H' ⟨sm,hl,rfl⟩
  walk_at "rd1";rw[List.length_map,h2]at hl
  refine⟨_,SqL.of hl,?_⟩
  have e:((List.range N.length).map fun i=>decide ((N.getD i []).getD pl none≠some i)).any id=cV N pl:=by
   unfold cV; rw[List.any_map]; rfl
  rw[e]; exact q H' sm
def mW:Sp:=fun vs H Q _=>∃ (p b:Addr) (ts:List V) (ps:List Nat),vs=[.ref p,.ref b]∧H p=some (.lst ts)∧H b=some (.lst (ps.map nV))∧ps.length≤1000∧(∀ x∈ps,x<ts.length)∧
 ∀ (L:Addr) (H':Hp),Same H H'→H L=none→H' L=some (.lst (ps.map fun x=>ts.getD x .non))→Q (.ref L) H'
theorem qZ(D:DefAt K mg "picked" bV):bv P w K mg base 1 "picked" ["things", "places"] mW:=by
 refine D.cal qm (fun _ _ _ _ _ _ us hl=>match us,hl with | [_,_],_=>rfl) (fun vs H Q E h=>by obtain⟨p,b,ts,ps,rfl,_⟩:=h; rfl) (fun f cdv A outer s H vs Q E hr h=>?_)
 obtain⟨p,b,ts,ps,rfl,hp,hb,hl,hx,q⟩:=h
 refine⟨_,(ap (bg (di (CompSc.to (fsc:=(defScope bV)) (N:=["things", "places"]) (N0:=["things", "places"]) (T:=["place"]) ⟨by decide +kernel,by decide +kernel,by decide +kernel,by decide +kernel,by decide +kernel,by decide +kernel,by decide +kernel⟩ rfl rfl) rfl (cr K (pv 1)) (fun _ _ _ _=>(bb 2 (show (["things", "places", "place"]:List Str).Nodup from by decide +kernel) (hx:=(fz (defScope bV) (by decide +kernel))) (hf:=iI (defScope bV) (by decide +kernel)))) (bU (show (["things", "places"]:List Str).length≤2 from by decide)) (fun _ _ _ _=>cm) (fun _ _ _ _=>(aB (aM K) (pv 0 (hv:=(bQ (defScope bV) (by decide +kernel)))) (pv 2 (hv:=(bQ (defScope bV) (by decide +kernel)))) (fun _ _=>rfl)))))),?_⟩
 walk_at "rd1";refine⟨⟨_,SqL.of hb⟩,fun L hL=>?_⟩
 refine de (xs:=ps.map nV) (fun i ys H'=>Same H H'∧H' L=some (.lst ys)∧ys=(ps.take i).map fun x=>ts.getD x .non) ⟨au hL _,ai,rfl⟩ (fun i ys H' _ h=>SqL.of (h.1 _ _ hb)) ?_ ?_
 ·rintro i ys H' v hv hi ⟨sm,hl',rfl⟩
  rw[List.length_map]at hi
  rw[List.getElem?_map,List.getElem?_eq_getElem hi]at hv
  cases hv;have hxi:=hx _ (List.getElem_mem hi);walk_at "rd1";refine⟨_,ts.getD ps[i] .non,.inl (SqL.of (sm _ _ hp)),aC (by rw[List.getD_eq_getElem?_getD,List.getElem?_eq_getElem hxi]; rfl),?_⟩
  refine fJ (by rw[List.length_map]; exact hi) (by simp; omega) (by rw[List.length_map]; exact bM (by omega)) hl' ⟨sm.upd hL _,ai,?_⟩
  rw[List.take_add_one,List.getElem?_eq_getElem hi,List.map_append]; rfl
 ·rintro ys H' ⟨sm,hl',rfl⟩
  rw[List.length_map,List.take_length]at hl'
  exact q L H' sm hL hl'
def aK(r:Rl):Rl:=⟨r.s,(places (ae r.rs) r.ws.length).map (fun x=>r.ws.getD x default),(ae r.rs).map fun y=>(places (ae r.rs) r.ws.length).map fun x=>y.getD x none⟩
theorem jU{r:Rl}(ok:bI r):dA r.rs r.ws.length:=⟨ok.n0,ok.n1,ok.nw,fun x hx=>(ok.row x hx).1,fun x hx k hk=>(ok.row x hx).2 k hk⟩
theorem j5{R:aL}{m:Nat}(ok:dA R m):dA (merged R) m:=by
 obtain⟨a,b,c⟩:=fw ok.n0 ok.ins
 have:=ok.n1
 exact⟨b,by omega,ok.m1,jP ok.row,a⟩
theorem js{R:aL}{m:Nat}(ok:dA R m):dA (aO R) m:=by
 obtain⟨a,b,c,d⟩:=dC ok.ins ok.n0 ok.row
 have:=ok.n1
 exact⟨b,by omega,ok.m1,d,a⟩
theorem bG{N:aL}{n x:Nat}(h:x∈places N n):x<n:=List.mem_range.mp (List.mem_filter.mp h).1
theorem j_(N:aL)(n:Nat):(places N n).length≤n:=by
 have:=List.length_filter_le (cV N) (List.range n)
 rw[List.length_range]at this
 exact this
theorem mE{r:Rl}(ok:bI r):bI (aK r):=by
 have o2:=js (j5 (jU ok));have hp:=j_ (ae r.rs) r.ws.length;have:=ok.nw
 refine⟨ok.s,?_,?_,?_,fun x hx=>?_,fun x hx=>?_⟩
 ·show (List.map _ _).length≤16
  rw[List.length_map]; omega
 ·show 1≤(List.map _ _).length
  rw[List.length_map]; exact o2.n0
 ·show (List.map _ _).length≤60
  rw[List.length_map]; exact o2.n1
 ·obtain⟨y,hy,rfl⟩:=List.mem_map.mp hx
  refine⟨by show (List.map _ _).length=(List.map _ _).length; rw[List.length_map,List.length_map],fun k hk=>?_⟩
  obtain⟨x,hx',e⟩:=List.mem_map.mp hk
  show k<(List.map _ _).length
  rw[List.length_map];refine o2.ins y hy k ?_
  have hlt:x<y.length:=by rw[o2.row y hy]; exact bG hx'
  rw[List.getD_eq_getElem?_getD,List.getElem?_eq_getElem hlt]at e
  exact e ▸ List.getElem_mem hlt
 ·obtain⟨y,hy,rfl⟩:=List.mem_map.mp hx
  have hlt:=bG hy;rw[List.getD_eq_getElem?_getD,List.getElem?_eq_getElem hlt];exact ok.lw _ (List.getElem_mem hlt)
def oh:Sp:=fun vs H Q _=>∃ (p:Addr) (r:Rl),vs=[.ref p]∧RuleAt H p r∧bI r∧∀ (q pw pr:Addr) (H':Hp) (as:List Addr),Same H H'→H' q=some (.tup [.int r.s,.ref pw,.ref pr])→H' pw=some (.lst ((aK r).ws.map V.str))→
 NR H H' pr (aK r).rs as→H q=none→H pw=none→H pr=none→pw≠pr→pw∉as→Q (.ref q) H'
def qH:Sp:=fun vs H Q _=>∃ (p:Addr) (r:Rl) (mo:Nat),vs=[.ref p,nV mo]∧r.rs.length≤mo∧RuleAt H p r∧bI r∧∀ (q pw pr:Addr) (H':Hp) (as:List Addr),Same H H'→H' q=some (.tup [.int r.s,.ref pw,.ref pr])→H' pw=some (.lst ((aK r).ws.map V.str))→
 NR H H' pr (aK r).rs as→H q=none→H pw=none→H pr=none→pw≠pr→pw∉as→Q (.ref q) H'
theorem vg(D:DefAt K mg "least_upto" ao) (z_range:mg "range" = none) (z_len:mg "len" = none) (c_kinds_upto:bv P w K mg base 3 "kinds_upto" ["rooms", "most"] ow) (c_merged_rooms:bv P w K mg base 4 "merged_rooms" ["rooms", "kinds"] mD) (c_numbered_rooms:bv P w K mg base 2 "numbered_rooms" ["rooms"] (uG aO))
  (c_does_something:bv P w K mg base 1 "does_something" ["rooms", "place"] rP) (c_picked:bv P w K mg base 1 "picked" ["things", "places"] mW):bv P w K mg base 5 "least_upto" ["rule", "most"] qH:=by
 refine D.cal sc_least_upto (fun _ _ _ _ _ _ us hl=>match us,hl with | [_,_],_=>rfl) (fun vs H Q E h=>by obtain⟨p,r,mo,rfl,_⟩:=h; rfl) (fun f cdv A outer s H vs Q E hr h=>?_)
 obtain⟨p,r,mo,rfl,hmo,hR,ok,q⟩:=h
 obtain⟨pw0,pr0,as0,g1,g2,g3⟩:=hR
 have o0:=jU ok;have o1:=j5 o0;have o2:=js o1;have nw:=ok.nw;have hpl:=j_ (ae r.rs) r.ws.length
 refine⟨_,(ab (ax 2 sc_least_upto.nd (aW c_kinds_upto hr (aa (aB (aM K) (pv 0) ah (fun _ _=>rfl)) (aa (pv 1) ac))))
   (ab (bZ (aZ i9 (pv 2) cE (bd _)) (ap (bg cE)) bD)
   (ab (ax 3 sc_least_upto.nd (aB (aM K) (pv 0) ah (fun _ _=>rfl)))
   (ab (ax 4 sc_least_upto.nd (aW c_numbered_rooms hr (aa (aW c_merged_rooms hr (aa (aB (aM K) (pv 0) ah (fun _ _=>rfl)) (aa (pv 2) ac))) ac)) (hx:=Bq))
   (ab (ax 5 sc_least_upto.nd (di (CompSc.to (fsc:=(defScope ao)) (N:=["rule", "most", "kinds", "words", "rooms", "places"]) (N0:=["rule", "most", "kinds", "words", "rooms", "places"]) (T:=["place"]) ⟨by decide +kernel,by decide +kernel,by decide +kernel,by decide +kernel,by decide +kernel,by decide +kernel,by decide +kernel⟩ rfl rfl) rfl (bP Bx z_range (aa (bq (br K) z_len bR (aa (pv 3) ac)) ac)) (fun _ _ _ _=>(bb 6 (show (["rule", "most", "kinds", "words", "rooms", "places", "place"]:List Str).Nodup from by decide +kernel) (hx:=(fz (defScope ao) (by decide +kernel))) (hf:=iI (defScope ao) (by decide +kernel)))) (bU (show (["rule", "most", "kinds", "words", "rooms", "places"]:List Str).length≤6 from by decide)) (fun _ _ _ _=>(l_ (qP (aW c_does_something hr (aa (pv 4 (hv:=(bQ (defScope ao) (by decide +kernel)))) (aa (pv 6 (hv:=(bQ (defScope ao) (by decide +kernel)))) ac)) (hg:=(nU (defScope ao) (by decide +kernel))))))) (fun _ _ _ _=>(pv 6 (hv:=(bQ (defScope ao) (by decide +kernel)))))) (hx:=By))
   (ap (bg (dZ (aa (aB (aM K) (pv 0) ah (fun _ _=>rfl)) (aa (aW c_picked hr (aa (pv 3) (aa (pv 5 (hv:=Av)) ac))) (aa (di (CompSc.to (fsc:=(defScope ao)) (N:=["rule", "most", "kinds", "words", "rooms", "places"]) (N0:=["rule", "most", "kinds", "words", "rooms", "places"]) (T:=["room"]) ⟨by decide +kernel,by decide +kernel,by decide +kernel,by decide +kernel,by decide +kernel,by decide +kernel,by decide +kernel⟩ rfl rfl) rfl (cr K (pv 4 (hv:=AX))) (fun _ _ _ _=>(bb 6 (show (["rule", "most", "kinds", "words", "rooms", "places", "room"]:List Str).Nodup from by decide +kernel) (hx:=(fz (defScope ao) (by decide +kernel))) (hf:=iI (defScope ao) (by decide +kernel)))) (bU (show (["rule", "most", "kinds", "words", "rooms", "places"]:List Str).length≤6 from by decide)) (fun _ _ _ _=>cm) (fun _ _ _ _=>(aW c_picked hr (aa (pv 6 (hv:=(bQ (defScope ao) (by decide +kernel)))) (aa (pv 5 (hv:=(bQ (defScope ao) (by decide +kernel)))) ac)) (hg:=(nU (defScope ao) (by decide +kernel)))))) ac))))))))))),?_⟩
 walk_at "rd1";refine⟨_,_,.inr (SqT.of g1),rfl,?_⟩
 refine⟨pr0,r.rs,r.ws.length,as0,mo,rfl,hmo,g3,o0,fun KP H0 sm0 hKP hl0=>?_⟩
 walk_at "nx";walk_at "nx";refine⟨_,_,.inr (SqT.of (sm0 _ _ g1)),rfl,?_⟩
 walk_at "nx";refine⟨_,_,.inr (SqT.of (sm0 _ _ g1)),rfl,?_⟩
 refine⟨pr0,KP,r.rs,r.ws.length,as0,rfl,g3.mono sm0,o0,hl0,fun M1 H1 bs1 sm1' hM1 hN1=>?_⟩
 have sm1:=sm0.trans sm1';refine⟨M1,merged r.rs,r.ws.length,bs1,rfl,hN1.at',o1,fun M2 H2 bs2 sm2 hM2 hN2=>?_⟩
 have sm12:=sm1.trans sm2;have hN2':=hN2.at';walk_at "nx";refine⟨_,.inl (SqL.of (sm12 _ _ g2)),?_⟩
 rw[List.length_map];walk_at "rd1";refine⟨by omega,by omega,fun L hL=>?_⟩
 refine jt (fun i ys H'=>Same H2 H'∧H' L=some (.lst ys)∧ys=((List.range i).filter (cV (ae r.rs))).map nV) ⟨au hL _,ai,rfl⟩ ?_ ?_
 ·rintro i ys H' hi ⟨sm,hl,rfl⟩
  have hi':i<r.ws.length:=by omega
  have hlen:(((List.range i).filter (cV (ae r.rs))).map nV).length≤i:=by
   rw[List.length_map];have:=List.length_filter_le (cV (ae r.rs)) (List.range i)
   rw[List.length_range]at this; exact this
  walk_at "rd1";refine⟨M2,ae r.rs,r.ws.length,bs2,i,by rw[Int.zero_add],hN2'.mono sm,o2,hi',fun H5 sm5=>?_⟩
  cases hdo:cV (ae r.rs) i with
  | false=>
   walk_at "rd1";refine ub hi ⟨sm.trans sm5,sm5 _ _ hl,?_⟩
   rw[List.range_succ,List.filter_append]; simp[hdo]
  | true=>
   walk_at "rd1";refine qJ hi hlen (bM (by omega)) (sm5 _ _ hl) ⟨(sm.trans sm5).upd hL _,ai,?_⟩
   rw[List.range_succ,List.filter_append,List.map_append]; simp[hdo]
 rintro ys H3 ⟨sm3,hl3,rfl⟩
 have hl3':H3 L=some (.lst ((places (ae r.rs) r.ws.length).map nV)):=by
  unfold places; rw[hl3]; simp
 have sm13:=sm12.trans sm3;walk_at "nx";refine⟨_,_,.inr (SqT.of (sm13 _ _ g1)),rfl,?_⟩
 refine⟨pw0,L,r.ws.map V.str,places (ae r.rs) r.ws.length,rfl,sm13 _ _ g2,hl3',by omega,fun x hx=>by rw[List.length_map]; exact bG hx,fun W H4 sm4 hW hl4=>?_⟩
 have hws:((places (ae r.rs) r.ws.length).map fun x=>(r.ws.map V.str).getD x .non)=(aK r).ws.map V.str:=by
  show _=List.map V.str (List.map _ _)
  rw[List.map_map];refine List.map_congr_left fun x hx=>?_
  have hlt:=bG hx;show _=V.str (r.ws.getD x default)
  rw[List.getD_eq_getElem?_getD,List.getElem?_map,List.getD_eq_getElem?_getD,List.getElem?_eq_getElem hlt]; rfl
 rw[hws]at hl4
 walk_at "rd1";refine⟨⟨_,SqL.of (sm4 _ _ (sm3 _ _ hN2'.1))⟩,fun Z hZ=>?_⟩
 have hN4:=(hN2'.mono sm3).mono sm4;obtain⟨k1,k2,k3⟩:=hN4
 refine de (xs:=bs2.map V.ref) (fun i ys H'=>∃ cs:List Addr,Same H4 H'∧ys=cs.map V.ref∧cs.length=i∧NR H H' Z ((aK r).rs.take i) cs∧W∉cs) ⟨[],au hZ _,rfl,rfl,⟨⟨ai,rfl,by simp⟩,by simp,List.nodup_nil⟩,by simp⟩ (fun i ys H' _ h=>by obtain⟨_,sm,_⟩:=h; exact SqL.of (sm _ _ k1)) ?_ ?_
 ·rintro i ys H' v hv hi ⟨cs,sm,rfl,hc,hN,hWc⟩
  rw[List.length_map]at hi
  rw[List.getElem?_map,List.getElem?_eq_getElem hi]at hv
  cases hv
  have hi':i<(ae r.rs).length:=by
   have:bs2.length=(aO (merged r.rs)).length:=k2
   show i<(aO (merged r.rs)).length
   omega
  have hrow:=k3 i _ _ (List.getElem?_eq_getElem hi) (List.getElem?_eq_getElem hi');have hrl:((ae r.rs)[i]).length=r.ws.length:=o2.row _ (List.getElem_mem hi')
  walk_at "rd1";refine⟨bs2[i],L,((ae r.rs)[i]).map aG,places (ae r.rs) r.ws.length,rfl,sm _ _ hrow,sm _ _ (sm4 _ _ hl3'),by omega,fun x hx=>by rw[List.length_map]; have:=bG hx; omega,fun L' H5 sm5 hL' hl5=>?_⟩
  have hxs:((places (ae r.rs) r.ws.length).map fun x=>(((ae r.rs)[i]).map aG).getD x .non)=((places (ae r.rs) r.ws.length).map fun x=>((ae r.rs)[i]).getD x none).map aG:=by
   rw[List.map_map];refine List.map_congr_left fun x hx=>?_
   have hlt:x<((ae r.rs)[i]).length:=by have:=bG hx; omega
   show _=aG (((ae r.rs)[i]).getD x none)
   rw[List.getD_eq_getElem?_getD,List.getElem?_map,List.getD_eq_getElem?_getD,List.getElem?_eq_getElem hlt]; rfl
  rw[hxs]at hl5
  have smH:Same H H':=(sm13.trans sm4).trans sm
  have hps:=hN.push sm5 smH hL' hl5;refine fJ (by rw[List.length_map]; exact hi) (by rw[List.length_map]; exact hc) (by rw[List.length_map]; have:=o2.n1; exact bM (by have:bs2.length=(aO (merged r.rs)).length:=k2; omega)) (sm5 _ _ hN.at'.1) ⟨cs++[L'],?_,by rw[List.map_append]; rfl,by simp[hc],?_,?_⟩
  ·intro b o e
   rw[am (aV e hZ)]; exact sm5 _ _ (sm _ _ e)
  ·have e:(aK r).rs.take (i+1)=(aK r).rs.take i++[(places (ae r.rs) r.ws.length).map fun x=>((ae r.rs)[i]).getD x none]:=by
    rw[List.take_add_one];show _++(List.map _ (ae r.rs))[i]?.toList=_
    rw[List.getElem?_map,List.getElem?_eq_getElem hi']; rfl
   rw[e]; exact hps
  ·intro z
   rcases List.mem_append.mp z with z | z
   ·exact hWc z
   ·have e:=List.mem_singleton.mp z
    subst e;have:=sm _ _ hl4
    rw[hL']at this; cases this
 rintro ys H5 ⟨cs,sm5,rfl,hc,hN,hWc⟩
 have hfull:(aK r).rs.take (bs2.map V.ref).length=(aK r).rs:=List.take_of_length_le (by
  show (List.map _ (ae r.rs)).length≤_
  rw[List.length_map,List.length_map];have:bs2.length=(aO (merged r.rs)).length:=k2
  show (aO (merged r.rs)).length≤_
  omega)
 rw[hfull]at hN
 walk_at "rd1";refine⟨by decide,fun tp htp=>?_⟩
 have st:=au htp (.tup [.int r.s,.ref W,.ref Z]);have smA:Same H H5:=(sm13.trans sm4).trans sm5
 refine q tp W Z _ cs (smA.trans st) ai (st _ _ (sm5 _ _ hl4)) (hN.mono st) (smA.free htp) (sm13.free hW) ((sm13.trans sm4).free hZ) (aV hl4 hZ) hWc
theorem sr(D:DefAt K mg "least_rule" bH) (z_len:mg "len" = none) (c_least_upto:bv P w K mg base 5 "least_upto" ["rule", "most"] qH):bv P w K mg base 6 "least_rule" ["rule"] oh:=by
 refine D.cal ll (fun _ _ _ _ _ _ us hl=>match us,hl with | [_],_=>rfl) (fun vs H Q E h=>by obtain⟨p,r,rfl,_⟩:=h; rfl) (fun f cdv A outer s H vs Q E hr h=>?_)
 obtain⟨p,r,rfl,hR,ok,q⟩:=h
 obtain⟨pw0,pr0,as0,g1,g2,g3⟩:=id hR
 refine⟨_,(ap (bg (aW c_least_upto hr (aa (pv 0) (aa (bq (br K) z_len bR (aa (aB (aM K) (pv 0) ah (fun _ _=>rfl)) ac)) ac))))),?_⟩
 walk_at "rd1";refine⟨_,_,.inr (SqT.of g1),rfl,⟨_,.inl (SqL.of g3.1),?_⟩⟩
 refine⟨p,r,r.rs.length,?_,Nat.le_refl _,hR,ok,q⟩
 rw[List.length_map,g3.2.1]
end
theorem uB{R:aL}{m:Nat}(ok:dA R m):Rm R m:=⟨ok.n0,ok.row,ok.ins⟩
theorem cF(r:Rl):(aK r).rs=ck (ae r.rs) (places (ae r.rs) r.ws.length):=rfl
theorem rz(r:Rl):(aK r).ws.length=(places (ae r.rs) r.ws.length).length:=List.length_map _
def d8(R:aL)(k:Nat):Nat:=(ay (merged R)).idxOf ((af R).getD k 0)
structure cw (R:aL) (k:Nat):Prop where
 lt:k<R.length
 mem:(af R).getD k 0∈ay (merged R)
theorem sn(f:Option Nat→Option Nat)(hf:f none=none)(x:List (Option Nat))(j:Nat):(x.map f).getD j none=f (x.getD j none):=by
 rw[List.getD_eq_getElem?_getD,List.getElem?_map,List.getD_eq_getElem?_getD]
 cases x[j]? with
 | none=>exact hf.symm
 | some y=>rfl
theorem j7{R:aL}(h:1≤R.length):(af R).getD 0 0=0:=by
 have hl:(af R).length=R.length:=bE R _
 have hc:=bY R (R.length * R.length) 1
 have e:(iter R (R.length * R.length)).take 1=[(af R).getD 0 0]:=by
  show (af R).take 1=_
  cases hk:af R with
  | nil=>rw[hk]at hl; simp at hl; omega
  | cons a t=>rfl
 rw[e]at hc
 have:ak [] [(af R).getD 0 0]=[(af R).getD 0 0]:=by simp[ak]
 rw[this]at hc
 simpa using hc
theorem j6(M:aL):(ay M)[0]? = some 0:=ii M _
theorem fM{R:aL}(h:1≤R.length):cw R 0:=⟨h,by rw[j7 h]; exact List.mem_of_getElem? (j6 _)⟩
theorem ip{R:aL}(h:1≤R.length):d8 R 0=0:=by
 unfold d8;rw[j7 h];have:=j6 (merged R)
 cases hk:ay (merged R) with
 | nil=>rw[hk]at this; cases this
 | cons a t=>
  rw[hk]at this
  have:a=0:=by simpa using this
  rw[this]; simp
theorem jQ{R:aL}{k:Nat}(h:cw R k):d8 R k<(ae R).length:=by
 rw[leastN_len]; exact List.idxOf_lt_length_iff.mpr h.mem
theorem uR{R:aL}{k:Nat}(h:cw R k):(ae R).getD (d8 R k) []=(R.getD k []).map (Option.map (d8 R)):=by
 have hlt:=jQ h;rw[jR hlt];have e:(ay (merged R))[d8 R k]'(by rw[← leastN_len]; exact hlt)=(af R).getD k 0:=List.getElem_idxOf (List.idxOf_lt_length_iff.mpr h.mem)
 rw[e,← (dM h.lt).2];unfold dY cf;rw[List.map_map];refine List.map_congr_left fun o _=>?_
 cases o <;> rfl
theorem xH{R:aL}{k:Nat}(h:cw R k)(x:Nat):((ae R).getD (d8 R k) []).getD x none=((R.getD k []).getD x none).map (d8 R):=by
 rw[uR h]; exact sn _ rfl _ _
theorem rb{R:aL}{m:Nat}(hR:Rm R m){k k':Nat}(h:cw R k)(hk:some k'∈R.getD k []):cw R k':=by
 have hM:=hR.merged;have hrow:R.getD k []=R[k]'h.lt:=aF h.lt
 refine⟨hR.ins _ (List.getElem_mem h.lt) k' (hrow ▸ hk),?_⟩
 refine cU hM.ins hM.n0 h.mem ?_
 rw[← (dM h.lt).2];exact List.mem_map.mpr ⟨some k',hk,rfl⟩
theorem qI{N:aL}(S:Nat→Prop)(h0:S 0)(hc:∀ j,S j→∀ k,some k∈N.getD j []→S k):∀ t,∀ j∈aA N t,S j
 | 0=>fun j hj=>by simp[aA]at hj; rw[hj]; exact h0
 | t+1=>by
  have ih:=qI S h0 hc t;show ∀ j∈(match (aA N t)[t]? with | some r=>aE (aA N t) (N.getD r []) | none=>aA N t),S j
  cases e:(aA N t)[t]? with
  | none=>exact ih
  | some r=>
   intro j hj
   rcases(c_ _ _ _).mp hj with z | z
   ·exact ih j z
   ·exact hc r (ih r (List.mem_of_getElem? e)) j z
def ar(r:Rl)(k:Nat)(y:Str):Option Nat:=if y∈r.ws then (r.rs.getD k []).getD (r.ws.idxOf y) none else some k
theorem fu{l:List Str}(nd:l.Nodup){i:Nat}(h:i<l.length):l.idxOf l[i]=i:=by
 have hm:=List.idxOf_lt_length_iff.mpr (List.getElem_mem h);exact(List.getElem_inj nd (h₀:=hm) (h₁:=h)).mp (List.getElem_idxOf hm)
theorem jz{r:Rl}(nd:r.ws.Nodup):(aK r).ws.Nodup:=by
 show ((places (ae r.rs) r.ws.length).map fun x=>r.ws.getD x default).Nodup
 have h:(places (ae r.rs) r.ws.length).Nodup:=List.Pairwise.filter _ List.nodup_range
 refine List.pairwise_map.mpr (List.Pairwise.imp_of_mem (fun {x y} hx hy hab e=>hab ?_) h)
 have hx':=bG hx;have hy':=bG hy;rw[aF hx',aF hy']at e
 exact(List.getElem_inj nd).mp e
theorem lT{r:Rl}(nd:r.ws.Nodup){x:Nat}(hx:x<r.ws.length):r.ws[x]∈(aK r).ws ↔ x∈places (ae r.rs) r.ws.length:=by
 show r.ws[x]∈((places (ae r.rs) r.ws.length).map fun x=>r.ws.getD x default) ↔ _
 constructor
 ·intro h
  obtain⟨y,hy,e⟩:=List.mem_map.mp h
  rw[aF (bG hy)]at e
  have:=(List.getElem_inj nd).mp e
  exact this ▸ hy
 ·exact fun h=>List.mem_map.mpr ⟨x,h,aF hx⟩
theorem pS{r:Rl}(ok:bI r)(nd:r.ws.Nodup){k:Nat}(h:cw r.rs k){x:Nat}(hx:x<r.ws.length):ar (aK r) (d8 r.rs k) r.ws[x]=(ar r k r.ws[x]).map (d8 r.rs):=by
 have hlt:=jQ h
 have e1:ar r k r.ws[x]=(r.rs.getD k []).getD x none:=by
  unfold ar;rw[if_pos (List.getElem_mem hx),fu nd hx]
 rw[e1,← xH h];unfold ar
 by_cases hm:r.ws[x]∈(aK r).ws
 ·rw[if_pos hm]
  have hpl:=(lT nd hx).mp hm;obtain⟨q,hq,eq⟩:=List.mem_iff_getElem.mp hpl
  have hq':q<(aK r).ws.length:=by rw[show (aK r).ws=(places (ae r.rs) r.ws.length).map (fun x=>r.ws.getD x default) from rfl,List.length_map]; exact hq
  have ew:(aK r).ws[q]=r.ws[x]:=by
   have z:(aK r).ws[q]? = some r.ws[x]:=by
    rw[show (aK r).ws=(places (ae r.rs) r.ws.length).map (fun x=>r.ws.getD x default) from rfl,List.getElem?_map,List.getElem?_eq_getElem hq,eq]
    show some (r.ws.getD x default)=_
    rw[aF hx]
   rw[List.getElem?_eq_getElem hq']at z
   exact Option.some.inj z
  have ei:(aK r).ws.idxOf r.ws[x]=q:=by rw[← ew]; exact fu (jz nd) hq'
  rw[ei];show ((ck (ae r.rs) (places (ae r.rs) r.ws.length)).getD (d8 r.rs k) []).getD q none=_
  rw[ij hlt,aF (by rw[List.length_map]; exact hq),List.getElem_map,eq]
 ·rw[if_neg hm]
  have hpl:x∉places (ae r.rs) r.ws.length:=fun z=>hm ((lT nd hx).mpr z)
  have hd:cV (ae r.rs) x=false:=by
   cases hd:cV (ae r.rs) x with
   | false=>rfl
   | true=>exact absurd (List.mem_filter.mpr ⟨List.mem_range.mpr hx,hd⟩) hpl
  exact(ik hd hlt).symm
theorem u6{r:Rl}(ok:bI r)(nd:r.ws.Nodup){k k':Nat}(h:k<r.rs.length)(hk:some k'∈r.rs.getD k []):∃ x,∃ hx:x<r.ws.length,ar r k r.ws[x]=some k':=by
 rw[aF h]at hk
 obtain⟨x,hx,e⟩:=List.mem_iff_getElem.mp hk
 have hl:=(ok.row _ (List.getElem_mem h)).1;refine⟨x,by omega,?_⟩
 unfold ar;rw[if_pos (List.getElem_mem _),fu nd (by omega),aF h,aF hx,e]
theorem oZ{r:Rl}(ok:bI r)(nd:r.ws.Nodup){k k':Nat}(h:cw r.rs k){x:Nat}(hx:x<r.ws.length)(e:ar r k r.ws[x]=some k'):cw r.rs k':=by
 unfold ar at e;have hl:=(ok.row _ (List.getElem_mem h.lt)).1;have hrow:r.rs.getD k []=r.rs[k]'h.lt:=aF h.lt
 rw[if_pos (List.getElem_mem hx),fu nd hx,hrow,aF (by omega)]at e
 refine rb (m:=r.ws.length) ⟨ok.n0,fun x hx=>(ok.row x hx).1,fun x hx=>(ok.row x hx).2⟩ h ?_
 rw[hrow,← e]; exact List.getElem_mem _
theorem sO{x y:Str}(h:x.cps.toList=y.cps.toList):x=y:=by
 cases x; cases y
 have:=Array.ext' h
 simp_all
theorem i_:∀ (xs:List Str),sortedS xs=true→xs.Pairwise (fun a b=>a.cps.toList≤b.cps.toList)
 | [],_=>.nil
 | [x],_=>by simp
 | x::y::r,h=>by
  have h':(!ltCps y.cps.toList x.cps.toList&&sortedS (y::r))=true:=h
  rw[Bool.and_eq_true,ltCps_eq]at h'
  have h1:x.cps.toList≤y.cps.toList:=List.not_lt.mp (by simpa using h'.1)
  have ih:=i_ (y::r) h'.2;refine List.pairwise_cons.mpr ⟨fun z hz=>?_,ih⟩
  rcases List.mem_cons.mp hz with rfl | hz
  ·exact h1
  ·exact List.le_trans h1 ((List.pairwise_cons.mp ih).1 z hz)
theorem rj{xs ys:List Str}(n1:xs.Nodup)(n2:ys.Nodup)(s1:sortedS xs=true)(s2:sortedS ys=true)(h:∀ x,x∈xs ↔ x∈ys):xs=ys:=
 ((List.perm_ext_iff_of_nodup n1 n2).mpr h).eq_of_pairwise (fun a b _ _ z1 z2=>sO (List.le_antisymm z1 z2)) (i_ xs s1) (i_ ys s2)
theorem jY:∀ (xs:List Str),xs.Pairwise (fun a b=>a.cps.toList≤b.cps.toList)→sortedS xs=true
 | [],_=>rfl
 | [x],_=>rfl
 | x::y::r,h=>by
  obtain⟨h1,h2⟩:=List.pairwise_cons.mp h
  show (!ltCps y.cps.toList x.cps.toList&&sortedS (y::r))=true
  rw[jY (y::r) h2,ltCps_eq];have:=List.not_lt.mpr (h1 y List.mem_cons_self)
  simpa using this
structure nJ (R:aL):Prop where
 rng:∀ t,aA R t=List.range (aA R t).length
 led:∀ t,t<R.length→t<(aA R t).length
theorem ls{r:Rl}(ok:bI r):nJ (aK r).rs:=by
 have h:=uB (jU ok);refine⟨fun t=>?_,fun t ht=>?_⟩
 ·rw[cF,kF h,List.length_range]
 ·rw[cF,cI]at ht
  rw[cF,kF h,List.length_range];exact lj h ht
theorem m_{r:Rl}(ok:bI r):af (aK r).rs=List.range (aK r).rs.length:=by
 have h:=uB (jU ok);rw[cF,nD h,cI]
structure Alike (a b:Rl) (E:Nat→Nat→Prop):Prop where
 z:E 0 0
 lt:∀ i j,E i j→i<a.rs.length∧j<b.rs.length
 st:∀ i j y,E i j→(ar a i y=none∧ar b j y=none)∨∃ i' j',ar a i y=some i'∧ar b j y=some j'∧E i' j'
theorem Alike.symm{a b:Rl}{E:Nat→Nat→Prop}(h:Alike a b E):Alike b a (fun j i=>E i j):=
 ⟨h.z,fun i j e=>(h.lt j i e).symm,fun i j y e=>by
  rcases h.st j i y e with ⟨h1,h2⟩ | ⟨i',j',h1,h2,h3⟩
  ·exact .inl ⟨h2,h1⟩
  ·exact .inr ⟨j',i',h2,h1,h3⟩⟩
structure lY (A:Rl):Prop where
 ok:bI A
 nd:A.ws.Nodup
 so:sortedS A.ws=true
 ks:af A.rs=List.range A.rs.length
 io:nJ A.rs
 ds:∀ y∈A.ws,∃ i,i<A.rs.length∧ar A i y≠some i
theorem Alike.total{a b:Rl}{E:Nat→Nat→Prop}(h:Alike a b E)(A:lY a):∀ i,i<a.rs.length→∃ j,E i j:=by
 intro i hi
 have hm:i∈aA a.rs i:=by rw[A.io.rng i]; exact List.mem_range.mpr (A.io.led i hi)
 refine qI (N:=a.rs) (fun i=>∃ j,E i j) ⟨0,h.z⟩ ?_ i i hm
 rintro k ⟨j,e⟩ k' hk
 obtain⟨x,hx,ex⟩:=u6 A.ok A.nd (h.lt k j e).1 hk
 rcases h.st k j _ e with ⟨h1,_⟩ | ⟨i',j',h1,_,h3⟩
 ·rw[ex]at h1; cases h1
 ·rw[ex]at h1; cases h1; exact⟨j',h3⟩
theorem gI{A:Rl}(ok:bI A)(nd:A.ws.Nodup){u p:Nat}(hu:u<A.rs.length)(hp:p<A.ws.length):(A.rs.getD u [])[p]? = some (ar A u A.ws[p]):=by
 have hl:=(ok.row _ (List.getElem_mem hu)).1;unfold ar;rw[if_pos (List.getElem_mem hp),fu nd hp,aF hu,aF (by omega),List.getElem?_eq_getElem (by omega)]
theorem Alike.inj{a b:Rl}{E:Nat→Nat→Prop}(h:Alike a b E)(B:lY b){i j j':Nat}(e1:E i j)(e2:E i j'):j=j':=by
 have key:=ix (R:=b.rs) (fun u v=>∃ i,E i u∧E i v) (fun u v huv hu hv p=>by
  obtain⟨i,e1,e2⟩:=huv
  have lu:=(B.ok.row _ (List.getElem_mem hu)).1;have lv:=(B.ok.row _ (List.getElem_mem hv)).1
  by_cases hp:p<b.ws.length
  ·rw[gI B.ok B.nd hu hp,gI B.ok B.nd hv hp]
   rcases h.st i u b.ws[p] e1 with ⟨h1,h2⟩ | ⟨i',x,h1,h2,h3⟩
   ·rcases h.st i v b.ws[p] e2 with ⟨g1,g2⟩ | ⟨i2,y,g1,g2,g3⟩
    ·rw[h2,g2]; exact .inr (.inl ⟨rfl,rfl⟩)
    ·rw[h1]at g1; cases g1
   ·rcases h.st i v b.ws[p] e2 with ⟨g1,g2⟩ | ⟨i2,y,g1,g2,g3⟩
    ·rw[h1]at g1; cases g1
    ·rw[h1]at g1; cases g1
     rw[h2,g2];exact .inr (.inr ⟨x,y,rfl,rfl,⟨i',h3,g3⟩,(h.lt _ _ h3).2,(h.lt _ _ g3).2⟩)
  ·refine .inl ⟨?_,?_⟩
   ·rw[aF hu,List.getElem?_eq_none_iff]; omega
   ·rw[aF hv,List.getElem?_eq_none_iff]; omega)
 have hj:=(h.lt _ _ e1).2;have hj':=(h.lt _ _ e2).2;have e:(af b.rs)[j]? = (af b.rs)[j']?:=key _ j j' ⟨i,e1,e2⟩ hj hj'
 rw[B.ks,List.getElem?_range hj,List.getElem?_range hj']at e
 exact Option.some.inj e
theorem Alike.word{a b:Rl}{E:Nat→Nat→Prop}(h:Alike a b E)(A:lY a)(B:lY b){y:Str}(hy:y∈a.ws):y∈b.ws:=by
 obtain⟨i,hi,hn⟩:=A.ds y hy
 obtain⟨j,e⟩:=h.total A i hi
 refine Classical.byContradiction fun hb=>?_
 have e2:ar b j y=some j:=by unfold ar; rw[if_neg hb]
 rcases h.st i j y e with ⟨_,h2⟩ | ⟨i',j',h1,h2,h3⟩
 ·rw[e2]at h2; cases h2
 ·rw[e2]at h2; cases h2
  have:i'=i:=h.symm.inj A h3 e
  rw[this]at h1
  exact hn h1
inductive Beside2 (E:Nat→Nat→Prop):List Nat→List Nat→Prop where
 | nil:Beside2 E [] []
 | cons {a b:Nat} {s t:List Nat}:E a b→Beside2 E s t→Beside2 E (a::s) (b::t)
theorem Beside2.len{E:Nat→Nat→Prop}{s t:List Nat}(h:Beside2 E s t):s.length=t.length:=by
 induction h with
 | nil=>rfl
 | cons _ _ ih=>simp[ih]
theorem Beside2.get{E:Nat→Nat→Prop}{s t:List Nat}(h:Beside2 E s t):∀ (i a b:Nat),s[i]? = some a→t[i]? = some b→E a b:=by
 induction h with
 | nil=>intro i a b e; simp at e
 | cons h1 _ ih=>
  intro i a b e1 e2
  cases i with
  | zero=>simp at e1 e2; rw[← e1,← e2]; exact h1
  | succ i=>exact ih i a b (by simpa using e1) (by simpa using e2)
theorem Beside2.snoc{E:Nat→Nat→Prop}{s t:List Nat}{a b:Nat}(h:Beside2 E s t)(e:E a b):Beside2 E (s++[a]) (t++[b]):=by
 induction h with
 | nil=>exact .cons e .nil
 | cons h1 _ ih=>exact .cons h1 ih
theorem Beside2.mem{E:Nat→Nat→Prop}(inj:∀ i j j',E i j→E i j'→j=j')(inj':∀ i i' j,E i j→E i' j→i=i'){s t:List Nat}(h:Beside2 E s t){a b:Nat}(e:E a b):a∈s ↔ b∈t:=by
 induction h with
 | nil=>simp
 | @cons x y _ _ h1 _ ih=>
  rw[List.mem_cons,List.mem_cons,ih]
  constructor
  ·rintro(z | z)
   ·subst z; exact .inl (inj _ _ _ e h1)
   ·exact .inr z
  ·rintro(z | z)
   ·subst z; exact .inl (inj' _ _ _ e h1)
   ·exact .inr z
theorem Beside2.grow{E:Nat→Nat→Prop}(inj:∀ i j j',E i j→E i j'→j=j')(inj':∀ i i' j,E i j→E i' j→i=i'):∀ (x y:List (Option Nat)) {s t:List Nat},Beside2 E s t→x.length=y.length→(∀ p:Nat,p<x.length→(x[p]? = some none∧y[p]? = some none)∨∃ u v,x[p]? = some (some u)∧y[p]? = some (some v)∧E u v)→Beside2 E (aE s x) (aE t y)
 | [],[],s,t,h,_,_=>h
 | [],_::_,_,_,_,hl,_=>by simp at hl
 | _::_,[],_,_,_,hl,_=>by simp at hl
 | o::x,o'::y,s,t,h,hl,hp=>by
  have hr:∀ p:Nat,p<x.length→(x[p]? = some none∧y[p]? = some none)∨∃ u v,x[p]? = some (some u)∧y[p]? = some (some v)∧E u v:=fun p hp'=>by
   have:=hp (p+1) (by simpa using hp')
   simpa using this
  have hl':x.length=y.length:=by simpa using hl
  rcases hp 0 (by simp) with ⟨h1,h2⟩ | ⟨u,v,h1,h2,h3⟩
  ·have e1:o=none:=by simpa using h1
   have e2:o'=none:=by simpa using h2
   subst e1 e2;exact Beside2.grow inj inj' x y h hl' hr
  ·have e1:o=some u:=by simpa using h1
   have e2:o'=some v:=by simpa using h2
   subst e1 e2;show Beside2 E (aE (if u∈s then s else s++[u]) x) (aE (if v∈t then t else t++[v]) y)
   refine Beside2.grow inj inj' x y ?_ hl' hr
   by_cases c:u∈s
   ·rw[if_pos c,if_pos ((h.mem inj inj' h3).mp c)]; exact h
   ·rw[if_neg c,if_neg (fun z=>c ((h.mem inj inj' h3).mpr z))]; exact h.snoc h3
theorem Alike.one{A B:Rl}{E:Nat→Nat→Prop}(h:Alike A B E)(hs:A.s=B.s)(LA:lY A)(LB:lY B):A=B:=by
 have inj:∀ i j j',E i j→E i j'→j=j':=fun i j j' e1 e2=>h.inj LB e1 e2
 have inj':∀ i i' j,E i j→E i' j→i=i':=fun i i' j e1 e2=>h.symm.inj LA e1 e2
 have hw:A.ws=B.ws:=rj LA.nd LB.nd LA.so LB.so fun y=>⟨h.word LA LB,h.symm.word LB LA⟩
 have row:∀ i j,E i j→∀ p:Nat,p<A.ws.length→((A.rs.getD i [])[p]? = some none∧(B.rs.getD j [])[p]? = some none)∨∃ u v,(A.rs.getD i [])[p]? = some (some u)∧(B.rs.getD j [])[p]? = some (some v)∧E u v:=fun i j e p hp=>by
  have hp':p<B.ws.length:=by rw[← hw]; exact hp
  have hww:B.ws[p]=A.ws[p]:=by simp only[hw]
  rw[gI LA.ok LA.nd (h.lt _ _ e).1 hp,gI LB.ok LB.nd (h.lt _ _ e).2 hp',hww];rcases h.st i j A.ws[p] e with ⟨h1,h2⟩ | ⟨i',j',h1,h2,h3⟩
  ·exact .inl ⟨by rw[h1],by rw[h2]⟩
  ·exact .inr ⟨i',j',by rw[h1],by rw[h2],h3⟩
 have rl:∀ i,i<A.rs.length→(A.rs.getD i []).length=A.ws.length:=fun i hi=>by rw[aF hi]; exact(LA.ok.row _ (List.getElem_mem hi)).1
 have rl':∀ i,i<B.rs.length→(B.rs.getD i []).length=A.ws.length:=fun i hi=>by rw[aF hi,hw]; exact(LB.ok.row _ (List.getElem_mem hi)).1
 have hb:∀ t,Beside2 E (aA A.rs t) (aA B.rs t):=by
  intro t
  induction t with
  | zero=>exact .cons h.z .nil
  | succ t ih=>
   show Beside2 E (match (aA A.rs t)[t]? with | some r=>aE (aA A.rs t) (A.rs.getD r []) | none=>aA A.rs t) (match (aA B.rs t)[t]? with | some r=>aE (aA B.rs t) (B.rs.getD r []) | none=>aA B.rs t)
   cases e:(aA A.rs t)[t]? with
   | none=>
    have:(aA B.rs t)[t]? = none:=by rw[List.getElem?_eq_none_iff]at e ⊢; rw[← ih.len]; exact e
    rw[this]; exact ih
   | some r=>
    have hlt:t<(aA B.rs t).length:=by rw[← ih.len]; exact(List.getElem?_eq_some_iff.mp e).1
    rw[List.getElem?_eq_getElem hlt];have er:=ih.get t r _ e (List.getElem?_eq_getElem hlt);have hlt2:=h.lt _ _ er;exact Beside2.grow inj inj' _ _ ih (by rw[rl _ hlt2.1,rl' _ hlt2.2]) (fun p hp=>row _ _ er p (by rw[← rl _ hlt2.1]; exact hp))
 have same:∀ i,i<A.rs.length→E i i:=fun i hi=>by
  have h1:=LA.io.led i hi;have h2:=hb i;have hl:=h2.len;refine h2.get i i i ?_ ?_
  ·rw[LA.io.rng i,List.getElem?_range h1]
  ·rw[LB.io.rng i,List.getElem?_range (by omega)]
 have same':∀ i,i<B.rs.length→E i i:=fun i hi=>by
  have h1:=LB.io.led i hi;have h2:=hb i;have hl:=h2.len;refine h2.get i i i ?_ ?_
  ·rw[LA.io.rng i,List.getElem?_range (by omega)]
  ·rw[LB.io.rng i,List.getElem?_range h1]
 have hlen:A.rs.length=B.rs.length:=by
  refine Nat.le_antisymm ?_ ?_
  ·refine Nat.le_of_not_lt fun c=>?_
   have:=(h.lt _ _ (same B.rs.length c)).2; omega
  ·refine Nat.le_of_not_lt fun c=>?_
   have:=(h.lt _ _ (same' A.rs.length c)).1; omega
 have hrs:A.rs=B.rs:=by
  refine List.ext_getElem hlen fun i h1 h2=>?_
  have e1:A.rs.getD i []=A.rs[i]:=aF h1
  have e2:B.rs.getD i []=B.rs[i]:=aF h2
  refine List.ext_getElem? fun p=>?_
  rw[← e1,← e2]
  by_cases hp:p<A.ws.length
  ·rcases row i i (same i h1) p hp with ⟨z1,z2⟩ | ⟨u,v,z1,z2,z3⟩
   ·rw[z1,z2]
   ·rw[z1,z2,inj _ _ _ (same u (h.lt _ _ z3).1) z3]
  ·rw[List.getElem?_eq_none (by rw[rl i h1]; omega),List.getElem?_eq_none (by rw[rl' i h2]; omega)]
 cases A; cases B
 simp only at hs hw hrs
 subst hs hw hrs
 rfl
theorem qc{r:Rl}{y:Str}(h:y∈(aK r).ws):y∈r.ws:=by
 have h':y∈((places (ae r.rs) r.ws.length).map fun x=>r.ws.getD x default):=h
 obtain⟨x,hx,e⟩:=List.mem_map.mp h'
 rw[aF (bG hx)]at e
 rw[← e]; exact List.getElem_mem _
theorem fq{r:Rl}(ok:bI r)(nd:r.ws.Nodup){k:Nat}(h:cw r.rs k)(y:Str):ar (aK r) (d8 r.rs k) y=(ar r k y).map (d8 r.rs):=by
 by_cases c:y∈r.ws
 ·obtain⟨x,hx,e⟩:=List.mem_iff_getElem.mp c
  subst e;exact pS ok nd h hx
 ·have c':y∉(aK r).ws:=fun z=>c (qc z)
  unfold ar;rw[if_neg c,if_neg c']; rfl
theorem fk{r:Rl}(ok:bI r)(nd:r.ws.Nodup){k k':Nat}(h:cw r.rs k){y:Str}(e:ar r k y=some k'):cw r.rs k':=by
 by_cases c:y∈r.ws
 ·obtain⟨x,hx,e2⟩:=List.mem_iff_getElem.mp c
  subst e2;exact oZ ok nd h hx e
 ·unfold ar at e
  rw[if_neg c]at e
  cases e; exact h
theorem pN{r:Rl}(ok:bI r)(nd:r.ws.Nodup):∀ y∈(aK r).ws,∃ i,i<(aK r).rs.length∧ar (aK r) i y≠some i:=by
 intro y hy
 have nl:=jz nd;have okl:=mE ok;obtain⟨q,hq,e⟩:=List.mem_iff_getElem.mp hy
 have hq':q<(places (ae r.rs) r.ws.length).length:=by rw[← rz]; exact hq
 have hm:=List.getElem_mem hq';have hd:=(List.mem_filter.mp hm).2;unfold cV at hd;rw[List.any_eq_true]at hd
 obtain⟨i,hi,hd⟩:=hd
 have hi':=List.mem_range.mp hi;have hd':=of_decide_eq_true hd;have hil:i<(aK r).rs.length:=by rw[cF,cI]; exact hi'
 refine⟨i,hil,fun z=>hd' ?_⟩
 have h1:=gI okl nl hil hq;rw[e,z,cF,ij hi',List.getElem?_map,List.getElem?_eq_getElem hq']at h1
 exact Option.some.inj h1
theorem lO{r:Rl}(so:sortedS r.ws=true):sortedS (aK r).ws=true:=by
 refine jY _ ?_
 show ((places (ae r.rs) r.ws.length).map fun x=>r.ws.getD x default).Pairwise _
 have hp:(places (ae r.rs) r.ws.length).Pairwise (· < ·):=List.Pairwise.filter _ List.pairwise_lt_range
 refine List.pairwise_map.mpr (List.Pairwise.imp_of_mem (fun {x y} hx hy hab=>?_) hp)
 rw[aF (bG hx),aF (bG hy)];exact List.pairwise_iff_getElem.mp (i_ _ so) x y (bG hx) (bG hy) hab
theorem kH{r:Rl}(ok:bI r)(nd:r.ws.Nodup)(so:sortedS r.ws=true):lY (aK r):=
 ⟨mE ok,jz nd,lO so,m_ ok,ls ok,pN ok nd⟩
theorem Alike.least{a b:Rl}{E:Nat→Nat→Prop}(h:Alike a b E)(hs:a.s=b.s)(oa:bI a)(ob:bI b)(na:a.ws.Nodup)(nb:b.ws.Nodup)(sa:sortedS a.ws=true)(sb:sortedS b.ws=true):aK a=aK b:=by
 refine Alike.one (E:=fun i j=>∃ k l,E k l∧cw a.rs k∧cw b.rs l∧d8 a.rs k=i∧d8 b.rs l=j) ⟨⟨0,0,h.z,fM oa.n0,fM ob.n0,ip oa.n0,ip ob.n0⟩,?_,?_⟩ hs (kH oa na sa) (kH ob nb sb)
 ·rintro i j ⟨k,l,e,r1,r2,rfl,rfl⟩
  exact⟨by rw[cF,cI]; exact jQ r1,by rw[cF,cI]; exact jQ r2⟩
 ·rintro i j y ⟨k,l,e,r1,r2,rfl,rfl⟩
  rw[fq oa na r1,fq ob nb r2];rcases h.st k l y e with ⟨h1,h2⟩ | ⟨k',l',h1,h2,h3⟩
  ·exact .inl ⟨by rw[h1]; rfl,by rw[h2]; rfl⟩
  ·exact .inr ⟨d8 a.rs k',d8 b.rs l',by rw[h1]; rfl,by rw[h2]; rfl,k',l',h3,fk oa na r1 h1,fk ob nb r2 h2,rfl,rfl⟩
def T(x:Str):List Nat:=x.cps.toList
theorem lC(x y:Str):T (x++y)=T x++T y:=by
 show (x.cps++y.cps).toList=_
 simp[T]
theorem cQ(x:Str):(T x).length=x.length:=by simp[T,Str.length]
theorem tH{α : Type}{ss:List α}{R:Nat→α→Prop}{i:Nat}{x:α}(hn:ss.length=i)(h:∀ (k:Nat) s,ss[k]? = some s→R k s)(hx:R i x):∀ (k:Nat) s,(ss++[x])[k]? = some s→R k s:=by
 intro k s e
 rcases Nat.lt_or_ge k ss.length with z | z
 ·rw[List.getElem?_append_left z]at e; exact h k s e
 ·rw[List.getElem?_append_right z]at e
  have hk:k - ss.length=0:=by
   have:=(List.getElem?_eq_some_iff.mp e).1
   simp at this; omega
  rw[hk]at e
  have:x=s:=by simpa using e
  subst this;rw[show k=i by omega]; exact hx
section
variable{P:Program}{w:World}{K:PySem.W.Frag}{mg:Str→Option Value}{base:Heap}
def iY(z:Int):Nat:=letters.cps.toList.getD (z % 26).toNat 0
theorem oK(z:Int):letters.length≤sizeLine∧cX letters.cps.toList (z % 26)=some (iY z):=by
 have hz:(z % 26).toNat<letters.cps.toList.length:=by
  show (z % 26).toNat<26
  omega
 refine⟨by decide,?_⟩
 have q:=aC (List.getElem?_eq_getElem hz);rw[show (((z % 26).toNat:Nat):Int)=z % 26 by omega]at q
 rw[q];unfold iY;rw[List.getD_eq_getElem?_getD,List.getElem?_eq_getElem hz]; rfl
theorem sy{y z:Int}(h:iY y=iY z):y % 26=z % 26:=by
 have key:∀ i j:Fin 26,letters.cps.toList.getD i.val 0=letters.cps.toList.getD j.val 0→i=j:=by decide +kernel
 have:=key ⟨(y % 26).toNat,by omega⟩ ⟨(z % 26).toNat,by omega⟩ h
 have:=congrArg Fin.val this
 simp only[]at this
 omega
theorem rS(x:Str)(c:Nat):(x++(⟨#[c]⟩ : Str)).cps.toList=x.cps.toList++[c]:=by
 show (x.cps ++ #[c]).toList=_
 simp
def ml:Sp:=fun vs H Q _=>∃ (c:Int) (n:Nat) (sd:Int),vs=[.int c,.int n,.int sd]∧n≤8∧(sd=1∨sd=2)∧∀ (p:Addr) (H':Hp) (ss:List Str),Same H H'→H p=none→H' p=some (.lst (ss.map V.str))→ss.length=n→(∀ x∈ss,x.length≤10)→ss.Nodup→sortedS ss=true→Q (.ref p) H'
theorem oQ(D:DefAt K mg "_law_words" aD) (z_range:mg "range" = none) (z_int:mg "int" = none) (z_str:mg "str" = none) (z_sorted:mg "sorted" = none) (c_law_mixed:bv P w K mg base 1 "_law_mixed" ["_law_cell", "_law_many"] jc):bv P w K mg base 2 "_law_words" ["_law_cell", "_law_many", "_law_sides"] ml:=by
 refine D.cal sc_law_words (fun _ _ _ _ _ _ us hl=>match us,hl with | [_,_,_],_=>rfl) (fun vs H Q E h=>by obtain⟨c,n,sd,rfl,_⟩:=h; rfl) (fun f cdv A outer s H vs Q E hr h=>?_)
 obtain⟨c,n,sd,rfl,n26,hsd,q⟩:=h
 refine⟨_,(ab (ax 3 sc_law_words.nd iN)
   (ab (ax 4 sc_law_words.nd (aW c_law_mixed hr (aa (pv 0) (aa ah ac))))
   (ab (ax 5 sc_law_words.nd (aq a_ ah (aq bh (aB (aM K) (pv 4) ah (fun _ _=>rfl)) ah)))
   (ab (ax 6 sc_law_words.nd (aq bh (aB (aM K) (pv 4) ah (fun _ _=>rfl)) (pv 5)))
   (ab (ax 7 sc_law_words.nd (cj ac))
   (ab (b_ PassesOwn.never rfl (bP yF z_range (aa (pv 1) ac)) (bb 8 sc_law_words.nd) (ab (ax 9 sc_law_words.nd iN)
   (ab (b_ PassesOwn.never rfl (bP yF z_range (aa (pv 5) ac)) (bb 10 sc_law_words.nd) (ap (ax 9 sc_law_words.nd (aq a_ (pv 9) (aB (aM K) (pv 3) (aq bh (aq a_ (aB (aM K) (pv 4) (aq a_ ah (pv 10)) (fun _ _=>rfl)) (aq df (pv 8) (cJ rH z_int xE (aa (gn d9 (pv 10) (pv 6) (bd _)) ac)))) ah) (fun _ _=>rfl))))))
   (ab (bZ (aZ d9 (pv 2) ah (bd _)) (ap (ax 9 sc_law_words.nd (aq a_ (aq a_ (cJ kG z_str rf (aa (aq a_ ah (aq bh (aq bO (aB (aM K) (pv 4) (aq a_ ah (pv 8)) (fun _ _=>rfl)) ah) ah)) ac)) iN) (pv 9)))) bD)
   (ap (cC (ci K PySem.F.plainAttrs_list PySem.F.slot_list_append PySem.F.type_list_append bN (pv 7) (aa (pv 9) ac))))))))
   (ap (bg (bq (j3 K) z_sorted iO (aa (pv 7) ac)))))))))),?_⟩
 walk_at "rd1";walk_at "nx";refine⟨c,10,rfl,by decide,by decide,fun xp H1 ms sm1 hxp hxl hxn hxb=>?_⟩
 have item:∀ {H':Hp} (i:Nat),Same H1 H'→i<10→∃ xs,(SqL K H' xp xs∨SqT K H' xp xs)∧cX xs (i:Int)=some (.int (ms.getD i 0)):=fun {H'} i sm h1=>
  ⟨_,.inl (SqL.of (sm _ _ hxl)),aC (by rw[List.getElem?_map,List.getD_eq_getElem?_getD,List.getElem?_eq_getElem (by omega)]; rfl)⟩
 walk_at "nx";obtain⟨xs,h1,h2⟩:=item 0 (Same.refl H1) (by decide)
 refine⟨xs,_,h1,h2,?_⟩
 walk_at "rd1";refine⟨by decide,?_⟩
 have hsz0:∃ z:Nat,1+ms.getD 0 0 % 8=(z:Int)∧1≤z∧z≤8:=⟨(1+ms.getD 0 0 % 8).toNat,by omega,by omega,by omega⟩
 obtain⟨sz,esz,sz0,sz1⟩:=hsz0
 rw[esz];walk_at "nx";obtain⟨xs,h1,h2⟩:=item 9 (Same.refl H1) (by decide)
 refine⟨xs,_,h1,h2,?_⟩
 walk_at "rd1";refine⟨by omega,?_⟩
 have hat0:∃ z:Nat,ms.getD 9 0 % (sz:Int)=(z:Int)∧z<sz:=⟨(ms.getD 9 0 % (sz:Int)).toNat,by have:=Int.emod_nonneg (ms.getD 9 0) (show (sz:Int)≠0 by omega); omega,by have:=Int.emod_lt_of_pos (ms.getD 9 0) (show (0:Int)<sz by omega); have:=Int.emod_nonneg (ms.getD 9 0) (show (sz:Int)≠0 by omega); omega⟩
 obtain⟨at',eat,hat⟩:=hat0
 rw[eat];walk_at "nx";refine⟨by decide,fun p hp=>?_⟩
 generalize hH2:upd H1 p _=H2
 have sm2:=dc hH2 hp;have e2:=gJ hH2;walk_at "nx";refine⟨by omega,by omega,?_⟩
 refine b8 (fun i σ H'=>∃ (ss:List Str) (o7 o8 o9:Option V),σ=[some (.int c),some (.int n),some (.int sd),some (.str letters),some (.ref xp),some (.int sz),some (.int at'),some (.ref p),o7,o8,o9]∧Same H1 H'∧H' p=some (.lst (ss.map V.str))∧ss.length=i∧(∀ x∈ss,x.length≤10)∧∀ (k:Nat) x,ss[k]? = some x→x.cps.toList[at'+if sd=2 then 2 else 0]? = some (iY (ms.getD (1+at') 0+k * 1)))
  ⟨[],none,none,none,rfl,sm2,e2,rfl,by simp,by simp⟩ ?_ ?_
 ·rintro i σ H' hi ⟨ss,o7,o8,o9,rfl,sm,hl,hsn,hsl,hsk⟩
  rw[Int.toNat_natCast]at hi
  walk_at "rd1";walk_at "nx";refine⟨by omega,by omega,?_⟩
  refine b8 (fun j σ H2=>∃ (x:Str) (o8:Option V),σ=[some (.int c),some (.int n),some (.int sd),some (.str letters),some (.ref xp),some (.int sz),some (.int at'),some (.ref p),some (.int (0+(i:Int))),some (.str x),o8]∧H'=H2∧x.length=j∧(at'<j→x.cps.toList[at']? = some (iY (ms.getD (1+at') 0+i * 1))))
   ⟨_,_,rfl,rfl,rfl,fun h=>absurd h (by omega)⟩ ?_ ?_
  ·rintro j σ H2 hj ⟨x,o8,rfl,rfl,hx,hxa⟩
   rw[Int.toNat_natCast]at hj
   walk_at "rd1";obtain⟨xs,h1,h2⟩:=item (1+j) sm (by omega)
   rw[show ((1+j:Nat):Int)=1+(0+(j:Int)) by omega]at h2
   refine⟨xs,_,h1,h2,.inl ⟨by omega,by omega⟩,?_⟩
   walk_at "rd1";obtain⟨l1,l2⟩:=oK (ms.getD (1+j) 0+(0+(i:Int)) * if 0+(j:Int)=(at':Int) then 1 else 0)
   refine⟨by decide,_,l1,l2,?_,x++⟨#[iY (ms.getD (1+j) 0+(0+(i:Int)) * if 0+(j:Int)=(at':Int) then 1 else 0)]⟩,_,rfl,?_,fun hlt=>?_⟩
   ·show x.length+1≤sizeLine
    exact bM (by omega)
   ·rw[sq,hx]
   ·have hxl:x.cps.toList.length=j:=by rw[Array.length_toList]; exact hx
    rw[rS];rcases Nat.lt_or_ge at' j with g | g
    ·rw[List.getElem?_append_left (by omega)]; exact hxa g
    ·have e:at'=j:=by omega
     subst e;rw[List.getElem?_append_right (by omega),hxl,Nat.sub_self,if_pos (by omega),Int.zero_add]; rfl
  ·rintro σ H2 ⟨x,o8,rfl,rfl,hx,hxa⟩
   rw[Int.toNat_natCast]at hx hxa
   dsimp only
   refine gF (fun σ' H2=>∃ (y:Str),σ'=[some (.int c),some (.int n),some (.int sd),some (.str letters),some (.ref xp),some (.int sz),some (.int at'),some (.ref p),some (.int (0+(i:Int))),some (.str y),o8]∧H'=H2∧y.length≤10∧y.cps.toList[at'+if sd=2 then 2 else 0]? = some (iY (ms.getD (1+at') 0+i * 1))) (fun k hk=>?_) ?_
   ·rcases hsd with rfl | rfl
    ·walk_at "rd1"
     refine bp (fun c=>absurd c (by decide)) (fun _=>?_)
     exact hk _ _ ⟨x,rfl,rfl,by omega,hxa hat⟩
    ·walk_at "rd1"
     obtain⟨xs,h1,h2⟩:=item (1+i) sm (by omega)
     rw[show ((1+i:Nat):Int)=1+(0+(i:Int)) by omega]at h2
     refine⟨xs,_,h1,h2,?_⟩
     walk_at "rd1";have hd:1+ms.getD (1+i) 0 / 64 % 2=1∨1+ms.getD (1+i) 0 / 64 % 2=2:=by omega
     have hl1:(Str.ofString (toString (1+ms.getD (1+i) 0 / 64 % 2))).length=1:=by rcases hd with e | e <;> rw[e] <;> decide +kernel
     have hlg:(1+ms.getD (1+i) 0 / 64 % 2).natAbs.log2<1920:=by rcases hd with e | e <;> rw[e] <;> decide +kernel
     have hdot:(Str.ofString ".").length=1:=by decide +kernel
     have hpre:(Str.ofString (toString (1+ms.getD (1+i) 0 / 64 % 2))++Str.ofString ".").length=2:=by rw[← cQ,lC,List.length_append,cQ,cQ,hl1,hdot]
     have hall:T (Str.ofString (toString (1+ms.getD (1+i) 0 / 64 % 2))++Str.ofString "." ++ x)=T (Str.ofString (toString (1+ms.getD (1+i) 0 / 64 % 2))++Str.ofString ".")++T x:=lC _ _
     refine⟨⟨by decide,by decide⟩,by decide,hlg,by rw[hl1,hdot]; exact bM (by decide),by rw[hpre]; exact bM (by omega),?_⟩
     refine hk _ _ ⟨_,rfl,rfl,?_,?_⟩
     ·rw[← cQ,hall,List.length_append,cQ,cQ,hpre]; omega
     ·show (T _)[at'+2]? = _
      rw[hall,List.getElem?_append_right (by rw[cQ,hpre]; omega),cQ,hpre,Nat.add_sub_cancel]
      exact hxa hat
   rintro σ' H2 ⟨y,rfl,rfl,hy10,hyat⟩
   walk_at "nx";refine⟨⟨_,SqL.of hl⟩,_,hl,by rw[List.length_map]; exact b6 (by omega),?_⟩
   refine⟨ss++[y],_,_,_,rfl,sm.upd hp _,by rw[ai,List.map_append]; rfl,by simp[hsn],fun z hz=>?_,tH hsn hsk hyat⟩
   rcases List.mem_append.mp hz with z' | z'
   ·exact hsl z z'
   ·rw[List.mem_singleton.mp z']; exact hy10
 ·rintro σ H' ⟨ss,o7,o8,o9,rfl,sm,hl,hsn,hsl,hsk⟩
  rw[Int.toNat_natCast]at hsn
  walk_at "nx"
  have hnd:ss.Nodup:=by
   rw[List.nodup_iff_pairwise_ne,List.pairwise_iff_getElem];intro a b ha hb hab e
   have h1:=hsk a _ (List.getElem?_eq_getElem ha);have h2:=hsk b _ (List.getElem?_eq_getElem hb);rw[e,h2]at h1
   have h3:=sy (Option.some.inj h1);omega
  refine⟨ss,SqL.of hl,by omega,fun lp ts hlp pm so=>?_⟩
  exact q lp _ ts (sm1.trans (sm.trans (au hlp _))) ((sm1.trans sm).free hlp) ai (by rw[pm.length_eq]; exact hsn) (fun x hx=>hsl x (pm.mem_iff.mp hx)) (pm.nodup_iff.mpr hnd) so
end
theorem sA(l:List Int)(c:Int)(h:l.length=4)(hb:∀ x∈l,0<x∧x<1073741824):∃ v,cX (l.map V.int) (c % 4)=some (.int v)∧0<v∧v<1073741824:=by
 obtain⟨v,hv,_⟩:=xN (xs:=l) (i:=c % 4) (by omega) (by omega)
 exact⟨v,qe (by omega) hv,(hb v (List.mem_of_getElem? hv)).1,(hb v (List.mem_of_getElem? hv)).2⟩
theorem pc{xs:List V}{i:Nat}(h:i<xs.length):fD xs.length (0+(i:Int))=some i:=by
 unfold fD;rw[if_pos (by omega),if_pos (by omega)]
 congr 1
 omega
section
variable{P:Program}{w:World}{K:PySem.W.Frag}{mg:Str→Option Value}{base:Heap}
structure mZ (r:Rl):Prop where
 ok:bI r
 nd:r.ws.Nodup
 so:sortedS r.ws=true
 z:r.rs.length≤24
 w1:1≤r.ws.length
 w4:r.ws.length≤4
theorem RoomsAs.push{H:Hp}{p a:Addr}{rs:List (List (Option Nat))}{as:List Addr}{x:List (Option Nat)}(h:RoomsAs H p rs as)(hp:p∉as)(ha:p≠a)(e:H a=some (.lst (x.map aG))):RoomsAs (upd H p (.lst (as.map V.ref++[.ref a]))) p (rs++[x]) (as++[a]):=by
 obtain⟨h1,h2,h3⟩:=h
 refine⟨by rw[ai]; simp,by simp[h2],fun i a' x' e1 e2=>?_⟩
 by_cases hi:i<as.length
 ·rw[List.getElem?_append_left hi]at e1
  rw[List.getElem?_append_left (by omega)]at e2
  rw[am (fun z=>by subst z; exact hp (List.mem_of_getElem? e1))]
  exact h3 i a' x' e1 e2
 ·have hi':i=as.length:=by have:=(List.getElem?_eq_some_iff.mp e1).1; simp at this; omega
  subst hi';rw[List.getElem?_append_right (Nat.le_refl _)]at e1
  rw[h2,List.getElem?_append_right (Nat.le_refl _)]at e2
  simp at e1 e2
  subst e1 e2;rw[am ha.symm]; exact e
theorem RoomsAs.putRow{H:Hp}{p c:Addr}{rs:List (List (Option Nat))}{as:List Addr}{i:Nat}{y:List (Option Nat)}(h:RoomsAs H p rs as)(hp:p∉as)(hc:p≠c)(e:H c=some (.lst (y.map aG))):RoomsAs (upd H p (.lst ((as.map V.ref).set i (.ref c)))) p (rs.set i y) (as.set i c):=by
 obtain⟨h1,h2,h3⟩:=h
 refine⟨by rw[ai,List.map_set],by rw[List.length_set,List.length_set]; exact h2,fun k a x e1 e2=>?_⟩
 by_cases ek:k=i
 ·subst ek
  have hk:k<as.length:=by have:=(List.getElem?_eq_some_iff.mp e1).1; rwa [List.length_set]at this
  rw[List.getElem?_set_self hk]at e1
  rw[List.getElem?_set_self (by omega)]at e2
  cases e1; cases e2
  rw[am (Ne.symm hc)]; exact e
 ·rw[List.getElem?_set_ne (Ne.symm ek)]at e1 e2
  rw[am (fun z=>by subst z; exact hp (List.mem_of_getElem? e1))]; exact h3 k a x e1 e2
def oe(K:PySem.W.Frag):Sp:=fun vs H Q _=>∃ (a:Addr) (ns:List Int),vs=[.ref a]∧SqL K H a (ns.map V.int)∧ns.length≤63∧∀ (p:Addr) (H':Hp) (r:Rl),Same H H'→RuleAt H' p r→mZ r→Q (.ref p) H'
theorem qO(D:DefAt K mg "_law_rule" av) (z_range:mg "range" = none) (z_len:mg "len" = none) (z_min:mg "min" = none) (z_list:mg "list" = none) (c_law_cell_at:bv P w K mg base 1 "_law_cell_at" ["_law_script", "_law_k"] (lW K)) (c_law_mixed:bv P w K mg base 1 "_law_mixed" ["_law_cell", "_law_many"] jc) (c_law_words:bv P w K mg base 2 "_law_words" ["_law_cell", "_law_many", "_law_sides"] ml) (c_law_way:bv P w K mg base 1 "_law_way" ["_law_number", "_law_share", "_law_many"] ur):bv P w K mg base 3 "_law_rule" ["_law_script"] (oe K):=by
 refine D.cal sc_law_rule (fun _ _ _ _ _ _ us hl=>match us,hl with | [_],_=>rfl) (fun vs H Q E h=>by obtain⟨_,_,rfl,_⟩:=h; rfl) (fun f cdv A outer s H vs Q E hr h=>?_)
 obtain⟨a,ns,rfl,hS,h63,fin⟩:=h
 refine⟨_,(ab (ax 1 sc_law_rule.nd (aW c_law_cell_at hr (aa (pv 0) (aa ah ac))))
   (ab (ax 2 sc_law_rule.nd (aq a_ ah (aq bh (aq bO (pv 1) ah) ah)) (hx:=BF))
   (ab (ax 3 sc_law_rule.nd (aW c_law_cell_at hr (aa (pv 0) (aa ah ac))))
   (ab (ax 4 sc_law_rule.nd (aq a_ ah (aq bh (aq bO (pv 3) ah) ah)) (hx:=wc))
   (ab (bZ (aZ d9 (aq bh (aq bO (pv 3) ah) ah) ah (bd _)) (ap (ax 4 sc_law_rule.nd (aq a_ ah (aq bh (aq bO (pv 3) ah) ah)) (hx:=wc))) bD)
   (ab (ax 5 sc_law_rule.nd (aB (aM K) (cj (aa ah (aa ah (aa ah (aa ah ac))))) (aq bh (pv 3) ah) (fun _ _=>rfl)) (hx:=zg))
   (ab (ax 6 sc_law_rule.nd (aW c_law_mixed hr (aa (pv 3) (aa (aq df (aq a_ (pv 2 (hv:=kq)) ah) (pv 4 (hv:=mF))) ac))) (hx:=zu))
   (ab (b_ PassesOwn.never rfl (bP ww z_range (aa (bq kR z_min qW (aa (aq lF (bq (br K) z_len bR (aa (pv 0) ac)) ah) (aa (aq df (pv 2 (hv:=kq)) (pv 4 (hv:=mF))) ac))) ac)) (bb 7 sc_law_rule.nd) (ap (cz (aq bh (aB (aM K) (pv 0) (aq a_ ah (pv 7)) (fun _ _=>rfl)) ah) (cL (pv 6 (hv:=t8)) (pv 7) gN))))
   (ab (ax 8 sc_law_rule.nd (cj ac))
   (ab (b_ PassesOwn.never rfl (bP ww z_range (aa (pv 4 (hv:=mF)) ac)) (bb 9 sc_law_rule.nd (hx:=zZ)) (ab (cC (ci K PySem.F.plainAttrs_list PySem.F.slot_list_append PySem.F.type_list_append bN (pv 8) (aa (di (CompSc.to (fsc:=(defScope av)) (N:=["_law_script", "_law_first", "_law_many", "_law_cell", "_law_size", "_law_share", "_law_xs", "_law_k", "_law_rooms", "_law_r"]) (N0:=["_law_script", "_law_first", "_law_many", "_law_cell", "_law_size", "_law_share", "_law_xs", "_law_k", "_law_rooms", "_law_r"]) (T:=["_law_j"]) ⟨by decide +kernel,by decide +kernel,by decide +kernel,by decide +kernel,by decide +kernel,by decide +kernel,by decide +kernel⟩ rfl rfl) rfl (bP ww z_range (aa (pv 2 (hv:=kq)) ac)) (fun _ _ _ _=>(bb 10 (show (["_law_script", "_law_first", "_law_many", "_law_cell", "_law_size", "_law_share", "_law_xs", "_law_k", "_law_rooms", "_law_r", "_law_j"]:List Str).Nodup from by decide +kernel) (hx:=(fz (defScope av) (by decide +kernel))) (hf:=iI (defScope av) (by decide +kernel)))) (bU (show (["_law_script", "_law_first", "_law_many", "_law_cell", "_law_size", "_law_share", "_law_xs", "_law_k", "_law_rooms", "_law_r"]:List Str).length≤10 from by decide)) (fun _ _ _ _=>cm) (fun _ _ _ _=>(aW c_law_way hr (aa (aB (aM K) (pv 6 (hv:=(bQ (defScope av) (by decide +kernel)))) (aq a_ (aq df (pv 2 (hv:=(bQ (defScope av) (by decide +kernel)))) (pv 9 (hv:=(bQ (defScope av) (by decide +kernel))))) (pv 10 (hv:=(bQ (defScope av) (by decide +kernel))))) (fun _ _=>rfl)) (aa (pv 5 (hv:=(bQ (defScope av) (by decide +kernel)))) (aa (pv 4 (hv:=(bQ (defScope av) (by decide +kernel)))) ac))) (hg:=(nU (defScope av) (by decide +kernel)))))) ac)))
   (ap (bZ (PW.pt' (h_ (aZ d9 (aq bh (aq bO (pv 3) ah) ah) ah (bd _)) (h_ (aZ ul (pv 9 (hv:=lI)) ah (bd _)) (g4 (aZ ul (aq bh (aB (aM K) (pv 6 (hv:=t8)) (aq a_ (aq df (pv 2 (hv:=kq)) (pv 4 (hv:=mF))) (pv 9 (hv:=lI))) (fun _ _=>rfl)) ah) ah (bd _)))))) (ap (cz (cJ (d0 K) z_list gB (aa (aB (aM K) (pv 8) (aq bh (aq bO (aB (aM K) (pv 6 (hv:=t8)) (aq a_ (aq df (pv 2 (hv:=kq)) (pv 4 (hv:=mF))) (pv 9 (hv:=lI))) (fun _ _=>rfl)) ah) (pv 9 (hv:=lI))) (fun _ _=>rfl)) ac)) (cL (pv 8) (pv 9 (hv:=lI)) gN))) bD))))
   (ap (bg (dZ (aa (aq a_ ah (aq bh (pv 1) ah)) (aa (aW c_law_words hr (aa (aW c_law_cell_at hr (aa (pv 0) (aa ah ac))) (aa (pv 2 (hv:=kq)) (aa (aq a_ ah (aq bh (pv 1) ah)) ac)))) (aa (pv 8) ac)))))))))))))))),?_⟩
 walk_at "rd1";refine⟨a,ns,0,rfl,hS,by decide,?_⟩
 generalize ns.getD (0:Int).toNat 0=fi
 walk_at "nx";refine⟨⟨by decide,by decide⟩,by decide,?_⟩
 obtain⟨mn,emn,mn1,mn4⟩ : ∃ z:Nat,1+fi / 2 % 4=(z:Int)∧1≤z∧z≤4:=⟨(1+fi / 2 % 4).toNat,by omega,by omega,by omega⟩
 rw[emn];walk_at "nx";refine⟨a,ns,2,rfl,hS,by decide,?_⟩
 generalize ns.getD (2:Int).toNat 0=c
 walk_at "nx";refine⟨⟨by decide,by decide⟩,by decide,?_⟩
 refine gF (fun σ' H'=>∃ sz:Nat,H=H'∧1≤sz∧sz≤24∧σ'=[some (.ref a),some (.int fi),some (.int (mn:Int)),some (.int c),some (.int (sz:Int)),none,none,none,none,none]) (fun kk hkk=>?_) ?_
 ·walk_at "rd1"
  refine⟨⟨by decide,by decide⟩,by decide,bp (fun _=>⟨⟨by decide,by decide⟩,by decide,?_⟩) (fun _=>?_)⟩
  ·obtain⟨z,ez,z1,z2⟩ : ∃ z:Nat,1+c / 1024 % 24=(z:Int)∧1≤z∧z≤24:=⟨(1+c / 1024 % 24).toNat,by omega,by omega,by omega⟩
   rw[ez];exact hkk _ _ ⟨z,rfl,z1,z2,rfl⟩
  ·obtain⟨z,ez,z1,z2⟩ : ∃ z:Nat,1+c / 16 % 8=(z:Int)∧1≤z∧z≤24:=⟨(1+c / 16 % 8).toNat,by omega,by omega,by omega⟩
   rw[ez];exact hkk _ _ ⟨z,rfl,z1,z2,rfl⟩
 rintro σ' H' ⟨sz,rfl,sz1,sz24,rfl⟩
 walk_at "nx";refine⟨by decide,fun sp hsp=>?_⟩
 have s1:=au hsp (.lst [V.int 2,V.int 5,V.int 9,V.int 101]);have e1:upd H sp (.lst [V.int 2,V.int 5,V.int 9,V.int 101]) sp=some (.lst ([2,5,9,101].map V.int)):=ai
 generalize upd H sp (.lst [V.int 2,V.int 5,V.int 9,V.int 101])=H1 at s1 e1 ⊢;obtain⟨sh,hsh,sh0,sh1⟩:=sA [2,5,9,101] c rfl (by decide)
 refine⟨by decide,_,_,.inl (SqL.of e1),hsh,?_⟩
 walk_at "nx";have hmz:((mn:Int)+1) * sz=(((mn+1) * sz:Nat):Int):=by simp
 have hmz9:(mn+1) * sz≤120:=Nat.le_trans (Nat.mul_le_mul (Nat.succ_le_succ mn4) sz24) (by decide)
 have hms:mn * sz+sz=(mn+1) * sz:=by rw[Nat.add_mul,Nat.one_mul]
 refine⟨.inl ⟨by omega,by omega⟩,_,_,rfl,by rw[hmz]; omega,by rw[hmz]; omega,fun xp H2 ms s2 hxp hxl hxn hxb=>?_⟩
 have hxn':ms.length=(mn+1) * sz:=by rw[hmz]at hxn; omega
 walk_at "nx";have hS2:=(s1.trans s2).seq hS;have hmz2:(mn:Int) * sz=((mn * sz:Nat):Int):=by simp
 refine⟨_,.inl hS2,.inl ⟨by omega,by omega⟩,?_⟩
 have hb:∃ b:Int,(if (mn:Int) * sz<((ns.map V.int).length:Int) - 4 then (mn:Int) * sz else ((ns.map V.int).length:Int) - 4)=b∧b.toNat≤mn * sz∧b.toNat+4≤ns.length+4∧-4≤b∧b≤200∧(0≤b→b.toNat+4≤ns.length):=by
  rw[hmz2,List.length_map];have:mn * sz≤96:=Nat.le_trans (Nat.mul_le_mul mn4 sz24) (by decide)
  split
  ·exact⟨_,rfl,by omega,by omega,by omega,by omega,fun _=>by omega⟩
  ·exact⟨_,rfl,by omega,by omega,by omega,by omega,fun _=>by omega⟩
 obtain⟨b,eb,hb1,hb2,hb3,hb4,hb5⟩:=hb
 rw[eb];refine⟨by omega,by omega,?_⟩
 refine b8 (fun i σ H'=>∃ (ms':List Int) (o7:Option V),σ=[some (.ref a),some (.int fi),some (.int (mn:Int)),some (.int c),some (.int (sz:Int)),some (.int sh),some (.ref xp),o7,none,none]∧Same H H'∧H' xp=some (.lst (ms'.map V.int))∧ms'.length=(mn+1) * sz) ⟨ms,none,rfl,s1.trans s2,hxl,hxn'⟩ ?_ ?_
 ·rintro i σ H' hi ⟨ms',o7,rfl,sm,hl,hn⟩
  walk_at "rd1";have hin:4+i<ns.length:=by have:=hb5 (by omega); omega
  have hat:cX (ns.map V.int) (4+(0+(i:Int)))=some (.int (ns.getD (4+i) 0)):=by
   rw[show (4:Int)+(0+(i:Int))=((4+i:Nat):Int) by omega]
   exact aC (by rw[List.getElem?_map,List.getD_eq_getElem?_getD,List.getElem?_eq_getElem hin]; rfl)
  refine⟨_,_,.inl (sm.seq hS),hat,?_⟩
  walk_at "rd1";exact⟨by decide,_,i,hl,pc (by rw[List.length_map]; omega),ms'.set i (ns.getD (4+i) 0 % 998244353),_,rfl,sm.upd (s1.free hxp) _,by rw[ai,List.map_set],by rw[List.length_set]; exact hn⟩
 rintro σ H3 ⟨ms',o7,rfl,s3,hl3,hn3⟩
 have item:∀ {H':Hp} (i:Nat),Same H3 H'→i<(mn+1) * sz→∃ xs,(SqL K H' xp xs∨SqT K H' xp xs)∧cX xs (i:Int)=some (.int (ms'.getD i 0)):=fun {H'} i sm h1=>
  ⟨_,.inl (SqL.of (sm _ _ hl3)),aC (by rw[List.getElem?_map,List.getD_eq_getElem?_getD,List.getElem?_eq_getElem (by omega)]; rfl)⟩
 walk_at "nx";refine⟨by decide,fun rp hrp=>?_⟩
 have s4:=au hrp (.lst []);have e4:upd H3 rp (.lst []) rp=some (.lst (([]:List Addr).map V.ref)):=ai
 generalize upd H3 rp (.lst [])=H4 at s4 e4 ⊢;walk_at "nx";refine⟨by omega,by omega,?_⟩
 rw[Int.toNat_natCast]
 refine b8 (fun i σ H'=>∃ (as:List Addr) (rs:List (List (Option Nat))) (o9:Option V),σ=[some (.ref a),some (.int fi),some (.int (mn:Int)),some (.int c),some (.int (sz:Int)),some (.int sh),some (.ref xp),o7,some (.ref rp),o9]∧Same H3 H'∧RoomsAs H' rp rs as∧rs.length=i∧rp∉as∧∀ x∈rs,x.length=mn∧∀ k,some k∈x→k<sz)
  ⟨[],[],none,rfl,s4,⟨e4,rfl,fun i a x z=>by simp at z⟩,rfl,by simp,by simp⟩ ?_ ?_
 ·rintro i σ H' hi ⟨as,rs,o9,rfl,sm,hR,hrl,hna,hrr⟩
  have hal:=hR.2.1;walk_at "rd1";refine⟨⟨_,SqL.of hR.1⟩,by omega,by omega,fun L hL=>?_⟩
  refine jm (fun j ys H''=>∃ x:List (Option Nat),Same H' H''∧H'' L=some (.lst ys)∧ys=x.map aG∧x.length=j∧∀ k,some k∈x→k<sz) ⟨[],au hL _,ai,rfl,rfl,by simp⟩ ?_ ?_
  ·rintro j ys H'' hj ⟨x,smx,hlx,rfl,hx,hxk⟩
   have hj':j<mn:=by omega
   have hix:mn * i+j<(mn+1) * sz:=by
    calc mn * i+j<mn * i+mn:=by omega
     _=mn * (i+1):=by rw[Nat.mul_add,Nat.mul_one]
     _≤mn * sz:=Nat.mul_le_mul_left _ hi
     _≤(mn+1) * sz:=by omega
   obtain⟨xs,g1,g2⟩:=item (mn * i+j) (sm.trans smx) hix
   rw[show ((mn * i+j:Nat):Int)=(mn:Int) * (0+(i:Int))+(0+(j:Int)) by simp]at g2
   walk_at "rd1";refine⟨.inl ⟨by omega,by omega⟩,_,_,g1,g2,?_⟩
   refine⟨_,sh,sz,rfl,sh0,sh1,by omega,by omega,fun o ho=>?_⟩
   exact fJ (by omega) (by rw[List.length_map]; exact hx) (bM (by omega)) hlx ⟨x++[o],smx.upd hL _,ai,by simp,by simp[hx],fun k hk=>by
    rcases List.mem_append.mp hk with z | z
    ·exact hxk k z
    ·have:=ho k (List.mem_singleton.mp z).symm
     omega⟩
  rintro ys H5 ⟨x,s5,hlx,rfl,hx,hxk⟩
  have hxm:x.length=mn:=by omega
  have hR5:=hR.mono s5;have nL:rp≠L:=aV hR.1 hL
  refine⟨_,hR5.1,by rw[List.length_map]; exact b6 (by omega),?_⟩
  have hR6:=hR5.push hna nL hlx;have hrp3:H3 rp=none:=hrp
  have sm6:=(sm.trans s5).upd hrp3 (.lst (as.map V.ref++[.ref L]));generalize upd H5 rp (.lst (as.map V.ref++[.ref L]))=H6 at hR6 sm6 ⊢
  have hna6:rp∉as++[L]:=fun z=>by
   rcases List.mem_append.mp z with z | z
   ·exact hna z
   ·exact nL (List.mem_singleton.mp z)
  have hrr6:∀ y∈rs++[x],y.length=mn∧∀ k,some k∈y→k<sz:=fun y hy=>by
   rcases List.mem_append.mp hy with z | z
   ·exact hrr y z
   ·rw[List.mem_singleton.mp z]; exact⟨hxm,hxk⟩
  walk_at "nx";have keep:∃ (as':List Addr) (rs':List (List (Option Nat))) (o9:Option V),[some (.ref a),some (.int fi),some (.int (mn:Int)),some (.int c),some (.int (sz:Int)),some (.int sh),some (.ref xp),o7,some (.ref rp),some (V.int (0+(i:Int)))]=[some (.ref a),some (.int fi),some (.int (mn:Int)),some (.int c),some (.int (sz:Int)),some (.int sh),some (.ref xp),o7,some (.ref rp),o9]∧Same H3 H6∧RoomsAs H6 rp rs' as'∧rs'.length=i+1∧rp∉as'∧∀ x∈rs',x.length=mn∧∀ k,some k∈x→k<sz:=⟨_,_,_,rfl,sm6,hR6,by simp[hrl],hna6,hrr6⟩
  have hix2:mn * sz+i<(mn+1) * sz:=by omega
  obtain⟨xs,g1,g2⟩:=item (mn * sz+i) sm6 hix2
  rw[show ((mn * sz+i:Nat):Int)=(mn:Int) * (sz:Int)+(0+(i:Int)) by simp]at g2
  refine⟨⟨by decide,by decide⟩,by decide,bp (fun _=>bp (fun hi0=>?_) (fun _=>keep)) (fun _=>keep)⟩
  refine⟨.inl ⟨by omega,by omega⟩,_,_,g1,g2,?_⟩
  walk_at "rd1";refine⟨by decide,bp (fun _=>?_) (fun _=>keep)⟩
  refine⟨.inl ⟨by omega,by omega⟩,_,_,g1,g2,?_⟩
  walk_at "rd1";generalize ms'.getD (mn * sz+i) 0 / 5=qq
  obtain⟨z,ez,hz⟩ : ∃ z:Nat,qq % (0+(i:Int))=(z:Int)∧z<i:=⟨(qq % (0+(i:Int))).toNat,by have:=Int.emod_nonneg qq (show (0+(i:Int))≠0 by omega); omega,by have:=Int.emod_lt_of_pos qq (show (0:Int)<0+i by omega); have:=Int.emod_nonneg qq (show (0+(i:Int))≠0 by omega); omega⟩
  rw[ez];have hza:z<as.length:=by omega
  have hzr:z<rs.length:=by omega
  have hrow:=hR6.2.2 z as[z] rs[z] (by rw[List.getElem?_append_left hza]; exact List.getElem?_eq_getElem hza) (by rw[List.getElem?_append_left hzr]; exact List.getElem?_eq_getElem hzr)
  refine⟨⟨by decide,by decide⟩,by omega,_,_,.inl (SqL.of hR6.1),aC (v:=.ref as[z]) (by rw[List.getElem?_map,List.getElem?_append_left hza,List.getElem?_eq_getElem hza]; rfl),?_⟩
  walk_at "rd1";refine⟨_,.inl (SqL.of hrow),fun cp hcp=>?_⟩
  have s8:=au hcp (.lst (rs[z].map aG));have e8:upd H6 cp (.lst (rs[z].map aG)) cp=some (.lst (rs[z].map aG)):=ai
  have nC:rp≠cp:=aV hR6.1 hcp
  generalize upd H6 cp (.lst (rs[z].map aG))=H8 at s8 e8 ⊢;have hR8:=hR6.mono s8;refine⟨_,i,hR8.1,pc (by rw[List.length_map,List.length_append]; simp; omega),_,_,_,rfl,(sm6.trans s8).upd hrp3 _,hR8.putRow hna6 nC e8,by rw[List.length_set]; simp[hrl],fun m=>?_,fun y hy=>?_⟩
  ·rcases List.mem_or_eq_of_mem_set m with w | w
   ·exact hna6 w
   ·exact nC w
  ·rcases List.mem_or_eq_of_mem_set hy with w | w
   ·exact hrr6 y w
   ·rw[w]; exact hrr _ (List.getElem_mem hzr)
 rintro σ H7 ⟨as,rs,o9,rfl,s7,hR,hrl,hna,hrr⟩
 walk_at "nx";have hsd:∃ sd:Int,1+fi % 2=sd∧(sd=1∨sd=2):=⟨_,rfl,by omega⟩
 obtain⟨sd,esd,hsd⟩:=hsd
 rw[esd];have s07:=s3.trans s7;refine⟨by decide,a,ns,1,rfl,s07.seq hS,by decide,by decide,_,mn,_,rfl,by omega,hsd,fun wp H8 ss s8 hwp ew hsl hs10 hsn hso=>?_⟩
 refine⟨by decide,fun p hp=>?_⟩
 have s9:=au hp (.tup [V.int sd,V.ref wp,V.ref rp]);have ok:bI ⟨sd,ss,rs⟩:=⟨hsd,by show ss.length≤16; omega,by show 1≤rs.length; omega,by show rs.length≤60; omega,fun x hx=>⟨by rw[(hrr x hx).1]; exact hsl.symm,fun k hk=>by rw[hrl]; exact(hrr x hx).2 k hk⟩,hs10⟩
 exact fin p _ ⟨sd,ss,rs⟩ (s07.trans (s8.trans s9)) ⟨wp,rp,as,ai,s9 _ _ ew,hR.mono (s8.trans s9)⟩ ⟨ok,hsn,hso,by show rs.length≤24; omega,by show 1≤ss.length; omega,by show ss.length≤4; omega⟩
theorem xO{i:Nat}(h:i<8):(Txt.mul (Str.ofString "q") (1+(i:Int))).length=1+i:=by
 have key:∀ i:Fin 8,(Txt.mul (Str.ofString "q") (1+(i.val:Int))).length=1+i.val:=by decide +kernel
 exact key ⟨i,h⟩
def lc:Sp:=fun vs H Q _=>∃ (wp:Addr) (us:List Str) (sd m:Int),vs=[.ref wp,.int sd,.int m]∧H wp=some (.lst (us.map V.str))∧us.length≤16∧(sd=1∨sd=2)∧m≤2∧∀ (l:Addr) (H':Hp) (ss:List Str),Same H H'→H l=none→H' l=some (.lst (ss.map V.str))→ss.length≤2→ss.Nodup→(∀ x∈ss,x∉us∧x.length≤10)→Q (.ref l) H'
theorem pM(D:DefAt K mg "_law_strange" aS) (z_range:mg "range" = none) (z_len:mg "len" = none) (z_str:mg "str" = none):bv P w K mg base 1 "_law_strange" ["_law_words_here", "_law_sides", "_law_many"] lc:=by
 refine D.cal (k:=0) sc_law_strange (fun _ _ _ _ _ _ us hl=>match us,hl with | [_,_,_],_=>rfl) (fun vs H Q E h=>by obtain⟨_,_,_,_,rfl,_⟩:=h; rfl) (fun f cdv A outer s H vs Q E hr h=>?_)
 obtain⟨wp,us,sd,m,rfl,hw,hu,hsd,hm2,q⟩:=h
 refine⟨_,(ab (ax 3 sc_law_strange.nd (cj ac))
   (ab (b_ PassesOwn.never rfl (p_ z8 z_range (aa ah (aa ah ac))) (bb 4 sc_law_strange.nd) (ab (ax 5 sc_law_strange.nd (aq df iN (pv 4)))
   (ab (bZ (aZ d9 (pv 1) ah (bd _)) (ap (ax 5 sc_law_strange.nd (aq a_ (aq a_ (cJ kG z_str rf (aa (aq a_ ah (aq bh (pv 4) ah)) ac)) iN) (pv 5)))) bD)
   (ap (bZ (PW.pt' (h_ (aZ (rN K) (pv 5) (pv 0) (by with_unfolding_all rfl)) (g4 (aZ lL (bq (br K) z_len bR (aa (pv 3) ac)) (pv 2) (bd _))))) (ap (cC (ci K PySem.F.plainAttrs_list PySem.F.slot_list_append PySem.F.type_list_append bN (pv 3) (aa (pv 5) ac)))) bD)))))
   (ap (bg (pv 3))))),?_⟩
 walk_at "rd1";refine⟨by decide,fun l hl=>?_⟩
 have s1:=au hl (.lst []);have e1:upd H l (.lst []) l=some (.lst (([]:List Str).map V.str)):=ai
 generalize upd H l (.lst [])=H1 at s1 e1 ⊢;walk_at "nx";refine⟨⟨by decide,by decide,by decide,by decide⟩,?_⟩
 refine b8 (fun i σ H'=>∃ (ss:List Str) (o4 o5:Option V),σ=[some (.ref wp),some (.int sd),some (.int m),some (.ref l),o4,o5]∧Same H H'∧H' l=some (.lst (ss.map V.str))∧(ss.length:Int)≤max m 0∧ss.Nodup∧∀ x∈ss,x∉us∧x.length≤i+if sd=2 then 2 else 0)
  ⟨[],none,none,rfl,s1,e1,by simp; omega,List.nodup_nil,by simp⟩ ?_ ?_
 ·rintro i σ H' hi ⟨ss,o4,o5,rfl,sm,hl',hsl,hsn,hss⟩
  have hi8:i<8:=hi
  have hql:=xO hi8;walk_at "rd1";refine⟨by omega,by omega,by decide,?_⟩
  refine gF (fun σ' H2=>∃ (y:Str),σ'=[some (.ref wp),some (.int sd),some (.int m),some (.ref l),some (.int (1+(i:Int))),some (.str y)]∧H'=H2∧y.length=1+i+if sd=2 then 2 else 0) (fun k hk=>?_) ?_
  ·rcases hsd with rfl | rfl
   ·walk_at "rd1"
    refine bp (fun c=>absurd c (by decide)) (fun _=>?_)
    exact hk _ _ ⟨_,rfl,rfl,hql⟩
   ·walk_at "rd1"
    have hd:1+(1+(i:Int)) % 2=1∨1+(1+(i:Int)) % 2=2:=by omega
    have hl1:(Str.ofString (toString (1+(1+(i:Int)) % 2))).length=1:=by rcases hd with e | e <;> rw[e] <;> decide +kernel
    have hlg:(1+(1+(i:Int)) % 2).natAbs.log2<1920:=by rcases hd with e | e <;> rw[e] <;> decide +kernel
    have hdot:(Str.ofString ".").length=1:=by decide +kernel
    have hpre:(Str.ofString (toString (1+(1+(i:Int)) % 2))++Str.ofString ".").length=2:=by rw[← cQ,lC,List.length_append,cQ,cQ,hl1,hdot]
    refine⟨by decide,hlg,by rw[hl1,hdot]; exact bM (by decide),by rw[hpre,hql]; exact bM (by omega),?_⟩
    refine hk _ _ ⟨_,rfl,rfl,?_⟩
    rw[← cQ,lC,List.length_append,cQ,cQ,hpre,hql,if_pos rfl]; omega
  rintro σ' H2 ⟨y,rfl,rfl,hy⟩
  have hold:∀ x∈ss,x≠y:=fun x hx z=>by
   have:=(hss x hx).2
   rw[z,hy]at this; omega
  have hss':∀ x∈ss,x∉us∧x.length≤i+1+if sd=2 then 2 else 0:=fun x hx=>⟨(hss x hx).1,by have:=(hss x hx).2; omega⟩
  walk_at "nx";refine⟨_,.inl (SqL.of (sm _ _ hw)),rfl,iS _,?_⟩
  rw[ki];have keep:∃ (ss:List Str) (o4 o5:Option V),[some (.ref wp),some (.int sd),some (.int m),some (.ref l),some (.int (1+(i:Int))),some (.str y)]=[some (.ref wp),some (.int sd),some (.int m),some (.ref l),o4,o5]∧Same H H'∧H' l=some (.lst (ss.map V.str))∧(ss.length:Int)≤max m 0∧ss.Nodup∧∀ x∈ss,x∉us∧x.length≤i+1+if sd=2 then 2 else 0:=⟨ss,_,_,rfl,sm,hl',hsl,hsn,hss'⟩
  refine bp (fun cu=>?_) (fun _=>keep)
  refine⟨_,.inl (SqL.of hl'),?_⟩
  rw[List.length_map];refine bp (fun cl=>?_) (fun _=>keep)
  have hyu:y∉us:=by simpa using cu
  have hlt:(ss.length:Int)<m:=by simpa using cl
  refine⟨⟨_,SqL.of hl'⟩,_,hl',by rw[List.length_map]; exact b6 (by omega),?_⟩
  refine⟨ss++[y],_,_,rfl,sm.upd hl _,by rw[ai,List.map_append]; rfl,by rw[List.length_append]; simp; omega,List.nodup_append.mpr ⟨hsn,by simp,fun a ha b hb e=>hold a ha (by rw[List.mem_singleton.mp hb]at e; exact e)⟩,fun x hx=>?_⟩
  rcases List.mem_append.mp hx with z | z
  ·exact hss' x z
  ·rw[List.mem_singleton.mp z]; exact⟨hyu,by omega⟩
 rintro σ H' ⟨ss,o4,o5,rfl,sm,hl',hsl,hsn,hss⟩
 walk_at "nx";have h8:((9:Int) - 1).toNat=8:=by decide
 refine q l H' ss sm hl hl' (by omega) hsn fun x hx=>⟨(hss x hx).1,?_⟩
 have:=(hss x hx).2
 rw[h8]at this
 rcases hsd with e | e <;> simp[e]at this <;> omega
theorem lG{α : Type}(l:List α){i j:Nat}{x y:α}(hi:l[i]? = some x)(hj:l[j]? = some y):∀ z,z∈l ↔ z∈(l.set i y).set j x:=by
 have hi':=(List.getElem?_eq_some_iff.mp hi).1;have hj':=(List.getElem?_eq_some_iff.mp hj).1;intro z
 constructor
 ·intro h
  obtain⟨k,e⟩:=List.mem_iff_getElem?.mp h
  by_cases c1:k=i
  ·subst c1
   rw[hi]at e; cases e
   exact List.mem_iff_getElem?.mpr ⟨j,by rw[List.getElem?_set_self (by rw[List.length_set]; exact hj')]⟩
  ·by_cases c2:k=j
   ·subst c2
    rw[hj]at e; cases e
    exact List.mem_iff_getElem?.mpr ⟨i,by rw[List.getElem?_set_ne c1,List.getElem?_set_self hi']⟩
   ·exact List.mem_iff_getElem?.mpr ⟨k,by rw[List.getElem?_set_ne (Ne.symm c2),List.getElem?_set_ne (Ne.symm c1)]; exact e⟩
 ·intro h
  rcases List.mem_or_eq_of_mem_set h with w | w
  ·rcases List.mem_or_eq_of_mem_set w with v | v
   ·exact v
   ·rw[v]; exact List.mem_of_getElem? hj
  ·rw[w]; exact List.mem_of_getElem? hi
structure Stand (sz:Nat) (st:List Nat):Prop where
 lt:∀ x∈st,x<sz
 all:∀ r,r<sz→r∈st
theorem Stand.swap{sz:Nat}{st:List Nat}(h:Stand sz st){i j x y:Nat}(hi:st[i]? = some x)(hj:st[j]? = some y):Stand sz ((st.set i y).set j x):=
 ⟨fun z hz=>h.lt z ((lG st hi hj z).mpr hz),fun r hr=>(lG st hi hj r).mp (h.all r hr)⟩
def cg(k:Nat):V:=V.int (k:Int)
theorem j9(st:List Nat)(i v:Nat):(st.map cg).set i (V.int (v:Int))=(st.set i v).map cg:=by rw[List.map_set]; rfl
def nN:Sp:=fun vs H Q _=>∃ (xp:Addr) (sz:Nat) (ms:List Int),vs=[.int (sz:Int),.ref xp]∧H xp=some (.lst (ms.map V.int))∧ms.length=400∧1≤sz∧sz≤24∧∀ (l:Addr) (H':Hp) (st:List Nat),Same H H'→H l=none→H' l=some (.lst (st.map cg))→st.length≤50→st[0]? = some 0→Stand sz st→Q (.ref l) H'
theorem tq(D:DefAt K mg "_law_stand" aR) (z_range:mg "range" = none) (z_len:mg "len" = none) (z_min:mg "min" = none) (z_list:mg "list" = none):bv P w K mg base 1 "_law_stand" ["_law_size", "_law_xs"] nN:=by
 refine D.cal (k:=0) sc_law_stand (fun _ _ _ _ _ _ us hl=>match us,hl with | [_,_],_=>rfl) (fun vs H Q E h=>by obtain⟨_,_,_,rfl,_⟩:=h; rfl) (fun f cdv A outer s H vs Q E hr h=>?_)
 obtain⟨xp,sz,ms,rfl,hxl,hxn,z1,z24,q⟩:=h
 refine⟨_,(ab (ax 2 sc_law_stand.nd (cJ (lZ hr) z_list gB (aa (cJ qD z_range sZ (aa (pv 0) ac)) ac)))
   (ab (b_ PassesOwn.never rfl (cr K (sK (rX K) (pv 1) u3 (vz (bq kR z_min qW (aa (aq a_ (pv 0) ah) (aa ah ac)))))) (bb 3 sc_law_stand.nd) (ap (cC (ci K PySem.F.plainAttrs_list PySem.F.slot_list_append PySem.F.type_list_append bN (pv 2) (aa (aq bh (aq bO (pv 3) ah) (pv 0)) ac)))))
   (ab (b_ PassesOwn.never rfl (bP wg z_range (aa (aq lF (bq (br K) z_len bR (aa (pv 2) ac)) ah) ac)) (bb 4 sc_law_stand.nd) (ab (ax 5 sc_law_stand.nd (aq a_ (pv 4) (aq bh (aq bO (aB (aM K) (pv 1) (aq a_ ah (pv 4)) (fun _ _=>rfl)) ah) (aq lF (bq (br K) z_len bR (aa (pv 2) ac)) (pv 4)))))
   (ab (ax 6 sc_law_stand.nd (aB (aM K) (pv 2) (pv 4) (fun _ _=>rfl)))
   (ab (cz (aB (aM K) (pv 2) (pv 5) (fun _ _=>rfl)) (cL (pv 2) (pv 4) gN))
   (ap (cz (pv 6) (cL (pv 2) (pv 5) gN)))))))
   (ab (ax 5 sc_law_stand.nd (ci K PySem.F.plainAttrs_list PySem.F.slot_list_index PySem.F.type_list_index (p5 K) (pv 2) (aa ah ac)))
   (ab (cz (aB (aM K) (pv 2) ah (fun _ _=>rfl)) (cL (pv 2) (pv 5) gN))
   (ab (cz ah (cL (pv 2) ah gN))
   (ap (bg (pv 2))))))))),?_⟩
 have item:∀ {H':Hp} (i:Nat),Same H H'→i<400→∃ xs,(SqL K H' xp xs∨SqT K H' xp xs)∧cX xs (i:Int)=some (.int (ms.getD i 0)):=fun {H'} i sm h1=>
  ⟨_,.inl (SqL.of (sm _ _ hxl)),aC (by rw[List.getElem?_map,List.getD_eq_getElem?_getD,List.getElem?_eq_getElem (by omega)]; rfl)⟩
 walk_at "rd1";refine⟨_,rfl,fun rg hrg=>?_⟩
 have s1:=au hrg (.rng 0 (sz:Int));have e1:upd H rg (.rng 0 (sz:Int)) rg=some (.rng 0 (sz:Int)):=ai
 generalize upd H rg (.rng 0 (sz:Int))=H1 at s1 e1 ⊢;refine⟨rg,sz,rfl,e1,by omega,fun l hl=>?_⟩
 have s2:=au hl (.lst ((List.range sz).map fun k:Nat=>V.int (k:Int)))
 have e2:upd H1 l (.lst ((List.range sz).map fun k:Nat=>V.int (k:Int))) l=some (.lst ((List.range sz).map cg)):=ai
 generalize upd H1 l (.lst ((List.range sz).map fun k:Nat=>V.int (k:Int)))=H2 at s2 e2 ⊢
 have hl0:H l=none:=s1.free hl
 have s02:=s1.trans s2;walk_at "nx";obtain⟨b,eb,hb1,hb2⟩ : ∃ b:Nat,(if (30:Int)<(sz:Int)+2 then 30 else (sz:Int)+2)=(b:Int)∧b≤26∧b≤400:=⟨sz+2,by rw[if_neg (by omega)]; simp,by omega,by omega⟩
 rw[eb];refine⟨_,SqL.of (s02 _ _ hxl),fun cp hcp=>?_⟩
 rw[uW,← List.map_take];have s3:=au hcp (.lst ((ms.take b).map V.int));have e3:upd H2 cp (.lst ((ms.take b).map V.int)) cp=some (.lst ((ms.take b).map V.int)):=ai
 have ncl:l≠cp:=aV e2 hcp
 generalize upd H2 cp (.lst ((ms.take b).map V.int))=H3 at s3 e3 ⊢;refine⟨⟨_,SqL.of e3⟩,?_⟩
 refine i3 (xs:=(ms.take b).map V.int) (fun i σ H'=>∃ (st:List Nat) (o3:Option V),σ=[some (.int (sz:Int)),some (.ref xp),some (.ref l),o3,none,none,none]∧Same H H'∧H' cp=some (.lst ((ms.take b).map V.int))∧H' l=some (.lst (st.map cg))∧st.length=sz+i∧Stand sz st)
  ⟨List.range sz,none,rfl,s02.trans s3,e3,s3 _ _ e2,by simp,⟨fun x hx=>List.mem_range.mp hx,fun r hr=>List.mem_range.mpr hr⟩⟩ (fun i σ H' _ h=>by obtain⟨_,_,_,_,z,_⟩:=h; exact SqL.of z) ?_ ?_
 ·rintro i v σ H' hv ⟨st,o3,rfl,sm,hc',hl',hsl,hst⟩
  have hi:i<(ms.take b).length:=by have:=(List.getElem?_eq_some_iff.mp hv).1; simpa using this
  have hib:i<26:=by rw[List.length_take]at hi; omega
  rw[List.getElem?_map,List.getElem?_eq_getElem hi]at hv
  cases hv;generalize (ms.take b)[i]=m
  walk_at "rd1";obtain⟨z,ez,hz⟩ : ∃ z:Nat,m / 7 % (sz:Int)=(z:Int)∧z<sz:=⟨(m / 7 % (sz:Int)).toNat,by have:=Int.emod_nonneg (m / 7) (show (sz:Int)≠0 by omega); omega,by have:=Int.emod_lt_of_pos (m / 7) (show (0:Int)<sz by omega); have:=Int.emod_nonneg (m / 7) (show (sz:Int)≠0 by omega); omega⟩
  rw[ez];refine⟨⟨_,SqL.of hl'⟩,⟨by decide,by decide⟩,by omega,_,hl',by rw[List.length_map]; exact b6 (by omega),?_⟩
  refine⟨st++[z],_,rfl,sm.upd hl0 _,by rw[am (Ne.symm ncl)]; exact hc',by rw[ai,List.map_append]; rfl,by simp[hsl]; omega,⟨fun x hx=>?_,fun r hr=>List.mem_append_left _ (hst.all r hr)⟩⟩
  rcases List.mem_append.mp hx with w | w
  ·exact hst.lt x w
  ·rw[List.mem_singleton.mp w]; exact hz
 rintro σ H4 ⟨st,o3,rfl,s4,_,hl4,hsl,hst⟩
 have hsl50:st.length≤50:=by rw[hsl,List.length_map,List.length_take]; omega
 have hsl1:1≤st.length:=by omega
 walk_at "nx";refine⟨_,.inl (SqL.of hl4),?_⟩
 rw[List.length_map];refine⟨by omega,by omega,?_⟩
 rw[show ((st.length:Int) - 1).toNat=st.length - 1 by omega]
 refine b8 (fun i σ H'=>∃ (st':List Nat) (o4 o5 o6:Option V),σ=[some (.int (sz:Int)),some (.ref xp),some (.ref l),o3,o4,o5,o6]∧Same H H'∧H' l=some (.lst (st'.map cg))∧st'.length=st.length∧Stand sz st')
  ⟨st,none,none,none,rfl,s4,hl4,rfl,hst⟩ ?_ ?_
 ·rintro i σ H' hi ⟨st',o4,o5,o6,rfl,sm,hl',hsl',hst'⟩
  walk_at "rd1";obtain⟨xs,g1,g2⟩:=item (30+i) sm (by omega)
  rw[show ((30+i:Nat):Int)=30+(0+(i:Int)) by omega]at g2
  refine⟨xs,_,g1,g2,?_⟩
  generalize ms.getD (30+i) 0=m
  walk_at "rd1";refine⟨⟨by decide,by decide⟩,_,.inl (SqL.of hl'),?_⟩
  rw[List.length_map,hsl'];walk_at "rd1"
  obtain⟨z,ez,hz⟩ : ∃ z:Nat,0+(i:Int)+m / 7 % ((st.length:Int) - (0+(i:Int)))=(z:Int)∧z<st.length:=by
   have h0:=Int.emod_nonneg (m / 7) (show ((st.length:Int) - (0+(i:Int)))≠0 by omega)
   have h1:=Int.emod_lt_of_pos (m / 7) (show (0:Int)<(st.length:Int) - (0+(i:Int)) by omega)
   exact⟨(0+(i:Int)+m / 7 % ((st.length:Int) - (0+(i:Int)))).toNat,by omega,by omega⟩
  rw[ez];refine⟨by omega,?_⟩
  have hi':i<st'.length:=by omega
  have hz':z<st'.length:=by omega
  walk_at "nx";refine⟨_,_,.inl (SqL.of hl'),by rw[Int.zero_add]; exact aC (v:=cg st'[i]) (by rw[List.getElem?_map,List.getElem?_eq_getElem hi']; rfl),?_⟩
  walk_at "nx";refine⟨_,_,.inl (SqL.of hl'),aC (v:=cg st'[z]) (by rw[List.getElem?_map,List.getElem?_eq_getElem hz']; rfl),?_⟩
  refine⟨_,i,hl',pc (by rw[List.length_map]; exact hi'),?_⟩
  rw[show cg st'[z]=V.int ((st'[z]:Nat):Int) from rfl,j9];have e5:upd H' l (.lst ((st'.set i st'[z]).map cg)) l=some (.lst ((st'.set i st'[z]).map cg)):=ai
  have sm5:=sm.upd hl0 (.lst ((st'.set i st'[z]).map cg));generalize upd H' l (.lst ((st'.set i st'[z]).map cg))=H5 at e5 sm5 ⊢;walk_at "nx";refine⟨_,z,e5,by rw[List.length_map]; unfold fD; rw[if_pos (by omega),if_pos (by rw[List.length_set]; omega)]; congr 1,?_⟩
  rw[show cg st'[i]=V.int ((st'[i]:Nat):Int) from rfl,j9];exact⟨_,_,_,_,rfl,sm5.upd hl0 _,ai,by rw[List.length_set,List.length_set]; exact hsl',hst'.swap (List.getElem?_eq_getElem hi') (List.getElem?_eq_getElem hz')⟩
 rintro σ H5 ⟨st',o4,o5,o6,rfl,s5,hl5,hsl5,hst5⟩
 have h0m:0∈st':=hst5.all 0 (by omega)
 have hz0:st'.idxOf 0<st'.length:=List.idxOf_lt_length_iff.mpr h0m
 have hopt:st'.map cg=(st'.map fun k:Nat=>some (k:Int)).map bL:=by rw[List.map_map]; rfl
 have hidx:∀ st:List Nat,(st.map fun k:Nat=>some (k:Int)).idxOf (some 0)=st.idxOf 0:=by
  intro st
  induction st with
  | nil=>rfl
  | cons k st ih=>
   rw[List.map_cons,List.idxOf_cons,List.idxOf_cons,ih]
   cases k <;> rfl
 walk_at "nx";refine⟨⟨_,SqL.of hl5⟩,l,st'.map (fun k:Nat=>some (k:Int)),some 0,rfl,rfl,by rw[← hopt]; exact SqL.of hl5,List.mem_map.mpr ⟨0,h0m,rfl⟩,?_⟩
 rw[hidx];have h0l:0<st'.length:=by omega
 walk_at "nx";refine⟨_,_,.inl (SqL.of hl5),aC (j:=0) (v:=cg st'[0]) (by rw[List.getElem?_map,List.getElem?_eq_getElem h0l]; rfl),?_⟩
 refine⟨_,st'.idxOf 0,hl5,by rw[List.length_map]; unfold fD; rw[if_pos (by omega),if_pos (by omega)]; congr 1,?_⟩
 rw[show cg st'[0]=V.int ((st'[0]:Nat):Int) from rfl,j9];have e6:upd H5 l (.lst ((st'.set (st'.idxOf 0) st'[0]).map cg)) l=some (.lst ((st'.set (st'.idxOf 0) st'[0]).map cg)):=ai
 have s6:=s5.upd hl0 (.lst ((st'.set (st'.idxOf 0) st'[0]).map cg));generalize upd H5 l (.lst ((st'.set (st'.idxOf 0) st'[0]).map cg))=H6 at e6 s6 ⊢;walk_at "nx";refine⟨_,0,e6,by rw[List.length_map,List.length_set]; unfold fD; rw[if_pos (by decide),if_pos (by omega)]; rfl,?_⟩
 rw[show V.int 0=V.int ((0:Nat):Int) from rfl,j9];walk_at "nx";have hg0:st'[st'.idxOf 0]? = some 0:=by rw[List.getElem?_eq_getElem hz0,List.getElem_idxOf]
 exact q l _ ((st'.set (st'.idxOf 0) st'[0]).set 0 0) (s6.upd hl0 _) hl0 ai (by rw[List.length_set,List.length_set]; omega) (by rw[List.getElem?_set_self (by rw[List.length_set]; exact h0l)]) (hst5.swap hg0 (List.getElem?_eq_getElem h0l))
def gU(st:List Nat)(r:Nat):List Nat:=(List.range st.length).filter fun k=>decide (st[k]? = some r)
theorem plc_mem{st:List Nat}{r k:Nat}:k∈gU st r ↔ st[k]? = some r:=by
 unfold gU;rw[List.mem_filter,List.mem_range,decide_eq_true_eq];exact⟨fun h=>h.2,fun h=>⟨(List.getElem?_eq_some_iff.mp h).1,h⟩⟩
theorem vq{sz:Nat}{st:List Nat}(h:Stand sz st){r:Nat}(hr:r<sz):1≤(gU st r).length:=by
 obtain⟨k,hk⟩:=List.mem_iff_getElem?.mp (h.all r hr)
 exact List.length_pos_of_mem (plc_mem.mpr hk)
theorem vb(st:List Nat)(r:Nat):(gU st r).length≤st.length:=by
 have:=List.length_filter_le (fun k=>decide (st[k]? = some r)) (List.range st.length)
 rwa [List.length_range]at this
def oB(r:Rl)(st:List Nat)(i:Nat)(y:Str)(o:Option Nat):Prop:=(ar r i y=none∧o=none)∨∃ i' k',ar r i y=some i'∧o=some k'∧st[k']? = some i'
structure ox (r D:Rl):Prop where
 ok:bI D
 nd:D.ws.Nodup
 so:sortedS D.ws=true
 s:D.s=r.s
 z:D.rs.length≤50
 w6:D.ws.length≤6
 w1:1≤D.ws.length
 al:∃ E,Alike r D E
theorem pU{r:Rl}(dr:mZ r){us:List Str}{st:List Nat}{rs:List (List (Option Nat))}(hst:Stand r.rs.length st)(h0:st[0]? = some 0)(h50:st.length≤50)(hnd:us.Nodup)(hso:sortedS us=true)(hu:∀ y∈r.ws,y∈us)(h6:us.length≤6)(h1:1≤us.length)(h10:∀ u∈us,u.length≤10)(hl:rs.length=st.length)
  (hr:∀ (k:Nat) x i,rs[k]? = some x→st[k]? = some i→x.length=us.length∧∀ (j:Nat) y o,us[j]? = some y→x[j]? = some o→oB r st i y o):ox r ⟨r.s,us,rs⟩:=by
 have hst0:0<st.length:=(List.getElem?_eq_some_iff.mp h0).1
 have ok:bI ⟨r.s,us,rs⟩:=by
  refine⟨dr.ok.s,by show us.length≤16; omega,by show 1≤rs.length; omega,by show rs.length≤60; omega,fun x hx=>?_,h10⟩
  obtain⟨k,hk⟩:=List.mem_iff_getElem?.mp hx
  have hkl:k<rs.length:=(List.getElem?_eq_some_iff.mp hk).1
  obtain⟨e1,e2⟩:=hr k x _ hk (List.getElem?_eq_getElem (by omega))
  refine⟨e1,fun k' hk'=>?_⟩
  obtain⟨j,hj⟩:=List.mem_iff_getElem?.mp hk'
  have hjl:=(List.getElem?_eq_some_iff.mp hj).1;rcases e2 j _ _ (List.getElem?_eq_getElem (by omega)) hj with ⟨_,z⟩ | ⟨i',k2,_,z,z2⟩
  ·cases z
  ·cases z
   show k'<rs.length
   have:=(List.getElem?_eq_some_iff.mp z2).1
   omega
 refine⟨ok,hnd,hso,rfl,by show rs.length≤50; omega,h6,h1,fun i k=>st[k]? = some i,h0,fun i k e=>⟨hst.lt i (List.mem_of_getElem? e),by show k<rs.length; have:=(List.getElem?_eq_some_iff.mp e).1; omega⟩,fun i k y e=>?_⟩
 have hk:k<rs.length:=by have:=(List.getElem?_eq_some_iff.mp e).1; omega
 by_cases hy:y∈us
 ·have hj:us.idxOf y<us.length:=List.idxOf_lt_length_iff.mpr hy
  obtain⟨e1,e2⟩:=hr k _ i (List.getElem?_eq_getElem hk) e
  have hs:ar ⟨r.s,us,rs⟩ k y=(rs[k])[us.idxOf y]'(by omega):=by
   unfold ar;rw[if_pos (show y∈(⟨r.s,us,rs⟩ : Rl).ws from hy)];show (rs.getD k []).getD (us.idxOf y) none=_
   rw[aF hk,aF (by omega)]
  rw[hs];rcases e2 (us.idxOf y) y _ (by rw[List.getElem?_eq_getElem hj,List.getElem_idxOf]) (List.getElem?_eq_getElem (by omega)) with ⟨z1,z2⟩ | ⟨i',k',z1,z2,z3⟩
  ·exact .inl ⟨z1,z2⟩
  ·exact .inr ⟨i',k',z1,z2,z3⟩
 ·have hyr:y∉r.ws:=fun z=>hy (hu y z)
  refine .inr ⟨i,k,?_,?_,e⟩
  ·unfold ar; rw[if_neg hyr]
  ·unfold ar; rw[if_neg (show y∉(⟨r.s,us,rs⟩ : Rl).ws from hy)]
def PlsAt(H:Hp)(pp:Addr)(pas:List Addr)(st:List Nat)(sz:Nat):Prop:=H pp=some (.lst (pas.map V.ref))∧pas.length=sz∧∀ (i:Nat) a,pas[i]? = some a→H a=some (.lst ((gU st i).map cg))
theorem PlsAt.mono{H H':Hp}{pp:Addr}{pas:List Addr}{st:List Nat}{sz:Nat}(h:PlsAt H pp pas st sz)(sm:Same H H'):PlsAt H' pp pas st sz:=⟨sm _ _ h.1,h.2.1,fun i a e=>sm _ _ (h.2.2 i a e)⟩
def nZ:Sp:=fun vs H Q _=>∃ (p:Addr) (r:Rl) (c:Int),vs=[.ref p,.int c]∧RuleAt H p r∧mZ r∧∀ (q:Addr) (H':Hp) (D:Rl),Same H H'→RuleAt H' q D→ox r D→Q (.ref q) H'
theorem sk(D:DefAt K mg "_law_dressed" aj) (z_range:mg "range" = none) (z_len:mg "len" = none) (z_sorted:mg "sorted" = none) (c_law_mixed:bv P w K mg base 1 "_law_mixed" ["_law_cell", "_law_many"] jc) (c_law_stand:bv P w K mg base 1 "_law_stand" ["_law_size", "_law_xs"] nN) (c_law_strange:bv P w K mg base 1 "_law_strange" ["_law_words_here", "_law_sides", "_law_many"] lc):bv P w K mg base 2 "_law_dressed" ["_law_rule_here", "_law_cell"] nZ:=by
 refine D.cal sc_law_dressed (fun _ _ _ _ _ _ us hl=>match us,hl with | [_,_],_=>rfl) (fun vs H Q E h=>by obtain⟨_,_,_,rfl,_⟩:=h; rfl) (fun f cdv A outer s H vs Q E hr h=>?_)
 obtain⟨p,r,c,rfl,hR,dr,fin⟩:=h
 obtain⟨pw,pr,as,h1,h2,h3⟩:=id hR
 have z24:=dr.z;have n0:=dr.ok.n0;have w4:=dr.w4;have hal:=h3.2.1
 refine⟨_,(ab (ax 2 sc_law_dressed.nd (bq (br K) z_len bR (aa (aB (aM K) (pv 0) ah (fun _ _=>rfl)) ac)))
   (ab (ax 3 sc_law_dressed.nd (aW c_law_mixed hr (aa (pv 1) (aa ah ac))))
   (ab (ax 4 sc_law_dressed.nd (aW c_law_stand hr (aa (pv 2) (aa (pv 3) ac))) (hx:=yG))
   (ab (m7 (CompScO.to (fsc:=(defScope aj)) (N:=["_law_rule_here", "_law_cell", "_law_size", "_law_xs", "_law_stand_here", "_law_places", "_law_strange_here", "_law_words_here", "_law_rooms", "_law_k", "_law_room", "_law_j", "_law_to_here"]) (N0:=["_law_rule_here", "_law_cell", "_law_size", "_law_xs", "_law_stand_here", "_law_places", "_law_strange_here", "_law_words_here", "_law_rooms", "_law_k", "_law_room", "_law_j", "_law_to_here"]) (T:=["_law_r"]) ⟨by decide +kernel,by decide +kernel,by decide +kernel,by decide +kernel,by decide +kernel,by decide +kernel⟩ rfl rfl) rfl sc_law_dressed.nd (i:=5) rfl Bs (bP sv z_range (aa (pv 2) ac)) (fun _ _ _ _=>(bb 13 (show (["_law_rule_here", "_law_cell", "_law_size", "_law_xs", "_law_stand_here", "_law_places", "_law_strange_here", "_law_words_here", "_law_rooms", "_law_k", "_law_room", "_law_j", "_law_to_here", "_law_r"]:List Str).Nodup from by decide +kernel) (hx:=(yd (defScope aj) (by decide +kernel))) (hf:=z7 (defScope aj) (by decide +kernel)))) (bU (show (["_law_rule_here", "_law_cell", "_law_size", "_law_xs", "_law_stand_here", "_law_places", "_law_strange_here", "_law_words_here", "_law_rooms", "_law_k", "_law_room", "_law_j", "_law_to_here"]:List Str).length≤13 from by decide)) (fun _ _ _ _=>cm) (fun _ _ _ _=>(di (CompSc.to (fsc:=(bo _ (defScope aj))) (N:=["_law_rule_here", "_law_cell", "_law_size", "_law_xs", "_law_stand_here", "_law_places", "_law_strange_here", "_law_words_here", "_law_rooms", "_law_k", "_law_room", "_law_j", "_law_to_here", "_law_r"]) (N0:=["_law_rule_here", "_law_cell", "_law_size", "_law_xs", "_law_stand_here", "_law_places", "_law_strange_here", "_law_words_here", "_law_rooms", "_law_k'", "_law_room", "_law_j", "_law_to_here", "_law_r"]) (T:=["_law_k"]) ⟨by decide +kernel,by decide +kernel,by decide +kernel,by decide +kernel,by decide +kernel,by decide +kernel,by decide +kernel⟩ rfl rfl) rfl (bP (v6 (defScope aj) (by decide +kernel)) z_range (aa (bq (br K) z_len bR (aa (pv 4 (hv:=(xZ (defScope aj) (by decide +kernel)))) ac) (hg:=(v6 (defScope aj) (by decide +kernel)))) ac)) (fun _ _ _ _=>(bb 14 (show (["_law_rule_here", "_law_cell", "_law_size", "_law_xs", "_law_stand_here", "_law_places", "_law_strange_here", "_law_words_here", "_law_rooms", "_law_k'", "_law_room", "_law_j", "_law_to_here", "_law_r", "_law_k"]:List Str).Nodup from by decide +kernel) (hx:=(fz (bo _ (defScope aj)) (e:=rfl) (by decide +kernel))) (hf:=iI (bo _ (defScope aj)) (e:=rfl) (by decide +kernel)))) (bU (show (["_law_rule_here", "_law_cell", "_law_size", "_law_xs", "_law_stand_here", "_law_places", "_law_strange_here", "_law_words_here", "_law_rooms", "_law_k", "_law_room", "_law_j", "_law_to_here", "_law_r"]:List Str).length≤14 from by decide)) (fun _ _ _ _=>(l_ (aZ d9 (aB (aM K) (pv 4 (hv:=(bQ (bo _ (defScope aj)) (e:=rfl) (by decide +kernel)))) (pv 14 (hv:=(bQ (bo _ (defScope aj)) (e:=rfl) (by decide +kernel)))) (fun _ _=>rfl)) (pv 13 (hv:=(bQ (bo _ (defScope aj)) (e:=rfl) (by decide +kernel)))) (bd _)))) (fun _ _ _ _=>(pv 14 (hv:=(bQ (bo _ (defScope aj)) (e:=rfl) (by decide +kernel))))))))
   (ab (ax 6 sc_law_dressed.nd (aW c_law_strange hr (aa (aB (aM K) (pv 0) ah (fun _ _=>rfl)) (aa (aB (aM K) (pv 0) ah (fun _ _=>rfl)) (aa (aq bh (aq bO (aB (aM K) (pv 3) ah (fun _ _=>rfl)) ah) ah) ac)))))
   (ab (ax 7 sc_law_dressed.nd (bq (j3 K) z_sorted iO (aa (aq a_ (aB (aM K) (pv 0) ah (fun _ _=>rfl)) (pv 6)) ac)))
   (ab (ax 8 sc_law_dressed.nd (cj ac))
   (ab (b_ PassesOwn.never rfl (bP sv z_range (aa (bq (br K) z_len bR (aa (pv 4 (hv:=vY)) ac)) ac)) (bb 9 sc_law_dressed.nd) (ab (ax 10 sc_law_dressed.nd (cj ac))
   (ab (b_ PassesOwn.never rfl (bP sv z_range (aa (bq (br K) z_len bR (aa (pv 7) ac)) ac)) (bb 11 sc_law_dressed.nd) (ab (ax 12 sc_law_dressed.nd (aB (aM K) (pv 4 (hv:=vY)) (pv 9) (fun _ _=>rfl)))
   (ab (bZ (aZ (rQ K) (aB (aM K) (pv 7) (pv 11) (fun _ _=>rfl)) (aB (aM K) (pv 0) ah (fun _ _=>rfl)) (by with_unfolding_all rfl)) (ap (ax 12 sc_law_dressed.nd (aB (aM K) (aB (aM K) (aB (aM K) (pv 0) ah (fun _ _=>rfl)) (pv 12) (fun _ _=>rfl)) (ci K PySem.F.plainAttrs_list PySem.F.slot_list_index PySem.F.type_list_index (lg K) (aB (aM K) (pv 0) ah (fun _ _=>rfl)) (aa (aB (aM K) (pv 7) (pv 11) (fun _ _=>rfl)) ac)) (fun _ _=>rfl)))) bD)
   (ab (bZ (aZ im (pv 12) cE (bd _)) (ap (ax 12 sc_law_dressed.nd (aB (aM K) (aB (aM K) (pv 5) (pv 12) (fun _ _=>rfl)) (aq bh (aq bO (aB (aM K) (pv 3) (aq a_ ah (aq bh (aq a_ (aq df ah (pv 9)) (pv 11)) ah)) (fun _ _=>rfl)) ah) (bq (br K) z_len bR (aa (aB (aM K) (pv 5) (pv 12) (fun _ _=>rfl)) ac))) (fun _ _=>rfl)))) bD)
   (ap (cC (ci K PySem.F.plainAttrs_list PySem.F.slot_list_append PySem.F.type_list_append bN (pv 10) (aa (pv 12) ac))))))))
   (ap (cC (ci K PySem.F.plainAttrs_list PySem.F.slot_list_append PySem.F.type_list_append bN (pv 8) (aa (pv 10) ac)))))))
   (ap (bg (dZ (aa (aB (aM K) (pv 0) ah (fun _ _=>rfl)) (aa (pv 7) (aa (pv 8) ac)))))))))))))),?_⟩
 walk_at "rd1";refine⟨_,_,.inr (SqT.of h1),aC (j:=2) rfl,?_⟩
 walk_at "rd1";refine⟨_,.inl (SqL.of h3.1),?_⟩
 rw[List.length_map,hal];walk_at "nx";refine⟨c,400,rfl,by decide,by decide,fun xp H1 ms s1 hxp hxl hxn hxb=>?_⟩
 have hxn':ms.length=400:=by omega
 walk_at "nx";refine⟨xp,r.rs.length,ms,rfl,hxl,hxn',n0,z24,fun sp H2 st s2 hsp es hsl hs0 hst=>?_⟩
 have s12:=s1.trans s2
 have item:∀ {H':Hp} (i:Nat),Same H2 H'→i<400→∃ xs,(SqL K H' xp xs∨SqT K H' xp xs)∧cX xs (i:Int)=some (.int (ms.getD i 0)):=fun {H'} i sm h1=>
  ⟨_,.inl (SqL.of ((s2.trans sm) _ _ hxl)),aC (by rw[List.getElem?_map,List.getD_eq_getElem?_getD,List.getElem?_eq_getElem (by omega)]; rfl)⟩
 walk_at "nx";refine⟨by omega,by omega,fun pp hpp=>?_⟩
 refine jm (fun i ys H'=>∃ pas:List Addr,Same H2 H'∧ys=pas.map V.ref∧PlsAt H' pp pas st i∧pp∉pas) ⟨[],au hpp _,rfl,⟨ai,rfl,by simp⟩,by simp⟩ ?_ ?_
 ·rintro i ys H' hi ⟨pas,sm,rfl,hP,hnp⟩
  walk_at "rd1";refine⟨_,.inl (SqL.of (sm _ _ es)),by rw[List.length_map]; omega,by rw[List.length_map]; omega,fun L hL=>?_⟩
  rw[List.length_map,Int.toNat_natCast];have nL:pp≠L:=aV hP.1 hL
  refine jt (fun j ys H''=>Same H' H''∧H'' L=some (.lst ys)∧ys=((List.range j).filter fun k=>decide (st[k]? = some i)).map cg) ⟨au hL _,ai,rfl⟩ ?_ ?_
  ·rintro j ys H'' hj ⟨smx,hlx,rfl⟩
   have hlen:(((List.range j).filter fun k=>decide (st[k]? = some i)).map cg).length≤j:=by
    rw[List.length_map];have:=List.length_filter_le (fun k=>decide (st[k]? = some i)) (List.range j)
    rwa [List.length_range]at this
   walk_at "rd1";refine⟨_,_,.inl (SqL.of ((sm.trans smx) _ _ es)),by rw[Int.zero_add]; exact aC (v:=cg st[j]) (by rw[List.getElem?_map,List.getElem?_eq_getElem hj]; rfl),?_⟩
   rw[show cg st[j]=V.int ((st[j]:Nat):Int) from rfl];walk_at "rd1"
   have hiff:((st[j]:Nat):Int)=0+(i:Int) ↔ st[j]? = some i:=by
    rw[List.getElem?_eq_getElem hj]
    constructor
    ·intro h; rw[show st[j]=i by omega]
    ·intro h; have:=Option.some.inj h; omega
   by_cases hc:st[j]? = some i
   ·refine bp (fun _=>?_) (fun z=>absurd (hiff.mpr hc) z)
    refine qJ hj hlen (bM (by omega)) hlx ⟨smx.upd hL _,ai,?_⟩
    rw[List.range_succ,List.filter_append,List.map_append];simp[hc,cg]
   ·refine bp (fun z=>absurd (hiff.mp z) hc) (fun _=>?_)
    refine ub hj ⟨smx,hlx,?_⟩
    rw[List.range_succ,List.filter_append];simp[hc]
  rintro ys H'' ⟨smx,hlx,rfl⟩
  have hP2:=hP.mono smx;refine fJ (by rw[Int.toNat_natCast]; exact hi) (by rw[List.length_map]; exact hP.2.1) (by rw[Int.toNat_natCast]; exact bM (by omega)) hP2.1 ⟨pas++[L],(sm.trans smx).upd hpp _,by simp,⟨by rw[ai]; simp,by simp[hP.2.1],fun k a e=>?_⟩,fun z=>?_⟩
  ·by_cases hk:k<pas.length
   ·rw[List.getElem?_append_left hk]at e
    rw[am (fun z=>by subst z; exact hnp (List.mem_of_getElem? e))]
    exact hP2.2.2 k a e
   ·have hk':k=pas.length:=by have:=(List.getElem?_eq_some_iff.mp e).1; simp at this; omega
    subst hk';rw[List.getElem?_append_right (Nat.le_refl _)]at e
    simp at e
    subst e;rw[am (Ne.symm nL),hlx,hP.2.1]; rfl
  ·rcases List.mem_append.mp z with z | z
   ·exact hnp z
   ·exact nL (List.mem_singleton.mp z)
 rintro ys H3 ⟨pas,s3,rfl,hP,hnp⟩
 rw[Int.toNat_natCast]at hP
 have s13:=s12.trans s3;walk_at "nx";refine⟨_,_,.inr (SqT.of (s13 _ _ h1)),aC (j:=1) rfl,?_⟩
 refine⟨_,_,.inr (SqT.of (s13 _ _ h1)),jJ,?_⟩
 obtain⟨xs,g1,g2⟩:=item 90 s3 (by decide)
 refine⟨xs,_,g1,g2,?_⟩
 generalize ms.getD 90 0=m90
 walk_at "rd1";refine⟨⟨by decide,by decide⟩,by decide,pw,r.ws,r.s,_,rfl,s13 _ _ h2,dr.ok.nw,dr.ok.s,by omega,fun gp H4 gs s4 hgp eg hg2 hgn hgx=>?_⟩
 have s14:=s13.trans s4;walk_at "nx";refine⟨_,_,.inr (SqT.of (s14 _ _ h1)),aC (j:=1) rfl,?_⟩
 walk_at "rd1";refine⟨_,_,s14 _ _ h2,eg,by rw[List.length_map,List.length_map]; exact bM (by omega),fun cp hcp=>?_⟩
 rw[← List.map_append];have s5:=au hcp (.lst ((r.ws++gs).map V.str));have e5:upd H4 cp (.lst ((r.ws++gs).map V.str)) cp=some (.lst ((r.ws++gs).map V.str)):=ai
 generalize upd H4 cp (.lst ((r.ws++gs).map V.str))=H5 at s5 e5 ⊢;refine⟨_,SqL.of e5,by rw[List.length_append]; omega,fun wp us hwp pm so=>?_⟩
 have s6:=au hwp (.lst (us.map V.str));have e6:upd H5 wp (.lst (us.map V.str)) wp=some (.lst (us.map V.str)):=ai
 generalize upd H5 wp (.lst (us.map V.str))=H6 at s6 e6 ⊢;have hul:us.length=r.ws.length+gs.length:=by rw[pm.length_eq,List.length_append]
 have hund:us.Nodup:=pm.nodup_iff.mpr (List.nodup_append.mpr ⟨dr.nd,hgn,fun a ha b hb e=>(hgx b hb).1 (e ▸ ha)⟩)
 have husub:∀ y∈r.ws,y∈us:=fun y hy=>pm.mem_iff.mpr (List.mem_append_left _ hy)
 have hu10:∀ u∈us,u.length≤10:=fun u hu=>by
  rcases List.mem_append.mp (pm.mem_iff.mp hu) with z | z
  ·exact dr.ok.lw u z
  ·exact(hgx u z).2
 have w1:=dr.w1;have s36:=(s4.trans s5).trans s6;have s26:=s3.trans s36;have s06:=s13.trans s36;walk_at "nx";refine⟨by decide,fun rp hrp=>?_⟩
 have s7:=au hrp (.lst []);have e7:upd H6 rp (.lst []) rp=some (.lst (([]:List Addr).map V.ref)):=ai
 generalize upd H6 rp (.lst [])=H7 at s7 e7 ⊢;walk_at "nx";refine⟨_,.inl (SqL.of ((s26.trans s7) _ _ es)),?_⟩
 rw[List.length_map];refine⟨by omega,by omega,?_⟩
 rw[Int.toNat_natCast]
 refine b8 (fun k σ H'=>∃ (ras:List Addr) (rs:List (List (Option Nat))) (o9 o10 o11 o12:Option V),σ=[some (.ref p),some (.int c),some (.int (r.rs.length:Int)),some (.ref xp),some (.ref sp),some (.ref pp),some (.ref gp),some (.ref wp),some (.ref rp),o9,o10,o11,o12]∧Same H6 H'∧RoomsAs H' rp rs ras∧rp∉ras∧rs.length=k∧∀ (k:Nat) x i,rs[k]? = some x→st[k]? = some i→x.length=us.length∧∀ (j:Nat) y o,us[j]? = some y→x[j]? = some o→oB r st i y o)
  ⟨[],[],none,none,none,none,rfl,s7,⟨e7,rfl,fun i a x z=>by simp at z⟩,by simp,rfl,fun k x i e=>by simp at e⟩ ?_ ?_
 ·rintro k σ H' hk ⟨ras,rs,o9,o10,o11,o12,rfl,sm,hRo,hnr,hrl,hrr⟩
  walk_at "rd1";refine⟨by decide,fun ro hro=>?_⟩
  have s8:=au hro (.lst []);have e8:upd H' ro (.lst []) ro=some (.lst (([]:List (Option Nat)).map aG)):=ai
  have nro:rp≠ro:=aV hRo.1 hro
  have hro6:H6 ro=none:=sm.free hro
  generalize upd H' ro (.lst [])=H8 at s8 e8 ⊢;walk_at "nx";refine⟨_,.inl (SqL.of ((sm.trans s8) _ _ e6)),?_⟩
  rw[List.length_map];refine⟨by omega,by omega,?_⟩
  rw[Int.toNat_natCast];have hRo8:=hRo.mono s8
  have hnro:ro∉ras:=fun z=>by
   obtain⟨i,hi,e⟩:=List.mem_iff_getElem.mp z
   have:=hRo.2.2 i ro _ (by rw[List.getElem?_eq_getElem hi,e]) (List.getElem?_eq_getElem (by rw[← hRo.2.1]; exact hi))
   rw[hro]at this; cases this
  refine b8 (fun j σ H''=>∃ (x:List (Option Nat)) (o11 o12:Option V),σ=[some (.ref p),some (.int c),some (.int (r.rs.length:Int)),some (.ref xp),some (.ref sp),some (.ref pp),some (.ref gp),some (.ref wp),some (.ref rp),some (.int (0+(k:Int))),some (.ref ro),o11,o12]∧Same H6 H''∧RoomsAs H'' rp rs ras∧H'' ro=some (.lst (x.map aG))∧x.length=j∧∀ (j:Nat) y o,us[j]? = some y→x[j]? = some o→oB r st st[k] y o)
   ⟨[],_,_,rfl,sm.trans s8,hRo8,e8,rfl,fun j y o _ e=>by simp at e⟩ ?_ ?_
  ·rintro j σ H'' hj ⟨x,o11,o12,rfl,smx,hRx,hxx,hxl',hxw⟩
   have h6'':∀ {b:Addr} {o:HO},H b=some o→H'' b=some o:=fun {b o} e=>(s06.trans smx) _ _ e
   have hks:st[k]<r.rs.length:=hst.lt _ (List.getElem_mem hk)
   walk_at "rd1";refine⟨_,_,.inl (SqL.of ((s26.trans smx) _ _ es)),by rw[Int.zero_add]; exact aC (v:=cg st[k]) (by rw[List.getElem?_map,List.getElem?_eq_getElem hk]; rfl),?_⟩
   have euj:∃ xs,(SqL K H'' wp xs∨SqT K H'' wp xs)∧cX xs (0+(j:Int))=some (.str us[j]):=⟨_,.inl (SqL.of (smx _ _ e6)),by rw[Int.zero_add]; exact aC (by rw[List.getElem?_map,List.getElem?_eq_getElem hj]; rfl)⟩
   obtain⟨xu,u1,u2⟩:=euj
   refine gF (fun σ' H2=>H''=H2∧σ'=[some (.ref p),some (.int c),some (.int (r.rs.length:Int)),some (.ref xp),some (.ref sp),some (.ref pp),some (.ref gp),some (.ref wp),some (.ref rp),some (.int (0+(k:Int))),some (.ref ro),some (.int (0+(j:Int))),some (aG (ar r st[k] us[j]))]) (fun kk hkk=>?_) ?_
   ·walk_at "rd1"
    refine⟨xu,_,u1,u2,?_⟩
    refine⟨_,_,.inr (SqT.of (h6'' h1)),aC (j:=1) rfl,?_⟩
    walk_at "rd1";refine⟨_,.inl (SqL.of (h6'' h2)),rfl,iS _,?_⟩
    rw[ki];refine bp (fun cc=>?_) (fun cc=>?_)
    ·have hy:us[j]∈r.ws:=by simpa using cc
     have hka:st[k]<as.length:=by omega
     have hx:=dr.ok.row _ (List.getElem_mem hks);have hjj:r.ws.idxOf us[j]<(r.rs[st[k]]).length:=by rw[hx.1]; exact List.idxOf_lt_length_iff.mpr hy
     refine⟨_,_,.inr (SqT.of (h6'' h1)),aC (j:=2) rfl,?_⟩
     rw[show cg st[k]=V.int ((st[k]:Nat):Int) from rfl];walk_at "rd1";refine⟨_,_,.inl (SqL.of (h6'' h3.1)),aC (v:=.ref as[st[k]]) (by rw[List.getElem?_map,List.getElem?_eq_getElem hka]; rfl),?_⟩
     refine⟨_,_,.inr (SqT.of (h6'' h1)),aC (j:=1) rfl,?_⟩
     walk_at "rd1";refine⟨⟨_,SqL.of (h6'' h2)⟩,xu,_,u1,u2,?_⟩
     walk_at "rd1";refine⟨_,SqL.of (h6'' h2),hy,?_⟩
     walk_at "rd1";refine⟨_,_,.inl (SqL.of (h6'' (h3.2.2 (st[k]) _ _ (List.getElem?_eq_getElem hka) (List.getElem?_eq_getElem hks)))),aC (v:=aG (ar r st[k] us[j])) ?_,hkk _ _ ⟨rfl,rfl⟩⟩
     rw[List.getElem?_map,List.getElem?_eq_getElem hjj];unfold ar;rw[if_pos hy,aF hks,aF hjj]; rfl
    ·have hy:us[j]∉r.ws:=by simpa using cc
     have e:ar r st[k] us[j]=some st[k]:=by unfold ar; rw[if_neg hy]
     rw[e]at hkk
     exact hkk _ _ ⟨rfl,rfl⟩
   rintro σ' H2 ⟨rfl,rfl⟩
   have hlt:∀ i',ar r st[k] us[j]=some i'→i'<r.rs.length:=fun i' e=>by
    have hx:=dr.ok.row _ (List.getElem_mem hks);unfold ar at e
    by_cases h:us[j]∈r.ws
    ·rw[if_pos h,aF hks]at e
     have hi:r.ws.idxOf us[j]<(r.rs[st[k]]).length:=by rw[hx.1]; exact List.idxOf_lt_length_iff.mpr h
     rw[aF hi]at e
     exact hx.2 i' (e ▸ List.getElem_mem hi)
    ·rw[if_neg h]at e
     cases e; exact hks
   refine gF (fun σ' H2=>∃ o,H''=H2∧oB r st st[k] us[j] o∧σ'=[some (.ref p),some (.int c),some (.int (r.rs.length:Int)),some (.ref xp),some (.ref sp),some (.ref pp),some (.ref gp),some (.ref wp),some (.ref rp),some (.int (0+(k:Int))),some (.ref ro),some (.int (0+(j:Int))),some (aG o)]) (fun kk hkk=>?_) ?_
   ·cases hsr:ar r st[k] us[j] with
    | none=>
     walk_at "rd1";refine bp (fun cc=>absurd cc (by decide)) (fun _=>?_)
     exact hkk _ _ ⟨none,rfl,.inl ⟨hsr,rfl⟩,rfl⟩
    | some i'=>
     have hi':=hlt i' hsr;have hP'':=hP.mono (s36.trans smx);have hip:i'<pas.length:=by rw[hP.2.1]; exact hi'
     have hpl:=hP''.2.2 i' pas[i'] (List.getElem?_eq_getElem hip);have hpos:=vq hst hi';have hpln:=vb st i';rw[show aG (some i')=V.int (i':Int) from rfl];walk_at "rd1";refine bp (fun _=>?_) (fun cc=>absurd rfl cc)
     have epl:∃ xs,(SqL K H'' pp xs∨SqT K H'' pp xs)∧cX xs (i':Int)=some (.ref pas[i']):=⟨_,.inl (SqL.of hP''.1),aC (by rw[List.getElem?_map,List.getElem?_eq_getElem hip]; rfl)⟩
     obtain⟨xq,v1,v2⟩:=epl
     refine⟨xq,_,v1,v2,?_⟩
     obtain⟨nn,enn,hnn⟩ : ∃ z:Nat,100+(6 * (0+(k:Int))+(0+(j:Int))) % 300=(z:Int)∧z<400:=⟨(100+(6 * (0+(k:Int))+(0+(j:Int))) % 300).toNat,by omega,by omega⟩
     obtain⟨xs,g1,g2⟩:=item nn (s26.trans smx) hnn
     rw[← enn]at g2
     refine⟨.inl ⟨by omega,by omega⟩,by decide,xs,_,g1,g2,?_⟩
     generalize ms.getD nn 0=mv
     walk_at "rd1";refine⟨⟨by decide,by decide⟩,xq,_,v1,v2,?_⟩
     walk_at "rd1";refine⟨_,.inl (SqL.of hpl),?_⟩
     rw[List.length_map];walk_at "rd1";obtain⟨zz,ezz,hzz⟩ : ∃ z:Nat,mv / 7 % ((gU st i').length:Int)=(z:Int)∧z<(gU st i').length:=⟨(mv / 7 % ((gU st i').length:Int)).toNat,by have:=Int.emod_nonneg (mv / 7) (show ((gU st i').length:Int)≠0 by omega); omega,by have:=Int.emod_lt_of_pos (mv / 7) (show (0:Int)<(gU st i').length by omega); have:=Int.emod_nonneg (mv / 7) (show ((gU st i').length:Int)≠0 by omega); omega⟩
     rw[ezz];refine⟨by omega,_,_,.inl (SqL.of hpl),aC (v:=cg (gU st i')[zz]) (by rw[List.getElem?_map,List.getElem?_eq_getElem hzz]; rfl),?_⟩
     exact hkk _ _ ⟨some (gU st i')[zz],rfl,.inr ⟨i',_,hsr,rfl,plc_mem.mp (List.getElem_mem hzz)⟩,rfl⟩
   rintro σ' H2 ⟨o,rfl,hwd,rfl⟩
   walk_at "nx";refine⟨⟨_,SqL.of hxx⟩,_,hxx,by rw[List.length_map]; exact b6 (by omega),?_⟩
   refine⟨x++[o],_,_,rfl,smx.upd hro6 _,⟨by rw[am nro]; exact hRx.1,hRx.2.1,fun i a y e1 e2=>by rw[am (fun z=>by subst z; exact hnro (List.mem_of_getElem? e1))]; exact hRx.2.2 i a y e1 e2⟩,by rw[ai,List.map_append]; rfl,by simp[hxl'],fun j' y o' e1 e2=>?_⟩
   by_cases hj':j'<x.length
   ·rw[List.getElem?_append_left hj']at e2
    exact hxw j' y o' e1 e2
   ·have hj2:j'=x.length:=by have:=(List.getElem?_eq_some_iff.mp e2).1; simp at this; omega
    subst hj2;rw[List.getElem?_append_right (Nat.le_refl _)]at e2
    simp at e2
    subst e2;rw[hxl',List.getElem?_eq_getElem hj]at e1
    cases e1;exact hwd
  ·rintro σ H'' ⟨x,o11,o12,rfl,smx,hRx,hxx,hxl',hxw⟩
   walk_at "nx";refine⟨⟨_,SqL.of hRx.1⟩,_,hRx.1,by rw[List.length_map]; exact b6 (by have:=hRx.2.1; omega),?_⟩
   refine⟨ras++[ro],rs++[x],_,_,_,_,rfl,smx.upd hrp _,hRx.push hnr nro hxx,fun z=>?_,by simp[hrl],fun k' y i e1 e2=>?_⟩
   ·rcases List.mem_append.mp z with z | z
    ·exact hnr z
    ·exact nro (List.mem_singleton.mp z)
   ·by_cases hk':k'<rs.length
    ·rw[List.getElem?_append_left hk']at e1
     exact hrr k' y i e1 e2
    ·have hk2:k'=rs.length:=by have:=(List.getElem?_eq_some_iff.mp e1).1; simp at this; omega
     subst hk2;rw[List.getElem?_append_right (Nat.le_refl _)]at e1
     simp at e1
     subst e1;rw[hrl,List.getElem?_eq_getElem hk]at e2
     cases e2;exact⟨hxl',hxw⟩
 rintro σ H9 ⟨ras,rs,o9,o10,o11,o12,rfl,s9,hRo,hnr,hrl,hrr⟩
 walk_at "nx";refine⟨_,_,.inr (SqT.of ((s06.trans s9) _ _ h1)),jJ,?_⟩
 refine⟨by decide,fun q hq=>?_⟩
 have s10:=au hq (.tup [V.int r.s,V.ref wp,V.ref rp]);exact fin q _ ⟨r.s,us,rs⟩ ((s06.trans s9).trans s10) ⟨wp,rp,ras,ai,(s9.trans s10) _ _ e6,hRo.mono s10⟩ (pU dr hst hs0 hsl hund so husub (by omega) (by omega) hu10 hrl hrr)
theorem RoomsAs.setRow{H:Hp}{p c:Addr}{rs:List (List (Option Nat))}{as:List Addr}{i:Nat}{y:List (Option Nat)}(h:RoomsAs H p rs as)(nd:as.Nodup)(hp:p∉as)(hc:as[i]? = some c):RoomsAs (upd H c (.lst (y.map aG))) p (rs.set i y) as:=by
 obtain⟨h1,h2,h3⟩:=h
 have hm:=List.mem_of_getElem? hc;refine⟨by rw[am (show p≠c from fun z=>hp (by rw[z]; exact hm))]; exact h1,by rw[List.length_set]; exact h2,fun k a x e1 e2=>?_⟩
 by_cases ek:k=i
 ·subst ek
  rw[hc]at e1; cases e1
  have hk:k<rs.length:=by have:=(List.getElem?_eq_some_iff.mp hc).1; omega
  rw[List.getElem?_set_self hk]at e2
  cases e2;exact ai
 ·rw[List.getElem?_set_ne (Ne.symm ek)]at e2
  have na:a≠c:=fun z=>by
   subst z;obtain⟨x1,f1⟩:=List.getElem?_eq_some_iff.mp hc
   obtain⟨x2,f2⟩:=List.getElem?_eq_some_iff.mp e1
   exact ek ((List.getElem_inj nd).mp (f2.trans f1.symm))
  rw[am na]; exact h3 k a x e1 e2
def om:Sp:=fun vs H Q _=>∃ (p:Addr) (r:Rl) (c:Int),vs=[.ref p,.int c]∧RuleAt H p r∧bI r∧1≤r.ws.length∧∀ (q:Addr) (H':Hp) (r':Rl),Same H H'→RuleAt H' q r'→bI r'→r'.s=r.s→r'.ws=r.ws→Q (.ref q) H'
theorem sI(D:DefAt K mg "_law_spoiled" aJ) (z_len:mg "len" = none) (z_list:mg "list" = none):bv P w K mg base 1 "_law_spoiled" ["_law_rule_here", "_law_cell"] om:=by
 refine D.cal (k:=0) sc_law_spoiled (fun _ _ _ _ _ _ us hl=>match us,hl with | [_,_],_=>rfl) (fun vs H Q E h=>by obtain⟨_,_,_,rfl,_⟩:=h; rfl) (fun f cdv A outer s H vs Q E hr h=>?_)
 obtain⟨p,r,c,rfl,hR,ok,w1,fin⟩:=h
 obtain⟨pw,pr,as,h1,h2,h3⟩:=id hR
 have n0:=ok.n0;have n1:=ok.n1;have nw:=ok.nw
 refine⟨_,(ab (jZ (CompSc.to (fsc:=(defScope aJ)) (N:=["_law_rule_here", "_law_cell", "_law_rooms", "_law_room", "_law_at"]) (N0:=["_law_rule_here", "_law_cell", "_law_rooms", "_law_room'", "_law_at"]) (T:=["_law_room"]) ⟨by decide +kernel,by decide +kernel,by decide +kernel,by decide +kernel,by decide +kernel,by decide +kernel,by decide +kernel⟩ rfl rfl) rfl sc_law_spoiled.nd (i:=2) rfl Bp (cr K (aB (aM K) (pv 0) ah (fun _ _=>rfl))) (fun _ _ _ _=>(bb 5 (show (["_law_rule_here", "_law_cell", "_law_rooms", "_law_room'", "_law_at", "_law_room"]:List Str).Nodup from by decide +kernel) (hx:=(fz (defScope aJ) (by decide +kernel))) (hf:=iI (defScope aJ) (by decide +kernel)))) (bU (show (["_law_rule_here", "_law_cell", "_law_rooms", "_law_room", "_law_at"]:List Str).length≤5 from by decide)) (fun _ _ _ _=>cm) (fun _ _ _ _=>(cJ (d0 K) z_list gB (aa (pv 5 (hv:=(bQ (defScope aJ) (by decide +kernel)))) ac) (hg:=(nU (defScope aJ) (by decide +kernel))))))
   (ab (ax 3 sc_law_spoiled.nd (aB (aM K) (pv 2) (aq bh (pv 1) (bq (br K) z_len bR (aa (pv 2) ac))) (fun _ _=>rfl)))
   (ab (ax 4 sc_law_spoiled.nd (aq bh (aq bO (pv 1) ah) (bq (br K) z_len bR (aa (pv 3) ac))))
   (ab (bZ (PW.pt' (h_ (aZ d9 (aq bh (aq bO (pv 1) ah) ah) ah (bd _)) (g4 (aZ im (aB (aM K) (pv 3) (pv 4) (fun _ _=>rfl)) cE (bd _))))) (ap (cz cE (cL (pv 3) (pv 4) gN))) (ap (cz (aq bh (aq bO (pv 1) ah) (bq (br K) z_len bR (aa (pv 2) ac))) (cL (pv 3) (pv 4) gN))))
   (ap (bg (dZ (aa (aB (aM K) (pv 0) ah (fun _ _=>rfl)) (aa (cJ (d0 K) z_list gB (aa (aB (aM K) (pv 0) ah (fun _ _=>rfl)) ac)) (aa (pv 2) ac)))))))))),?_⟩
 walk_at "rd1";refine⟨_,_,.inr (SqT.of h1),aC (j:=2) rfl,?_⟩
 walk_at "rd1";refine⟨⟨_,SqL.of h3.1⟩,fun L hL=>?_⟩
 refine j0 h3 n1 hL (fun a xs H' C y1 y2=>?_) (fun H1 bs s1 hB hbn hnd=>?_)
 ·walk_at "rd1"
  exact⟨_,.inl (SqL.of y1),y2⟩
 have hbl:=hB.2.1;have hLb:L∉bs:=fun hm=>(hbn L hm).2 rfl
 walk_at "nx";refine⟨_,.inl (SqL.of hB.1),?_⟩
 rw[List.length_map,hbl];walk_at "rd1";obtain⟨i,ei,hi⟩ : ∃ z:Nat,c % (r.rs.length:Int)=(z:Int)∧z<r.rs.length:=⟨(c % (r.rs.length:Int)).toNat,by have:=Int.emod_nonneg c (show (r.rs.length:Int)≠0 by omega); omega,by have:=Int.emod_lt_of_pos c (show (0:Int)<r.rs.length by omega); have:=Int.emod_nonneg c (show (r.rs.length:Int)≠0 by omega); omega⟩
 rw[ei];have hib:i<bs.length:=by omega
 refine⟨by omega,_,_,.inl (SqL.of hB.1),aC (v:=.ref bs[i]) (by rw[List.getElem?_map,List.getElem?_eq_getElem hib]; rfl),?_⟩
 have hrow:=hB.2.2 i bs[i] r.rs[i] (List.getElem?_eq_getElem hib) (List.getElem?_eq_getElem hi);obtain⟨hx1,hx2⟩:=ok.row _ (List.getElem_mem hi)
 walk_at "nx";refine⟨⟨by decide,by decide⟩,_,.inl (SqL.of hrow),?_⟩
 rw[List.length_map,hx1];walk_at "rd1";obtain⟨j,ej,hj⟩ : ∃ z:Nat,c / 61 % (r.ws.length:Int)=(z:Int)∧z<r.ws.length:=⟨(c / 61 % (r.ws.length:Int)).toNat,by have:=Int.emod_nonneg (c / 61) (show (r.ws.length:Int)≠0 by omega); omega,by have:=Int.emod_lt_of_pos (c / 61) (show (0:Int)<r.ws.length by omega); have:=Int.emod_nonneg (c / 61) (show (r.ws.length:Int)≠0 by omega); omega⟩
 rw[ej];refine⟨by omega,?_⟩
 have hixj:fD ((r.rs[i].map aG).length) (j:Int)=some j:=by
  rw[List.length_map];unfold fD;rw[if_pos (by omega),if_pos (by omega)]
  congr 1
 refine gF (fun σ' H2=>∃ o:Option Nat,(∀ k,o=some k→k<r.rs.length)∧Same H H2∧RoomsAs H2 L (r.rs.set i ((r.rs[i]).set j o)) bs∧σ'=[some (.ref p),some (.int c),some (.ref L),some (.ref bs[i]),some (.int (j:Int))]) (fun kk hkk=>?_) ?_
 ·have hset:∀ o:Option Nat,(r.rs[i].map aG).set j (aG o)=((r.rs[i]).set j o).map aG:=fun o=>by rw[List.map_set]
  have done:∀ o:Option Nat,(∀ k,o=some k→k<r.rs.length)→kk [some (.ref p),some (.int c),some (.ref L),some (.ref bs[i]),some (.int (j:Int))] (upd H1 bs[i] (.lst ((r.rs[i].map aG).set j (aG o)))):=fun o ho=>by
   rw[hset];exact hkk _ _ ⟨o,ho,s1.upd (hbn _ (List.getElem_mem hib)).1 _,hB.setRow hnd hLb (List.getElem?_eq_getElem hib),rfl⟩
  have other:vP c 3111∧∃ ys,(SqL K H1 L ys∨SqT K H1 L ys)∧0<(ys.length:Int)∧∃ xs j_1,H1 bs[i]=some (.lst xs)∧fD xs.length (j:Int)=some j_1∧kk [some (.ref p),some (.int c),some (.ref L),some (.ref bs[i]),some (.int (j:Int))] (upd H1 bs[i] (.lst (xs.set j_1 (V.int (c / 3111 % (ys.length:Int)))))):=by
   refine⟨⟨by decide,by decide⟩,_,.inl (SqL.of hB.1),by rw[List.length_map]; omega,_,j,hrow,hixj,?_⟩
   rw[List.length_map,hbl];obtain⟨z,ez,hz⟩ : ∃ z:Nat,c / 3111 % (r.rs.length:Int)=(z:Int)∧z<r.rs.length:=⟨(c / 3111 % (r.rs.length:Int)).toNat,by have:=Int.emod_nonneg (c / 3111) (show (r.rs.length:Int)≠0 by omega); omega,by have:=Int.emod_lt_of_pos (c / 3111) (show (0:Int)<r.rs.length by omega); have:=Int.emod_nonneg (c / 3111) (show (r.rs.length:Int)≠0 by omega); omega⟩
   rw[ez];exact done (some z) fun k e=>by cases e; exact hz
  walk_at "rd1";refine⟨⟨by decide,by decide⟩,by decide,bp (fun _=>?_) (fun _=>?_)⟩
  ·refine⟨_,_,.inl (SqL.of hrow),aC (v:=aG ((r.rs[i])[j]'(by omega))) (by rw[List.getElem?_map,List.getElem?_eq_getElem (by omega)]; rfl),?_⟩
   cases hv:(r.rs[i])[j]'(by omega) with
   | none=>
    walk_at "rd1";refine bp (fun cc=>absurd cc (by decide)) (fun _=>?_)
    exact other
   | some k=>
    rw[show aG (some k)=V.int (k:Int) from rfl];walk_at "rd1";refine bp (fun _=>?_) (fun cc=>absurd rfl cc)
    exact⟨_,j,hrow,hixj,done none fun k e=>by cases e⟩
  ·exact other
 rintro σ' H2 ⟨o,ho,s2,hR2,rfl⟩
 walk_at "nx";refine⟨_,_,.inr (SqT.of (s2 _ _ h1)),jJ,?_⟩
 refine⟨_,_,.inr (SqT.of (s2 _ _ h1)),aC (j:=1) rfl,?_⟩
 walk_at "rd1";refine⟨_,.inl (SqL.of (s2 _ _ h2)),fun wl hwl=>?_⟩
 have s3:=au hwl (.lst (r.ws.map V.str));have e3:upd H2 wl (.lst (r.ws.map V.str)) wl=some (.lst (r.ws.map V.str)):=ai
 generalize upd H2 wl (.lst (r.ws.map V.str))=H3 at s3 e3 ⊢;refine⟨by decide,fun q hq=>?_⟩
 have s4:=au hq (.tup [V.int r.s,V.ref wl,V.ref L]);refine fin q _ ⟨r.s,r.ws,r.rs.set i ((r.rs[i]).set j o)⟩ ((s2.trans s3).trans s4) ⟨wl,L,bs,ai,s4 _ _ e3,hR2.mono (s3.trans s4)⟩ ⟨ok.s,nw,by show 1≤(r.rs.set i _).length; rw[List.length_set]; exact n0,by show (r.rs.set i _).length≤60; rw[List.length_set]; exact n1,fun y hy=>?_,ok.lw⟩ rfl rfl
 show y.length=r.ws.length∧∀ k,some k∈y→k<(r.rs.set i ((r.rs[i]).set j o)).length
 rw[List.length_set];rcases List.mem_or_eq_of_mem_set hy with z | z
 ·exact ok.row y z
 ·rw[z,List.length_set]
  refine⟨hx1,fun k hk=>?_⟩
  rcases List.mem_or_eq_of_mem_set hk with z' | z'
  ·exact hx2 k z'
  ·exact ho k z'.symm
end
abbrev Pr:=Option Nat × Option Nat
def PairsAt(H:Hp)(l:Addr)(ts:List Addr)(ps:List Pr):Prop:=H l=some (.lst (ts.map V.ref))∧ts.length=ps.length∧∀ (j:Nat) t p,ts[j]? = some t→ps[j]? = some p→H t=some (.tup [aG p.1,aG p.2])
theorem PairsAt.mono{H H':Hp}{l:Addr}{ts:List Addr}{ps:List Pr}(h:PairsAt H l ts ps)(sm:Same H H'):PairsAt H' l ts ps:=⟨sm _ _ h.1,h.2.1,fun j t p e1 e2=>sm _ _ (h.2.2 j t p e1 e2)⟩
theorem rE(o:Option Nat):aG o=bL (o.map fun k:Nat=>(k:Int)):=by cases o <;> rfl
def dw(p:Pr):List (Option Int):=[p.1.map fun k:Nat=>(k:Int),p.2.map fun k:Nat=>(k:Int)]
theorem mJ{o o':Option Nat}(h:(o.map fun k:Nat=>(k:Int))=o'.map fun k:Nat=>(k:Int)):o=o':=by
 cases o <;> cases o' <;> simp at h ⊢ <;> omega
theorem sT{p q:Pr}(h:dw p=dw q):p=q:=by
 have h':[p.1.map fun k:Nat=>(k:Int),p.2.map fun k:Nat=>(k:Int)]=[q.1.map fun k:Nat=>(k:Int),q.2.map fun k:Nat=>(k:Int)]:=h
 have e1:=(List.cons.inj h').1;have e2:=(List.cons.inj (List.cons.inj h').2).1;exact Prod.ext (mJ e1) (mJ e2)
theorem mN{H:Hp}{t:Addr}{p:Pr}(h:H t=some (.tup [aG p.1,aG p.2])):KeyO H (dw p) t:=by
 show H t=some (.tup ((dw p).map bL))
 rw[h];show _=some (HO.tup [bL _,bL _])
 rw[rE,rE]
def OrdAt(H:Hp)(p:Addr)(o:List Pr):Prop:=∃ ts:List Addr,PairsAt H p ts o
theorem OrdAt.mono{H H':Hp}{p:Addr}{o:List Pr}(h:OrdAt H p o)(sm:Same H H'):OrdAt H' p o:=let ⟨ts,h⟩:=h; ⟨ts,h.mono sm⟩
theorem OrdAt.other{H:Hp}{p c:Addr}{o:List Pr}{u:HO}(h:OrdAt H p o)(hc:p≠c)(ht:∀ xs,H c≠some (.tup xs)):OrdAt (upd H c u) p o:=by
 obtain⟨ts,h1,h2,h3⟩:=h
 refine⟨ts,by rw[am hc]; exact h1,h2,fun i a t e1 e2=>?_⟩
 have e:=h3 i a t e1 e2;rw[am (fun z=>by subst z; exact ht _ e)]; exact e
theorem OrdAt.push{H:Hp}{p a:Addr}{o:List Pr}{t:Pr}{ts:List Addr}(h1:H p=some (.lst (ts.map V.ref)))(h2:ts.length=o.length)(h3:∀ (i:Nat) a t,ts[i]? = some a→o[i]? = some t→H a=some (.tup [aG t.1,aG t.2]))(e:H a=some (.tup [aG t.1,aG t.2])):OrdAt (upd H p (.lst (ts.map V.ref++[.ref a]))) p (o++[t]):=by
 refine⟨ts++[a],by rw[ai]; simp,by simp[h2],fun i a' t' e1 e2=>?_⟩
 have np:∀ {b xs},H b=some (.tup xs)→b≠p:=fun e z=>by rw[z,h1]at e; cases e
 by_cases hi:i<ts.length
 ·rw[List.getElem?_append_left hi]at e1
  rw[List.getElem?_append_left (by omega)]at e2
  have z:=h3 i a' t' e1 e2;rw[am (np z)]; exact z
 ·have hi':i=ts.length:=by have:=(List.getElem?_eq_some_iff.mp e1).1; simp at this; omega
  subst hi';rw[List.getElem?_append_right (Nat.le_refl _)]at e1
  rw[h2,List.getElem?_append_right (Nat.le_refl _)]at e2
  simp at e1 e2
  subst e1 e2;rw[am (np e)]; exact e
theorem m4{P:Program}{w:World}{H:Hp}{a c:Addr}{kvs:List (cB × V)}{xs:List V}{o:HO}(h:DO P w H a kvs)(hc:H c=some (.lst xs))(hne:a≠c):DO P w (upd H c o) a kvs:=by
 obtain⟨ys,h1,h2,h3,h4⟩:=h
 exact⟨ys,by rw[am hne]; exact h1,h2,h3,Paired.imp' (fun p q z=>⟨z.1,z.2.1.mono fun d zs e=>by rw[am (fun z=>by subst z; rw[hc]at e; cases e)]; exact e,z.2.2⟩) h4⟩
theorem ky{P:Program}{w:World}{H:Hp}{a c:Addr}{kvs:List (cB × V)}{xs:List V}(h:DO P w H a kvs)(hc:H c=some (.lst xs)):a≠c:=by
 obtain⟨ys,h1,_⟩:=h
 rintro rfl
 rw[h1]at hc; cases hc
theorem uU{P:Program}{w:World}{H:Hp}{a:Addr}{kvs:List (cB × V)}(h:DO P w H a kvs):∀ xs,H a≠some (.tup xs):=fun xs z=>by
 obtain⟨ys,h1,_⟩:=h
 rw[h1]at z; cases z
section
variable{P:Program}{w:World}{K:PySem.W.Frag}{mg:Str→Option Value}{base:Heap}
def xg:Sp:=fun vs H Q _=>∃ (p:Addr) (r:Rl) (k:Nat) (y:Str),vs=[.ref p,.int (k:Int),.str y]∧RuleAt H p r∧bI r∧k<r.rs.length∧Q (aG (ar r k y)) H
theorem x6(D:DefAt K mg "_law_to" cq):bv P w K mg base 1 "_law_to" ["_law_rule_here", "_law_room", "_law_word"] xg:=by
 refine D.cal (k:=0) qz (fun _ _ _ _ _ _ us hl=>match us,hl with | [_,_,_],_=>rfl) (fun vs H Q E h=>by obtain⟨p,r,k,y,rfl,_⟩:=h; rfl) (fun f cdv A outer s H vs Q E hr h=>?_)
 obtain⟨p,r,k,y,rfl,hR,ok,hk,q⟩:=h
 obtain⟨pw,pr,as,h1,h2,h3,h4,h5⟩:=hR
 refine⟨_,(ab (bZ (aZ (rQ K) (pv 2) (aB (aM K) (pv 0) ah (fun _ _=>rfl)) (by with_unfolding_all rfl)) (ap (bg (aB (aM K) (aB (aM K) (aB (aM K) (pv 0) ah (fun _ _=>rfl)) (pv 1) (fun _ _=>rfl)) (ci K PySem.F.plainAttrs_list PySem.F.slot_list_index PySem.F.type_list_index (lg K) (aB (aM K) (pv 0) ah (fun _ _=>rfl)) (aa (pv 2) ac)) (fun _ _=>rfl)))) bD)
   (ap (bg (pv 1)))),?_⟩
 walk_at "rd1";refine⟨_,_,.inr (SqT.of h1),aC (j:=1) rfl,?_⟩
 walk_at "rd1";refine⟨_,.inl (SqL.of h2),rfl,iS _,?_⟩
 rw[ki];refine bp (fun c=>?_) (fun c=>?_)
 ·have hy:y∈r.ws:=by simpa using c
  have hka:k<as.length:=by omega
  have hx:=ok.row _ (List.getElem_mem hk);have hj:r.ws.idxOf y<(r.rs[k]).length:=by rw[hx.1]; exact List.idxOf_lt_length_iff.mpr hy
  refine⟨_,_,.inr (SqT.of h1),aC (j:=2) rfl,?_⟩
  walk_at "rd1";refine⟨_,_,.inl (SqL.of h3),aC (v:=.ref as[k]) (by rw[List.getElem?_map,List.getElem?_eq_getElem hka]; rfl),?_⟩
  refine⟨_,_,.inr (SqT.of h1),aC (j:=1) rfl,?_⟩
  walk_at "rd1";refine⟨⟨_,SqL.of h2⟩,_,SqL.of h2,hy,?_⟩
  walk_at "rd1";refine⟨_,_,.inl (SqL.of (h5 k _ _ (List.getElem?_eq_getElem hka) (List.getElem?_eq_getElem hk))),aC (v:=aG (ar r k y)) ?_,q⟩
  rw[List.getElem?_map,List.getElem?_eq_getElem hj];unfold ar;rw[if_pos hy,List.getD_eq_getElem?_getD,List.getD_eq_getElem?_getD,List.getElem?_eq_getElem hk];show _=some (aG ((r.rs[k])[r.ws.idxOf y]?.getD none))
  rw[List.getElem?_eq_getElem hj]; rfl
 ·have hy:y∉r.ws:=by simpa using c
  have e:ar r k y=some k:=by unfold ar; rw[if_neg hy]
  rw[e]at q
  walk_at "nx";exact q
inductive jA (a b:Rl):Nat→Nat→Prop
 | z:jA a b 0 0
 | s {i j i' j':Nat} {y:Str}:jA a b i j→ar a i y=some i'→ar b j y=some j'→jA a b i' j'
def ig(a b:Rl):Prop:=∃ E,Alike a b E
theorem p4{a b:Rl}{E:Nat→Nat→Prop}(h:Alike a b E){i j:Nat}(r:jA a b i j):E i j:=by
 induction r with
 | z=>exact h.z
 | s _ e1 e2 ih=>
  rcases h.st _ _ _ ih with ⟨z,_⟩ | ⟨i',j',z1,z2,z3⟩
  ·rw[e1]at z; cases z
  ·rw[e1]at z1; rw[e2]at z2; cases z1; cases z2; exact z3
theorem tJ{a b:Rl}{i j:Nat}{y:Str}(r:jA a b i j)(h:(ar a i y=none∧ar b j y≠none)∨(ar a i y≠none∧ar b j y=none)):¬ ig a b:=fun ⟨E,al⟩=>by
 rcases al.st i j y (p4 al r) with ⟨z1,z2⟩ | ⟨i',j',z1,z2,_⟩
 ·rcases h with ⟨_,h⟩ | ⟨h,_⟩
  ·exact h z2
  ·exact h z1
 ·rcases h with ⟨h,_⟩ | ⟨_,h⟩
  ·rw[h]at z1; cases z1
  ·rw[h]at z2; cases z2
theorem m3{r:Rl}(ok:bI r){k k':Nat}{y:Str}(hk:k<r.rs.length)(e:ar r k y=some k'):k'<r.rs.length:=by
 unfold ar at e
 by_cases h:y∈r.ws
 ·rw[if_pos h,aF hk]at e
  have hx:=ok.row _ (List.getElem_mem hk);have hi:r.ws.idxOf y<(r.rs[k]).length:=by rw[hx.1]; exact List.idxOf_lt_length_iff.mpr h
  rw[aF hi]at e
  exact hx.2 k' (e ▸ List.getElem_mem hi)
 ·rw[if_neg h]at e
  cases e; exact hk
def dq(p:Nat × Nat):Pr:=(some p.1,some p.2)
theorem u0{p q:Nat × Nat}(h:dq p=dq q):p=q:=by
 have e1:=congrArg Prod.fst h;have e2:=congrArg Prod.snd h;exact Prod.ext (Option.some.inj e1) (Option.some.inj e2)
def eO(ks:List (Nat × Nat)):List (cB × V):=ks.map fun p=>(dw (dq p),V.bl true)
theorem jD:∀ (ks:List (Nat × Nat)) (p:Nat × Nat),(aX (eO ks) (dw (dq p))).isSome=decide (p∈ks)
 | [],p=>by simp[eO,aX]
 | q::ks,p=>by
  by_cases e:q=p
  ·subst e
   show (aX ((dw (dq q),V.bl true)::eO ks) (dw (dq q))).isSome=_
   rw[ib rfl]; simp
  ·show (aX ((dw (dq q),V.bl true)::eO ks) (dw (dq p))).isSome=_
   rw[iA (fun z=>e (u0 (sT z))),jD ks p]
   simp[Ne.symm e]
structure LkI (a b:Rl) (us:List Str) (ks ts:List (Nat × Nat)) (ex:Option (Nat × Nat)):Prop where
 nd:ks.Nodup
 z:(0,0)∈ks
 rch:∀ p∈ks,jA a b p.1 p.2∧p.1<a.rs.length∧p.2<b.rs.length
 sub:∀ t∈ts,t∈ks
 cl:∀ p∈ks,p∉ts→ex≠some p→∀ y∈us,(ar a p.1 y=none∧ar b p.2 y=none)∨∃ i' j',ar a p.1 y=some i'∧ar b p.2 y=some j'∧(i',j')∈ks
theorem LkI.len{a b:Rl}{us:List Str}{ks ts:List (Nat × Nat)}{ex:Option (Nat × Nat)}(h:LkI a b us ks ts ex)(oa:bI a)(ob:bI b):ks.length≤3600:=by
 have na:=oa.n1;have nb:=ob.n1
 have:=iq 3600 (ks.map fun p=>60 * p.1+p.2) (List.pairwise_map.mpr (List.Pairwise.imp_of_mem (fun {p q} hp hq hpq e=>hpq (by
  have h1:=h.rch p hp;have h2:=h.rch q hq
  exact Prod.ext (by omega) (by omega))) h.nd)) (fun x hx=>by
   obtain⟨p,hp,rfl⟩:=List.mem_map.mp hx
   have:=h.rch p hp
   omega)
 rwa [List.length_map]at this
theorem LkI.like{a b:Rl}{us:List Str}{ks:List (Nat × Nat)}(h:LkI a b us ks [] none)(hu:∀ y,y∈us ↔ y∈a.ws∨y∈b.ws):ig a b:=by
 refine⟨fun i j=>(i,j)∈ks,h.z,fun i j e=>(h.rch _ e).2,fun i j y e=>?_⟩
 by_cases hy:y∈us
 ·exact h.cl (i,j) e (by simp) (by simp) y hy
 ·rw[hu,not_or]at hy
  exact .inr ⟨i,j,by unfold ar; rw[if_neg hy.1],by unfold ar; rw[if_neg hy.2],e⟩
noncomputable def lA(a b:Rl):Bool:=@decide (ig a b) (Classical.propDecidable _)
theorem jM{a b:Rl}(h:ig a b):lA a b=true:=@decide_eq_true _ (Classical.propDecidable _) h
theorem jp{a b:Rl}(h:¬ ig a b):lA a b=false:=@decide_eq_false _ (Classical.propDecidable _) h
theorem vw{K:PySem.W.Frag}{H:Hp}{a b:Addr}{xs:List V}(h1:H a=some (.lst xs))(h2:H b=some (.lst [])):EqN K H (0+1) (.ref a) (.ref b) (decide (xs=[])):=by
 cases xs with
 | nil=>exact EqN.seqFlat (.inl ⟨SqL.of h1,SqL.of h2⟩) (fun v hv=>by cases hv)
 | cons y t=>exact .inr ⟨a,b,_,_,rfl,rfl,.inl ⟨SqL.of h1,SqL.of h2⟩,.inr ⟨SqL.of h1,SqL.of h2,by simp,rfl⟩⟩
def qX:Sp:=fun vs H Q _=>∃ (p q:Addr) (a b:Rl),vs=[.ref p,.ref q]∧RuleAt H p a∧RuleAt H q b∧bI a∧bI b∧a.ws.length+b.ws.length≤20∧∀ H',Same H H'→Q (.bl (lA a b)) H'
theorem vx(D:DefAt K mg "_law_like" aP) (z_sorted:mg "sorted" = none) (z_set:mg "set" = none) (c_law_to:bv P w K mg base 1 "_law_to" ["_law_rule_here", "_law_room", "_law_word"] xg):bv P w K mg base 2 "_law_like" ["_law_one", "_law_other"] qX:=by
 refine D.cal sc_law_like (fun _ _ _ _ _ _ us hl=>match us,hl with | [_,_],_=>rfl) (fun vs H Q E h=>by obtain⟨_,_,_,_,rfl,_⟩:=h; rfl) (fun f cdv A outer s H vs Q E hr h=>?_)
 obtain⟨p,q,a,b,rfl,hA,hB,oa,ob,h20,fin⟩:=h
 obtain⟨pw,pr,as,h1,h2,h3⟩:=id hA
 obtain⟨pw',pr',as',h1',h2',h3'⟩:=id hB
 refine⟨_,(ab (ax 2 sc_law_like.nd (bq (kC w hr) z_sorted iO (aa (cJ (ng K w hr) z_set vF (aa (aq a_ (aB (aM K) (pv 0) ah (fun _ _=>rfl)) (aB (aM K) (pv 1) ah (fun _ _=>rfl))) ac)) ac)))
   (ab (ax 3 sc_law_like.nd ((pC P w hr) (dZ (aa ah (aa ah ac))) gL))
   (ab (ax 4 sc_law_like.nd (cj (aa (dZ (aa ah (aa ah ac))) ac)))
   (ab (jB PassesOwn.never (aZ (jd K hr) (pv 4) (cj ac) (bd _)) (ab (cz (vk K PySem.F.plainAttrs_list PySem.F.slot_list_pop PySem.F.type_list_pop uQ (pv 4)) (h7 K (n:=2) (cn (bb 5 sc_law_like.nd) (cn (bb 6 sc_law_like.nd) hU))))
   (ap (b_ PassesOwn.never rfl (cr K (pv 2)) (bb 7 sc_law_like.nd) (ab (ax 8 sc_law_like.nd (dZ (aa (aW c_law_to hr (aa (pv 0) (aa (pv 5) (aa (pv 7) ac)))) (aa (aW c_law_to hr (aa (pv 1) (aa (pv 6) (aa (pv 7) ac)))) ac))))
   (ab (bZ (aZ mr (gn i9 (aB (aM K) (pv 8) ah (fun _ _=>rfl)) cE (bd _)) (gn i9 (aB (aM K) (pv 8) ah (fun _ _=>rfl)) cE (bd _)) (bd _)) (ap (bg gL)) bD)
   (ap (bZ (PW.pt' (h_ (aZ im (aB (aM K) (pv 8) ah (fun _ _=>rfl)) cE (bd _)) (g4 (aZ (pj P w hr) (pv 8) (pv 3) (by with_unfolding_all rfl))))) (ab (cz gL (cL (pv 3) (pv 8) (xb P w hr)))
   (ap (cC (ci K PySem.F.plainAttrs_list PySem.F.slot_list_append PySem.F.type_list_append bN (pv 4) (aa (pv 8) ac))))) bD))))))))
   (ap (bg gL)))))),?_⟩
 walk_at "rd1";refine⟨_,_,.inr (SqT.of h1),aC (j:=1) rfl,?_⟩
 refine⟨_,_,.inr (SqT.of h1'),aC (j:=1) rfl,?_⟩
 walk_at "rd1";refine⟨_,_,h2,h2',by rw[List.length_map,List.length_map]; exact bM (by omega),fun cl hcl=>?_⟩
 rw[← List.map_append];have s2:=au hcl (.lst ((a.ws++b.ws).map V.str));have e2:upd H cl (.lst ((a.ws++b.ws).map V.str)) cl=some (.lst ((a.ws++b.ws).map V.str)):=ai
 generalize upd H cl (.lst ((a.ws++b.ws).map V.str))=H2 at s2 e2 ⊢;refine⟨cl,_,rfl,SqL.of e2,by rw[List.length_append]; omega,fun sp ds hsp hnd hmem hdl=>?_⟩
 refine⟨sp,ds,rfl,ai,by rw[List.length_append]at hdl; omega,fun wp us hwp hprm hso=>?_⟩
 have s4:=(s2.trans (au hsp (fH w sp ds))).trans (au hwp (.lst (us.map V.str)));have et:=ai (H:=upd H2 sp (fH w sp ds)) (a:=wp) (o:=HO.lst (us.map V.str));generalize upd (upd H2 sp (fH w sp ds)) wp (.lst (us.map V.str))=H4 at s4 et ⊢;have hus:∀ y,y∈us ↔ y∈a.ws∨y∈b.ws:=fun y=>by rw[hprm.mem_iff,hmem,List.mem_append]
 walk_at "nx";rw[oY];refine fun dp hdp u hu=>?_
 have s5:=au hdp u;generalize upd H4 dp u=H5 at s5 hu ⊢;walk_at "rd1";refine⟨by decide,fun z1 hz1=>?_⟩
 have s6:=au hz1 (.tup [V.int 0,V.int 0]);have e6:upd H5 z1 (.tup [V.int 0,V.int 0]) z1=some (.tup [aG (some 0),aG (some 0)]):=ai
 generalize upd H5 z1 (.tup [V.int 0,V.int 0])=H6 at s6 e6 ⊢;refine⟨z1,dw (dq (0,0)),rfl,mN (p:=(some 0,some 0)) e6,hu.mono s6,fun u' hu'=>?_⟩
 have s47:Same H4 (upd H6 dp u'):=(s5.trans s6).upd hdp u'
 generalize upd H6 dp u'=H7 at s47 hu' ⊢;walk_at "nx";refine⟨by decide,fun z2 hz2=>?_⟩
 have s8:=au hz2 (.tup [V.int 0,V.int 0]);have e8:upd H7 z2 (.tup [V.int 0,V.int 0]) z2=some (.tup [aG (some 0),aG (some 0)]):=ai
 generalize upd H7 z2 (.tup [V.int 0,V.int 0])=H8 at s8 e8 ⊢;refine⟨by decide,fun tp htp=>?_⟩
 have s9:=au htp (.lst [V.ref z2]);have e9:upd H8 tp (.lst [V.ref z2]) tp=some (.lst ([z2].map V.ref)):=ai
 generalize upd H8 tp (.lst [V.ref z2])=H9 at s9 e9 ⊢;have htp0:H4 tp=none:=(s47.trans s8).free htp
 have hor0:OrdAt H9 tp ([(0,0)].map dq):=⟨[z2],e9,rfl,fun i x t w1 w2=>by
  match i,w1,w2 with
  | 0,w1,w2=>cases w1; cases w2; exact s9 _ _ e8
  | i+1,w1,w2=>simp at w1⟩
 have hd9:DO P w H9 dp (eO [(0,0)]):=hu'.mono (s8.trans s9)
 walk_at "nx"
 refine⟨fun mm σ H'=>∃ (ks ts:List (Nat × Nat)) (o5 o6 o7 o8:Option V),mm=2 * (3600 - ks.length)+ts.length∧mm≤8000∧σ=[some (.ref p),some (.ref q),some (.ref wp),some (.ref dp),some (.ref tp),o5,o6,o7,o8]∧Same H4 H'∧DO P w H' dp (eO ks)∧OrdAt H' tp (ts.map dq)∧LkI a b us ks ts none,
  ⟨_,[(0,0)],[(0,0)],none,none,none,none,rfl,(by simp),rfl,(s47.trans s8).trans s9,hd9,hor0,⟨by simp,by simp,fun x hx=>by rw[List.mem_singleton.mp hx]; exact⟨.z,oa.n0,ob.n0⟩,fun t h=>h,fun x hx hn=>absurd hx hn⟩⟩,?_⟩
 rintro mm σ H' ⟨ks,ts,o5,o6,o7,o8,rfl,h8000,rfl,sm,hd,ht,bi⟩
 have hkl:=bi.len oa ob;obtain⟨tas,t1,t2,t3⟩:=id ht
 rw[List.length_map]at t2
 walk_at "rd1";refine⟨by decide,fun ep hep=>?_⟩
 have s10:=au hep (.lst []);have e10:upd H' ep (.lst []) ep=some (.lst []):=ai
 generalize upd H' ep (.lst [])=H10 at s10 e10 ⊢;refine⟨0,_,by decide,vw (s10 _ _ t1) e10,?_⟩
 by_cases he:ts=[]
 ·subst he
  have hta:tas=[]:=List.length_eq_zero_iff.mp (by simpa using t2)
  rw[decide_eq_true (by rw[hta]; rfl)]
  refine bp (fun c=>absurd c (by decide)) (fun _=>?_)
  walk_at "nx";have:=fin H10 (s4.trans (sm.trans s10))
  rw[jM (bi.like hus)]at this
  exact this
 obtain⟨ts',t0,rfl⟩ : ∃ ts' t0,ts=ts'++[t0]:=⟨ts.dropLast,ts.getLast he,(List.dropLast_concat_getLast he).symm⟩
 have htn:tas≠[]:=fun z=>by rw[z]at t2; simp at t2
 obtain⟨tas',x0,rfl⟩ : ∃ tas' x0,tas=tas'++[x0]:=⟨tas.dropLast,tas.getLast htn,(List.dropLast_concat_getLast htn).symm⟩
 have htl:tas'.length=ts'.length:=by simpa using t2
 rw[decide_eq_false (by simp)]
 refine bp (fun _=>?_) (fun c=>absurd (by decide) c)
 have h3:=s10 _ _ t1;have ex0:=s10 _ _ (t3 ts'.length x0 (dq t0) (by rw[← htl]; simp) (by simp))
 generalize hMM:2 * (3600 - ks.length)+(ts'++[t0]).length=MM at h8000 ⊢;have hM':2 * (3600 - ks.length)+ts'.length<MM:=by rw[← hMM]; simp
 have edl:((tas'++[x0]).map V.ref).dropLast=tas'.map V.ref:=by rw[List.map_append]; exact List.dropLast_concat
 refine⟨_,fun _ _ h=>h,⟨_,SqL.of h3⟩,_,V.ref x0,h3,by simp,?_⟩
 rw[edl]
 have o11:OrdAt (upd H10 tp (.lst (tas'.map V.ref))) tp (ts'.map dq):=by
  refine⟨tas',ai,by rw[List.length_map]; exact htl,fun i x t w1 w2=>?_⟩
  have hi:=(List.getElem?_eq_some_iff.mp w1).1;have z:=s10 _ _ (t3 i x t (by rw[List.getElem?_append_left hi]; exact w1) (by rw[List.map_append,List.getElem?_append_left (by rw[List.length_map]; omega)]; exact w2))
  rw[am (fun y=>by rw[y,h3]at z; cases z)]; exact z
 have ex11:upd H10 tp (.lst (tas'.map V.ref)) x0=some (.tup [.int (t0.1:Int),.int (t0.2:Int)]):=by rw[am (fun y=>by rw[y,h3]at ex0; cases ex0)]; exact ex0
 have hd11:=m4 (hd.mono s10) (o:=.lst (tas'.map V.ref)) h3 (ky (hd.mono s10) h3);have sm11:=(sm.trans s10).upd htp0 (.lst (tas'.map V.ref));generalize upd H10 tp (.lst (tas'.map V.ref))=H11 at o11 ex11 hd11 sm11 ⊢;have ht0:t0∈ks:=bi.sub t0 (by simp)
 have hdp0:H4 dp=none:=hdp
 have bi0:LkI a b us ks ts' (some t0):=⟨bi.nd,bi.z,bi.rch,fun t h=>bi.sub t (List.mem_append_left _ h),fun x hx hn hxe=>bi.cl x hx (fun z=>by
  rcases List.mem_append.mp z with z | z
  ·exact hn z
  ·exact hxe (by rw[List.mem_singleton.mp z])) (by simp)⟩
 refine⟨x0,_,rfl,SqT.of ex11,rfl,_,_,rfl,_,_,rfl,rfl,?_⟩
 walk_at "nx";refine⟨⟨_,SqL.of (sm11 _ _ et)⟩,?_⟩
 refine i3 (xs:=us.map V.str) (fun k σ H''=>∃ (ks2 ts2:List (Nat × Nat)) (o7 o8:Option V),2 * (3600 - ks2.length)+ts2.length<MM∧σ=[some (.ref p),some (.ref q),some (.ref wp),some (.ref dp),some (.ref tp),some (.int (t0.1:Int)),some (.int (t0.2:Int)),o7,o8]∧Same H4 H''∧DO P w H'' dp (eO ks2)∧OrdAt H'' tp (ts2.map dq)∧LkI a b us ks2 ts2 (some t0)∧t0∈ks2∧∀ j (hj:j<us.length),j<k→(ar a t0.1 us[j]=none∧ar b t0.2 us[j]=none)∨∃ i' j',ar a t0.1 us[j]=some i'∧ar b t0.2 us[j]=some j'∧(i',j')∈ks2)
  ⟨ks,ts',o7,o8,hM',rfl,sm11,hd11,o11,bi0,ht0,fun j hj h=>absurd h (Nat.not_lt_zero _)⟩ (fun k σ H'' _ h=>by obtain⟨_,_,_,_,_,_,z,_⟩:=h; exact SqL.of (z _ _ et)) ?_ ?_
 ·rintro k v σ H'' hv ⟨ks2,ts2,o7,o8,hlt,rfl,sx,hdx,hox,bx,ht0x,hcov⟩
  have hku:k<us.length:=by have:=(List.getElem?_eq_some_iff.mp hv).1; simpa using this
  rw[List.getElem?_map,List.getElem?_eq_getElem hku]at hv
  cases hv;obtain⟨hrch,hk1,hk2⟩:=bx.rch t0 ht0x
  have s0x:=s4.trans sx;walk_at "rd1";refine⟨p,a,t0.1,us[k],rfl,hA.mono s0x,oa,hk1,?_⟩
  refine⟨q,b,t0.2,us[k],rfl,hB.mono s0x,ob,hk2,?_⟩
  refine⟨by decide,fun tt htt=>?_⟩
  have s12:=au htt (.tup [aG (ar a t0.1 us[k]),aG (ar b t0.2 us[k])]);have e12:upd H'' tt (.tup [aG (ar a t0.1 us[k]),aG (ar b t0.2 us[k])]) tt=some (.tup [aG (ar a t0.1 us[k]),aG (ar b t0.2 us[k])]):=ai
  generalize upd H'' tt (.tup [aG (ar a t0.1 us[k]),aG (ar b t0.2 us[k])])=H12 at s12 e12 ⊢;have sx12:=sx.trans s12;have hd12:=hdx.mono s12;have ho12:=hox.mono s12;walk_at "nx";refine⟨_,_,.inr (SqT.of e12),jJ,?_⟩
  refine⟨_,_,.inr (SqT.of e12),aC (j:=1) rfl,?_⟩
  have cov:∀ ks3:List (Nat × Nat),(∀ x∈ks2,x∈ks3)→((ar a t0.1 us[k]=none∧ar b t0.2 us[k]=none)∨∃ i' j',ar a t0.1 us[k]=some i'∧ar b t0.2 us[k]=some j'∧(i',j')∈ks3)→∀ j (hj:j<us.length),j<k+1→(ar a t0.1 us[j]=none∧ar b t0.2 us[j]=none)∨∃ i' j',ar a t0.1 us[j]=some i'∧ar b t0.2 us[j]=some j'∧(i',j')∈ks3:=fun ks3 h1 h2 j hj hjk=>by
   rcases Nat.lt_or_ge j k with z | z
   ·rcases hcov j hj z with w | ⟨i',j',w1,w2,w3⟩
    ·exact .inl w
    ·exact .inr ⟨i',j',w1,w2,h1 _ w3⟩
   ·have:j=k:=by omega
    subst this;exact h2
  have no:((ar a t0.1 us[k]=none∧ar b t0.2 us[k]≠none)∨(ar a t0.1 us[k]≠none∧ar b t0.2 us[k]=none))→Q (.bl false) H12:=fun h=>by
   have:=fin H12 (s4.trans sx12)
   rw[jp (tJ hrch h)]at this
   exact this
  have hk3600:=bx.len oa ob
  cases ha:ar a t0.1 us[k] with
  | none=>
   cases hb:ar b t0.2 us[k] with
   | none=>
    rw[ha,hb]at e12
    refine bp (fun c=>absurd c (by decide)) (fun _=>?_)
    walk_at "nx";refine⟨_,_,.inr (SqT.of e12),jJ,?_⟩
    refine bp (fun c=>absurd c (by decide)) (fun _=>?_)
    exact⟨ks2,ts2,_,_,hlt,rfl,sx12,hd12,ho12,bx,ht0x,cov ks2 (fun _ h=>h) (.inl ⟨ha,hb⟩)⟩
   | some j'=>
    rw[ha,hb]at no
    refine bp (fun _=>no (.inl ⟨rfl,by simp⟩)) (fun c=>absurd (by simp[aG]) c)
  | some i'=>
   cases hb:ar b t0.2 us[k] with
   | none=>
    rw[ha,hb]at no
    refine bp (fun _=>no (.inr ⟨by simp,rfl⟩)) (fun c=>absurd (by simp[aG]) c)
   | some j'=>
    rw[ha,hb]at e12
    refine bp (fun c=>absurd c (by simp[aG])) (fun _=>?_)
    walk_at "nx";refine⟨_,_,.inr (SqT.of e12),jJ,?_⟩
    refine bp (fun _=>?_) (fun c=>absurd (by simp[aG]) c)
    refine⟨tt,dp,dw (dq (i',j')),_,rfl,rfl,hd12,mN (p:=dq (i',j')) e12,_,rfl,?_⟩
    rw[jD]
    by_cases c2:(i',j')∈ks2
    ·rw[decide_eq_true c2]
     refine bp (fun c=>absurd c (by decide)) (fun _=>?_)
     exact⟨ks2,ts2,_,_,hlt,rfl,sx12,hd12,ho12,bx,ht0x,cov ks2 (fun _ h=>h) (.inr ⟨i',j',ha,hb,c2⟩)⟩
    rw[decide_eq_false c2];refine bp (fun _=>?_) (fun c=>absurd rfl c)
    have hvn:aX (eO ks2) (dw (dq (i',j')))=none:=by
     have:=jD ks2 (i',j')
     rw[decide_eq_false c2]at this
     cases hv:aX (eO ks2) (dw (dq (i',j'))) with
     | none=>rfl
     | some x=>rw[hv]at this; cases this
    walk_at "rd1";refine⟨dp,tt,dw (dq (i',j')),_,rfl,rfl,hd12,mN (p:=dq (i',j')) e12,hvn,b6 (by unfold eO; rw[List.length_map]; omega),fun uu huu=>?_⟩
    have ebes:eO ks2++[(dw (dq (i',j')),V.bl true)]=eO (ks2++[(i',j')]):=by unfold eO; rw[List.map_append]; rfl
    rw[ebes]at huu
    have ndt:=uU hd12;obtain⟨us3,b1,b2,b3⟩:=id (ho12.other (u:=uu) (Ne.symm (ky hd12 ho12.choose_spec.1)) ndt)
    have keepT:∀ {c:Addr} {xs:List V},H12 c=some (.tup xs)→upd H12 dp uu c=some (.tup xs):=fun {c xs} e=>by rw[am (fun z=>by subst z; exact ndt _ e)]; exact e
    have e13:=keepT e12;have sx13:=sx12.upd hdp0 uu;generalize upd H12 dp uu=G at huu b1 b3 e13 sx13 ⊢;walk_at "nx";have hts2:ts2.length≤8000:=by omega
    rw[List.length_map]at b2
    refine⟨⟨_,SqL.of b1⟩,_,b1,by rw[List.length_map,b2]; exact b6 (by omega),?_⟩
    have hO3:=OrdAt.push (t:=dq (i',j')) b1 (by rw[List.length_map]; exact b2) b3 e13
    have hrn:jA a b i' j':=.s hrch ha hb
    have bx3:LkI a b us (ks2++[(i',j')]) (ts2++[(i',j')]) (some t0):=by
     refine⟨?_,by simp[bx.z],?_,?_,?_⟩
     ·exact List.nodup_append.mpr ⟨bx.nd,by simp,fun x hx y hy e=>c2 (by rw[List.mem_singleton.mp hy]at e; exact e ▸ hx)⟩
     ·intro x hx
      rcases List.mem_append.mp hx with z | z
      ·exact bx.rch x z
      ·rw[List.mem_singleton.mp z]; exact⟨hrn,m3 oa hk1 ha,m3 ob hk2 hb⟩
     ·intro x hx
      rcases List.mem_append.mp hx with z | z
      ·exact List.mem_append_left _ (bx.sub x z)
      ·exact List.mem_append_right _ z
     ·intro x hx hn hxe y hy
      rcases List.mem_append.mp hx with z | z
      ·rcases bx.cl x z (fun w=>hn (List.mem_append_left _ w)) hxe y hy with w | ⟨i2,j2,w1,w2,w3⟩
       ·exact .inl w
       ·exact .inr ⟨i2,j2,w1,w2,List.mem_append_left _ w3⟩
      ·exact absurd (List.mem_append_right _ z) hn
    have hlen3:=bx3.len oa ob;rw[List.length_append]at hlen3
    refine⟨ks2++[(i',j')],ts2++[(i',j')],_,_,by rw[List.length_append,List.length_append]; simp at hlen3 ⊢; omega,rfl,sx13.upd htp0 _,m4 huu b1 (ky huu b1),by rw[List.map_append]; exact hO3,bx3,by simp[ht0x],cov (ks2++[(i',j')]) (fun x hx=>by simp[hx]) (.inr ⟨i',j',ha,hb,by simp⟩)⟩
 ·rintro σ H13 ⟨ks2,ts2,o7,o8,hlt,rfl,sx,hdx,hox,bx,ht0x,hcov⟩
  refine⟨_,hlt,ks2,ts2,_,_,_,_,rfl,by omega,rfl,sx,hdx,hox,⟨bx.nd,bx.z,bx.rch,bx.sub,fun x hx hn _ y hy=>?_⟩⟩
  by_cases e:x=t0
  ·subst e
   obtain⟨j,hj,ej⟩:=List.mem_iff_getElem.mp hy
   subst ej;exact hcov j hj (by rw[List.length_map]; exact hj)
  ·exact bx.cl x hx hn (fun z=>e (Option.some.inj z).symm) y hy
theorem vi(o o':Option Nat):d_ (aG o) (aG o')=decide (o=o'):=by
 cases o with
 | none=>cases o' <;> rfl
 | some k=>
  cases o' with
  | none=>rfl
  | some k'=>
   show ((k:Int) == (k':Int))=_
   rw[Bool.eq_iff_iff,beq_iff_eq,decide_eq_true_eq]
   constructor
   ·intro h; rw[show k=k' by omega]
   ·intro h; rw[Option.some.inj h]
theorem p8{α : Type}[DecidableEq α]{x y:List α}(h:x.length=y.length):(List.range x.length).all (fun i=>decide (x[i]? = y[i]?))=decide (x=y):=by
 rw[Bool.eq_iff_iff,List.all_eq_true,decide_eq_true_eq]
 constructor
 ·intro h2
  refine List.ext_getElem? fun i=>?_
  by_cases hi:i<x.length
  ·exact of_decide_eq_true (h2 i (List.mem_range.mpr hi))
  ·rw[List.getElem?_eq_none (by omega),List.getElem?_eq_none (by omega)]
 ·rintro rfl i _; simp
theorem vy{K:PySem.W.Frag}{H:Hp}{a b:Addr}{x y:List (Option Nat)}(h1:H a=some (.lst (x.map aG)))(h2:H b=some (.lst (y.map aG))):EqN K H 1 (.ref a) (.ref b) (decide (x=y)):=by
 by_cases hl:x.length=y.length
 ·refine .inr ⟨a,b,_,_,rfl,rfl,.inl ⟨SqL.of h1,SqL.of h2⟩,.inl ⟨fun i=>decide (x[i]? = y[i]?),by simp[hl],fun i u v e1 e2=>?_,?_⟩⟩
  ·rw[List.getElem?_map]at e1 e2
   cases hx:x[i]? with
   | none=>rw[hx]at e1; cases e1
   | some o=>
    cases hy:y[i]? with
    | none=>rw[hy]at e2; cases e2
    | some o'=>
     rw[hx]at e1; rw[hy]at e2
     cases e1; cases e2
     refine⟨by cases o <;> rfl,by cases o' <;> rfl,?_⟩
     rw[vi];show decide (x[i]? = y[i]?)=_
     rw[hx,hy]; simp
  ·rw[List.length_map,p8 hl]
 ·rw[decide_eq_false (fun z=>hl (by rw[z]))]
  exact .inr ⟨a,b,_,_,rfl,rfl,.inl ⟨SqL.of h1,SqL.of h2⟩,.inr ⟨SqL.of h1,SqL.of h2,by simpa using hl,rfl⟩⟩
theorem rJ{K:PySem.W.Frag}{H:Hp}{p q:Addr}{rs rs':List (List (Option Nat))}{as bs:List Addr}(h1:RoomsAs H p rs as)(h2:RoomsAs H q rs' bs):EqN K H 2 (.ref p) (.ref q) (decide (rs=rs')):=by
 obtain⟨a1,a2,a3⟩:=h1
 obtain⟨b1,b2,b3⟩:=h2
 by_cases hl:rs.length=rs'.length
 ·refine .inr ⟨p,q,_,_,rfl,rfl,.inl ⟨SqL.of a1,SqL.of b1⟩,.inl ⟨fun i=>decide (rs[i]? = rs'[i]?),by simp; omega,fun i u v e1 e2=>?_,?_⟩⟩
  ·rw[List.getElem?_map]at e1 e2
   cases qa:as[i]? with
   | none=>rw[qa]at e1; cases e1
   | some a=>
    cases qb:bs[i]? with
    | none=>rw[qb]at e2; cases e2
    | some b=>
     rw[qa]at e1; rw[qb]at e2
     cases e1; cases e2
     have hi:i<rs.length:=by have:=(List.getElem?_eq_some_iff.mp qa).1; omega
     have hi':i<rs'.length:=by omega
     have e:=vy (K:=K) (a3 i a _ qa (List.getElem?_eq_getElem hi)) (b3 i b _ qb (List.getElem?_eq_getElem hi'));have e2:decide (rs[i]? = rs'[i]?)=decide (rs[i]=rs'[i]):=by rw[List.getElem?_eq_getElem hi,List.getElem?_eq_getElem hi']; simp
     show EqN K H 1 (.ref a) (.ref b) (decide (rs[i]? = rs'[i]?))
     rw[e2]; exact e
  ·rw[List.length_map,a2,p8 hl]
 ·rw[decide_eq_false (fun z=>hl (by rw[z]))]
  exact .inr ⟨p,q,_,_,rfl,rfl,.inl ⟨SqL.of a1,SqL.of b1⟩,.inr ⟨SqL.of a1,SqL.of b1,by simp; omega,rfl⟩⟩
def n9(r r':Rl):Bool:=decide (r.s=r'.s)&&(decide (r.ws=r'.ws)&&decide (r.rs=r'.rs))
theorem eqR_iff{r r':Rl}:n9 r r'=true ↔ r=r':=by
 unfold n9;rw[Bool.and_eq_true,Bool.and_eq_true,decide_eq_true_eq,decide_eq_true_eq,decide_eq_true_eq]
 constructor
 ·rintro⟨h1,h2,h3⟩
  cases r; cases r'
  simp only at h1 h2 h3
  subst h1 h2 h3; rfl
 ·rintro rfl; exact⟨rfl,rfl,rfl⟩
theorem tW{K:PySem.W.Frag}{H:Hp}{p q:Addr}{r r':Rl}(h1:RuleAt H p r)(h2:RuleAt H q r'):EqN K H 3 (.ref p) (.ref q) (n9 r r'):=by
 obtain⟨pw,pr,as,a1,a2,a3⟩:=h1
 obtain⟨qw,qr,bs,b1,b2,b3⟩:=h2
 refine .inr ⟨p,q,_,_,rfl,rfl,.inr ⟨SqT.of a1,SqT.of b1⟩,.inl ⟨fun i=>match i with | 0=>decide (r.s=r'.s) | 1=>decide (r.ws=r'.ws) | _=>decide (r.rs=r'.rs),rfl,fun i u v e1 e2=>?_,?_⟩⟩
 ·match i,e1,e2 with
  | 0,e1,e2=>
   cases e1; cases e2
   have:=EqN.flat (K:=K) (H:=H) (n:=2) (x:=V.int r.s) (y:=V.int r'.s) rfl rfl
   have e:d_ (V.int r.s) (V.int r'.s)=decide (r.s=r'.s):=by show (r.s == r'.s)=_; rw[Bool.eq_iff_iff,beq_iff_eq,decide_eq_true_eq]
   rw[e]at this; exact this
  | 1,e1,e2=>cases e1; cases e2; exact EqN.strs (SqL.of a2) (SqL.of b2)
  | 2,e1,e2=>cases e1; cases e2; exact rJ a3 b3
  | i+3,e1,e2=>simp at e1
 ·show n9 r r'=([0,1,2]:List Nat).all _
  simp[n9]
theorem ph{a b:Rl}(hs:a.s=b.s)(oa:bI a)(ob:bI b)(na:a.ws.Nodup)(nb:b.ws.Nodup)(sa:sortedS a.ws=true)(sb:sortedS b.ws=true):ig a b ↔ aK a=aK b:=by
 constructor
 ·rintro⟨E,h⟩; exact h.least hs oa ob na nb sa sb
 ·intro h
  refine⟨fun k l=>cw a.rs k∧cw b.rs l∧d8 a.rs k=d8 b.rs l,⟨fM oa.n0,fM ob.n0,by rw[ip oa.n0,ip ob.n0]⟩,fun i j e=>⟨e.1.lt,e.2.1.lt⟩,?_⟩
  rintro i j y ⟨r1,r2,e⟩
  have s1:=fq oa na r1 y;have s2:=fq ob nb r2 y;rw[h,e,s2]at s1
  cases ha:ar a i y with
  | none=>
   cases hb:ar b j y with
   | none=>exact .inl ⟨rfl,rfl⟩
   | some j'=>rw[ha,hb]at s1; cases s1
  | some i'=>
   cases hb:ar b j y with
   | none=>rw[ha,hb]at s1; cases s1
   | some j'=>
    rw[ha,hb]at s1
    exact .inr ⟨i',j',rfl,rfl,fk oa na r1 ha,fk ob nb r2 hb,(Option.some.inj s1).symm⟩
def qg:Sp:=fun vs H Q _=>∃ (p:Addr) (r:Rl),vs=[.ref p]∧RuleAt H p r∧r.rs.length≤60∧∀ (t:Addr) (H':Hp),Same H H'→RuleAt H' t r→Q (.ref t) H'
theorem vd(D:DefAt K mg "_law_copy" bA) (z_list:mg "list" = none):bv P w K mg base 1 "_law_copy" ["_law_rule_here"] qg:=by
 refine D.cal (k:=0) nc (fun _ _ _ _ _ _ us hl=>match us,hl with | [_],_=>rfl) (fun vs H Q E h=>by obtain⟨p,r,rfl,_⟩:=h; rfl) (fun f cdv A outer s H vs Q E hr h=>?_)
 obtain⟨p,r,rfl,⟨pw,pr,as,h1,h2,h3⟩,n1,q⟩:=h
 refine⟨_,(ap (bg (dZ (aa (aB (aM K) (pv 0) ah (fun _ _=>rfl)) (aa (cJ (d0 K) z_list gB (aa (aB (aM K) (pv 0) ah (fun _ _=>rfl)) ac)) (aa (di (CompSc.to (fsc:=(defScope bA)) (N:=["_law_rule_here"]) (N0:=["_law_rule_here"]) (T:=["_law_room"]) ⟨by decide +kernel,by decide +kernel,by decide +kernel,by decide +kernel,by decide +kernel,by decide +kernel,by decide +kernel⟩ rfl rfl) rfl (cr K (aB (aM K) (pv 0) ah (fun _ _=>rfl))) (fun _ _ _ _=>(bb 1 (show (["_law_rule_here", "_law_room"]:List Str).Nodup from by decide +kernel) (hx:=(fz (defScope bA) (by decide +kernel))) (hf:=iI (defScope bA) (by decide +kernel)))) (bU (show (["_law_rule_here"]:List Str).length≤1 from by decide)) (fun _ _ _ _=>cm) (fun _ _ _ _=>(cJ (d0 K) z_list gB (aa (pv 1 (hv:=(bQ (defScope bA) (by decide +kernel)))) ac) (hg:=(nU (defScope bA) (by decide +kernel)))))) ac)))))),?_⟩
 walk_at "rd1";refine⟨_,_,.inr (SqT.of h1),jJ,?_⟩
 refine⟨_,_,.inr (SqT.of h1),aC (j:=1) rfl,?_⟩
 walk_at "rd1";refine⟨_,.inl (SqL.of h2),fun wl hwl=>?_⟩
 have sm1:=au hwl (.lst (r.ws.map V.str));have e1:upd H wl (.lst (r.ws.map V.str)) wl=some (.lst (r.ws.map V.str)):=ai
 generalize upd H wl (.lst (r.ws.map V.str))=H1 at sm1 e1 ⊢;refine⟨_,_,.inr (SqT.of (sm1 _ _ h1)),aC (j:=2) rfl,?_⟩
 have h31:=h3.mono sm1;walk_at "rd1";refine⟨⟨_,SqL.of h31.1⟩,fun L hL=>?_⟩
 refine j0 h31 n1 hL (fun a xs H' C z1 z2=>?_) (fun H2 bs sm2 hB hbn hnd=>?_)
 ·walk_at "rd1"
  exact⟨_,.inl (SqL.of z1),z2⟩
 walk_at "rd1";refine⟨by decide,fun t ht=>?_⟩
 have sm3:=au ht (.tup [.int r.s,.ref wl,.ref L]);have sm12:=sm1.trans sm2;exact q t _ (sm12.trans sm3) ⟨wl,L,bs,ai,sm3 _ _ (sm2 _ _ e1),hB.mono sm3⟩
theorem sD{K:PySem.W.Frag}{H:Hp}{l m a b c a' b' c':Addr}{r1 r2 r3:Rl}(h1:H l=some (.lst [.ref a,.ref b,.ref c]))(h2:H m=some (.lst [.ref a',.ref b',.ref c']))(ha:RuleAt H a r1)(hb:RuleAt H b r2)(hc:RuleAt H c r3)(ha':RuleAt H a' r1)(hb':RuleAt H b' r2)(hc':RuleAt H c' r3):EqN K H 4 (.ref l) (.ref m) true:=by
 refine EqN.seq (.inl ⟨SqL.of h1,SqL.of h2⟩) rfl fun i x y e1 e2=>?_
 match i,e1,e2 with
 | 0,e1,e2=>cases e1; cases e2; exact g5 ha ha'
 | 1,e1,e2=>cases e1; cases e2; exact g5 hb hb'
 | 2,e1,e2=>cases e1; cases e2; exact g5 hc hc'
 | i+3,e1,e2=>simp at e1
theorem xA{f:Addr}{fd:FuncData}(F:Fun K "law" "law" bm f fd) (z_isinstance:mg "isinstance" = none) (z_tuple:mg "tuple" = none) (c_law_cell_at:bv P w K mg base 1 "_law_cell_at" ["_law_script", "_law_k"] (lW K)) (c_law_rule:bv P w K mg base 3 "_law_rule" ["_law_script"] (oe K)) (c_law_dressed:bv P w K mg base 2 "_law_dressed" ["_law_rule_here", "_law_cell"] nZ) (c_law_spoiled:bv P w K mg base 1 "_law_spoiled" ["_law_rule_here", "_law_cell"] om) (c_law_copy:bv P w K mg base 1 "_law_copy" ["_law_rule_here"] qg) (c_least_rule:bv P w K mg base 6 "least_rule" ["rule"] oh) (c_law_like:bv P w K mg base 2 "_law_like" ["_law_one", "_law_other"] qX):gS P w K mg base jK 7 f fd ["_law_script"] (ly K):=by
 refine F.ok sc_law (fun vs H Q E h=>by obtain⟨a,ns,rfl,_⟩:=h; rfl) (fun cdv A outer s H vs Q E hr h=>?_)
 obtain⟨a,ns,rfl,hS,h63,q⟩:=h
 refine⟨_,(ab (ax 1 sc_law.nd (aW c_law_rule hr (aa (pv 0) ac)))
   (ab (ax 2 sc_law.nd (aW c_law_dressed hr (aa (pv 1) (aa (aW c_law_cell_at hr (aa (pv 0) (aa ah ac))) ac))))
   (ab (ax 3 sc_law.nd (aW c_law_spoiled hr (aa (pv 2) (aa (aq bO (aW c_law_cell_at hr (aa (pv 0) (aa ah ac))) ah) ac))))
   (ab (ax 4 sc_law.nd (cj (aa (aW c_law_copy hr (aa (pv 1) ac)) (aa (aW c_law_copy hr (aa (pv 2) ac)) (aa (aW c_law_copy hr (aa (pv 3) ac)) ac)))))
   (ab (ax 5 sc_law.nd (aW c_least_rule hr (aa (aB (aM K) (pv 4) ah (fun _ _=>rfl)) ac)))
   (ab (ax 6 sc_law.nd (aW c_least_rule hr (aa (aB (aM K) (pv 4) ah (fun _ _=>rfl)) ac)))
   (ab (ax 7 sc_law.nd (aW c_least_rule hr (aa (aB (aM K) (pv 4) ah (fun _ _=>rfl)) ac)))
   (ab (bZ (PW.pt' (uE (vS (qP (bq tN z_isinstance lq (aa (pv 5) (aa (xC z_tuple mS) ac))))) (uE (aZ (jd K hr) (pv 5) (pv 6) (bd _)) (wq (aZ (jd K hr) (pv 4) (cj (aa (pv 1) (aa (pv 2) (aa (pv 3) ac)))) (bd _)))))) (ap (bg gL)) bD)
   (ab (bZ (aZ mr (gn (nH K hr) (pv 7) (pv 5) (bd _)) (aW c_law_like hr (aa (pv 1) (aa (pv 3) ac))) (bd _)) (ap (bg gL)) bD)
   (ap (bg (gn (nH K hr) (aW c_least_rule hr (aa (aB (aM K) (pv 4) ah (fun _ _=>rfl)) ac)) (pv 5) (bd _))))))))))))),?_⟩
 walk_at "rd1";refine⟨a,ns,rfl,hS,h63,fun p H1 r s1 hR dr=>?_⟩
 walk_at "nx";refine⟨a,ns,3,rfl,s1.seq hS,by decide,?_⟩
 generalize ns.getD (3:Int).toNat 0=c3
 refine⟨p,r,c3,rfl,hR,dr,fun pd H2 D s2 hD dd=>?_⟩
 have s02:=s1.trans s2;walk_at "nx";refine⟨a,ns,3,rfl,s02.seq hS,by decide,?_⟩
 walk_at "rd1";refine⟨⟨by decide,by decide⟩,pd,D,_,rfl,hD,dd.ok,dd.w1,fun ps H3 S s3 hSp oS sS wS=>?_⟩
 have s13:=s2.trans s3;have hR3:=hR.mono s13;have hD3:=hD.mono s3;walk_at "nx";refine⟨p,r,rfl,hR3,dr.ok.n1,fun q1 H4 s4 hq1=>?_⟩
 refine⟨pd,D,rfl,hD3.mono s4,dd.ok.n1,fun q2 H5 s5 hq2=>?_⟩
 refine⟨ps,S,rfl,(hSp.mono s4).mono s5,oS.n1,fun q3 H6 s6 hq3=>?_⟩
 refine⟨by decide,fun hp hhp=>?_⟩
 have s7:=au hhp (.lst [V.ref q1,V.ref q2,V.ref q3]);have e7:upd H6 hp (.lst [V.ref q1,V.ref q2,V.ref q3]) hp=some (.lst [V.ref q1,V.ref q2,V.ref q3]):=ai
 generalize upd H6 hp (.lst [V.ref q1,V.ref q2,V.ref q3])=H7 at s7 e7 ⊢;have hq1:=hq1.mono (s5.trans (s6.trans s7));have hq2:=hq2.mono (s6.trans s7);have hq3:=hq3.mono s7;have s37:=(s4.trans s5).trans (s6.trans s7);have hR7:=hR3.mono s37;have hD7:=hD3.mono s37;have hS7:=hSp.mono s37;walk_at "nx";refine⟨_,_,.inl (SqL.of e7),jJ,?_⟩
 refine⟨q1,r,rfl,hq1,dr.ok,fun l1 lw1 lr1 H8 ls1 s8 a1 a2 a3 _ _ _ _ _=>?_⟩
 have hL1:RuleAt H8 l1 (aK r):=⟨lw1,lr1,ls1,a1,a2,a3.at'⟩
 walk_at "nx";refine⟨_,_,.inl (SqL.of (s8 _ _ e7)),aC (j:=1) rfl,?_⟩
 refine⟨q2,D,rfl,hq2.mono s8,dd.ok,fun l2 lw2 lr2 H9 ls2 s9 b1 b2 b3 _ _ _ _ _=>?_⟩
 have hL2:RuleAt H9 l2 (aK D):=⟨lw2,lr2,ls2,b1,b2,b3.at'⟩
 have s79:=s8.trans s9;walk_at "nx";refine⟨_,_,.inl (SqL.of (s79 _ _ e7)),aC (j:=2) rfl,?_⟩
 refine⟨q3,S,rfl,hq3.mono s79,oS,fun l3 lw3 lr3 H10 ls3 s10 c1 c2 c3' _ _ _ _ _=>?_⟩
 have hL3:RuleAt H10 l3 (aK S):=⟨lw3,lr3,ls3,c1,c2,c3'.at'⟩
 have s710:=s79.trans s10;have hL1':=(hL1.mono s9).mono s10;have hL2':=hL2.mono s10;obtain⟨E,al⟩:=dd.al
 have eD:aK r=aK D:=al.least dd.s.symm dr.ok dd.ok dr.nd dd.nd dr.so dd.so
 rw[← eD]at hL2'
 walk_at "nx";have a1':=(s9.trans s10) _ _ a1;refine⟨"tuple", by simp[b7,a1'],by decide,bp (fun c=>absurd c (by decide)) (fun _=>?_)⟩
 refine⟨2,true,by decide,g5 hL1' hL2',?_⟩
 refine bp (fun c=>absurd c (by decide)) (fun _=>?_)
 refine⟨by decide,fun ol hol=>?_⟩
 have s11:=au hol (.lst [V.ref p,V.ref pd,V.ref ps]);have e11:upd H10 ol (.lst [V.ref p,V.ref pd,V.ref ps]) ol=some (.lst [V.ref p,V.ref pd,V.ref ps]):=ai
 generalize upd H10 ol (.lst [V.ref p,V.ref pd,V.ref ps])=H11 at s11 e11 ⊢;have s711:=s710.trans s11;walk_at "rd1";refine⟨3,true,by decide,sD (s711 _ _ e7) e11 (hq1.mono s711) (hq2.mono s711) (hq3.mono s711) (hR7.mono s711) (hD7.mono s711) (hS7.mono s711),?_⟩
 refine bp (fun c=>absurd c (by decide)) (fun _=>?_)
 have w4:=dr.w4;have w6:=dd.w6;have hlk:=ph (a:=r) (b:=S) (by rw[sS,dd.s]) dr.ok oS dr.nd (by rw[wS]; exact dd.nd) dr.so (by rw[wS]; exact dd.so)
 have hb:n9 (aK S) (aK r)=lA r S:=by
  by_cases h:ig r S
  ·rw[jM h,eqR_iff]; exact(hlk.mp h).symm
  ·rw[jp h,Bool.eq_false_iff]
   intro z
   exact h (hlk.mpr (eqR_iff.mp z).symm)
 walk_at "nx";refine⟨2,_,by decide,tW (hL3.mono s11) (hL1'.mono s11),?_⟩
 refine⟨p,ps,r,S,rfl,hR7.mono s711,hS7.mono s711,dr.ok,oS,by rw[wS]; omega,fun H12 s12=>?_⟩
 walk_at "rd1";refine bp (fun c=>absurd c (by rw[hb]; simp)) (fun _=>?_)
 walk_at "nx";have s712:=s711.trans s12;refine⟨_,_,.inl (SqL.of (s712 _ _ e7)),jJ,?_⟩
 refine⟨q1,r,rfl,hq1.mono s712,dr.ok,fun l4 lw4 lr4 H13 ls4 s13' d1 d2 d3 _ _ _ _ _=>?_⟩
 have hL4:RuleAt H13 l4 (aK r):=⟨lw4,lr4,ls4,d1,d2,d3.at'⟩
 walk_at "rd1";exact⟨2,true,by decide,g5 hL4 (((hL1'.mono s11).mono s12).mono s13'),q _⟩
end
theorem all_mk{l:PySem.W.OpenLaw}{w:World}{K:PySem.W.Frag}{h:Heap}{mg:Str→Option Value}{fa:Addr}(X:K.In h)(G:h.Ns mainGlobals mg)(hfa:mg "law" = some (.ref fa))
  {f0:Addr} {od0 an0:Option Addr} {sl0:Array (Option Value)} {oc0 kV0 dc0 pm0 cd0 ct0:Value} {f1:Addr} {od1 an1:Option Addr} {sl1:Array (Option Value)} {oc1 kV1 dc1 pm1 cd1 ct1:Value} {f2:Addr} {od2 an2:Option Addr} {sl2:Array (Option Value)} {oc2 kV2 dc2 pm2 cd2 ct2:Value} {f3:Addr} {od3 an3:Option Addr} {sl3:Array (Option Value)} {oc3 kV3 dc3 pm3 cd3 ct3:Value} {f4:Addr} {od4 an4:Option Addr} {sl4:Array (Option Value)} {oc4 kV4 dc4 pm4 cd4 ct4:Value} {f5:Addr} {od5 an5:Option Addr} {sl5:Array (Option Value)} {oc5 kV5 dc5 pm5 cd5 ct5:Value} {f6:Addr} {od6 an6:Option Addr} {sl6:Array (Option Value)} {oc6 kV6 dc6 pm6 cd6 ct6:Value} {f7:Addr} {od7 an7:Option Addr} {sl7:Array (Option Value)} {oc7 kV7 dc7 pm7 cd7 ct7:Value} {f8:Addr} {od8 an8:Option Addr} {sl8:Array (Option Value)} {oc8 kV8 dc8 pm8 cd8 ct8:Value} {f9:Addr} {od9 an9:Option Addr} {sl9:Array (Option Value)} {oc9 kV9 dc9 pm9 cd9 ct9:Value} {f10:Addr} {od10 an10:Option Addr} {sl10:Array (Option Value)} {oc10 kV10 dc10 pm10 cd10 ct10:Value} {f11:Addr} {od11 an11:Option Addr} {sl11:Array (Option Value)} {oc11 kV11 dc11 pm11 cd11 ct11:Value} {f12:Addr} {od12 an12:Option Addr} {sl12:Array (Option Value)} {oc12 kV12 dc12 pm12 cd12 ct12:Value} {f13:Addr} {od13 an13:Option Addr} {sl13:Array (Option Value)} {oc13 kV13 dc13 pm13 cd13 ct13:Value} {f14:Addr} {od14 an14:Option Addr} {sl14:Array (Option Value)} {oc14 kV14 dc14 pm14 cd14 ct14:Value} {f15:Addr} {od15 an15:Option Addr} {sl15:Array (Option Value)} {oc15 kV15 dc15 pm15 cd15 ct15:Value} {f16:Addr} {od16 an16:Option Addr} {sl16:Array (Option Value)} {oc16 kV16 dc16 pm16 cd16 ct16:Value} {f17:Addr} {od17 an17:Option Addr} {sl17:Array (Option Value)} {oc17 kV17 dc17 pm17 cd17 ct17:Value} {f18:Addr} {od18 an18:Option Addr} {sl18:Array (Option Value)} {oc18 kV18 dc18 pm18 cd18 ct18:Value} {f19:Addr} {od19 an19:Option Addr} {sl19:Array (Option Value)} {oc19 kV19 dc19 pm19 cd19 ct19:Value} {f20:Addr} {od20 an20:Option Addr} {sl20:Array (Option Value)} {oc20 kV20 dc20 pm20 cd20 ct20:Value} {f21:Addr} {od21 an21:Option Addr} {sl21:Array (Option Value)} {oc21 kV21 dc21 pm21 cd21 ct21:Value} {f22:Addr} {od22 an22:Option Addr} {sl22:Array (Option Value)} {oc22 kV22 dc22 pm22 cd22 ct22:Value}
  (a0:PySem.W.nsIn K mainGlobals "ways_by" = some (some (.ref f0))) (l0:K.lookup f0=some ⟨oc0,od0,.func (PySem.W.fnOf "ways_by" "ways_by" (defArgs bF) (defBody bF) (defScope bF) .none kV0 dc0 pm0 an0 cd0 ct0),sl0⟩) (c0:PySem.W.codeIn K cd0 "ways_by" = true) (k0:PySem.W.keepIn K (.ref f0)=true)
  (a1:PySem.W.nsIn K mainGlobals "finer_kinds" = some (some (.ref f1))) (l1:K.lookup f1=some ⟨oc1,od1,.func (PySem.W.fnOf "finer_kinds" "finer_kinds" (defArgs aH) (defBody aH) (defScope aH) .none kV1 dc1 pm1 an1 cd1 ct1),sl1⟩) (c1:PySem.W.codeIn K cd1 "finer_kinds" = true) (k1:PySem.W.keepIn K (.ref f1)=true)
  (a2:PySem.W.nsIn K mainGlobals "kinds_upto" = some (some (.ref f2))) (l2:K.lookup f2=some ⟨oc2,od2,.func (PySem.W.fnOf "kinds_upto" "kinds_upto" (defArgs aU) (defBody aU) (defScope aU) .none kV2 dc2 pm2 an2 cd2 ct2),sl2⟩) (c2:PySem.W.codeIn K cd2 "kinds_upto" = true) (k2:PySem.W.keepIn K (.ref f2)=true)
  (a3:PySem.W.nsIn K mainGlobals "merged_rooms" = some (some (.ref f3))) (l3:K.lookup f3=some ⟨oc3,od3,.func (PySem.W.fnOf "merged_rooms" "merged_rooms" (defArgs aQ) (defBody aQ) (defScope aQ) .none kV3 dc3 pm3 an3 cd3 ct3),sl3⟩) (c3:PySem.W.codeIn K cd3 "merged_rooms" = true) (k3:PySem.W.keepIn K (.ref f3)=true)
  (a4:PySem.W.nsIn K mainGlobals "rooms_led_to" = some (some (.ref f4))) (l4:K.lookup f4=some ⟨oc4,od4,.func (PySem.W.fnOf "rooms_led_to" "rooms_led_to" (defArgs aN) (defBody aN) (defScope aN) .none kV4 dc4 pm4 an4 cd4 ct4),sl4⟩) (c4:PySem.W.codeIn K cd4 "rooms_led_to" = true) (k4:PySem.W.keepIn K (.ref f4)=true)
  (a5:PySem.W.nsIn K mainGlobals "numbered_rooms" = some (some (.ref f5))) (l5:K.lookup f5=some ⟨oc5,od5,.func (PySem.W.fnOf "numbered_rooms" "numbered_rooms" (defArgs aw) (defBody aw) (defScope aw) .none kV5 dc5 pm5 an5 cd5 ct5),sl5⟩) (c5:PySem.W.codeIn K cd5 "numbered_rooms" = true) (k5:PySem.W.keepIn K (.ref f5)=true)
  (a6:PySem.W.nsIn K mainGlobals "does_something" = some (some (.ref f6))) (l6:K.lookup f6=some ⟨oc6,od6,.func (PySem.W.fnOf "does_something" "does_something" (defArgs aI) (defBody aI) (defScope aI) .none kV6 dc6 pm6 an6 cd6 ct6),sl6⟩) (c6:PySem.W.codeIn K cd6 "does_something" = true) (k6:PySem.W.keepIn K (.ref f6)=true)
  (a7:PySem.W.nsIn K mainGlobals "picked" = some (some (.ref f7))) (l7:K.lookup f7=some ⟨oc7,od7,.func (PySem.W.fnOf "picked" "picked" (defArgs bV) (defBody bV) (defScope bV) .none kV7 dc7 pm7 an7 cd7 ct7),sl7⟩) (c7:PySem.W.codeIn K cd7 "picked" = true) (k7:PySem.W.keepIn K (.ref f7)=true)
  (a8:PySem.W.nsIn K mainGlobals "least_upto" = some (some (.ref f8))) (l8:K.lookup f8=some ⟨oc8,od8,.func (PySem.W.fnOf "least_upto" "least_upto" (defArgs ao) (defBody ao) (defScope ao) .none kV8 dc8 pm8 an8 cd8 ct8),sl8⟩) (c8:PySem.W.codeIn K cd8 "least_upto" = true) (k8:PySem.W.keepIn K (.ref f8)=true)
  (a9:PySem.W.nsIn K mainGlobals "least_rule" = some (some (.ref f9))) (l9:K.lookup f9=some ⟨oc9,od9,.func (PySem.W.fnOf "least_rule" "least_rule" (defArgs bH) (defBody bH) (defScope bH) .none kV9 dc9 pm9 an9 cd9 ct9),sl9⟩) (c9:PySem.W.codeIn K cd9 "least_rule" = true) (k9:PySem.W.keepIn K (.ref f9)=true)
  (a10:PySem.W.nsIn K mainGlobals "_law_cell_at" = some (some (.ref f10))) (l10:K.lookup f10=some ⟨oc10,od10,.func (PySem.W.fnOf "_law_cell_at" "_law_cell_at" (defArgs bC) (defBody bC) (defScope bC) .none kV10 dc10 pm10 an10 cd10 ct10),sl10⟩) (c10:PySem.W.codeIn K cd10 "_law_cell_at" = true) (k10:PySem.W.keepIn K (.ref f10)=true)
  (a11:PySem.W.nsIn K mainGlobals "_law_mixed" = some (some (.ref f11))) (l11:K.lookup f11=some ⟨oc11,od11,.func (PySem.W.fnOf "_law_mixed" "_law_mixed" (defArgs bj) (defBody bj) (defScope bj) .none kV11 dc11 pm11 an11 cd11 ct11),sl11⟩) (c11:PySem.W.codeIn K cd11 "_law_mixed" = true) (k11:PySem.W.keepIn K (.ref f11)=true)
  (a12:PySem.W.nsIn K mainGlobals "_law_words" = some (some (.ref f12))) (l12:K.lookup f12=some ⟨oc12,od12,.func (PySem.W.fnOf "_law_words" "_law_words" (defArgs aD) (defBody aD) (defScope aD) .none kV12 dc12 pm12 an12 cd12 ct12),sl12⟩) (c12:PySem.W.codeIn K cd12 "_law_words" = true) (k12:PySem.W.keepIn K (.ref f12)=true)
  (a13:PySem.W.nsIn K mainGlobals "_law_way" = some (some (.ref f13))) (l13:K.lookup f13=some ⟨oc13,od13,.func (PySem.W.fnOf "_law_way" "_law_way" (defArgs b9) (defBody b9) (defScope b9) .none kV13 dc13 pm13 an13 cd13 ct13),sl13⟩) (c13:PySem.W.codeIn K cd13 "_law_way" = true) (k13:PySem.W.keepIn K (.ref f13)=true)
  (a14:PySem.W.nsIn K mainGlobals "_law_rule" = some (some (.ref f14))) (l14:K.lookup f14=some ⟨oc14,od14,.func (PySem.W.fnOf "_law_rule" "_law_rule" (defArgs av) (defBody av) (defScope av) .none kV14 dc14 pm14 an14 cd14 ct14),sl14⟩) (c14:PySem.W.codeIn K cd14 "_law_rule" = true) (k14:PySem.W.keepIn K (.ref f14)=true)
  (a15:PySem.W.nsIn K mainGlobals "_law_strange" = some (some (.ref f15))) (l15:K.lookup f15=some ⟨oc15,od15,.func (PySem.W.fnOf "_law_strange" "_law_strange" (defArgs aS) (defBody aS) (defScope aS) .none kV15 dc15 pm15 an15 cd15 ct15),sl15⟩) (c15:PySem.W.codeIn K cd15 "_law_strange" = true) (k15:PySem.W.keepIn K (.ref f15)=true)
  (a16:PySem.W.nsIn K mainGlobals "_law_stand" = some (some (.ref f16))) (l16:K.lookup f16=some ⟨oc16,od16,.func (PySem.W.fnOf "_law_stand" "_law_stand" (defArgs aR) (defBody aR) (defScope aR) .none kV16 dc16 pm16 an16 cd16 ct16),sl16⟩) (c16:PySem.W.codeIn K cd16 "_law_stand" = true) (k16:PySem.W.keepIn K (.ref f16)=true)
  (a17:PySem.W.nsIn K mainGlobals "_law_dressed" = some (some (.ref f17))) (l17:K.lookup f17=some ⟨oc17,od17,.func (PySem.W.fnOf "_law_dressed" "_law_dressed" (defArgs aj) (defBody aj) (defScope aj) .none kV17 dc17 pm17 an17 cd17 ct17),sl17⟩) (c17:PySem.W.codeIn K cd17 "_law_dressed" = true) (k17:PySem.W.keepIn K (.ref f17)=true)
  (a18:PySem.W.nsIn K mainGlobals "_law_spoiled" = some (some (.ref f18))) (l18:K.lookup f18=some ⟨oc18,od18,.func (PySem.W.fnOf "_law_spoiled" "_law_spoiled" (defArgs aJ) (defBody aJ) (defScope aJ) .none kV18 dc18 pm18 an18 cd18 ct18),sl18⟩) (c18:PySem.W.codeIn K cd18 "_law_spoiled" = true) (k18:PySem.W.keepIn K (.ref f18)=true)
  (a19:PySem.W.nsIn K mainGlobals "_law_to" = some (some (.ref f19))) (l19:K.lookup f19=some ⟨oc19,od19,.func (PySem.W.fnOf "_law_to" "_law_to" (defArgs cq) (defBody cq) (defScope cq) .none kV19 dc19 pm19 an19 cd19 ct19),sl19⟩) (c19:PySem.W.codeIn K cd19 "_law_to" = true) (k19:PySem.W.keepIn K (.ref f19)=true)
  (a20:PySem.W.nsIn K mainGlobals "_law_like" = some (some (.ref f20))) (l20:K.lookup f20=some ⟨oc20,od20,.func (PySem.W.fnOf "_law_like" "_law_like" (defArgs aP) (defBody aP) (defScope aP) .none kV20 dc20 pm20 an20 cd20 ct20),sl20⟩) (c20:PySem.W.codeIn K cd20 "_law_like" = true) (k20:PySem.W.keepIn K (.ref f20)=true)
  (a21:PySem.W.nsIn K mainGlobals "_law_copy" = some (some (.ref f21))) (l21:K.lookup f21=some ⟨oc21,od21,.func (PySem.W.fnOf "_law_copy" "_law_copy" (defArgs bA) (defBody bA) (defScope bA) .none kV21 dc21 pm21 an21 cd21 ct21),sl21⟩) (c21:PySem.W.codeIn K cd21 "_law_copy" = true) (k21:PySem.W.keepIn K (.ref f21)=true)
  (a22:PySem.W.nsIn K mainGlobals "law" = some (some (.ref f22))) (l22:K.lookup f22=some ⟨oc22,od22,.func (PySem.W.fnOf "law" "law" (defArgs bm) (defBody bm) (defScope bm) .none kV22 dc22 pm22 an22 cd22 ct22),sl22⟩) (c22:PySem.W.codeIn K cd22 "law" = true) (k22:PySem.W.keepIn K (.ref f22)=true)
  (y_isinstance:PySem.W.nsIn K mainGlobals "isinstance" = some none)
  (y_str:PySem.W.nsIn K mainGlobals "str" = some none)
  (y_len:PySem.W.nsIn K mainGlobals "len" = some none)
  (y_range:PySem.W.nsIn K mainGlobals "range" = some none)
  (y_int:PySem.W.nsIn K mainGlobals "int" = some none)
  (y_list:PySem.W.nsIn K mainGlobals "list" = some none)
  (y_sorted:PySem.W.nsIn K mainGlobals "sorted" = some none)
  (y_min:PySem.W.nsIn K mainGlobals "min" = some none)
  (y_tuple:PySem.W.nsIn K mainGlobals "tuple" = some none)
  (y_enumerate:PySem.W.nsIn K mainGlobals "enumerate" = some none)
  (y_any:PySem.W.nsIn K mainGlobals "any" = some none)
  (y_max:PySem.W.nsIn K mainGlobals "max" = some none)
  (y_set:PySem.W.nsIn K mainGlobals "set" = some none) :
  ∃ fd:FuncData,(∀ (s:Shared) (v:Value),BindsTo s fd ⟨[v],[]⟩ [("_law_script", v)])∧∀ base:Heap,K.In base→base.Ns mainGlobals mg→gS l.prog w K mg base jK 7 fa fd ["_law_script"] (ly K):=by
 have e:=hfa.symm.trans (PySem.W.mg_of X G a22)
 cases e;have D_ways_by:DefAt K mg "ways_by" bF:=⟨f0,_,bB (st:=bF) l0 c0 k0,PySem.W.mg_of X G a0⟩
 have D_finer_kinds:DefAt K mg "finer_kinds" aH:=⟨f1,_,bB (st:=aH) l1 c1 k1,PySem.W.mg_of X G a1⟩
 have D_kinds_upto:DefAt K mg "kinds_upto" aU:=⟨f2,_,bB (st:=aU) l2 c2 k2,PySem.W.mg_of X G a2⟩
 have D_merged_rooms:DefAt K mg "merged_rooms" aQ:=⟨f3,_,bB (st:=aQ) l3 c3 k3,PySem.W.mg_of X G a3⟩
 have D_rooms_led_to:DefAt K mg "rooms_led_to" aN:=⟨f4,_,bB (st:=aN) l4 c4 k4,PySem.W.mg_of X G a4⟩
 have D_numbered_rooms:DefAt K mg "numbered_rooms" aw:=⟨f5,_,bB (st:=aw) l5 c5 k5,PySem.W.mg_of X G a5⟩
 have D_does_something:DefAt K mg "does_something" aI:=⟨f6,_,bB (st:=aI) l6 c6 k6,PySem.W.mg_of X G a6⟩
 have D_picked:DefAt K mg "picked" bV:=⟨f7,_,bB (st:=bV) l7 c7 k7,PySem.W.mg_of X G a7⟩
 have D_least_upto:DefAt K mg "least_upto" ao:=⟨f8,_,bB (st:=ao) l8 c8 k8,PySem.W.mg_of X G a8⟩
 have D_least_rule:DefAt K mg "least_rule" bH:=⟨f9,_,bB (st:=bH) l9 c9 k9,PySem.W.mg_of X G a9⟩
 have D_law_cell_at:DefAt K mg "_law_cell_at" bC:=⟨f10,_,bB (st:=bC) l10 c10 k10,PySem.W.mg_of X G a10⟩
 have D_law_mixed:DefAt K mg "_law_mixed" bj:=⟨f11,_,bB (st:=bj) l11 c11 k11,PySem.W.mg_of X G a11⟩
 have D_law_words:DefAt K mg "_law_words" aD:=⟨f12,_,bB (st:=aD) l12 c12 k12,PySem.W.mg_of X G a12⟩
 have D_law_way:DefAt K mg "_law_way" b9:=⟨f13,_,bB (st:=b9) l13 c13 k13,PySem.W.mg_of X G a13⟩
 have D_law_rule:DefAt K mg "_law_rule" av:=⟨f14,_,bB (st:=av) l14 c14 k14,PySem.W.mg_of X G a14⟩
 have D_law_strange:DefAt K mg "_law_strange" aS:=⟨f15,_,bB (st:=aS) l15 c15 k15,PySem.W.mg_of X G a15⟩
 have D_law_stand:DefAt K mg "_law_stand" aR:=⟨f16,_,bB (st:=aR) l16 c16 k16,PySem.W.mg_of X G a16⟩
 have D_law_dressed:DefAt K mg "_law_dressed" aj:=⟨f17,_,bB (st:=aj) l17 c17 k17,PySem.W.mg_of X G a17⟩
 have D_law_spoiled:DefAt K mg "_law_spoiled" aJ:=⟨f18,_,bB (st:=aJ) l18 c18 k18,PySem.W.mg_of X G a18⟩
 have D_law_to:DefAt K mg "_law_to" cq:=⟨f19,_,bB (st:=cq) l19 c19 k19,PySem.W.mg_of X G a19⟩
 have D_law_like:DefAt K mg "_law_like" aP:=⟨f20,_,bB (st:=aP) l20 c20 k20,PySem.W.mg_of X G a20⟩
 have D_law_copy:DefAt K mg "_law_copy" bA:=⟨f21,_,bB (st:=bA) l21 c21 k21,PySem.W.mg_of X G a21⟩
 have z_isinstance:mg "isinstance" = none:=PySem.W.mg_none_of X G y_isinstance
 have z_str:mg "str" = none:=PySem.W.mg_none_of X G y_str
 have z_len:mg "len" = none:=PySem.W.mg_none_of X G y_len
 have z_range:mg "range" = none:=PySem.W.mg_none_of X G y_range
 have z_int:mg "int" = none:=PySem.W.mg_none_of X G y_int
 have z_list:mg "list" = none:=PySem.W.mg_none_of X G y_list
 have z_sorted:mg "sorted" = none:=PySem.W.mg_none_of X G y_sorted
 have z_min:mg "min" = none:=PySem.W.mg_none_of X G y_min
 have z_tuple:mg "tuple" = none:=PySem.W.mg_none_of X G y_tuple
 have z_enumerate:mg "enumerate" = none:=PySem.W.mg_none_of X G y_enumerate
 have z_any:mg "any" = none:=PySem.W.mg_none_of X G y_any
 have z_max:mg "max" = none:=PySem.W.mg_none_of X G y_max
 have z_set:mg "set" = none:=PySem.W.mg_none_of X G y_set
 have F:=bB (st:=bm) l22 c22 k22;refine⟨PySem.W.fnOf "law" "law" (defArgs bm) (defBody bm) (defScope bm) .none kV22 dc22 pm22 an22 cd22 ct22,fun s v=>.of_eq rfl,fun base _ _=>?_⟩
 have c1:=vh (P:=l.prog) (w:=w) (base:=base) D_law_cell_at z_len;have c2:=rY (P:=l.prog) (w:=w) (base:=base) D_law_mixed z_range;have c3:=qO D_law_rule z_range z_len z_min z_list c1 c2 (oQ D_law_words z_range z_int z_str z_sorted c2) (xa D_law_way);have c4:=sk D_law_dressed z_range z_len z_sorted c2 (tq D_law_stand z_range z_len z_min z_list) (pM D_law_strange z_range z_len z_str)
 have d1:=oy (P:=l.prog) (w:=w) (base:=base) D_ways_by;have d2:=sV D_finer_kinds z_enumerate z_tuple z_len d1;have d3:=tM D_kinds_upto z_max d2;have d4:=qG D_merged_rooms z_enumerate z_len d1;have d5:=nA D_numbered_rooms z_enumerate (xK D_rooms_led_to z_len) d1;have d6:=sr D_least_rule z_len <| vg D_least_upto z_range z_len d3 d4 d5 (u5 D_does_something z_enumerate z_any) (qZ D_picked)
 have e1:=x6 (P:=l.prog) (w:=w) (base:=base) D_law_to;exact xA F z_isinstance z_tuple c1 c3 c4 (sI D_law_spoiled z_len z_list) (vd D_law_copy z_list) d6 (vx D_law_like z_sorted z_set e1)
theorem walk{l:PySem.W.OpenLaw}{q:Program}{loose:List Str}{XP:(Str→Option Value)→Heap→Prop}{YP:World→Heap→Prop}{d:DefRec}{K:Params→PySem.W.Frag}(hn:l.most=some 63)(hdf:d.params.defaults=[])
  (hY:∀ (w:World) (h:Heap),YP w h→(K w.params).In h)
  (F:∀ (w:World) (mg:Str→Option Value) (fa:Addr) (h:Heap),(K w.params).In h→h.Ns mainGlobals mg→mg d.name=some (.ref fa)→
   ∃ fd:FuncData,(∀ (s:Shared) (u:Value),BindsTo s fd ⟨[u],[]⟩ [("_law_script", u)])∧∀ base:Heap,(K w.params).In base→base.Ns mainGlobals mg→gS l.prog w (K w.params) mg base jK 7 fa fd ["_law_script"] (ly (K w.params))) :
  PySem.W.WalkO q loose XP YP l.row.toRowW d [] (fun f vs=>PySem.call f vs):=
 L2.walk_of (n:=63) (k:=7) (x := "_law_script") (CX:=fun _=>jK) (sp:=fun w=>ly (K w.params)) hn (by decide) hdf ⟨rfl,by decide,by decide⟩ hY F (fun _ _ a ns hl _ hS=>⟨a,ns,rfl,hS,hl,fun _=>rfl⟩) fun _ _ _ _ _ z=>z
end K12
end
open PySem PySem.W PyProof.Rows
set_option maxRecDepth 100000 in
set_option maxHeartbeats 0 in
theorem PySem.Challenge.cw_usewarden_k12_whole_like_rules_one_list_holds : PySem.Challenge.rw_usewarden_k12_whole_like_rules_one_list.Holds := by
 w_on
 refine holds_law (by decide +kernel) fun said=>?_
 refine holds_open (q:=K12.qq) (loose:=K12.loo) (Xt:=K12.xt) (XP:=XL K12.qq []) (Yf:=Hook.obs (kHook K12.KK K12.kk K12.kk_eq)) (Ya:=Hook.val (kHook K12.KK K12.kk K12.kk_eq)) (YP:=Hook.says (kHook K12.KK K12.kk K12.kk_eq)) (N:=1556) K12.hl (Hook.of (kHook K12.KK K12.kk K12.kk_eq)) (Hook.keeps (kHook K12.KK K12.kk K12.kk_eq)) (fun s e=>xl_of s (Bool.and_eq_true_iff.mp e).1) XL.keeps (by rfl) (by rfl) (by rfl) (fun s e=>recFacts_of (Bool.and_eq_true_iff.mp e).2) (by rfl) said (by decide +kernel) ⟨rfl,rfl,rfl,rfl,rfl,by decide +kernel⟩ ?hw ?hc
 (case hw=>w_witness2)
 k_fill
 refine K12.walk (l:=PySem.Challenge.rw_usewarden_k12_whole_like_rules_one_list) rfl rfl (fun w h Y=>PySem.W.kIn_of Y) ?F
 case F=>
  intro w mg fa h KX G hmg
  refine' K12.all_mk KX G hmg ?a0 ?l0 ?c0 ?k0 ?a1 ?l1 ?c1 ?k1 ?a2 ?l2 ?c2 ?k2 ?a3 ?l3 ?c3 ?k3 ?a4 ?l4 ?c4 ?k4 ?a5 ?l5 ?c5 ?k5 ?a6 ?l6 ?c6 ?k6 ?a7 ?l7 ?c7 ?k7 ?a8 ?l8 ?c8 ?k8 ?a9 ?l9 ?c9 ?k9 ?a10 ?l10 ?c10 ?k10 ?a11 ?l11 ?c11 ?k11 ?a12 ?l12 ?c12 ?k12 ?a13 ?l13 ?c13 ?k13 ?a14 ?l14 ?c14 ?k14 ?a15 ?l15 ?c15 ?k15 ?a16 ?l16 ?c16 ?k16 ?a17 ?l17 ?c17 ?k17 ?a18 ?l18 ?c18 ?k18 ?a19 ?l19 ?c19 ?k19 ?a20 ?l20 ?c20 ?k20 ?a21 ?l21 ?c21 ?k21 ?a22 ?l22 ?c22 ?k22 ?y_isinstance ?y_str ?y_len ?y_range ?y_int ?y_list ?y_sorted ?y_min ?y_tuple ?y_enumerate ?y_any ?y_max ?y_set
  (case a0=>k_is)
  (case l0=>k_is)
  (case c0=>k_is)
  (case k0=>k_is)
  (case a1=>k_is)
  (case l1=>k_is)
  (case c1=>k_is)
  (case k1=>k_is)
  (case a2=>k_is)
  (case l2=>k_is)
  (case c2=>k_is)
  (case k2=>k_is)
  (case a3=>k_is)
  (case l3=>k_is)
  (case c3=>k_is)
  (case k3=>k_is)
  (case a4=>k_is)
  (case l4=>k_is)
  (case c4=>k_is)
  (case k4=>k_is)
  (case a5=>k_is)
  (case l5=>k_is)
  (case c5=>k_is)
  (case k5=>k_is)
  (case a6=>k_is)
  (case l6=>k_is)
  (case c6=>k_is)
  (case k6=>k_is)
  (case a7=>k_is)
  (case l7=>k_is)
  (case c7=>k_is)
  (case k7=>k_is)
  (case a8=>k_is)
  (case l8=>k_is)
  (case c8=>k_is)
  (case k8=>k_is)
  (case a9=>k_is)
  (case l9=>k_is)
  (case c9=>k_is)
  (case k9=>k_is)
  (case a10=>k_is)
  (case l10=>k_is)
  (case c10=>k_is)
  (case k10=>k_is)
  (case a11=>k_is)
  (case l11=>k_is)
  (case c11=>k_is)
  (case k11=>k_is)
  (case a12=>k_is)
  (case l12=>k_is)
  (case c12=>k_is)
  (case k12=>k_is)
  (case a13=>k_is)
  (case l13=>k_is)
  (case c13=>k_is)
  (case k13=>k_is)
  (case a14=>k_is)
  (case l14=>k_is)
  (case c14=>k_is)
  (case k14=>k_is)
  (case a15=>k_is)
  (case l15=>k_is)
  (case c15=>k_is)
  (case k15=>k_is)
  (case a16=>k_is)
  (case l16=>k_is)
  (case c16=>k_is)
  (case k16=>k_is)
  (case a17=>k_is)
  (case l17=>k_is)
  (case c17=>k_is)
  (case k17=>k_is)
  (case a18=>k_is)
  (case l18=>k_is)
  (case c18=>k_is)
  (case k18=>k_is)
  (case a19=>k_is)
  (case l19=>k_is)
  (case c19=>k_is)
  (case k19=>k_is)
  (case a20=>k_is)
  (case l20=>k_is)
  (case c20=>k_is)
  (case k20=>k_is)
  (case a21=>k_is)
  (case l21=>k_is)
  (case c21=>k_is)
  (case k21=>k_is)
  (case a22=>k_is)
  (case l22=>k_is)
  (case c22=>k_is)
  (case k22=>k_is)
  (case y_isinstance=>k_is)
  (case y_str=>k_is)
  (case y_len=>k_is)
  (case y_range=>k_is)
  (case y_int=>k_is)
  (case y_list=>k_is)
  (case y_sorted=>k_is)
  (case y_min=>k_is)
  (case y_tuple=>k_is)
  (case y_enumerate=>k_is)
  (case y_any=>k_is)
  (case y_max=>k_is)
  (case y_set=>k_is)
#print axioms PySem.Challenge.cw_usewarden_k12_whole_like_rules_one_list_holds
