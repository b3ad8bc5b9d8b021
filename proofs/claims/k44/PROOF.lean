import PyProof.Rows.All
import Wide.All
import OpenK.AllK
import Wide.FinOn
import Lean
import PyProof.EqAt
import PyProof.EqKinds
import PyProof.TupleCall
import PyProof.SetScanFacts
import PyProof.SetKind
import PyProof.SetRoads
import PyProof.Rows.SetFrom
import PyProof.FactsBase
import PyProof.TableTree
import PyProof.FactsTree
import PyProof.PlainAttrs
import PyProof.FactsAll.set_1
import PyProof.CollectIter
import PyProof.FactsAll.set
import PyProof.ZipIter
import PyProof.EnumIter
import PyProof.TupleIter
import KE.KRevIter
import KE.KDictList
import PyProof.Rows.SumAny
import KE.KIntText
import PyProof.StrLawsTight
import PyProof.StrLawsChain
import PyProof.Rows.SortStr
import PyProof.Rows.StrNews2
import PyProof.StrLawsFirst
import PyProof.AutoSeq1
import KE.KDictOf
import PyProof.DictItems
import PyProof.NeKinds
import KE.KPairComp
import PyProof.FactsAll.tuple_2
import PyProof.FactsAll.tuple_3
import KE.KDictLaws
import PyProof.FactsAll.dict_3
import PyProof.MinMaxWalk
import PyProof.WalkInts
import PySem.Challenge.RW_usewarden_k44_watched_without_rules
set_option Elab.async false
set_option linter.all false
set_option maxRecDepth 100000
set_option maxHeartbeats 4000000
namespace L2
open PySem PySem.W
section
variable(tb:String→Option Builtin)(p:Program)(w:World)(n0:Nat)(an:Option Value)
def uf:Nat→SharedT→Thread→Option SharedT
 | 0,_,_=>none
 | k+1,s,u=>match through u with
  | true=>some s
  | false=>match stepOk n0 an u,stepT (denote tb) p w s u with
   | true,some x=>uf k x.1 x.2
   | _,_=>none
theorem pA:∀ (n:Nat) (s r:SharedT) (t:Thread),uf tb p w n0 an n s t=some r→topRun tb p w n0 an n s.abs t=some r.abs
 | 0,_,_,_,h=>by cases h
 | n+1,s,r,t,h=>by
  rw[topRun];rw[uf]at h
  cases h1:through t with
  | true=>
   rw[h1]at h
   cases h
   rfl
  | false=>
   rw[h1]at h
   cases h2:stepOk n0 an t with
   | false=>
    rw[h2]at h
    cases h
   | true=>
    cases h3:stepT (denote tb) p w s t with
    | none=>
     rw[h2,h3]at h
     cases h
    | some x=>
     rw[h2,h3]at h
     rw[stepT_spec (s':=x.1) (t':=x.2) h3];exact pA n _ _ _ h
end
noncomputable def Fg(P:Params):BT:=((boot_heap P).objs.toList.foldl (fun (x:BT × Nat) o=>(x.1.ins x.2 o,x.2+1)) (.nil,0)).1
noncomputable def zO(w:World)(os:OsState):SharedT:=⟨Fg w.params,11,(boot_heap w.params).life,#[],boot_drawn,boot_toks,os⟩
theorem vH(w:World)(os:OsState):(zO w os).abs=⟨boot_heap w.params,#[],boot_drawn,boot_toks,os⟩:=by kernel_rfl
noncomputable def tEnd(p:Program)(w:World)(N:Nat)(os:OsState):Option SharedT:=uf treeTable p w 11 (some (.ref 6)) N (zO w os) (topStub p)
noncomputable def tOk(p:Program)(w:World)(s:Shared):Bool:=staticsOk (importedModules p.main.body) (boot_heap w.params) s.heap&&namesBound p s.heap&&gensDone s&&laidKept (boot_heap w.params) s.heap
theorem tLeft{p:Program}{w:World}{N:Nat}{α : Type}{F:Shared→α}{a:α}(e:opening p=plainProg p.main.scope.names)(hN:Nat.ble 600 N=true)(f:∀ s,fenceModules? p s=some s)
  (hz:((boot_heap w.params).isNs mainGlobals,(boot_heap w.params).objs.size,(boot_heap w.params).nsMap mainGlobals "__annotations__")=(true,11,some (.ref 6)))
  (h:∀ os,∃ s,tEnd p w N os=some s∧tOk p w s.abs=true∧F s.abs=a):(openEnds treeTable p w N).map F=some a:=by
 obtain⟨⟨h1,gs,d,k,os⟩,e1,e2⟩:=Option.map_eq_some_iff.mp (boot_open e hN f w)
 obtain⟨rfl,rfl,rfl,rfl⟩ : h1=boot_heap w.params∧gs = #[]∧d=boot_drawn∧k=boot_toks:=by simpa using e2
 obtain⟨z1,z2,z3⟩ : _∧_∧_:=by simpa only[Prod.mk.injEq] using hz
 obtain⟨r,r1,r2,r3⟩:=h os
 have t1:=pA _ _ _ _ _ _ _ _ _ r1;rw[vH]at t1
 unfold openEnds;rw[e1];show (topFrom treeTable p w N _).map F=_
 unfold topFrom
 dsimp only
 rw[z1,z2,z3];show ((topRun treeTable p w 11 (some (.ref 6)) N _ _).bind _).map F=_
 rw[t1];show (match tOk p w r.abs with | true=>some r.abs | false=>none).map F=_
 rw[r2];exact congrArg some r3
end L2
namespace L2
open PySem
def inClass(s:Stmt)(j:Nat):Stmt:=match s with
 | .ClassDef _ _ _ body _ _ _ _ _ _ _=>body.getD j (.Pass ⟨0,0,0,0⟩)
 | _=>.Pass ⟨0,0,0,0⟩
def defArgs(s:Stmt):Arguments:=match s with
 | .FunctionDef _ a _ _ _ _ _ _ _ _=>a
 | _=>{ posonlyargs:=[],args:=[],vararg:=none,kwonlyargs:=[],kw_defaults:=[],kwarg:=none,defaults:=[] }
def defBody(s:Stmt):List Stmt:=match s with
 | .FunctionDef _ _ b _ _ _ _ _ _ _=>b
 | _=>[]
def defScope(s:Stmt):Scope:=match s with
 | .FunctionDef _ _ _ _ _ _ sc _ _ _=>sc
 | _=>{ kind:=.function,names:=[],isGenerator:=false,isCoroutine:=false }
end L2
namespace K44
open PySem PySem.W
def top (i:Nat):Stmt:=PySem.Challenge.pw_usewarden_k44_watched_without_rules.main.body.getD i (.Pass ⟨0,0,0,0⟩)
abbrev tUp(x:Array Value):Obj:=⟨.type "tuple", none,.seq x 0,#[]⟩
abbrev cOd(n:Str)(a b c:Nat)(l g:Int)(p q r s u:Addr)(i:Int)(d:Nat):Obj:=⟨.type "code", none,.fields #[.str n a,.str n b,.str "/claim/cut.py" c,.int l 0,.int g 0,.int 0 0,.int 0 0,.int 3 0,.ref p,.bool true,.int 181 0,.ref q,.none,.ref r,.ref s,.ref u,.int i 0,.int l 0,.str "/claim/cut.py" d],#[]⟩
abbrev fUn(n:Str)(i:Nat)(m:Str)(a:Nat)(c:Addr):Obj:=⟨.type "function", none,.func ⟨n,n,L2.defArgs (top i),.stmts (L2.defBody (top i)),L2.defScope (top i),3,[],.none,.none,.none,.str m a,none,.ref c,.none,0⟩,#[]⟩
noncomputable def KK(P:Params):Frag:=
 (nat_lit 2,⟨.none,none,.dict #[] 0,#[]⟩) ::
 (nat_lit 3,⟨.type "dict", none,.dict #[⟨PyData.keyHash P "__name__", .str "__name__" 165,.str "law_usewarden_k44_watched_without_rules" 866⟩,⟨PyData.keyHash P "__doc__", .str "__doc__" 166,.none⟩,⟨PyData.keyHash P "__package__", .str "__package__" 167,.none⟩,⟨PyData.keyHash P "__loader__", .str "__loader__" 168,.builtin "__main__.__loader__#opaque"⟩,⟨PyData.keyHash P "__spec__", .str "__spec__" 169,.none⟩,⟨PyData.keyHash P "__annotations__", .str "__annotations__" 170,.ref 6⟩,⟨PyData.keyHash P "__builtins__", .str "__builtins__" 171,.ref 4⟩,⟨PyData.keyHash P "__file__", .str "__file__" 173,.str "/claim/cut.py" 172⟩,⟨PyData.keyHash P "__cached__", .str "__cached__" 174,.none⟩,⟨PyData.keyHash P "UseError", .str "UseError" 206,.ref 24⟩,⟨PyData.keyHash P "Breach", .str "Breach" 239,.ref 44⟩,⟨PyData.keyHash P "sided_text", .str "sided_text" 249,.ref 53⟩,⟨PyData.keyHash P "text_in_row", .str "text_in_row" 258,.ref 60⟩,⟨PyData.keyHash P "row_of", .str "row_of" 264,.ref 65⟩,⟨PyData.keyHash P "starts_behind", .str "starts_behind" 276,.ref 72⟩,⟨PyData.keyHash P "Watch", .str "Watch" 375,.ref 134⟩,⟨PyData.keyHash P "watch_of", .str "watch_of" 381,.ref 143⟩,⟨PyData.keyHash P "watches_of", .str "watches_of" 387,.ref 148⟩,⟨PyData.keyHash P "all_begin_tie", .str "all_begin_tie" 398,.ref 155⟩,⟨PyData.keyHash P "broken_or_gone_on", .str "broken_or_gone_on" 411,.ref 162⟩,⟨PyData.keyHash P "Run", .str "Run" 536,.ref 242⟩,⟨PyData.keyHash P "do_row", .str "do_row" 547,.ref 253⟩,⟨PyData.keyHash P "row_behind", .str "row_behind" 555,.ref 260⟩,⟨PyData.keyHash P "log_of", .str "log_of" 563,.ref 267⟩,⟨PyData.keyHash P "run_code", .str "run_code" 571,.ref 274⟩,⟨PyData.keyHash P "run_watched", .str "run_watched" 582,.ref 281⟩,⟨PyData.keyHash P "PARTS", .str "PARTS" 617,.ref 282⟩,⟨PyData.keyHash P "CLOSERS", .str "CLOSERS" 628,.ref 291⟩,⟨PyData.keyHash P "closers_of", .str "closers_of" 635,.ref 301⟩,⟨PyData.keyHash P "head_of", .str "head_of" 642,.ref 308⟩,⟨PyData.keyHash P "blocks_of", .str "blocks_of" 649,.ref 315⟩,⟨PyData.keyHash P "steps_within", .str "steps_within" 659,.ref 322⟩,⟨PyData.keyHash P "names_in", .str "names_in" 670,.ref 329⟩,⟨PyData.keyHash P "lines_of", .str "lines_of" 676,.ref 334⟩,⟨PyData.keyHash P "names_of", .str "names_of" 683,.ref 341⟩,⟨PyData.keyHash P "NumberedStep", .str "NumberedStep" 719,.ref 358⟩,⟨PyData.keyHash P "line_behind", .str "line_behind" 727,.ref 369⟩,⟨PyData.keyHash P "numbered_step", .str "numbered_step" 739,.ref 376⟩,⟨PyData.keyHash P "numbered_steps", .str "numbered_steps" 749,.ref 383⟩,⟨PyData.keyHash P "lend_lines", .str "lend_lines" 757,.ref 388⟩,⟨PyData.keyHash P "slots_of", .str "slots_of" 767,.ref 395⟩,⟨PyData.keyHash P "simple_row", .str "simple_row" 773,.ref 400⟩,⟨PyData.keyHash P "lend_rows", .str "lend_rows" 790,.ref 407⟩,⟨PyData.keyHash P "if_rows", .str "if_rows" 805,.ref 414⟩,⟨PyData.keyHash P "loop_rows", .str "loop_rows" 816,.ref 421⟩,⟨PyData.keyHash P "while_rows", .str "while_rows" 829,.ref 428⟩,⟨PyData.keyHash P "rows_of", .str "rows_of" 842,.ref 435⟩,⟨PyData.keyHash P "rows_and_end", .str "rows_and_end" 851,.ref 442⟩,⟨PyData.keyHash P "code_of", .str "code_of" 858,.ref 449⟩,⟨PyData.keyHash P "turned_code", .str "turned_code" 865,.ref 456⟩,⟨PyData.keyHash P "_law_cell_at", .str "_law_cell_at" 875,.ref 463⟩,⟨PyData.keyHash P "_law_mixed", .str "_law_mixed" 884,.ref 470⟩,⟨PyData.keyHash P "_law_words", .str "_law_words" 899,.ref 477⟩,⟨PyData.keyHash P "_law_step", .str "_law_step" 910,.ref 484⟩,⟨PyData.keyHash P "_law_shut", .str "_law_shut" 920,.ref 491⟩,⟨PyData.keyHash P "_law_program", .str "_law_program" 937,.ref 498⟩,⟨PyData.keyHash P "_law_input", .str "_law_input" 945,.ref 505⟩,⟨PyData.keyHash P "_law_is_log", .str "_law_is_log" 955,.ref 512⟩,⟨PyData.keyHash P "law", .str "law" 961,.ref 517⟩] 59,#[]⟩) ::
 (nat_lit 15,tUp #[.type "ValueError"]) ::
 (nat_lit 22,tUp #[]) ::
 (nat_lit 23,⟨.type "dict", none,.dict #[⟨PyData.keyHash P "__module__", .str "__module__" 196,.str "usewarden.errors" 187⟩,⟨PyData.keyHash P "__firstlineno__", .str "__firstlineno__" 200,.int 2 199⟩,⟨PyData.keyHash P "__static_attributes__", .str "__static_attributes__" 201,.ref 22⟩,⟨PyData.keyHash P "__weakref__", .str "__weakref__" 203,.ref 25⟩,⟨PyData.keyHash P "__doc__", .str "__doc__" 204,.none⟩] 3,#[]⟩) ::
 (nat_lit 24,⟨.type "type", none,.cls ⟨"UseError", [.type "ValueError"],[.ref 24,.type "ValueError", .type "Exception", .type "BaseException", .type "object"],23, "UseError", true,[],[.ref 44],false,none,false⟩,#[some (.ref 15),none,some (.str "UseError" 189),some (.str "UseError" 197),some (.builtin "ValueError.__new__"),some (.bool true)]⟩) ::
 (nat_lit 25,⟨.type "getset_descriptor", none,.fields #[.str "__weakref__" 202,.ref 24,.builtin "ExceptionGroup.__weakref__", .none],#[]⟩) ::
 (nat_lit 28,tUp #[.ref 24]) ::
 (nat_lit 35,tUp #[]) ::
 (nat_lit 37,tUp #[.str "self" 222,.str "rule" 223,.str "line" 224,.str "handles" 225,.str "row" 226,.str "log" 227]) ::
 (nat_lit 38,tUp #[]) ::
 (nat_lit 40,⟨.type "code", none,.fields #[.str "__init__" 219,.str "Breach.__init__" 220,.str "/claim/cut.py" 221,.int 6 0,.int 6 0,.int 0 0,.int 0 0,.int 3 0,.ref 35,.bool true,.int 181 0,.ref 36,.none,.ref 37,.ref 38,.ref 39,.int 228 0,.int 6 0,.str "/claim/cut.py" 229],#[]⟩) ::
 (nat_lit 41,⟨.type "function", none,.func ⟨"__init__", "Breach.__init__", L2.defArgs (L2.inClass (top 2) 0),.stmts (L2.defBody (L2.inClass (top 2) 0)),L2.defScope (L2.inClass (top 2) 0),3,[],.none,.none,.none,.str "usewarden.errors" 187,none,.ref 40,.none,0⟩,#[]⟩) ::
 (nat_lit 42,tUp #[.str "handles" 231,.str "line" 232,.str "log" 233,.str "row" 234,.str "rule" 235]) ::
 (nat_lit 43,⟨.type "dict", none,.dict #[⟨PyData.keyHash P "__module__", .str "__module__" 214,.str "usewarden.errors" 187⟩,⟨PyData.keyHash P "__firstlineno__", .str "__firstlineno__" 218,.int 4 217⟩,⟨PyData.keyHash P "__init__", .str "__init__" 230,.ref 41⟩,⟨PyData.keyHash P "__static_attributes__", .str "__static_attributes__" 236,.ref 42⟩,⟨PyData.keyHash P "__doc__", .str "__doc__" 237,.none⟩] 2,#[]⟩) ::
 (nat_lit 44,⟨.type "type", none,.cls ⟨"Breach", [.ref 24],[.ref 44,.ref 24,.type "ValueError", .type "Exception", .type "BaseException", .type "object"],43, "Breach", true,[],[],false,none,false⟩,#[some (.ref 28),none,some (.str "Breach" 207),some (.str "Breach" 215),some (.builtin "ValueError.__new__"),some (.bool true)]⟩) ::
 (nat_lit 47,tUp #[]) ::
 (nat_lit 49,tUp #[.str "side" 245,.str "word" 246]) ::
 (nat_lit 50,tUp #[]) ::
 (nat_lit 52,cOd "sided_text" 242 243 244 14 2 47 48 49 50 51 247 248) ::
 (nat_lit 53,fUn "sided_text" 4 "usewarden.watches" 240 52) ::
 (nat_lit 54,tUp #[]) ::
 (nat_lit 56,tUp #[.str "handles" 253,.str "handle" 254,.str "word" 255]) ::
 (nat_lit 57,tUp #[]) ::
 (nat_lit 59,cOd "text_in_row" 250 251 252 16 3 54 55 56 57 58 256 257) ::
 (nat_lit 60,fUn "text_in_row" 5 "usewarden.watches" 240 59) ::
 (nat_lit 61,tUp #[]) ::
 (nat_lit 64,⟨.type "code", none,.fields #[.str "row_of" 259,.str "row_of" 260,.str "/claim/cut.py" 261,.int 18 0,.int 2 0,.int 0 0,.int 0 0,.int 3 0,.ref 61,.bool true,.int 181 0,.ref 62,.none,.none,.none,.ref 63,.int 262 0,.int 18 0,.str "/claim/cut.py" 263],#[]⟩) ::
 (nat_lit 65,fUn "row_of" 6 "usewarden.watches" 240 64) ::
 (nat_lit 66,tUp #[]) ::
 (nat_lit 68,tUp #[.str "starts" 268,.str "ways" 269,.str "behind" 270,.str "room" 271,.str "start" 272,.str "way" 273]) ::
 (nat_lit 69,tUp #[]) ::
 (nat_lit 71,cOd "starts_behind" 265 266 267 21 2 66 67 68 69 70 274 275) ::
 (nat_lit 72,fUn "starts_behind" 7 "usewarden.watches" 240 71) ::
 (nat_lit 80,tUp #[]) ::
 (nat_lit 83,⟨.type "code", none,.fields #[.str "__init__" 289,.str "Watch.__init__" 290,.str "/claim/cut.py" 291,.int 30 0,.int 4 0,.int 0 0,.int 0 0,.int 3 0,.ref 80,.bool true,.int 181 0,.ref 81,.none,.none,.none,.ref 82,.int 292 0,.int 30 0,.str "/claim/cut.py" 293],#[]⟩) ::
 (nat_lit 84,⟨.type "function", none,.func ⟨"__init__", "Watch.__init__", L2.defArgs (L2.inClass (top 8) 0),.stmts (L2.defBody (L2.inClass (top 8) 0)),L2.defScope (L2.inClass (top 8) 0),3,[],.none,.none,.none,.str "usewarden.watches" 240,none,.ref 83,.none,0⟩,#[]⟩) ::
 (nat_lit 85,tUp #[]) ::
 (nat_lit 87,tUp #[.str "self" 298,.str "at" 299]) ::
 (nat_lit 88,tUp #[]) ::
 (nat_lit 90,⟨.type "code", none,.fields #[.str "mark_at" 295,.str "Watch.mark_at" 296,.str "/claim/cut.py" 297,.int 41 0,.int 2 0,.int 0 0,.int 0 0,.int 3 0,.ref 85,.bool true,.int 181 0,.ref 86,.none,.ref 87,.ref 88,.ref 89,.int 300 0,.int 41 0,.str "/claim/cut.py" 301],#[]⟩) ::
 (nat_lit 91,⟨.type "function", none,.func ⟨"mark_at", "Watch.mark_at", L2.defArgs (L2.inClass (top 8) 1),.stmts (L2.defBody (L2.inClass (top 8) 1)),L2.defScope (L2.inClass (top 8) 1),3,[],.none,.none,.none,.str "usewarden.watches" 240,none,.ref 90,.none,0⟩,#[]⟩) ::
 (nat_lit 92,tUp #[]) ::
 (nat_lit 94,tUp #[.str "self" 306,.str "one" 307,.str "other" 308,.str "start" 309,.str "tied" 310]) ::
 (nat_lit 95,tUp #[]) ::
 (nat_lit 97,⟨.type "code", none,.fields #[.str "begin_tie" 303,.str "Watch.begin_tie" 304,.str "/claim/cut.py" 305,.int 44 0,.int 4 0,.int 0 0,.int 0 0,.int 3 0,.ref 92,.bool true,.int 181 0,.ref 93,.none,.ref 94,.ref 95,.ref 96,.int 311 0,.int 44 0,.str "/claim/cut.py" 312],#[]⟩) ::
 (nat_lit 98,⟨.type "function", none,.func ⟨"begin_tie", "Watch.begin_tie", L2.defArgs (L2.inClass (top 8) 2),.stmts (L2.defBody (L2.inClass (top 8) 2)),L2.defScope (L2.inClass (top 8) 2),3,[],.none,.none,.none,.str "usewarden.watches" 240,none,.ref 97,.none,0⟩,#[]⟩) ::
 (nat_lit 99,tUp #[]) ::
 (nat_lit 101,tUp #[.str "self" 317,.str "handle" 318,.str "side" 319]) ::
 (nat_lit 102,tUp #[]) ::
 (nat_lit 104,⟨.type "code", none,.fields #[.str "handles_with" 314,.str "Watch.handles_with" 315,.str "/claim/cut.py" 316,.int 54 0,.int 3 0,.int 0 0,.int 0 0,.int 3 0,.ref 99,.bool true,.int 181 0,.ref 100,.none,.ref 101,.ref 102,.ref 103,.int 320 0,.int 54 0,.str "/claim/cut.py" 321],#[]⟩) ::
 (nat_lit 105,⟨.type "function", none,.func ⟨"handles_with", "Watch.handles_with", L2.defArgs (L2.inClass (top 8) 3),.stmts (L2.defBody (L2.inClass (top 8) 3)),L2.defScope (L2.inClass (top 8) 3),3,[],.none,.none,.none,.str "usewarden.watches" 240,none,.ref 104,.none,0⟩,#[]⟩) ::
 (nat_lit 106,tUp #[]) ::
 (nat_lit 109,⟨.type "code", none,.fields #[.str "rows_with" 323,.str "Watch.rows_with" 324,.str "/claim/cut.py" 325,.int 57 0,.int 3 0,.int 0 0,.int 0 0,.int 3 0,.ref 106,.bool true,.int 181 0,.ref 107,.none,.none,.none,.ref 108,.int 326 0,.int 57 0,.str "/claim/cut.py" 327],#[]⟩) ::
 (nat_lit 110,⟨.type "function", none,.func ⟨"rows_with", "Watch.rows_with", L2.defArgs (L2.inClass (top 8) 4),.stmts (L2.defBody (L2.inClass (top 8) 4)),L2.defScope (L2.inClass (top 8) 4),3,[],.none,.none,.none,.str "usewarden.watches" 240,none,.ref 109,.none,0⟩,#[]⟩) ::
 (nat_lit 111,tUp #[]) ::
 (nat_lit 113,tUp #[.str "self" 332,.str "handles" 333]) ::
 (nat_lit 114,tUp #[]) ::
 (nat_lit 116,⟨.type "code", none,.fields #[.str "starts_of" 329,.str "Watch.starts_of" 330,.str "/claim/cut.py" 331,.int 65 0,.int 2 0,.int 0 0,.int 0 0,.int 3 0,.ref 111,.bool true,.int 181 0,.ref 112,.none,.ref 113,.ref 114,.ref 115,.int 334 0,.int 65 0,.str "/claim/cut.py" 335],#[]⟩) ::
 (nat_lit 117,⟨.type "function", none,.func ⟨"starts_of", "Watch.starts_of", L2.defArgs (L2.inClass (top 8) 5),.stmts (L2.defBody (L2.inClass (top 8) 5)),L2.defScope (L2.inClass (top 8) 5),3,[],.none,.none,.none,.str "usewarden.watches" 240,none,.ref 116,.none,0⟩,#[]⟩) ::
 (nat_lit 118,tUp #[]) ::
 (nat_lit 120,tUp #[.str "self" 340,.str "handle" 341,.str "word" 342,.str "broken" 343,.str "handles" 344,.str "text" 345,.str "room" 346,.str "start" 347]) ::
 (nat_lit 121,tUp #[]) ::
 (nat_lit 123,⟨.type "code", none,.fields #[.str "broken_by" 337,.str "Watch.broken_by" 338,.str "/claim/cut.py" 339,.int 68 0,.int 3 0,.int 0 0,.int 0 0,.int 3 0,.ref 118,.bool true,.int 181 0,.ref 119,.none,.ref 120,.ref 121,.ref 122,.int 348 0,.int 68 0,.str "/claim/cut.py" 349],#[]⟩) ::
 (nat_lit 124,⟨.type "function", none,.func ⟨"broken_by", "Watch.broken_by", L2.defArgs (L2.inClass (top 8) 6),.stmts (L2.defBody (L2.inClass (top 8) 6)),L2.defScope (L2.inClass (top 8) 6),3,[],.none,.none,.none,.str "usewarden.watches" 240,none,.ref 123,.none,0⟩,#[]⟩) ::
 (nat_lit 125,tUp #[]) ::
 (nat_lit 127,tUp #[.str "self" 354,.str "handle" 355,.str "word" 356,.str "handles" 357,.str "text" 358]) ::
 (nat_lit 128,tUp #[]) ::
 (nat_lit 130,⟨.type "code", none,.fields #[.str "go_on" 351,.str "Watch.go_on" 352,.str "/claim/cut.py" 353,.int 76 0,.int 3 0,.int 0 0,.int 0 0,.int 3 0,.ref 125,.bool true,.int 181 0,.ref 126,.none,.ref 127,.ref 128,.ref 129,.int 359 0,.int 76 0,.str "/claim/cut.py" 360],#[]⟩) ::
 (nat_lit 131,⟨.type "function", none,.func ⟨"go_on", "Watch.go_on", L2.defArgs (L2.inClass (top 8) 7),.stmts (L2.defBody (L2.inClass (top 8) 7)),L2.defScope (L2.inClass (top 8) 7),3,[],.none,.none,.none,.str "usewarden.watches" 240,none,.ref 130,.none,0⟩,#[]⟩) ::
 (nat_lit 132,tUp #[.str "blames" 362,.str "column" 363,.str "sides" 364,.str "starts" 365,.str "ties" 366,.str "ways" 367]) ::
 (nat_lit 133,⟨.type "dict", none,.dict #[⟨PyData.keyHash P "__module__", .str "__module__" 284,.str "usewarden.watches" 240⟩,⟨PyData.keyHash P "__firstlineno__", .str "__firstlineno__" 288,.int 28 287⟩,⟨PyData.keyHash P "__init__", .str "__init__" 294,.ref 84⟩,⟨PyData.keyHash P "mark_at", .str "mark_at" 302,.ref 91⟩,⟨PyData.keyHash P "begin_tie", .str "begin_tie" 313,.ref 98⟩,⟨PyData.keyHash P "handles_with", .str "handles_with" 322,.ref 105⟩,⟨PyData.keyHash P "rows_with", .str "rows_with" 328,.ref 110⟩,⟨PyData.keyHash P "starts_of", .str "starts_of" 336,.ref 117⟩,⟨PyData.keyHash P "broken_by", .str "broken_by" 350,.ref 124⟩,⟨PyData.keyHash P "go_on", .str "go_on" 361,.ref 131⟩,⟨PyData.keyHash P "__static_attributes__", .str "__static_attributes__" 368,.ref 132⟩,⟨PyData.keyHash P "__dict__", .str "__dict__" 370,.ref 135⟩,⟨PyData.keyHash P "__weakref__", .str "__weakref__" 372,.ref 136⟩,⟨PyData.keyHash P "__doc__", .str "__doc__" 373,.none⟩] 4,#[]⟩) ::
 (nat_lit 134,⟨.type "type", none,.cls ⟨"Watch", [.type "object"],[.ref 134,.type "object"],133, "Watch", true,[],[],false,none,false⟩,#[none,none,some (.str "Watch" 277),some (.str "Watch" 285),some (.builtin "object.__new__"),some (.bool true)]⟩) ::
 (nat_lit 135,⟨.type "getset_descriptor", none,.fields #[.str "__dict__" 369,.ref 134,.builtin "function.__dict__", .builtin "function.__dict__#set"],#[]⟩) ::
 (nat_lit 136,⟨.type "getset_descriptor", none,.fields #[.str "__weakref__" 371,.ref 134,.builtin "ExceptionGroup.__weakref__", .none],#[]⟩) ::
 (nat_lit 139,tUp #[]) ::
 (nat_lit 142,⟨.type "code", none,.fields #[.str "watch_of" 376,.str "watch_of" 377,.str "/claim/cut.py" 378,.int 79 0,.int 3 0,.int 0 0,.int 0 0,.int 3 0,.ref 139,.bool true,.int 181 0,.ref 140,.none,.none,.none,.ref 141,.int 379 0,.int 79 0,.str "/claim/cut.py" 380],#[]⟩) ::
 (nat_lit 143,fUn "watch_of" 9 "usewarden.watches" 240 142) ::
 (nat_lit 144,tUp #[]) ::
 (nat_lit 147,⟨.type "code", none,.fields #[.str "watches_of" 382,.str "watches_of" 383,.str "/claim/cut.py" 384,.int 83 0,.int 1 0,.int 0 0,.int 0 0,.int 3 0,.ref 144,.bool true,.int 181 0,.ref 145,.none,.none,.none,.ref 146,.int 385 0,.int 83 0,.str "/claim/cut.py" 386],#[]⟩) ::
 (nat_lit 148,fUn "watches_of" 10 "usewarden.watches" 240 147) ::
 (nat_lit 149,tUp #[]) ::
 (nat_lit 151,tUp #[.str "watches" 391,.str "one" 392,.str "other" 393,.str "start" 394,.str "watch" 395]) ::
 (nat_lit 152,tUp #[]) ::
 (nat_lit 154,cOd "all_begin_tie" 388 389 390 85 4 149 150 151 152 153 396 397) ::
 (nat_lit 155,fUn "all_begin_tie" 11 "usewarden.watches" 240 154) ::
 (nat_lit 156,tUp #[]) ::
 (nat_lit 158,tUp #[.str "watches" 402,.str "at" 403,.str "handle" 404,.str "word" 405,.str "broken" 406,.str "watch" 407,.str "first" 408]) ::
 (nat_lit 159,tUp #[]) ::
 (nat_lit 161,cOd "broken_or_gone_on" 399 400 401 88 4 156 157 158 159 160 409 410) ::
 (nat_lit 162,fUn "broken_or_gone_on" 12 "usewarden.watches" 240 161) ::
 (nat_lit 170,tUp #[]) ::
 (nat_lit 172,tUp #[.str "self" 429,.str "inputs" 430,.str "watches" 431]) ::
 (nat_lit 173,tUp #[]) ::
 (nat_lit 175,⟨.type "code", none,.fields #[.str "__init__" 426,.str "Run.__init__" 427,.str "/claim/cut.py" 428,.int 103 0,.int 3 0,.int 0 0,.int 0 0,.int 3 0,.ref 170,.bool true,.int 181 0,.ref 171,.none,.ref 172,.ref 173,.ref 174,.int 432 0,.int 103 0,.str "/claim/cut.py" 433],#[]⟩) ::
 (nat_lit 176,⟨.type "function", none,.func ⟨"__init__", "Run.__init__", L2.defArgs (L2.inClass (top 14) 0),.stmts (L2.defBody (L2.inClass (top 14) 0)),L2.defScope (L2.inClass (top 14) 0),3,[],.none,.none,.none,.str "usewarden.runs" 412,none,.ref 175,.none,0⟩,#[]⟩) ::
 (nat_lit 177,tUp #[]) ::
 (nat_lit 179,tUp #[.str "self" 438,.str "at" 439]) ::
 (nat_lit 180,tUp #[]) ::
 (nat_lit 182,⟨.type "code", none,.fields #[.str "come_to" 435,.str "Run.come_to" 436,.str "/claim/cut.py" 437,.int 113 0,.int 2 0,.int 0 0,.int 0 0,.int 3 0,.ref 177,.bool true,.int 181 0,.ref 178,.none,.ref 179,.ref 180,.ref 181,.int 440 0,.int 113 0,.str "/claim/cut.py" 441],#[]⟩) ::
 (nat_lit 183,⟨.type "function", none,.func ⟨"come_to", "Run.come_to", L2.defArgs (L2.inClass (top 14) 1),.stmts (L2.defBody (L2.inClass (top 14) 1)),L2.defScope (L2.inClass (top 14) 1),3,[],.none,.none,.none,.str "usewarden.runs" 412,none,.ref 182,.none,0⟩,#[]⟩) ::
 (nat_lit 184,tUp #[]) ::
 (nat_lit 186,tUp #[.str "self" 446,.str "bound" 447]) ::
 (nat_lit 187,tUp #[]) ::
 (nat_lit 189,⟨.type "code", none,.fields #[.str "takes_more" 443,.str "Run.takes_more" 444,.str "/claim/cut.py" 445,.int 116 0,.int 2 0,.int 0 0,.int 0 0,.int 3 0,.ref 184,.bool true,.int 181 0,.ref 185,.none,.ref 186,.ref 187,.ref 188,.int 448 0,.int 116 0,.str "/claim/cut.py" 449],#[]⟩) ::
 (nat_lit 190,⟨.type "function", none,.func ⟨"takes_more", "Run.takes_more", L2.defArgs (L2.inClass (top 14) 2),.stmts (L2.defBody (L2.inClass (top 14) 2)),L2.defScope (L2.inClass (top 14) 2),3,[],.none,.none,.none,.str "usewarden.runs" 412,none,.ref 189,.none,0⟩,#[]⟩) ::
 (nat_lit 191,tUp #[]) ::
 (nat_lit 193,tUp #[.str "self" 454,.str "holder" 455]) ::
 (nat_lit 194,tUp #[]) ::
 (nat_lit 196,⟨.type "code", none,.fields #[.str "handle_of" 451,.str "Run.handle_of" 452,.str "/claim/cut.py" 453,.int 123 0,.int 2 0,.int 0 0,.int 0 0,.int 3 0,.ref 191,.bool true,.int 181 0,.ref 192,.none,.ref 193,.ref 194,.ref 195,.int 456 0,.int 123 0,.str "/claim/cut.py" 457],#[]⟩) ::
 (nat_lit 197,⟨.type "function", none,.func ⟨"handle_of", "Run.handle_of", L2.defArgs (L2.inClass (top 14) 3),.stmts (L2.defBody (L2.inClass (top 14) 3)),L2.defScope (L2.inClass (top 14) 3),3,[],.none,.none,.none,.str "usewarden.runs" 412,none,.ref 196,.none,0⟩,#[]⟩) ::
 (nat_lit 198,tUp #[]) ::
 (nat_lit 200,tUp #[.str "self" 462,.str "holder" 463,.str "handle" 464]) ::
 (nat_lit 201,tUp #[]) ::
 (nat_lit 203,⟨.type "code", none,.fields #[.str "hold" 459,.str "Run.hold" 460,.str "/claim/cut.py" 461,.int 126 0,.int 3 0,.int 0 0,.int 0 0,.int 3 0,.ref 198,.bool true,.int 181 0,.ref 199,.none,.ref 200,.ref 201,.ref 202,.int 465 0,.int 126 0,.str "/claim/cut.py" 466],#[]⟩) ::
 (nat_lit 204,⟨.type "function", none,.func ⟨"hold", "Run.hold", L2.defArgs (L2.inClass (top 14) 4),.stmts (L2.defBody (L2.inClass (top 14) 4)),L2.defScope (L2.inClass (top 14) 4),3,[],.none,.none,.none,.str "usewarden.runs" 412,none,.ref 203,.none,0⟩,#[]⟩) ::
 (nat_lit 205,tUp #[]) ::
 (nat_lit 207,tUp #[.str "self" 471,.str "line" 472,.str "handle" 473,.str "word" 474,.str "entry" 475,.str "broken" 476]) ::
 (nat_lit 208,tUp #[]) ::
 (nat_lit 210,⟨.type "code", none,.fields #[.str "deed" 468,.str "Run.deed" 469,.str "/claim/cut.py" 470,.int 129 0,.int 4 0,.int 0 0,.int 0 0,.int 3 0,.ref 205,.bool true,.int 181 0,.ref 206,.none,.ref 207,.ref 208,.ref 209,.int 477 0,.int 129 0,.str "/claim/cut.py" 478],#[]⟩) ::
 (nat_lit 211,⟨.type "function", none,.func ⟨"deed", "Run.deed", L2.defArgs (L2.inClass (top 14) 5),.stmts (L2.defBody (L2.inClass (top 14) 5)),L2.defScope (L2.inClass (top 14) 5),3,[],.none,.none,.none,.str "usewarden.runs" 412,none,.ref 210,.none,0⟩,#[]⟩) ::
 (nat_lit 212,tUp #[]) ::
 (nat_lit 214,tUp #[.str "self" 483,.str "entry" 484,.str "broken" 485,.str "name" 486,.str "start" 487,.str "handles" 488]) ::
 (nat_lit 215,tUp #[]) ::
 (nat_lit 217,⟨.type "code", none,.fields #[.str "refuse" 480,.str "Run.refuse" 481,.str "/claim/cut.py" 482,.int 138 0,.int 3 0,.int 0 0,.int 0 0,.int 3 0,.ref 212,.bool true,.int 181 0,.ref 213,.none,.ref 214,.ref 215,.ref 216,.int 489 0,.int 138 0,.str "/claim/cut.py" 490],#[]⟩) ::
 (nat_lit 218,⟨.type "function", none,.func ⟨"refuse", "Run.refuse", L2.defArgs (L2.inClass (top 14) 6),.stmts (L2.defBody (L2.inClass (top 14) 6)),L2.defScope (L2.inClass (top 14) 6),3,[],.none,.none,.none,.str "usewarden.runs" 412,none,.ref 217,.none,0⟩,#[]⟩) ::
 (nat_lit 219,tUp #[]) ::
 (nat_lit 221,tUp #[.str "self" 495,.str "line" 496,.str "holder" 497,.str "handle" 498]) ::
 (nat_lit 222,tUp #[]) ::
 (nat_lit 224,⟨.type "code", none,.fields #[.str "new_handle" 492,.str "Run.new_handle" 493,.str "/claim/cut.py" 494,.int 144 0,.int 3 0,.int 0 0,.int 0 0,.int 3 0,.ref 219,.bool true,.int 181 0,.ref 220,.none,.ref 221,.ref 222,.ref 223,.int 499 0,.int 144 0,.str "/claim/cut.py" 500],#[]⟩) ::
 (nat_lit 225,⟨.type "function", none,.func ⟨"new_handle", "Run.new_handle", L2.defArgs (L2.inClass (top 14) 7),.stmts (L2.defBody (L2.inClass (top 14) 7)),L2.defScope (L2.inClass (top 14) 7),3,[],.none,.none,.none,.str "usewarden.runs" 412,none,.ref 224,.none,0⟩,#[]⟩) ::
 (nat_lit 226,tUp #[]) ::
 (nat_lit 228,tUp #[.str "self" 505,.str "line" 506,.str "one" 507,.str "other" 508]) ::
 (nat_lit 229,tUp #[]) ::
 (nat_lit 231,⟨.type "code", none,.fields #[.str "tie" 502,.str "Run.tie" 503,.str "/claim/cut.py" 504,.int 150 0,.int 4 0,.int 0 0,.int 0 0,.int 3 0,.ref 226,.bool true,.int 181 0,.ref 227,.none,.ref 228,.ref 229,.ref 230,.int 509 0,.int 150 0,.str "/claim/cut.py" 510],#[]⟩) ::
 (nat_lit 232,⟨.type "function", none,.func ⟨"tie", "Run.tie", L2.defArgs (L2.inClass (top 14) 8),.stmts (L2.defBody (L2.inClass (top 14) 8)),L2.defScope (L2.inClass (top 14) 8),3,[],.none,.none,.none,.str "usewarden.runs" 412,none,.ref 231,.none,0⟩,#[]⟩) ::
 (nat_lit 233,tUp #[]) ::
 (nat_lit 235,tUp #[.str "self" 515,.str "line" 516,.str "handle" 517]) ::
 (nat_lit 236,tUp #[]) ::
 (nat_lit 238,⟨.type "code", none,.fields #[.str "end_all" 512,.str "Run.end_all" 513,.str "/claim/cut.py" 514,.int 155 0,.int 2 0,.int 0 0,.int 0 0,.int 3 0,.ref 233,.bool true,.int 181 0,.ref 234,.none,.ref 235,.ref 236,.ref 237,.int 518 0,.int 155 0,.str "/claim/cut.py" 519],#[]⟩) ::
 (nat_lit 239,⟨.type "function", none,.func ⟨"end_all", "Run.end_all", L2.defArgs (L2.inClass (top 14) 9),.stmts (L2.defBody (L2.inClass (top 14) 9)),L2.defScope (L2.inClass (top 14) 9),3,[],.none,.none,.none,.str "usewarden.runs" 412,none,.ref 238,.none,0⟩,#[]⟩) ::
 (nat_lit 240,tUp #[.str "at" 521,.str "held" 522,.str "inputs" 523,.str "last" 524,.str "log" 525,.str "opened" 526,.str "taken" 527,.str "watches" 528]) ::
 (nat_lit 241,⟨.type "dict", none,.dict #[⟨PyData.keyHash P "__module__", .str "__module__" 421,.str "usewarden.runs" 412⟩,⟨PyData.keyHash P "__firstlineno__", .str "__firstlineno__" 425,.int 101 424⟩,⟨PyData.keyHash P "__init__", .str "__init__" 434,.ref 176⟩,⟨PyData.keyHash P "come_to", .str "come_to" 442,.ref 183⟩,⟨PyData.keyHash P "takes_more", .str "takes_more" 450,.ref 190⟩,⟨PyData.keyHash P "handle_of", .str "handle_of" 458,.ref 197⟩,⟨PyData.keyHash P "hold", .str "hold" 467,.ref 204⟩,⟨PyData.keyHash P "deed", .str "deed" 479,.ref 211⟩,⟨PyData.keyHash P "refuse", .str "refuse" 491,.ref 218⟩,⟨PyData.keyHash P "new_handle", .str "new_handle" 501,.ref 225⟩,⟨PyData.keyHash P "tie", .str "tie" 511,.ref 232⟩,⟨PyData.keyHash P "end_all", .str "end_all" 520,.ref 239⟩,⟨PyData.keyHash P "__static_attributes__", .str "__static_attributes__" 529,.ref 240⟩,⟨PyData.keyHash P "__dict__", .str "__dict__" 531,.ref 243⟩,⟨PyData.keyHash P "__weakref__", .str "__weakref__" 533,.ref 244⟩,⟨PyData.keyHash P "__doc__", .str "__doc__" 534,.none⟩] 4,#[]⟩) ::
 (nat_lit 242,⟨.type "type", none,.cls ⟨"Run", [.type "object"],[.ref 242,.type "object"],241, "Run", true,[],[],false,none,false⟩,#[none,none,some (.str "Run" 414),some (.str "Run" 422),some (.builtin "object.__new__"),some (.bool true)]⟩) ::
 (nat_lit 243,⟨.type "getset_descriptor", none,.fields #[.str "__dict__" 530,.ref 242,.builtin "function.__dict__", .builtin "function.__dict__#set"],#[]⟩) ::
 (nat_lit 244,⟨.type "getset_descriptor", none,.fields #[.str "__weakref__" 532,.ref 242,.builtin "ExceptionGroup.__weakref__", .none],#[]⟩) ::
 (nat_lit 247,tUp #[]) ::
 (nat_lit 249,tUp #[.str "run" 542,.str "row" 543,.str "line" 544]) ::
 (nat_lit 250,tUp #[]) ::
 (nat_lit 252,cOd "do_row" 539 540 541 159 2 247 248 249 250 251 545 546) ::
 (nat_lit 253,fUn "do_row" 16 "usewarden.coderuns" 537 252) ::
 (nat_lit 254,tUp #[]) ::
 (nat_lit 256,tUp #[.str "run" 551,.str "row" 552]) ::
 (nat_lit 257,tUp #[]) ::
 (nat_lit 259,cOd "row_behind" 548 549 550 171 2 254 255 256 257 258 553 554) ::
 (nat_lit 260,fUn "row_behind" 17 "usewarden.coderuns" 537 259) ::
 (nat_lit 261,tUp #[]) ::
 (nat_lit 263,tUp #[.str "code" 559,.str "run" 560]) ::
 (nat_lit 264,tUp #[]) ::
 (nat_lit 266,cOd "log_of" 556 557 558 178 2 261 262 263 264 265 561 562) ::
 (nat_lit 267,fUn "log_of" 18 "usewarden.coderuns" 537 266) ::
 (nat_lit 268,tUp #[]) ::
 (nat_lit 270,tUp #[.str "code" 567,.str "inputs" 568]) ::
 (nat_lit 271,tUp #[]) ::
 (nat_lit 273,cOd "run_code" 564 565 566 183 2 268 269 270 271 272 569 570) ::
 (nat_lit 274,fUn "run_code" 19 "usewarden.coderuns" 537 273) ::
 (nat_lit 275,tUp #[]) ::
 (nat_lit 277,tUp #[.str "code" 577,.str "rules" 578,.str "inputs" 579]) ::
 (nat_lit 278,tUp #[]) ::
 (nat_lit 280,cOd "run_watched" 574 575 576 186 3 275 276 277 278 279 580 581) ::
 (nat_lit 281,fUn "run_watched" 21 "usewarden.watched" 572 280) ::
 (nat_lit 282,⟨.type "dict", none,.dict #[⟨PyData.keyHash P "open", .str "open" 585,.ref 283⟩,⟨PyData.keyHash P "do", .str "do" 587,.ref 284⟩,⟨PyData.keyHash P "copy", .str "copy" 590,.ref 285⟩,⟨PyData.keyHash P "drop", .str "drop" 593,.ref 286⟩,⟨PyData.keyHash P "tie", .str "tie" 595,.ref 287⟩,⟨PyData.keyHash P "lend", .str "lend" 598,.ref 288⟩,⟨PyData.keyHash P "if", .str "if" 602,.ref 289⟩,⟨PyData.keyHash P "while", .str "while" 606,.ref 290⟩] 8,#[]⟩) ::
 (nat_lit 283,tUp #[.str "name" 586]) ::
 (nat_lit 284,tUp #[.str "word" 588,.str "name" 589]) ::
 (nat_lit 285,tUp #[.str "name" 591,.str "name" 592]) ::
 (nat_lit 286,tUp #[.str "name" 594]) ::
 (nat_lit 287,tUp #[.str "name" 596,.str "name" 597]) ::
 (nat_lit 288,tUp #[.str "name" 599,.str "name" 600,.str "steps" 601]) ::
 (nat_lit 289,tUp #[.str "bound" 603,.str "steps" 604,.str "steps" 605]) ::
 (nat_lit 290,tUp #[.str "bound" 607,.str "steps" 608]) ::
 (nat_lit 291,⟨.type "dict", none,.dict #[⟨PyData.keyHash P "lend", .str "lend" 618,.ref 292⟩,⟨PyData.keyHash P "if", .str "if" 620,.ref 293⟩,⟨PyData.keyHash P "while", .str "while" 623,.ref 294⟩] 3,#[]⟩) ::
 (nat_lit 292,tUp #[.str "back" 619]) ::
 (nat_lit 293,tUp #[.str "else" 621,.str "fi" 622]) ::
 (nat_lit 294,tUp #[.str "done" 624]) ::
 (nat_lit 295,tUp #[]) ::
 (nat_lit 297,tUp #[.str "kind" 632]) ::
 (nat_lit 298,tUp #[]) ::
 (nat_lit 300,cOd "closers_of" 629 630 631 191 1 295 296 297 298 299 633 634) ::
 (nat_lit 301,fUn "closers_of" 25 "usewarden.programs" 583 300) ::
 (nat_lit 302,tUp #[]) ::
 (nat_lit 304,tUp #[.str "step" 639]) ::
 (nat_lit 305,tUp #[]) ::
 (nat_lit 307,cOd "head_of" 636 637 638 193 1 302 303 304 305 306 640 641) ::
 (nat_lit 308,fUn "head_of" 26 "usewarden.programs" 583 307) ::
 (nat_lit 309,tUp #[]) ::
 (nat_lit 311,tUp #[.str "step" 646]) ::
 (nat_lit 312,tUp #[]) ::
 (nat_lit 314,cOd "blocks_of" 643 644 645 195 1 309 310 311 312 313 647 648) ::
 (nat_lit 315,fUn "blocks_of" 27 "usewarden.programs" 583 314) ::
 (nat_lit 316,tUp #[]) ::
 (nat_lit 318,tUp #[.str "program" 653,.str "steps" 654,.str "step" 655,.str "block" 656]) ::
 (nat_lit 319,tUp #[]) ::
 (nat_lit 321,cOd "steps_within" 650 651 652 197 1 316 317 318 319 320 657 658) ::
 (nat_lit 322,fUn "steps_within" 28 "usewarden.programs" 583 321) ::
 (nat_lit 323,tUp #[]) ::
 (nat_lit 325,tUp #[.str "steps" 663,.str "names" 664,.str "step" 665,.str "part" 666,.str "kind" 667]) ::
 (nat_lit 326,tUp #[]) ::
 (nat_lit 328,cOd "names_in" 660 661 662 204 1 323 324 325 326 327 668 669) ::
 (nat_lit 329,fUn "names_in" 29 "usewarden.programs" 583 328) ::
 (nat_lit 330,tUp #[]) ::
 (nat_lit 333,⟨.type "code", none,.fields #[.str "lines_of" 671,.str "lines_of" 672,.str "/claim/cut.py" 673,.int 211 0,.int 1 0,.int 0 0,.int 0 0,.int 3 0,.ref 330,.bool true,.int 181 0,.ref 331,.none,.none,.none,.ref 332,.int 674 0,.int 211 0,.str "/claim/cut.py" 675],#[]⟩) ::
 (nat_lit 334,fUn "lines_of" 30 "usewarden.programs" 583 333) ::
 (nat_lit 335,tUp #[]) ::
 (nat_lit 337,tUp #[.str "program" 680]) ::
 (nat_lit 338,tUp #[]) ::
 (nat_lit 340,cOd "names_of" 677 678 679 219 1 335 336 337 338 339 681 682) ::
 (nat_lit 341,fUn "names_of" 31 "usewarden.programs" 583 340) ::
 (nat_lit 349,tUp #[]) ::
 (nat_lit 351,tUp #[.str "self" 701,.str "head" 702,.str "lines" 703,.str "blocks" 704]) ::
 (nat_lit 352,tUp #[]) ::
 (nat_lit 354,⟨.type "code", none,.fields #[.str "__init__" 698,.str "NumberedStep.__init__" 699,.str "/claim/cut.py" 700,.int 224 0,.int 4 0,.int 0 0,.int 0 0,.int 3 0,.ref 349,.bool true,.int 181 0,.ref 350,.none,.ref 351,.ref 352,.ref 353,.int 705 0,.int 224 0,.str "/claim/cut.py" 706],#[]⟩) ::
 (nat_lit 355,⟨.type "function", none,.func ⟨"__init__", "NumberedStep.__init__", L2.defArgs (L2.inClass (top 33) 0),.stmts (L2.defBody (L2.inClass (top 33) 0)),L2.defScope (L2.inClass (top 33) 0),3,[],.none,.none,.none,.str "usewarden.numbered" 684,none,.ref 354,.none,0⟩,#[]⟩) ::
 (nat_lit 356,tUp #[.str "blocks" 708,.str "kind" 709,.str "lines" 710,.str "parts" 711]) ::
 (nat_lit 357,⟨.type "dict", none,.dict #[⟨PyData.keyHash P "__module__", .str "__module__" 693,.str "usewarden.numbered" 684⟩,⟨PyData.keyHash P "__firstlineno__", .str "__firstlineno__" 697,.int 222 696⟩,⟨PyData.keyHash P "__init__", .str "__init__" 707,.ref 355⟩,⟨PyData.keyHash P "__static_attributes__", .str "__static_attributes__" 712,.ref 356⟩,⟨PyData.keyHash P "__dict__", .str "__dict__" 714,.ref 359⟩,⟨PyData.keyHash P "__weakref__", .str "__weakref__" 716,.ref 360⟩,⟨PyData.keyHash P "__doc__", .str "__doc__" 717,.none⟩] 4,#[]⟩) ::
 (nat_lit 358,⟨.type "type", none,.cls ⟨"NumberedStep", [.type "object"],[.ref 358,.type "object"],357, "NumberedStep", true,[],[],false,none,false⟩,#[none,none,some (.str "NumberedStep" 686),some (.str "NumberedStep" 694),some (.builtin "object.__new__"),some (.bool true)]⟩) ::
 (nat_lit 359,⟨.type "getset_descriptor", none,.fields #[.str "__dict__" 713,.ref 358,.builtin "function.__dict__", .builtin "function.__dict__#set"],#[]⟩) ::
 (nat_lit 360,⟨.type "getset_descriptor", none,.fields #[.str "__weakref__" 715,.ref 358,.builtin "ExceptionGroup.__weakref__", .none],#[]⟩) ::
 (nat_lit 363,tUp #[]) ::
 (nat_lit 365,tUp #[.str "steps" 723,.str "line" 724]) ::
 (nat_lit 366,tUp #[]) ::
 (nat_lit 368,cOd "line_behind" 720 721 722 229 2 363 364 365 366 367 725 726) ::
 (nat_lit 369,fUn "line_behind" 34 "usewarden.numbered" 684 368) ::
 (nat_lit 370,tUp #[]) ::
 (nat_lit 372,tUp #[.str "step" 731,.str "line" 732,.str "lines" 733,.str "blocks" 734,.str "block" 735,.str "steps" 736]) ::
 (nat_lit 373,tUp #[]) ::
 (nat_lit 375,cOd "numbered_step" 728 729 730 231 2 370 371 372 373 374 737 738) ::
 (nat_lit 376,fUn "numbered_step" 35 "usewarden.numbered" 684 375) ::
 (nat_lit 377,tUp #[]) ::
 (nat_lit 379,tUp #[.str "steps" 743,.str "line" 744,.str "numbered" 745,.str "step" 746]) ::
 (nat_lit 380,tUp #[]) ::
 (nat_lit 382,cOd "numbered_steps" 740 741 742 239 2 377 378 379 380 381 747 748) ::
 (nat_lit 383,fUn "numbered_steps" 36 "usewarden.numbered" 684 382) ::
 (nat_lit 384,tUp #[]) ::
 (nat_lit 387,⟨.type "code", none,.fields #[.str "lend_lines" 752,.str "lend_lines" 753,.str "/claim/cut.py" 754,.int 245 0,.int 1 0,.int 0 0,.int 0 0,.int 3 0,.ref 384,.bool true,.int 181 0,.ref 385,.none,.none,.none,.ref 386,.int 755 0,.int 245 0,.str "/claim/cut.py" 756],#[]⟩) ::
 (nat_lit 388,fUn "lend_lines" 38 "usewarden.codes" 750 387) ::
 (nat_lit 389,tUp #[]) ::
 (nat_lit 391,tUp #[.str "program" 761,.str "slots" 762,.str "slot" 763,.str "holder" 764]) ::
 (nat_lit 392,tUp #[]) ::
 (nat_lit 394,cOd "slots_of" 758 759 760 247 1 389 390 391 392 393 765 766) ::
 (nat_lit 395,fUn "slots_of" 39 "usewarden.codes" 750 394) ::
 (nat_lit 396,tUp #[]) ::
 (nat_lit 399,⟨.type "code", none,.fields #[.str "simple_row" 768,.str "simple_row" 769,.str "/claim/cut.py" 770,.int 252 0,.int 2 0,.int 0 0,.int 0 0,.int 3 0,.ref 396,.bool true,.int 181 0,.ref 397,.none,.none,.none,.ref 398,.int 771 0,.int 252 0,.str "/claim/cut.py" 772],#[]⟩) ::
 (nat_lit 400,fUn "simple_row" 40 "usewarden.codes" 750 399) ::
 (nat_lit 401,tUp #[]) ::
 (nat_lit 403,tUp #[.str "step" 777,.str "at" 778,.str "slots" 779,.str "turned" 780,.str "line" 781,.str "back" 782,.str "giver" 783,.str "taker" 784,.str "lent" 785,.str "ahead" 786,.str "within" 787]) ::
 (nat_lit 404,tUp #[]) ::
 (nat_lit 406,cOd "lend_rows" 774 775 776 257 4 401 402 403 404 405 788 789) ::
 (nat_lit 407,fUn "lend_rows" 41 "usewarden.codes" 750 406) ::
 (nat_lit 408,tUp #[]) ::
 (nat_lit 410,tUp #[.str "step" 794,.str "at" 795,.str "slots" 796,.str "turned" 797,.str "more" 798,.str "jump" 799,.str "rest" 800,.str "behind" 801,.str "test" 802]) ::
 (nat_lit 411,tUp #[]) ::
 (nat_lit 413,cOd "if_rows" 791 792 793 266 4 408 409 410 411 412 803 804) ::
 (nat_lit 414,fUn "if_rows" 42 "usewarden.codes" 750 413) ::
 (nat_lit 415,tUp #[]) ::
 (nat_lit 417,tUp #[.str "step" 809,.str "at" 810,.str "slots" 811,.str "within" 812,.str "behind" 813]) ::
 (nat_lit 418,tUp #[]) ::
 (nat_lit 420,cOd "loop_rows" 806 807 808 273 3 415 416 417 418 419 814 815) ::
 (nat_lit 421,fUn "loop_rows" 43 "usewarden.codes" 750 420) ::
 (nat_lit 422,tUp #[]) ::
 (nat_lit 424,tUp #[.str "step" 820,.str "at" 821,.str "slots" 822,.str "turned" 823,.str "first" 824,.str "loop" 825,.str "behind" 826]) ::
 (nat_lit 425,tUp #[]) ::
 (nat_lit 427,cOd "while_rows" 817 818 819 277 4 422 423 424 425 426 827 828) ::
 (nat_lit 428,fUn "while_rows" 44 "usewarden.codes" 750 427) ::
 (nat_lit 429,tUp #[]) ::
 (nat_lit 431,tUp #[.str "steps" 833,.str "at" 834,.str "slots" 835,.str "turned" 836,.str "rows" 837,.str "step" 838,.str "place" 839]) ::
 (nat_lit 432,tUp #[]) ::
 (nat_lit 434,cOd "rows_of" 830 831 832 284 4 429 430 431 432 433 840 841) ::
 (nat_lit 435,fUn "rows_of" 45 "usewarden.codes" 750 434) ::
 (nat_lit 436,tUp #[]) ::
 (nat_lit 438,tUp #[.str "program" 846,.str "turned" 847,.str "steps" 848]) ::
 (nat_lit 439,tUp #[]) ::
 (nat_lit 441,cOd "rows_and_end" 843 844 845 297 2 436 437 438 439 440 849 850) ::
 (nat_lit 442,fUn "rows_and_end" 46 "usewarden.codes" 750 441) ::
 (nat_lit 443,tUp #[]) ::
 (nat_lit 445,tUp #[.str "program" 855]) ::
 (nat_lit 446,tUp #[]) ::
 (nat_lit 448,cOd "code_of" 852 853 854 300 1 443 444 445 446 447 856 857) ::
 (nat_lit 449,fUn "code_of" 47 "usewarden.codes" 750 448) ::
 (nat_lit 450,tUp #[]) ::
 (nat_lit 452,tUp #[.str "program" 862]) ::
 (nat_lit 453,tUp #[]) ::
 (nat_lit 455,cOd "turned_code" 859 860 861 302 1 450 451 452 453 454 863 864) ::
 (nat_lit 456,fUn "turned_code" 48 "usewarden.codes" 750 455) ::
 (nat_lit 457,tUp #[]) ::
 (nat_lit 459,tUp #[.str "_law_script" 871,.str "_law_k" 872]) ::
 (nat_lit 460,tUp #[]) ::
 (nat_lit 462,cOd "_law_cell_at" 868 869 870 305 2 457 458 459 460 461 873 874) ::
 (nat_lit 463,fUn "_law_cell_at" 50 "law_usewarden_k44_watched_without_rules" 866 462) ::
 (nat_lit 464,tUp #[]) ::
 (nat_lit 466,tUp #[.str "_law_cell" 879,.str "_law_k" 880,.str "_law_number" 881]) ::
 (nat_lit 467,tUp #[]) ::
 (nat_lit 469,cOd "_law_mixed" 876 877 878 309 2 464 465 466 467 468 882 883) ::
 (nat_lit 470,fUn "_law_mixed" 51 "law_usewarden_k44_watched_without_rules" 866 469) ::
 (nat_lit 471,tUp #[]) ::
 (nat_lit 473,tUp #[.str "_law_cell" 888,.str "_law_many" 889,.str "_law_letters" 890,.str "_law_size" 891,.str "_law_at" 892,.str "_law_words_here" 893,.str "_law_k" 894,.str "_law_word" 895,.str "_law_j" 896]) ::
 (nat_lit 474,tUp #[]) ::
 (nat_lit 476,cOd "_law_words" 885 886 887 312 2 471 472 473 474 475 897 898) ::
 (nat_lit 477,fUn "_law_words" 52 "law_usewarden_k44_watched_without_rules" 866 476) ::
 (nat_lit 478,tUp #[]) ::
 (nat_lit 480,tUp #[.str "_law_cell" 903,.str "_law_names" 904,.str "_law_words_here" 905,.str "_law_x" 906,.str "_law_y" 907]) ::
 (nat_lit 481,tUp #[]) ::
 (nat_lit 483,cOd "_law_step" 900 901 902 323 3 478 479 480 481 482 908 909) ::
 (nat_lit 484,fUn "_law_step" 53 "law_usewarden_k44_watched_without_rules" 866 483) ::
 (nat_lit 485,tUp #[]) ::
 (nat_lit 487,tUp #[.str "_law_piles" 914,.str "_law_heads" 915,.str "_law_body" 916,.str "_law_head" 917]) ::
 (nat_lit 488,tUp #[]) ::
 (nat_lit 490,cOd "_law_shut" 911 912 913 335 2 485 486 487 488 489 918 919) ::
 (nat_lit 491,fUn "_law_shut" 54 "law_usewarden_k44_watched_without_rules" 866 490) ::
 (nat_lit 492,tUp #[]) ::
 (nat_lit 494,tUp #[.str "_law_cells" 924,.str "_law_names" 925,.str "_law_words_here" 926,.str "_law_low" 927,.str "_law_piles" 928,.str "_law_heads" 929,.str "_law_lends" 930,.str "_law_ties" 931,.str "_law_cell" 932,.str "_law_kind" 933,.str "_law_bound" 934]) ::
 (nat_lit 495,tUp #[]) ::
 (nat_lit 497,cOd "_law_program" 921 922 923 343 4 492 493 494 495 496 935 936) ::
 (nat_lit 498,fUn "_law_program" 55 "law_usewarden_k44_watched_without_rules" 866 497) ::
 (nat_lit 499,tUp #[]) ::
 (nat_lit 501,tUp #[.str "_law_cell" 941,.str "_law_low" 942]) ::
 (nat_lit 502,tUp #[]) ::
 (nat_lit 504,cOd "_law_input" 938 939 940 366 2 499 500 501 502 503 943 944) ::
 (nat_lit 505,fUn "_law_input" 56 "law_usewarden_k44_watched_without_rules" 866 504) ::
 (nat_lit 506,tUp #[]) ::
 (nat_lit 508,tUp #[.str "_law_found" 949,.str "_law_due" 950,.str "_law_one" 951,.str "_law_other" 952]) ::
 (nat_lit 509,tUp #[]) ::
 (nat_lit 511,cOd "_law_is_log" 946 947 948 370 2 506 507 508 509 510 953 954) ::
 (nat_lit 512,fUn "_law_is_log" 57 "law_usewarden_k44_watched_without_rules" 866 511) ::
 (nat_lit 513,tUp #[]) ::
 (nat_lit 516,⟨.type "code", none,.fields #[.str "law" 956,.str "law" 957,.str "/claim/cut.py" 958,.int 377 0,.int 1 0,.int 0 0,.int 0 0,.int 3 0,.ref 513,.bool true,.int 181 0,.ref 514,.none,.none,.none,.ref 515,.int 959 0,.int 377 0,.str "/claim/cut.py" 960],#[]⟩) ::
 (nat_lit 517,fUn "law" 58 "law_usewarden_k44_watched_without_rules" 866 516)::[]
def kk:List Addr:=[2,3,15,22,23,24,25,28,35,37,38,40,41,42,43,44,47,49,50,52,53,54,56,57,59,60,61,64,65,66,68,69,71,72,80,83,84,85,87,88,90,91,92,94,95,97,98,99,101,102,104,105,106,109,110,111,113,114,116,117,118,120,121,123,124,125,127,128,130,131,132,133,134,135,136,139,142,143,144,147,148,149,151,152,154,155,156,158,159,161,162,170,172,173,175,176,177,179,180,182,183,184,186,187,189,190,191,193,194,196,197,198,200,201,203,204,205,207,208,210,211,212,214,215,217,218,219,221,222,224,225,226,228,229,231,232,233,235,236,238,239,240,241,242,243,244,247,249,250,252,253,254,256,257,259,260,261,263,264,266,267,268,270,271,273,274,275,277,278,280,281,282,283,284,285,286,287,288,289,290,291,292,293,294,295,297,298,300,301,302,304,305,307,308,309,311,312,314,315,316,318,319,321,322,323,325,326,328,329,330,333,334,335,337,338,340,341,349,351,352,354,355,356,357,358,359,360,363,365,366,368,369,370,372,373,375,376,377,379,380,382,383,384,387,388,389,391,392,394,395,396,399,400,401,403,404,406,407,408,410,411,413,414,415,417,418,420,421,422,424,425,427,428,429,431,432,434,435,436,438,439,441,442,443,445,446,448,449,450,452,453,455,456,457,459,460,462,463,464,466,467,469,470,471,473,474,476,477,478,480,481,483,484,485,487,488,490,491,492,494,495,497,498,499,501,502,504,505,506,508,509,511,512,513,516,517]
theorem kk_eq:∀ P,kk=(KK P).map (·.1):=fun _=>by kernel_rfl
noncomputable abbrev HH:Hook:=kHook KK kk kk_eq
def qq:Program:=view PySem.Challenge.pw_usewarden_k44_watched_without_rules [1,2,4,5,6,7,8,9,10,11,12,14,16,17,18,19,21,23,24,25,26,27,28,29,30,31,33,34,35,36,38,39,40,41,42,43,44,45,46,47,48,50,51,52,53,54,55,56,57,58]
def loo:List Str:=["PARTS", "CLOSERS"]
noncomputable def xt(s:Shared):Bool:=xlAt qq [] s&&recOk (RowW.records (OpenRow.toRowW (OpenLaw.row PySem.Challenge.rw_usewarden_k44_watched_without_rules))) s
noncomputable def xP(s:Shared):=openSeen qq loo (importedModules (Program.main PySem.Challenge.pw_usewarden_k44_watched_without_rules).body) xt true s
noncomputable def tE(w:World)(os:OsState):Option Shared:=(L2.tEnd PySem.Challenge.pw_usewarden_k44_watched_without_rules w 3402 os).map SharedT.abs
noncomputable def qB(w:World):Prop:=∀ os,(tE w os).map (fun s=>(L2.tOk PySem.Challenge.pw_usewarden_k44_watched_without_rules w s,Hook.obs HH s))=some (true,Hook.val HH w)
set_option maxRecDepth 1000000 in
theorem Im(w:World):qB (w.withFollow "special-get-raises" false):=by unfold qB; intro os; kernel_rfl
set_option maxRecDepth 1000000 in
theorem He(w:World):qB (w.withFollow "special-get-raises" true):=by unfold qB; intro os; kernel_rfl
theorem G_(w:World):qB w:=byRow2 "special-get-raises" (P:=qB) Im He w
noncomputable def rg(w:World):Prop:=∀ os,(tE w os).map (fun s=>(xP s).1)=some (openGood qq loo).1
set_option maxRecDepth 1000000 in
theorem IR(w:World):rg (w.withFollow "special-get-raises" false):=by unfold rg; intro os; kernel_rfl
set_option maxRecDepth 1000000 in
theorem JC(w:World):rg (w.withFollow "special-get-raises" true):=by unfold rg; intro os; kernel_rfl
theorem Jl(w:World):rg w:=byRow2 "special-get-raises" (P:=rg) IR JC w
noncomputable def rH(w:World):Prop:=∀ os,(tE w os).map (fun s=>(xP s).2)=some (openGood qq loo).2
set_option maxRecDepth 1000000 in
theorem Hm(w:World):rH (w.withFollow "special-get-raises" false):=by unfold rH; intro os; kernel_rfl
set_option maxRecDepth 1000000 in
theorem HW(w:World):rH (w.withFollow "special-get-raises" true):=by unfold rH; intro os; kernel_rfl
theorem JB(w:World):rH w:=byRow2 "special-get-raises" (P:=rH) Hm HW w
theorem hl(w:World):(openEnds treeTable PySem.Challenge.pw_usewarden_k44_watched_without_rules w 3402).map (fun s=>(xP s,Hook.obs HH s))=some (openGood qq loo,Hook.val HH w):=by
 refine L2.tLeft (by kernel_rfl) (by decide) (fun _=>by kernel_rfl) (by kernel_rfl) fun os=>?_
 obtain⟨s,e,h⟩:=Option.map_eq_some_iff.mp (G_ w os)
 have h2:=Jl w os;have h3:=JB w os;rw[e]at h2 h3
 obtain⟨r,r1,rfl⟩:=Option.map_eq_some_iff.mp e
 exact⟨r,r1,(Prod.mk.inj h).1,congr (congrArg Prod.mk (Prod.ext (Option.some.inj h2) (Option.some.inj h3))) (Prod.mk.inj h).2⟩
end K44
-- CHANGE: your row's module here, as the last of these rows
namespace L2
open PySem PySem.Spec PyProof.Rows
abbrev aw:=Sum Int Str
def jX:aw→Value→Bool
 | .inl k,v=>Value.isInt k v
 | .inr x,v=>Value.isStrOf x v
def Je(w:World):aw→Int
 | .inl k=>hashInt k
 | .inr x=>hashStr w x
theorem cV:∀ {k:aw} {v:Value},jX k v=true→(∃ i t,k=Sum.inl i∧v=Value.int i t)∨(∃ x t,k=Sum.inr x∧v=Value.str x t)
 | .inl i,v,h=>by
  obtain⟨t,e⟩:=Value.isInt_shape (k:=i) (v:=v) h
  exact .inl ⟨i,t,rfl,e⟩
 | .inr x,v,h=>by
  obtain⟨t,e⟩:=Value.isStrOf_shape (x:=x) (v:=v) h
  exact .inr ⟨x,t,rfl,e⟩
theorem vq(i:Int)(t:Tok):jX (.inl i) (.int i t)=true:=by simp[jX,Value.isInt]
theorem vD(x:Str)(t:Tok):jX (.inr x) (.str x t)=true:=by simp[jX,Value.isStrOf]
theorem Cu(a b:Int):decide ((Sum.inl a:aw)=Sum.inl b)=(a == b):=by
 by_cases e:a=b
 ·subst e; simp
 ·have h:¬ (Sum.inl a:aw)=Sum.inl b:=fun q=>e (Sum.inl.inj q)
  rw[decide_eq_false h];exact(beq_eq_false_iff_ne.mpr e).symm
theorem Cc(a b:Str):decide ((Sum.inr a:aw)=Sum.inr b)=decide (a=b):=by
 by_cases e:a=b
 ·subst e; simp
 ·have h:¬ (Sum.inr a:aw)=Sum.inr b:=fun q=>e (Sum.inr.inj q)
  rw[decide_eq_false h,decide_eq_false e]
theorem D9(a:Int)(b:Str):decide ((Sum.inl a:aw)=Sum.inr b)=false:=decide_eq_false (fun q=>nomatch q)
theorem DP(a:Str)(b:Int):decide ((Sum.inr a:aw)=Sum.inl b)=false:=decide_eq_false (fun q=>nomatch q)
def cy(prog:Program)(w:World):PySem.KeyKind prog w aw where
 is:=jX
 hash:=Je w
 inj:=fun v a b ha hb=>by
  rcases cV ha with ⟨i,t,rfl,rfl⟩ | ⟨x,t,rfl,rfl⟩
  ·rcases cV hb with ⟨j,u,rfl,e⟩ | ⟨y,u,rfl,e⟩
   ·injection e with e1 _; rw[e1]
   ·exact nomatch e
  ·rcases cV hb with ⟨j,u,rfl,e⟩ | ⟨y,u,rfl,e⟩
   ·exact nomatch e
   ·injection e with e1 _; rw[e1]
 byValue:=fun k v h=>by
  rcases cV h with ⟨i,t,rfl,rfl⟩ | ⟨x,t,rfl,rfl⟩ <;> rfl
 pyHash:=fun hv h=>by
  rcases cV hv with ⟨i,t,rfl,rfl⟩ | ⟨x,t,rfl,rfl⟩
  ·exact wpAny_pyHash_int h
  ·exact wpAny_pyHash_str h
 eqBool:=fun hu hv h=>by
  rcases cV hu with ⟨i,t,rfl,rfl⟩ | ⟨x,t,rfl,rfl⟩
  ·rcases cV hv with ⟨j,u,rfl,rfl⟩ | ⟨y,u,rfl,rfl⟩
   ·rw[Cu]at h; exact wpAny_eqBool_int h
   ·rw[D9]at h; exact SeqAt.EqAt.int_str i t y u _ _ _ _ h
  ·rcases cV hv with ⟨j,u,rfl,rfl⟩ | ⟨y,u,rfl,rfl⟩
   ·rw[DP]at h; exact SeqAt.EqAt.str_int x t j u _ _ _ _ h
   ·rw[Cc]at h; exact wpAny_eqBool_str h
 «strs»:=fun k x t v h=>by
  rcases cV h with ⟨i,u,rfl,e⟩ | ⟨y,u,rfl,e⟩
  ·exact nomatch e
  ·injection e with e1 _
   subst e1
   cases v <;> rfl
theorem qr(prog:Program)(w:World)(i:Int)(t:Tok):(cy prog w).is (.inl i) (.int i t)=true:=vq i t
theorem ql(prog:Program)(w:World)(x:Str)(t:Tok):(cy prog w).is (.inr x) (.str x t)=true:=vD x t
end L2
namespace L2
open PySem PySem.Spec PyProof.Rows
set_option genSizeOf false in
inductive V where
 | non | bl (b:Bool) | int (i:Int) | str (x:Str) | byt (b:Array UInt8) | flt (b:UInt64) | ref (a:Addr) | ty (n:String)
 deriving DecidableEq
def RelV:V→Value→Prop
 | .non,u=>u=Value.none
 | .bl b,u=>u=Value.bool b
 | .int i,u=>∃ t,u=Value.int i t
 | .str x,u=>∃ t,u=Value.str x t
 | .byt b,u=>∃ t,u=Value.bytes b t
 | .flt b,u=>∃ t,u=Value.float b t
 | .ref a,u=>u=Value.ref a
 | .ty n,u=>u=Value.type n
abbrev Vals:List V→List Value→Prop:=Paired RelV
theorem Vals.length{xs:List V}{us:List Value}(r:Vals xs us):xs.length=us.length:=Paired.length r
theorem Vals.get:∀ {xs:List V} {us:List Value} {i:Nat} {x:V},Vals xs us→xs[i]? = some x→∃ u,us[i]? = some u∧RelV x u
 | _,_,_,_,.nil,e=>by simp at e
 | _,_,0,_,.cons r _,e=>by simp at e; subst e; exact⟨_,rfl,r⟩
 | _,_,i+1,x,.cons _ t,e=>by
  obtain⟨u,h1,h2⟩:=Vals.get (i:=i) (x:=x) t (by simpa using e)
  exact⟨u,by simpa using h1,h2⟩
theorem Vals.set{x:V}{u:Value}(r:RelV x u):∀ {xs:List V} {us:List Value} (i:Nat),Vals xs us→Vals (xs.set i x) (us.set i u)
 | _,_,_,.nil=>.nil
 | _,_,0,.cons _ t=>.cons r t
 | _,_,i+1,.cons q t=>.cons q (Vals.set r i t)
theorem Vals.append:∀ {xs ys:List V} {us ws:List Value},Vals xs us→Vals ys ws→Vals (xs++ys) (us++ws)
 | _,_,_,_,.nil,s=>s
 | _,_,_,_,.cons r t,s=>.cons r (Vals.append t s)
theorem Vals.take:∀ {xs:List V} {us:List Value} (n:Nat),Vals xs us→Vals (xs.take n) (us.take n)
 | _,_,0,_=>.nil
 | _,_,_+1,.nil=>.nil
 | _,_,n+1,.cons r t=>.cons r (Vals.take n t)
theorem Vals.drop:∀ {xs:List V} {us:List Value} (n:Nat),Vals xs us→Vals (xs.drop n) (us.drop n)
 | _,_,0,r=>r
 | _,_,_+1,.nil=>.nil
 | _,_,n+1,.cons _ t=>Vals.drop n t
def RelO:Option V→Option Value→Prop
 | some v,some u=>RelV v u
 | none,none=>True
 | _,_=>False
def KV{κ : Type}:List (κ × V)→List (κ × Value)→Prop:=Paired fun (p:κ × V) (q:κ × Value)=>p.1=q.1∧RelV p.2 q.2
def kV:aw→V
 | .inl i=>.int i
 | .inr x=>.str x
set_option genSizeOf false in
inductive HO where
 /-- a list -/
 | lst (xs:List V)
 /-- a tuple (never changes) -/
 | tup (xs:List V)
 /-- a dict whose keys are ints and texts; one whose keys are tuples of ints and texts (the empty one is both) -/
 | dK (kvs:List (aw × V)) | dT (kvs:List (List aw × V))
 /-- a set of ints: its members, its size -/
 | set (S:Int→Bool) (n:Nat)
 /-- an instance of the class at C, its dict at dx, its attributes -/
 | ins (C dx:Addr) (fs:List (Str × V))
 /-- the dict of the instance at x -/
 | own (x:Addr)
 /-- the dict of an exception -/
 | xd (fs:List (Str × V))
 /-- a bound method, f of x -/
 | met (f x:Addr)
 /-- a range object lo, lo+1, .. below hi -/
 | rng (lo hi:Int)
 /-- a thing that is known to the object (the script; a dict while a loop walks it): read, never written while it is so -/
 | frz (o:Obj) (u:HO)
 /-- a code object's table -/
 | tbl (ps:Array Value)
 /-- any other thing, by what is true of its one object (a def of one's own: SetO a S n := HO.ext fun h => ..) -/
 | ext (φ : Heap→Prop)
abbrev Hp:=Addr→Option HO
def upd(H:Hp)(a:Addr)(o:HO):Hp:=fun b=>if b=a then some o else H b
theorem ae{H:Hp}{a:Addr}{o:HO}:upd H a o a=some o:=by unfold upd; rw[if_pos rfl]
theorem am{H:Hp}{a b:Addr}{o:HO}(h:b≠a):upd H a o b=H b:=by unfold upd; rw[if_neg h]
theorem bv{H:Hp}{a b:Addr}{o u:HO}(h:H a=some o)(h':H b=some u)(d:o≠u):a≠b:=by
 intro e; subst e; rw[h]at h'; exact d (Option.some.inj h')
theorem aM{H:Hp}{a b:Addr}{o:HO}(h:H a=some o)(h':H b=none):a≠b:=by
 intro e; subst e; rw[h]at h'; cases h'
def IsTupN(h:Heap)(a:Addr)(items:Array Value):Prop:=∃ o,h.get? a=some o∧o.cls = .type "tuple" ∧ o.dict=none∧∃ n,o.data = .seq items n
theorem IsTupN.tup{h:Heap}{a:Addr}{items:Array Value}(x:IsTupN h a items):IsTup h a items:=let ⟨o,e,c,_,d⟩:=x; ⟨o,e,c,d⟩
theorem IsTupN.lt{h:Heap}{a:Addr}{items:Array Value}(x:IsTupN h a items):a<h.objs.size:=let ⟨_,e,_⟩:=x; Heap.lt_size e
theorem IsTupN.new(h:Heap)(items:Array Value):IsTupN (h.push { cls:=.type "tuple", data:=.seq items }) h.objs.size items:=⟨_,Heap.get?_push_size _ rfl,rfl,rfl,_,rfl⟩
section
variable(P:Program)(w:World)
def ObjOk(H:Hp)(h:Heap)(a:Addr):HO→Prop
 | .lst xs=>xs.length≤sizeLine∧∃ (its:List Value) (n:Nat),Vals xs its∧h.get? a=some { cls:=.type "list", data:=.seq its.toArray n }
 | .tup xs=>xs.length≤sizeLine∧∃ its:List Value,Vals xs its∧IsTupN h a its.toArray
 | .dK kvs=>kvs.length≤sizeLine∧(a == sysModules)=false∧∃ vs,KV kvs vs∧h.DictOf (cy P w) a vs
 | .dT kvs=>kvs.length≤sizeLine∧(a == sysModules)=false∧∃ xs:List (List aw × Addr × Value),
   Paired (fun (p:List aw × V) (q:List aw × Addr × Value)=>p.1=q.1∧H q.2.1=some (.tup (p.1.map kV))∧RelV p.2 q.2.2) kvs xs∧
   ∃ o es ep,h.get? a=some o∧o.ExactDict∧o.data = .dict es ep∧es.toList=xs.map (entryOfKey (tupleKind (cy P w)))∧(xs.map (·.1)).Nodup
 | .set S n=>h.SetOf (intKind P w) a S n
 | .ins C dx fs=>H dx=some (.own a)∧fs.length≤1000∧dx≠a∧h.get? a=some (PySem.W.instObj C dx)∧
   ∃ mA,h.Ns1 dx mA∧(∀ f,RelO (fs.lookup f) (mA f))∧PySem.Within mA (fs.map (·.1))
 | .own _=>∃ o,h.get? a=some o
 | .xd fs=>∃ mA,h.Ns1 a mA∧∀ f,RelO (fs.lookup f) (mA f)
 | .rng lo hi=>∃ t u v,h.get? a=some { cls:=.type "range", data:=.fields #[.int lo t,.int hi u,.int 1 v] }
 | .frz o u=>h.get? a=some o∧ObjOk H h a u
 | .tbl ps=>h.get? a=some { cls:=.none,data:=.fields ps }
 | .met f x=>h.get? a=some (PySem.W.methodObj (.ref f) (.ref x))
 | .ext φ=>φ h∧(∃ o,h.get? a=some o)∧∀ h1 h2:Heap,φ h1→(∀ o,h1.get? a=some o→h2.get? a=some o)→φ h2
def HOk(H:Hp)(h:Heap):Prop:=∀ a o,H a=some o→ObjOk P w H h a o
end
section
variable{P:Program}{w:World}{H H':Hp}{h h':Heap}{a:Addr}{o:HO}
theorem ObjOk.lt(x:ObjOk P w H h a o):a<h.objs.size:=by
 cases o with
 | lst xs=>obtain⟨_,_,_,_,e⟩:=x; exact Heap.lt_size e
 | tup xs=>obtain⟨_,_,_,p⟩:=x; exact p.lt
 | dK kvs=>obtain⟨_,_,_,_,o,_,_,e,_⟩:=x; exact Heap.lt_size e
 | dT kvs=>obtain⟨_,_,_,_,o,_,_,e,_⟩:=x; exact Heap.lt_size e
 | set S n=>obtain⟨o,_,_,_,e,_⟩:=x; exact Heap.lt_size e
 | ins C dx fs=>obtain⟨_,_,_,e,_⟩:=x; exact Heap.lt_size e
 | own y=>obtain⟨_,e⟩:=x; exact Heap.lt_size e
 | xd fs=>obtain⟨_,⟨_,_,_,e,_⟩,_⟩:=x; exact Heap.lt_size e
 | rng lo hi=>obtain⟨_,_,_,e⟩:=x; exact Heap.lt_size e
 | frz ob u=>obtain⟨e,_⟩:=x; exact Heap.lt_size e
 | tbl ps=>exact Heap.lt_size (show h.get? a=some _ from x)
 | met f y=>exact Heap.lt_size (show h.get? a=some _ from x)
 | ext φ=>obtain⟨_,⟨_,e⟩,_⟩:=x; exact Heap.lt_size e
theorem Paired.mapP{α β : Type}{F G:α→β→Prop}:∀ {l₁:List α} {l₂:List β},Paired F l₁ l₂→(∀ a b,F a b→G a b)→Paired G l₁ l₂
 | _,_,.nil,_=>.nil
 | _,_,.cons r t,f=>.cons (f _ _ r) (Paired.mapP t f)
theorem Paired.imp'{α β : Type}{F G:α→β→Prop}(f:∀ a b,F a b→G a b){l₁:List α}{l₂:List β}(r:Paired F l₁ l₂):Paired G l₁ l₂:=Paired.mapP r f
theorem ObjOk.stay(x:ObjOk P w H h a o)(k:∀ b u,(b=a∨H b=some (.own a))→h.get? b=some u→h'.get? b=some u)
  (ho:∀ b,H b=some (.own a)→H' b=some (.own a)) (ht:∀ b xs,H b=some (.tup xs)→H' b=some (.tup xs)):ObjOk P w H' h' a o:=by
 induction o with
 | lst xs=>obtain⟨z,its,n,r,e⟩:=x; exact⟨z,its,n,r,k _ _ (.inl rfl) e⟩
 | tup xs=>obtain⟨z,its,r,ob,e,c⟩:=x; exact⟨z,its,r,ob,k _ _ (.inl rfl) e,c⟩
 | dK kvs=>obtain⟨z,y,vs,r,ob,es,ep,e,c⟩:=x; exact⟨z,y,vs,r,ob,es,ep,k _ _ (.inl rfl) e,c⟩
 | dT kvs=>
  obtain⟨z,y,xs,r,ob,es,ep,e,c⟩:=x
  exact⟨z,y,xs,Paired.mapP r fun p q z=>⟨z.1,ht _ _ z.2.1,z.2.2⟩,ob,es,ep,k _ _ (.inl rfl) e,c⟩
 | set S n=>obtain⟨ob,es,ep,t,e,c⟩:=x; exact⟨ob,es,ep,t,k _ _ (.inl rfl) e,c⟩
 | ins C dx fs=>
  obtain⟨d,z,ne,e,mA,⟨od,es,ep,e2,c⟩,r⟩:=x
  exact⟨ho _ d,z,ne,k _ _ (.inl rfl) e,mA,⟨od,es,ep,k _ _ (.inr d) e2,c⟩,r⟩
 | own y=>obtain⟨ob,e⟩:=x; exact⟨ob,k _ _ (.inl rfl) e⟩
 | xd fs=>obtain⟨mA,⟨od,es,ep,e,c⟩,r⟩:=x; exact⟨mA,⟨od,es,ep,k _ _ (.inl rfl) e,c⟩,r⟩
 | rng lo hi=>obtain⟨t,u,v,e⟩:=x; exact⟨t,u,v,k _ _ (.inl rfl) e⟩
 | frz ob u ih=>obtain⟨e,q⟩:=x; exact⟨k _ _ (.inl rfl) e,ih q⟩
 | tbl ps=>
  have e:h.get? a=some { cls:=.none,data:=.fields ps }:=x
  show h'.get? a=some { cls:=.none,data:=.fields ps }
  exact k a _ (.inl rfl) e
 | met f y=>
  have e:h.get? a=some (PySem.W.methodObj (.ref f) (.ref y)):=x
  show h'.get? a=some (PySem.W.methodObj (.ref f) (.ref y))
  exact k a _ (.inl rfl) e
 | ext φ=>obtain⟨p,⟨o,e⟩,st⟩:=x; exact⟨st _ _ p fun o q=>k _ _ (.inl rfl) q,⟨o,k _ _ (.inl rfl) e⟩,st⟩
theorem HOk.lt(x:HOk P w H h)(e:H a=some o):a<h.objs.size:=(x a o e).lt
theorem HOk.fresh(x:HOk P w H h)(e:h.objs.size≤a):H a=none:=by
 cases q:H a with
 | none=>rfl
 | some u=>exact absurd (Nat.lt_of_lt_of_le (x.lt q) e) (Nat.lt_irrefl _)
theorem HOk.kept(x:HOk P w H h)(k:∀ b u,h.get? b=some u→h'.get? b=some u):HOk P w H h':=fun a o e=>
 (x a o e).stay (fun b u _ q=>k b u q) (fun _ q=>q) fun _ _ q=>q
theorem HOk.laid(x:HOk P w H h)(k:∀ b u,h.get? b=some u→h'.get? b=some u)(hp:h.objs.size≤a)(new:ObjOk P w (upd H a o) h' a o):HOk P w (upd H a o) h':=fun b u e=>by
 have hn:=x.fresh hp
 by_cases hb:b=a
 ·subst hb; rw[ae]at e; cases e; exact new
 ·rw[am hb]at e
  exact(x b u e).stay (fun c v _ q=>k c v q) (fun c q=>by rw[am (aM q hn)]; exact q) fun c xs q=>by rw[am (aM q hn)]; exact q
end
def Rd(H:Hp)(a:Addr)(u:HO):Prop:=H a=some u∨∃ o,H a=some (.frz o u)
theorem Rd.ok{P:Program}{w:World}{H:Hp}{h:Heap}{a:Addr}{u:HO}(r:Rd H a u)(x:HOk P w H h):ObjOk P w H h a u:=by
 rcases r with r | ⟨o,r⟩
 ·exact x a u r
 ·obtain⟨_,q⟩:=x a _ r
  exact q
def wn:Option HO→Prop
 | some (.lst _)=>True
 | some (.dK _)=>True
 | some (.dT _)=>True
 | some (.set _ _)=>True
 | some (.ins _ _ _)=>True
 | some (.ext _)=>True
 | _=>False
section
variable{P:Program}{w:World}{H:Hp}{h h':Heap}{x e:Addr}{o':HO}
theorem HOk.write(ok:HOk P w H h)(mu:wn (H x))(he:e=x∨H e=some (.own x))(k:∀ b u,b≠e→h.get? b=some u→h'.get? b=some u)(heo:∃ u,h'.get? e=some u)
  (new:ObjOk P w (upd H x o') h' x o'):HOk P w (upd H x o') h':=fun b u q=>by
 have nown:∀ c y,H c=some (.own y)→c≠x:=fun c y r z=>by subst z; rw[r]at mu; exact mu
 have ntup:∀ c xs,H c=some (.tup xs)→c≠x:=fun c xs r z=>by subst z; rw[r]at mu; exact mu
 by_cases hb:b=x
 ·subst hb; rw[ae]at q; cases q; exact new
 ·rw[am hb]at q
  by_cases hbe:b=e
  ·have q':H b=some (.own x):=by
    rcases he with z | z
    ·exact absurd (hbe.trans z) hb
    ·rw[hbe]; exact z
   rw[q]at q'; cases q'
   obtain⟨v,hv⟩:=heo
   exact⟨v,by rw[hbe]; exact hv⟩
  ·refine(ok b u q).stay (fun c v hc r=>k c v ?_ r) (fun c r=>by rw[am (nown c b r)]; exact r) fun c xs r=>by rw[am (ntup c xs r)]; exact r
   rcases hc with rfl | hc
   ·exact hbe
   ·rintro rfl
    rcases he with z | z
    ·exact nown c b hc z
    ·rw[hc]at z; cases z; exact hb rfl
end
structure Un (fs ex:List Addr) (H H':Hp) (h h':Heap):Prop where
 keep:∀ b o,h.get? b=some o→H b=none→b∉fs→b∉ex→h'.get? b=some o
 slot:∀ b o,h.get? b=some o→H b=none→b∈fs→b∉ex→∃ sl,h'.get? b=some { o with slots:=sl }
 free:∀ b o,h.get? b=some o→H b=none→b∉ex→H' b=none
 there:∀ b o,h.get? b=some o→b∉ex→∃ o',h'.get? b=some o'
 tups:∀ b xs,H b=some (.tup xs)→H' b=some (.tup xs)
 frzs:∀ b o u,H b=some (.frz o u)→H' b=some (.frz o u)
 tbls:∀ b ps,H b=some (.tbl ps)→∃ more,H' b=some (.tbl (ps++more))
section
variable{fs fs' ex ex':List Addr}{H H1 H2:Hp}{h h1 h2 h':Heap}{a x e:Addr}{o:HO}
theorem Un.any(u:Un fs ex H H1 h h1){b:Addr}{ob:Obj}(q:h.get? b=some ob)(n:H b=none)(hx:b∉ex):∃ sl,h1.get? b=some { ob with slots:=sl }:=by
 by_cases hb:b∈fs
 ·exact u.slot b ob q n hb hx
 ·exact⟨ob.slots,u.keep b ob q n hb hx⟩
theorem Un.kept(k:∀ b u,h.get? b=some u→h'.get? b=some u):Un fs ex H H h h':=
 ⟨fun b ob q _ _ _=>k b ob q,fun b ob q _ _ _=>⟨ob.slots,k b ob q⟩,fun _ _ _ n _=>n,fun b ob q _=>⟨ob,k b ob q⟩,fun _ _ q=>q,fun _ _ _ q=>q,fun _ ps q=>⟨#[],by rw[q]; simp⟩⟩
theorem Un.refl:Un fs ex H H h h:=Un.kept fun _ _ q=>q
theorem Un.laid(k:∀ b u,h.get? b=some u→h'.get? b=some u)(hp:h.objs.size≤a)(hn:H a=none):Un fs ex H (upd H a o) h h' where
 keep:=fun b u q _ _ _=>k b u q
 slot:=fun b u q _ _ _=>⟨u.slots,k b u q⟩
 free:=fun b u q n _=>by rw[am (Nat.ne_of_lt (Nat.lt_of_lt_of_le (Heap.lt_size q) hp))]; exact n
 there:=fun b u q _=>⟨u,k b u q⟩
 tups:=fun b xs q=>by rw[am (aM q hn)]; exact q
 frzs:=fun b u xs q=>by rw[am (aM q hn)]; exact q
 tbls:=fun b ps q=>⟨#[],by rw[am (aM q hn),q]; simp⟩
theorem Un.write(mu:wn (H x))(he:e=x∨H e=some (.own x))(k:∀ b u,b≠e→h.get? b=some u→h'.get? b=some u)(heo:∃ u,h'.get? e=some u):Un fs ex H (upd H x o) h h':=by
 have hx:∀ b,H b=none→b≠x:=fun b n z=>by subst z; rw[n]at mu; exact mu
 have hb:∀ b,H b=none→b≠e:=fun b n z=>by
  subst z;rcases he with r | r
  ·exact hx b n r
  ·rw[n]at r; cases r
 have hm:∀ b u,H b=some u→¬ wn (some u)→b≠x:=fun b u q nm z=>by subst z; rw[q]at mu; exact nm mu
 refine⟨fun b u q n _ _=>k b u (hb b n) q,fun b u q n _ _=>⟨u.slots,k b u (hb b n) q⟩,fun b u q n _=>by rw[am (hx b n)]; exact n,fun b u q _=>?_,
  fun b xs q=>by rw[am (hm b _ q fun z=>z)]; exact q,fun b u xs q=>by rw[am (hm b _ q fun z=>z)]; exact q,fun b ps q=>⟨#[],by rw[am (hm b _ q fun z=>z),q]; simp⟩⟩
 by_cases hbe:b=e
 ·subst hbe; exact heo
 ·exact⟨u,k b u hbe q⟩
end
def Aa(h:Heap)(H:Hp):List Addr:=(List.range h.objs.size).filter fun a=>(H a).isSome
def jb(h:Heap)(H:Hp):Heap:=PySem.W.hideAll h (Aa h H)
theorem vI(h:Heap)(H:Hp):(jb h H).objs.size=h.objs.size:=PySem.W.hideAll_size _ _
theorem yR{h:Heap}{H:Hp}{b:Addr}{o:Obj}(e:h.get? b=some o)(n:H b=none):(jb h H).get? b=some o:=
 PySem.W.hideAll_get _ e fun hm=>by
  have q:(H b).isSome=true:=(List.mem_filter.mp hm).2
  rw[n]at q; simp at q
theorem BG{h:Heap}{H:Hp}{b:Addr}{o:Obj}(e:(jb h H).get? b=some o):h.get? b=some o∧H b=none:=by
 have e':h.get? b=some o:=PySem.W.of_hideAll (Aa h H) e
 refine⟨e',?_⟩
 cases q:H b with
 | none=>rfl
 | some x=>
  have hm:b∈Aa h H:=List.mem_filter.mpr ⟨List.mem_range.mpr (Heap.lt_size e'),by simp[q]⟩
  have z:(jb h H).get? b=none:=PySem.W.hideAll_none (Aa h H) hm
  rw[z]at e; cases e
def Bd(g h:Heap)(L:Addr):List (Addr × Obj):=(List.range h.objs.size).filterMap fun a=>if a=L∨(g.get? a).isSome=true then none else (h.get? a).map fun o=>(a,o)
def rest(g h:Heap)(L d:Addr):List (Addr × Obj):=(Bd g h L).filter fun p=>decide (p.1≠d)
end L2
namespace L2
open PySem PySem.Spec PyProof.Rows
structure Mod (K:PySem.W.Frag) (mg:Str→Option Value) (base:Heap):Prop where
 kin:K.In base
 glob:base.Ns mainGlobals mg
 blt:∃ mb,base.Ns builtinsNs mb∧∀ x:Str,x ≠ "__name__" → mb x=bootBuiltins x
 nolimit:base.NoLimit
set_option genInjectivity false in
set_option genSizeOf false in
structure Cx where
 prog:Program
 w:World
 K:PySem.W.Frag
 mg:Str→Option Value
 base:Heap
 A:Around
 N:List Str
 s₀ : Shared
 H₀ : Hp
 env:Env
 outer:List Env
 stack:List Env
 ex:List Addr
 fn:Str→Bool
 calm:Bool
 pn:List (Addr × Obj)
 xe:Value→Shared→Prop
def jl(l:List Env):List Addr:=l.filterMap (·.frame)
abbrev Cx.fs (X:Cx):List Addr:=jl X.outer
def ao(sc:Scope)(x:Str):Prop:=sc.names.lookup x=some .local∨sc.names.lookup x=some .cell∨sc.names.lookup x=some .free
def aT(sc:Scope)(x:Str):Prop:=sc.names.lookup x=some .local∨sc.names.lookup x=some .cell
def FQ(env:Env)(h:Heap)(m:Str→Option Value)(x:Str)(u:Value):Prop:=
 (env.kindOf x=some .local∧m x=some u)∨((env.kindOf x=some .cell∨env.kindOf x=some .free)∧∃ c,env.cells.lookup x=some c∧h.IsCell c (some u))
structure Cx.Ok (X:Cx):Prop where
 mod:Mod X.K X.mg X.base
 kind:X.env.scope.kind = .function
 glob:X.env.globals=mainGlobals
 blt:X.env.builtins=builtinsNs
 above:X.s₀.heap.objs.size≤X.env.locals
 inj:∀ x y c,X.env.cells.lookup x=some c→X.env.cells.lookup y=some c→x=y
 has:∀ x,(X.env.kindOf x=some .cell∨X.env.kindOf x=some .free)→∃ c,X.env.cells.lookup x=some c
 cab:∀ x c,X.fn x=true→X.env.cells.lookup x=some c→X.s₀.heap.objs.size≤c
 hd:X.calm=true→X.A.handled=none
 frames:X.A.frames=some X.stack
 stk:X.stack=X.outer∨(X.stack=X.env::X.outer∧X.env.frame=some X.env.locals)
 exf:∀ b∈X.ex,b≠X.env.locals∧∀ x c,X.env.cells.lookup x=some c→c≠b
 bs:∀ b o,X.base.get? b=some o→X.s₀.heap.get? b=some o∧X.H₀ b=none
 bsz:X.base.objs.size≤X.s₀.heap.objs.size
 noex:∀ b o,X.base.get? b=some o→b∉X.ex
 exfs:∀ b∈X.ex,b∉X.fs
 funs:X.s₀.heap.FunFrames X.base X.outer
 frf:∀ b∈X.fs,X.H₀ b=none
structure Inv (X:Cx) (pins:List (Addr × Obj)) (σ : List (Option V)) (H:Hp) (s:Shared):Prop where
 ok:X.Ok
 os:s.os=X.s₀.os
 bare:AllBare s.gens
 base:Un X.fs X.ex X.H₀ H X.s₀.heap s.heap
 loc:∃ m,s.heap.Ns X.env.locals m∧∀ (i:Nat) (x:Str) (v:V),X.N[i]? = some x→σ[i]? = some (some v)→ao X.env.scope x→∃ u,RelV v u∧FQ X.env s.heap m x u
 cell:∀ x c,X.env.cells.lookup x=some c→∃ v,s.heap.IsCell c v
 free:H X.env.locals=none
 freeC:∀ x c,X.env.cells.lookup x=some c→H c=none
 pin:∀ p∈X.pn++pins,s.heap.get? p.1=some p.2∧H p.1=none∧p.1≠X.env.locals∧p.1∉X.fs∧∀ v,p.2.data ≠ .cell v
 hok:HOk X.prog X.w H s.heap
 len:σ.length=X.N.length
section
variable{X:Cx}{pins:List (Addr × Obj)}{σ : List (Option V)}{H H':Hp}{s:Shared}{h':Heap}
theorem Cx.Ok.nofr(ok:X.Ok){b:Addr}{o:Obj}(e:X.base.get? b=some o):b∉X.fs:=fun hb=>by
 have:=(ok.funs.mem hb).1
 rw[e]at this; cases this
theorem Inv.bs(I:Inv X pins σ H s):∀ b o,X.base.get? b=some o→s.heap.get? b=some o∧H b=none:=fun b o e=>
 ⟨I.base.keep b o (I.ok.bs b o e).1 (I.ok.bs b o e).2 (I.ok.nofr e) (I.ok.noex b o e),I.base.free b o (I.ok.bs b o e).1 (I.ok.bs b o e).2 (I.ok.noex b o e)⟩
theorem Inv.bk(I:Inv X pins σ H s):∀ b o,X.base.get? b=some o→s.heap.get? b=some o:=fun b o e=>(I.bs b o e).1
theorem Inv.mod(I:Inv X pins σ H s):Mod X.K X.mg X.base:=I.ok.mod
theorem Inv.kIn(I:Inv X pins σ H s):X.K.In s.heap:=I.ok.mod.kin.keeps I.bk
theorem Inv.lt(I:Inv X pins σ H s):X.env.locals<s.heap.objs.size:=let ⟨_,hn,_⟩:=I.loc; hn.lt
theorem Inv.sz(I:Inv X pins σ H s):X.s₀.heap.objs.size≤s.heap.objs.size:=Nat.le_trans I.ok.above (Nat.le_of_lt I.lt)
theorem Inv.nofs(I:Inv X pins σ H s){a:Addr}(h:s.heap.objs.size≤a):a∉X.fs:=fun hb=>by
 obtain⟨_,o,ho,_⟩:=I.ok.funs.mem hb
 exact absurd (Nat.lt_of_lt_of_le (Heap.lt_size ho) (Nat.le_trans I.sz h)) (Nat.lt_irrefl _)
theorem Inv.cne(I:Inv X pins σ H s):∀ x c,X.env.cells.lookup x=some c→c≠X.env.locals:=fun x c e z=>by
 obtain⟨v,o,ho,hd⟩:=I.cell x c e
 obtain⟨m,⟨o',es,ep,ho',hd',_⟩,_⟩:=I.loc
 rw[z,ho']at ho; cases ho; rw[hd']at hd; cases hd
theorem Inv.funs(I:Inv X pins σ H s):s.heap.FunFrames X.base X.outer:=by
 have all:∀ (l:List Env),(∀ b∈jl l,b∈X.fs)→X.s₀.heap.FunFrames X.base l→s.heap.FunFrames X.base l:=by
  intro l
  induction l with
  | nil=>intro _ _; trivial
  | cons env r ih=>
   intro hs hl
   obtain⟨hk,⟨L,o,hf,hn,ho,hd⟩,hr⟩:=hl
   have hL:L∈X.fs:=hs L (by unfold jl; rw[List.filterMap_cons,hf]; exact List.mem_cons_self)
   obtain⟨sl,e⟩:=I.base.slot L o ho (I.ok.frf L hL) hL fun z=>I.ok.exfs L z hL
   exact⟨hk,⟨L,_,hf,hn,e,hd⟩,ih (fun b hb=>hs b (by unfold jl; rw[List.filterMap_cons,hf]; exact List.mem_cons_of_mem _ hb)) hr⟩
 exact all X.outer (fun _ hb=>hb) I.ok.funs
theorem Inv.stack(I:Inv X pins σ H s):s.heap.FunFrames X.base X.stack:=by
 rcases I.ok.stk with e | ⟨e,hf⟩
 ·rw[e]; exact I.funs
 ·rw[e]
  obtain⟨m,hn,_⟩:=I.loc
  refine .cons (by rw[I.ok.kind]; decide) hf hn ?_ I.funs
  exact Heap.get?_none_of_le (Nat.le_trans I.ok.bsz I.ok.above)
theorem Inv.stkSub(I:Inv X pins σ H s):∀ b∈jl X.stack,b∈X.env.locals::X.fs:=fun b hb=>by
 rcases I.ok.stk with e | ⟨e,hf⟩
 ·rw[e]at hb; exact List.mem_cons_of_mem _ hb
 ·rw[e]at hb
  unfold jl at hb;rw[List.filterMap_cons,hf]at hb
  exact hb
theorem Inv.stkFree(I:Inv X pins σ H s):∀ b∈jl X.stack,H b=none:=fun b hb=>by
 rcases List.mem_cons.mp (I.stkSub b hb) with e | hb
 ·rw[e]; exact I.free
 ·obtain⟨_,o,ho,_⟩:=I.ok.funs.mem hb
  exact I.base.free b o ho (I.ok.frf b hb) fun z=>I.ok.exfs b z hb
theorem Inv.step{g':Array GenState}{t':Nat}{d':Drawn}{ch:List Addr}(I:Inv X pins σ H s)
  (hch:∀ b∈ch,(b∈X.ex∨X.s₀.heap.objs.size≤b)∧b≠X.env.locals∧(∀ x c,X.env.cells.lookup x=some c→c≠b)∧∀ p∈X.pn++pins,p.1≠b)
  (keep:∀ b o,b≠X.env.locals→b∉X.fs→b∉ch→s.heap.get? b=some o→H b=none→h'.get? b=some o)
  (slot:∀ b o,b≠X.env.locals→b∈X.fs→b∉ch→s.heap.get? b=some o→H b=none→∃ sl,h'.get? b=some { o with slots:=sl }) (free:∀ b o,b∉ch→s.heap.get? b=some o→H b=none→H' b=none)
  (there:∀ b o,b∉ch→s.heap.get? b=some o→∃ o',h'.get? b=some o')
  (tups:∀ b xs,H b=some (.tup xs)→H' b=some (.tup xs)) (frzs:∀ b o u,H b=some (.frz o u)→H' b=some (.frz o u)) (tbls:∀ b ps,H b=some (.tbl ps)→∃ more,H' b=some (.tbl (ps++more)))
  (ns:∀ m,s.heap.Ns X.env.locals m→h'.Ns X.env.locals m) (hok:HOk X.prog X.w H' h') (hg:AllBare g') :
  Inv X pins σ H' { s with heap:=h',gens:=g',drawn:=d',toks:=t' }:=by
 have neL:∀ b o,X.s₀.heap.get? b=some o→b≠X.env.locals:=fun b o e=>Nat.ne_of_lt (Nat.lt_of_lt_of_le (Heap.lt_size e) I.ok.above)
 have neC:∀ b o,X.s₀.heap.get? b=some o→b∉X.ex→b∉ch:=fun b o e hx hb=>by
  rcases(hch b hb).1 with z | z
  ·exact hx z
  ·exact absurd (Nat.lt_of_lt_of_le (Heap.lt_size e) z) (Nat.lt_irrefl _)
 have cellK:∀ x c,X.env.cells.lookup x=some c→∀ v,s.heap.IsCell c v→h'.IsCell c v:=fun x c e v ⟨o,ho,hd⟩=>by
  have nch:c∉ch:=fun z=>(hch c z).2.2.1 x c e rfl
  by_cases hc:c∈X.fs
  ·obtain⟨sl,q⟩:=slot c o (I.cne x c e) hc nch ho (I.freeC x c e)
   exact⟨_,q,hd⟩
  ·exact⟨o,keep c o (I.cne x c e) hc nch ho (I.freeC x c e),hd⟩
 refine⟨I.ok,I.os,hg,⟨fun b o e n hb hx=>?_,fun b o e n hb hx=>?_,fun b o e n hx=>?_,fun b o e hx=>?_,fun b xs e=>tups b xs (I.base.tups b xs e),fun b o xs e=>frzs b o xs (I.base.frzs b o xs e),fun b ps e=>?_⟩,?_,fun x c e=>?_,?_,fun x c e=>?_,fun p hp=>?_,hok,I.len⟩
 ·exact keep b o (neL b o e) hb (neC b o e hx) (I.base.keep b o e n hb hx) (I.base.free b o e n hx)
 ·obtain⟨sl,e1⟩:=I.base.slot b o e n hb hx
  obtain⟨sl',e2⟩:=slot b _ (neL b o e) hb (neC b o e hx) e1 (I.base.free b o e n hx)
  exact⟨sl',e2⟩
 ·obtain⟨o',e1⟩:=I.base.there b o e hx
  exact free b o' (neC b o e hx) e1 (I.base.free b o e n hx)
 ·obtain⟨o',e1⟩:=I.base.there b o e hx
  exact there b o' (neC b o e hx) e1
 ·obtain⟨m1,e1⟩:=I.base.tbls b ps e
  obtain⟨m2,e2⟩:=tbls b _ e1
  exact⟨m1++m2,by rw[e2,Array.append_assoc]⟩
 ·obtain⟨m,hn,hl⟩:=I.loc
  refine⟨m,ns m hn,fun i x v e1 e2 e3=>?_⟩
  obtain⟨u,r,l⟩:=hl i x v e1 e2 e3
  refine⟨u,r,?_⟩
  rcases l with l | ⟨k,c,e,z⟩
  ·exact .inl l
  ·exact .inr ⟨k,c,e,cellK x c e _ z⟩
 ·obtain⟨v,z⟩:=I.cell x c e
  exact⟨v,cellK x c e v z⟩
 ·obtain⟨m,⟨o,_,_,ho,_⟩,_⟩:=I.loc
  exact free _ o (fun z=>(hch _ z).2.1 rfl) ho I.free
 ·obtain⟨v,o,ho,hd⟩:=I.cell x c e
  exact free c o (fun z=>(hch c z).2.2.1 x c e rfl) ho (I.freeC x c e)
 ·obtain⟨e,n,ne,nf,d⟩:=I.pin p hp
  have nch:p.1∉ch:=fun z=>(hch p.1 z).2.2.2 p hp rfl
  exact⟨keep p.1 p.2 ne nf nch e n,free p.1 p.2 nch e n,ne,nf,d⟩
theorem Inv.un{t':Nat}(I:Inv X pins σ H s)(u:Un X.fs [] H H' s.heap h')(hok:HOk X.prog X.w H' h'):Inv X pins σ H' { s with heap:=h',toks:=t' }:=by
 obtain⟨m,⟨o,es,ep,ho,r⟩,_⟩:=id I.loc
 obtain⟨sl,hL⟩:=u.any ho I.free (by simp)
 exact I.step (g':=s.gens) (d':=s.drawn) (ch:=[]) (fun _ z=>nomatch z) (fun b o _ hb _ e n=>u.keep b o e n hb (by simp)) (fun b o _ hb _ e n=>u.slot b o e n hb (by simp)) (fun b o _ e n=>u.free b o e n (by simp)) (fun b o _ e=>u.there b o e (by simp)) u.tups u.frzs u.tbls (fun m' hm=>by
  obtain⟨o',es',ep',ho',r'⟩:=hm
  rw[ho]at ho'; cases ho'
  exact⟨_,es',ep',hL,r'⟩) hok I.bare
theorem Inv.call{g':Array GenState}{t':Nat}{d':Drawn}{ch:List Addr}(I:Inv X pins σ H s)(u:Un (jl X.stack) ch H H' s.heap h')(hok:HOk X.prog X.w H' h')(hg:AllBare g')
  (hch:∀ b∈ch,(b∈X.ex∨X.s₀.heap.objs.size≤b)∧b≠X.env.locals∧(∀ x c,X.env.cells.lookup x=some c→c≠b)∧∀ p∈X.pn++pins,p.1≠b) :
  Inv X pins σ H' { s with heap:=h',gens:=g',drawn:=d',toks:=t' }:=by
 obtain⟨m,⟨o,es,ep,ho,r⟩,_⟩:=id I.loc
 obtain⟨sl,hL⟩:=u.any ho I.free fun z=>(hch _ z).2.1 rfl
 exact I.step (ch:=ch) hch (fun b o hL hb hc e n=>u.keep b o e n (fun z=>(List.mem_cons.mp (I.stkSub b z)).elim hL hb) hc) (fun b o _ _ hc e n=>u.any e n hc) (fun b o hc e n=>u.free b o e n hc) (fun b o hc e=>u.there b o e hc) u.tups u.frzs u.tbls (fun m' hm=>by
  obtain⟨o',es',ep',ho',r'⟩:=hm
  rw[ho]at ho'; cases ho'
  exact⟨_,es',ep',hL,r'⟩) hok hg
theorem Inv.turned{t':Nat}{it:Addr}(I:Inv X pins σ H s)(k:∀ b o,b≠it→s.heap.get? b=some o→h'.get? b=some o)(hn:H it=none)(hL:it≠X.env.locals)
  (h1:it∈X.ex∨X.s₀.heap.objs.size≤it) (h2:∀ x c,X.env.cells.lookup x=some c→c≠it) (h3:∀ p∈X.pn++pins,p.1≠it):Inv X pins σ H { s with heap:=h',toks:=t' }:=by
 have nit:∀ b u,H b=some u→b≠it:=fun b u e z=>by rw[z,hn]at e; cases e
 refine I.step (g':=s.gens) (d':=s.drawn) (ch:=[it]) (fun b hb=>?_) (fun b o _ _ hc e _=>k b o (fun z=>hc (by simp[z])) e) (fun b o _ _ hc e _=>⟨o.slots,k b o (fun z=>hc (by simp[z])) e⟩) (fun _ _ _ _ n=>n)
  (fun b o hc e=>⟨o,k b o (fun z=>hc (by simp[z])) e⟩) (fun _ _ e=>e) (fun _ _ _ e=>e) (fun b ps e=>⟨#[],by rw[e]; simp⟩) (fun m hm=>?_) (fun b u e=>?_) I.bare
 ·have e:b=it:=by simpa using hb
  subst e;exact⟨h1,hL,h2,h3⟩
 ·obtain⟨o,es,ep,ho,r⟩:=hm
  exact⟨o,es,ep,k _ o (Ne.symm hL) ho,r⟩
 ·refine(I.hok b u e).stay (fun c v hc q=>k c v ?_ q) (fun _ q=>q) fun _ _ q=>q
  rcases hc with z | z
  ·rw[z]; exact nit b u e
  ·exact nit c _ z
theorem Inv.tok(I:Inv X pins σ H s)(t:Nat):Inv X pins σ H { s with toks:=t }:=I.un (h':=s.heap) (t':=t) Un.refl I.hok
theorem Inv.kept{t':Nat}(I:Inv X pins σ H s)(k:∀ b u,s.heap.get? b=some u→h'.get? b=some u):Inv X pins σ H { s with heap:=h',toks:=t' }:=I.un (Un.kept k) (I.hok.kept k)
theorem Inv.laid{a:Addr}{o:HO}{t':Nat}(I:Inv X pins σ H s)(k:∀ b u,s.heap.get? b=some u→h'.get? b=some u)(hp:s.heap.objs.size≤a)(new:ObjOk X.prog X.w (upd H a o) h' a o) :
  Inv X pins σ (upd H a o) { s with heap:=h',toks:=t' }:=I.un (Un.laid k hp (I.hok.fresh hp)) (I.hok.laid k hp new)
theorem Inv.write{x e:Addr}{o:HO}{t':Nat}(I:Inv X pins σ H s)(mu:wn (H x))(he:e=x∨H e=some (.own x))(k:∀ b u,b≠e→s.heap.get? b=some u→h'.get? b=some u)(heo:∃ u,h'.get? e=some u)
  (new:ObjOk X.prog X.w (upd H x o) h' x o):Inv X pins σ (upd H x o) { s with heap:=h',toks:=t' }:=I.un (Un.write mu he k heo) (I.hok.write mu he k heo new)
theorem Inv.weak{σ':List (Option V)}(I:Inv X pins σ H s)(hl:σ'.length=σ.length)(w:∀ (i:Nat) v,σ'[i]? = some (some v)→σ[i]? = some (some v)):Inv X pins σ' H s:=
 ⟨I.ok,I.os,I.bare,I.base,let ⟨m,hn,hl'⟩:=I.loc; ⟨m,hn,fun i x v e1 e2 e3=>hl' i x v e1 (w i v e2) e3⟩,I.cell,I.free,I.freeC,I.pin,I.hok,hl.trans I.len⟩
theorem Inv.pins_of{pins':List (Addr × Obj)}(I:Inv X pins σ H s)(h:∀ p∈pins',s.heap.get? p.1=some p.2∧H p.1=none∧p.1≠X.env.locals∧p.1∉X.fs∧∀ v,p.2.data ≠ .cell v):Inv X pins' σ H s:=
 ⟨I.ok,I.os,I.bare,I.base,I.loc,I.cell,I.free,I.freeC,fun p hp=>(List.mem_append.mp hp).elim (fun z=>I.pin p (List.mem_append_left _ z)) (h p),I.hok,I.len⟩
theorem om{N:List Str}(hN:N.Nodup){i j:Nat}{x:Str}(a:N[i]? = some x)(b:N[j]? = some x):i=j:=by
 obtain⟨h1,e1⟩:=List.getElem?_eq_some_iff.mp a
 obtain⟨h2,e2⟩:=List.getElem?_eq_some_iff.mp b
 exact(List.getElem_inj hN).mp (e1.trans e2.symm)
theorem nJ{M:Model}{A:Around}{E:Value→Shared→Prop}{i:Nat}{x:Str}{v:V}{u:Value}{Q:Unit→Shared→Prop}(I:Inv X pins σ H s)(hN:X.N.Nodup)(hi:X.N[i]? = some x)(hx:aT X.env.scope x)(r:RelV v u)
  (h:∀ s',Inv X pins (σ.set i (some v)) H s'→(∃ a,Heap.SameBut a s.heap s'.heap∧(a=X.env.locals∨X.env.cells.lookup x=some a))→Q () s') (hf:X.fn x=true∨X.env.scope.names.lookup x=some .local:=by first | exact .inl rfl | exact .inr rfl | assumption):wpAny M A (storeName X.env x u) Q E s:=by
 obtain⟨m,hn,hl⟩:=id I.loc
 have hcls:(X.env.scope.kind == .class||(X.env.scope.kind == .module&&X.env.locals != X.env.globals))=false:=by rw[I.ok.kind]; rfl
 have hiσ : i<σ.length:=by rw[I.len]; exact(List.getElem?_eq_some_iff.mp hi).1
 have cne:=I.cne
 have tracked:∀ {a:Addr} {h':Heap},(∃ o,s.heap.get? a=some o∧H a=none)→Heap.SameBut a s.heap h'→HOk X.prog X.w H h':=fun {a h'} ha hs b ob e=>by
  obtain⟨_,_,hfree⟩:=ha
  refine(I.hok b ob e).stay (fun c w' hc q=>(hs.2 c ?_).trans q) (fun _ q=>q) fun _ _ q=>q
  rintro rfl
  rcases hc with rfl | hc
  ·rw[hfree]at e; cases e
  ·rw[hfree]at hc; cases hc
 rcases hx with hk | hk
 ·refine wpAny_storeName_local hk hn (fun h' hn' hs=>?_) hcls
  obtain⟨oL,_,_,hoL,_⟩:=id hn
  refine h _ ⟨I.ok,I.os,I.bare,⟨fun b o e n hb hx=>?_,fun b o e n hb hx=>?_,I.base.free,fun b o e hx=>?_,I.base.tups,I.base.frzs,I.base.tbls⟩,⟨_,hn',fun j y v' e1 e2 e3=>?_⟩,fun y c e=>?_,I.free,I.freeC,fun p hp=>?_,tracked ⟨oL,hoL,I.free⟩ hs,by simpa using I.len⟩ ⟨_,hs,.inl rfl⟩
  ·exact(hs.2 b (Nat.ne_of_lt (Nat.lt_of_lt_of_le (Heap.lt_size e) I.ok.above))).trans (I.base.keep b o e n hb hx)
  ·obtain⟨sl,e1⟩:=I.base.slot b o e n hb hx
   exact⟨sl,(hs.2 b (Nat.ne_of_lt (Nat.lt_of_lt_of_le (Heap.lt_size e) I.ok.above))).trans e1⟩
  ·obtain⟨o',e1⟩:=I.base.there b o e hx
   exact⟨o',(hs.2 b (Nat.ne_of_lt (Nat.lt_of_lt_of_le (Heap.lt_size e) I.ok.above))).trans e1⟩
  ·by_cases hj:j=i
   ·subst hj
    rw[hi]at e1; cases e1
    rw[List.getElem?_set_self hiσ]at e2
    cases e2;exact⟨u,r,.inl ⟨hk,by simp⟩⟩
   ·rw[List.getElem?_set_ne (Ne.symm hj)]at e2
    obtain⟨u',r',q⟩:=hl j y v' e1 e2 e3
    refine⟨u',r',?_⟩
    rcases q with ⟨k,e⟩ | ⟨k,c,e,z⟩
    ·refine .inl ⟨k,?_⟩
     have:y≠x:=fun e=>hj (om hN e1 (e ▸ hi))
     simp[this,e]
    ·exact .inr ⟨k,c,e,z.sameBut hs (cne y c e)⟩
  ·obtain⟨w',z⟩:=I.cell y c e
   exact⟨w',z.sameBut hs (cne y c e)⟩
  ·obtain⟨e,n,ne,nf,d⟩:=I.pin p hp
   exact⟨(hs.2 p.1 ne).trans e,n,ne,nf,d⟩
 ·have hfn:X.fn x=true:=by
   rcases hf with z | z
   ·exact z
   ·rw[z]at hk; cases hk
  obtain⟨c,hc⟩:=I.ok.has x (.inl hk)
  obtain⟨w',z⟩:=I.cell x c hc
  refine wpAny_storeName_cell I.ok.kind hk hc z (fun h' hc' hs=>?_)
  obtain⟨oc,hoc,hocd⟩:=id z
  refine h { s with heap:=h' } ⟨I.ok,I.os,I.bare,⟨fun b o e n hb hx=>?_,fun b o e n hb hx=>?_,I.base.free,fun b o e hx=>?_,I.base.tups,I.base.frzs,I.base.tbls⟩,⟨m,hn.sameBut hs (Ne.symm (cne x c hc)),fun j y v' e1 e2 e3=>?_⟩,fun y c' e=>?_,I.free,I.freeC,fun p hp=>?_,tracked ⟨oc,hoc,I.freeC x c hc⟩ hs,by simpa using I.len⟩ ⟨c,hs,.inr hc⟩
  ·exact(hs.2 b (Nat.ne_of_lt (Nat.lt_of_lt_of_le (Heap.lt_size e) (I.ok.cab x c hfn hc)))).trans (I.base.keep b o e n hb hx)
  ·obtain⟨sl,e1⟩:=I.base.slot b o e n hb hx
   exact⟨sl,(hs.2 b (Nat.ne_of_lt (Nat.lt_of_lt_of_le (Heap.lt_size e) (I.ok.cab x c hfn hc)))).trans e1⟩
  ·obtain⟨o',e1⟩:=I.base.there b o e hx
   exact⟨o',(hs.2 b (Nat.ne_of_lt (Nat.lt_of_lt_of_le (Heap.lt_size e) (I.ok.cab x c hfn hc)))).trans e1⟩
  ·by_cases hj:j=i
   ·subst hj
    rw[hi]at e1; cases e1
    rw[List.getElem?_set_self hiσ]at e2
    cases e2;exact⟨u,r,.inr ⟨.inl hk,c,hc,hc'⟩⟩
   ·rw[List.getElem?_set_ne (Ne.symm hj)]at e2
    obtain⟨u',r',q⟩:=hl j y v' e1 e2 e3
    refine⟨u',r',?_⟩
    rcases q with q | ⟨k,c',e,z'⟩
    ·exact .inl q
    ·refine .inr ⟨k,c',e,z'.sameBut hs ?_⟩
     rintro rfl
     exact hj (om hN e1 (I.ok.inj _ _ _ e hc ▸ hi))
  ·by_cases hcc:c'=c
   ·subst hcc; exact⟨_,hc'⟩
   ·obtain⟨w2,z2⟩:=I.cell y c' e
    exact⟨w2,z2.sameBut hs hcc⟩
  ·obtain⟨e,n,ne,nf,d⟩:=I.pin p hp
   refine⟨(hs.2 p.1 ?_).trans e,n,ne,nf,d⟩
   intro q
   rw[q,hoc]at e
   have q':oc=p.2:=Option.some.inj e
   exact d w' (by rw[← q']; exact hocd)
theorem pd{M:Model}{A:Around}{E:Value→Shared→Prop}{i:Nat}{x:Str}{v:V}{u:Value}{Q:Unit→Shared→Prop}(I:Inv X pins σ H s)(hN:X.N.Nodup)(hi:X.N[i]? = some x)(hx:aT X.env.scope x)(r:RelV v u)
  (h:∀ s',Inv X pins (σ.set i (some v)) H s'→Q () s') (hf:X.fn x=true∨X.env.scope.names.lookup x=some .local:=by first | exact .inl rfl | exact .inr rfl | assumption):wpAny M A (storeName X.env x u) Q E s:=
 nJ I hN hi hx r (fun s' I' _=>h s' I') hf
theorem Inv.call'{s':Shared}{ch:List Addr}(I:Inv X pins σ H s)(ho:s'.os=s.os)(u:Un (jl X.stack) ch H H' s.heap s'.heap)(hok:HOk X.prog X.w H' s'.heap)(hg:AllBare s'.gens)
  (hch:∀ b∈ch,(b∈X.ex∨X.s₀.heap.objs.size≤b)∧b≠X.env.locals∧(∀ x c,X.env.cells.lookup x=some c→c≠b)∧∀ p∈X.pn++pins,p.1≠b):Inv X pins σ H' s':=by
 obtain⟨h',g',d',t',o'⟩:=s'
 have e:o'=s.os:=ho
 subst e;exact I.call (g':=g') (t':=t') (d':=d') u hok hg hch
end
abbrev XK:=Value→Option Addr→Hp→Prop
abbrev St:=List (Option V)
abbrev VK:=V→Hp→Prop
abbrev TE:=St→Hp→VK→Prop
abbrev TT:=St→Hp→(Bool→Hp→Prop)→Prop
abbrev TA:=St→Hp→(List V→Hp→Prop)→Prop
set_option genInjectivity false in
set_option genSizeOf false in
structure dj where
 nx:St→Hp→Prop
 rt:VK
 bk:St→Hp→Prop:=fun _ _=>False
 ct:St→Hp→Prop:=fun _ _=>False
abbrev TS:=dj→St→Hp→Prop
def EP(X:Cx)(pins:List (Addr × Obj))(σ : St)(Q:VK)(u:Value)(s':Shared):Prop:=∃ v H',Inv X pins σ H' s'∧RelV v u∧Q v H'
def TP(X:Cx)(pins:List (Addr × Obj))(σ : St)(Q:Bool→Hp→Prop)(b:Bool)(s':Shared):Prop:=∃ H',Inv X pins σ H' s'∧Q b H'
def AP(X:Cx)(pins:List (Addr × Obj))(σ : St)(Q:List V→Hp→Prop)(us:List Value)(s':Shared):Prop:=∃ vs H',Inv X pins σ H' s'∧Vals vs us∧Q vs H'
def SP(X:Cx)(pins:List (Addr × Obj))(D:dj)(f:Flow)(s':Shared):Prop:=
 match f with
 | .next=>∃ σ' H',Inv X pins σ' H' s'∧D.nx σ' H'
 | .brk=>∃ σ' H',Inv X pins σ' H' s'∧D.bk σ' H'
 | .cont=>∃ σ' H',Inv X pins σ' H' s'∧D.ct σ' H'
 | .ret u=>∃ v σ' H',Inv X pins σ' H' s'∧RelV v u∧D.rt v H'
def PE(X:Cx)(e:Expr)(t:TE):Prop:=
 ∀ (pins:List (Addr × Obj)) (s:Shared) (σ : St) (H:Hp) (Q:VK),Inv X pins σ H s→t σ H Q→wpAny (model X.prog X.w) X.A (eval e X.env) (EP X pins σ Q) X.xe s
def PT(X:Cx)(e:Expr)(t:TT):Prop:=
 ∀ (pins:List (Addr × Obj)) (s:Shared) (σ : St) (H:Hp) (Q:Bool→Hp→Prop),Inv X pins σ H s→t σ H Q→wpAny (model X.prog X.w) X.A (isTrue e X.env (eval e X.env)) (TP X pins σ Q) X.xe s
def PW(X:Cx)(e:Expr)(t:TT):Prop:=
 ∀ (whole:Sem Value) (pins:List (Addr × Obj)) (s:Shared) (σ : St) (H:Hp) (Q:Bool→Hp→Prop),Inv X pins σ H s→t σ H Q→wpAny (model X.prog X.w) X.A (isTrue e X.env whole) (TP X pins σ Q) X.xe s
theorem PW.pt{X:Cx}{e:Expr}{t:TT}(h:PW X e t):PT X e t:=h _
def PA(X:Cx)(es:List Expr)(t:TA):Prop:=
 ∀ (pos:Pos) (pins:List (Addr × Obj)) (s:Shared) (σ : St) (H:Hp) (Q:List V→Hp→Prop),Inv X pins σ H s→t σ H Q→wpAny (model X.prog X.w) X.A (spliced (backTo pos (starEach es X.env))) (AP X pins σ Q) X.xe s
def PS(X:Cx)(st:Stmt)(t:TS):Prop:=
 ∀ (pins:List (Addr × Obj)) (s:Shared) (σ : St) (H:Hp) (D:dj),Inv X pins σ H s→t D σ H→wpAny (model X.prog X.w) X.A (exec st X.env) (SP X pins D) X.xe s
def PSs(X:Cx)(st:List Stmt)(t:TS):Prop:=
 ∀ (pins:List (Addr × Obj)) (s:Shared) (σ : St) (H:Hp) (D:dj),Inv X pins σ H s→t D σ H→wpAny (model X.prog X.w) X.A (execs st X.env) (SP X pins D) X.xe s
theorem bj{α : Type}{t:Sem α}{Q Q':α→Shared→Prop}{M:Model}{A:Around}{E:Value→Shared→Prop}{s:Shared}(h:wpAny M A t Q E s)(hQ:∀ a s,Q a s→Q' a s):wpAny M A t Q' E s:=wpAny_mono h hQ fun _ _ x=>x
end L2
namespace L2
open PySem PySem.Spec PyProof.Rows
section
variable{X:Cx}
def da(i:Nat):TE:=fun σ H Q=>∃ v,σ[i]? = some (some v)∧Q v H
def tC(v:V):TE:=fun _ H Q=>Q v H
theorem BR{i:Nat}{x:Str}{pos:Pos}(hN:X.N[i]? = some x)(hv:ao X.env.scope x)(hd:(x == ("__debug__" : Str))=false:=by decide) (hcd:(x == ("__classdict__" : Str))=false:=by decide):PE X (.Name x pos) (da i):=by
 intro pins s σ H Q I h
 obtain⟨v,e,h⟩:=h
 obtain⟨m,hn,hl⟩:=I.loc
 obtain⟨u,r,l⟩:=hl i x v hN e hv
 have fin:EP X pins σ Q u s:=⟨v,H,I,r,h⟩
 rcases l with ⟨hk,hm⟩ | ⟨hk,c,hc,hcell⟩
 ·exact wpAny_Name (wpAny_loadName_local I.ok.kind hk hn hm fin) hd
 ·rcases hk with hk | hk
  ·exact wpAny_Name (wpAny_loadName_cell I.ok.kind hk hc hcell fin) hd
  ·exact wpAny_Name (wpAny_loadName_free I.ok.kind hk hc hcell fin hcd) hd
theorem ah{i j pos}:PE X (.Constant (.int i) j pos) (tC (.int i)):=fun _ _ _ H _ I h=>wpAny_Constant_int ⟨.int i,H,I.tok _,⟨_,rfl⟩,h⟩
theorem eZ{b j pos}:PE X (.Constant (.bool b) j pos) (tC (.bl b)):=fun _ _ _ H _ I h=>Constant_bool ⟨.bl b,H,I,rfl,h⟩
theorem fQ{j pos}:PE X (.Constant .none j pos) (tC .non):=fun _ _ _ H _ I h=>Constant_none ⟨.non,H,I,rfl,h⟩
theorem aJ{x j pos}:PE X (.Constant (.str x) j pos) (tC (.str x)):=fun _ _ _ H _ I h=>Calls.Constant_str ⟨.str x,H,I.tok _,⟨_,rfl⟩,h⟩
def Gl(X:Cx)(x:Str):Prop:=X.env.kindOf x=some .globalImplicit
theorem vSs{s:Stmt}{x:Str}(h:(L2.defScope s).names.lookup x=some .local):ao (L2.defScope s) x:=Or.inl h
theorem vLl{s:Stmt}{x:Str}(h:(L2.defScope s).names.lookup x=some .local):aT (L2.defScope s) x:=Or.inl h
theorem vGg{s:Stmt}{x:Str}(h:(L2.defScope s).names.lookup x=some .globalImplicit):(L2.defScope s).names.lookup x=some .globalImplicit:=h
theorem mx{E:Value→Shared→Prop}{pins:List (Addr × Obj)}{s:Shared}{σ : St}{H:Hp}{x:Str}{u:Value}{pos:Pos}{Q:Value→Shared→Prop}(I:Inv X pins σ H s)(hg:Gl X x)(hm:X.mg x=some u)(h:Q u s)
  (hd:(x == ("__debug__" : Str))=false:=by decide):wpAny (model X.prog X.w) X.A (eval (.Name x pos) X.env) Q E s:=
 Calls.Name_function_global I.ok.kind hg (Calls.loadGlobal_global (by rw[I.ok.glob]; exact I.mod.glob.keeps I.bk) hm h) hd
theorem gX{E:Value→Shared→Prop}{pins:List (Addr × Obj)}{s:Shared}{σ : St}{H:Hp}{x:Str}{u:Value}{pos:Pos}{Q:Value→Shared→Prop}(I:Inv X pins σ H s)(hg:Gl X x)(hm:X.mg x=none)(hv:bootBuiltins x=some u)(h:Q u s)
  (hn:x ≠ "__name__" := by decide) (hd:(x == ("__debug__" : Str))=false:=by decide):wpAny (model X.prog X.w) X.A (eval (.Name x pos) X.env) Q E s:=by
 obtain⟨mb,h1,h2⟩:=I.mod.blt
 exact Calls.Name_function_global I.ok.kind hg (Calls.loadGlobal_builtin (by rw[I.ok.glob]; exact I.mod.glob.keeps I.bk) hm (by rw[I.ok.blt]; exact h1.keeps I.bk) ((h2 x hn).trans hv) h) hd
theorem Bv{x:Str}{v:V}{u:Value}{pos:Pos}(hg:Gl X x)(hm:X.mg x=some u)(r:RelV v u)(hd:(x == ("__debug__" : Str))=false:=by decide):PE X (.Name x pos) (tC v):=
 fun _ _ _ H _ I h=>mx I hg hm ⟨v,H,I,r,h⟩ hd
theorem BM{x:Str}{v:V}{u:Value}{pos:Pos}(hg:Gl X x)(hm:X.mg x=none)(hv:bootBuiltins x=some u)(r:RelV v u)(hn:x ≠ "__name__" := by decide) (hd:(x == ("__debug__" : Str))=false:=by decide):PE X (.Name x pos) (tC v):=
 fun _ _ _ H _ I h=>gX I hg hm hv ⟨v,H,I,r,h⟩ hn hd
variable{a b:Expr}{ta tb:TE}{pos:Pos}
def tB(t:TE):TT:=fun σ H Q=>t σ H fun x H1=>∃ c,x = .bl c∧Q c H1
theorem gn{e:Expr}{t:TE}(h:PE X e t)(he:∀ whole,isTrue e X.env whole=(do let v ← whole; standAt e.pos; holding [v] (truthy v)):=by intro _; rfl):PT X e (tB t):=by
 intro pins s σ H Q I hw
 refine isTrue_plain (bj (h pins s σ H _ I hw) fun v s1 ⟨x,H1,I1,r1,q1⟩=>?_) (he _)
 obtain⟨d,rfl,q⟩:=q1
 cases r1;exact wpAny_truthy_bool ⟨H1,I1,q⟩
variable{tA tB':TT}{rest:List Expr}
def CO(t u:TT):TT:=fun σ H Q=>t σ H fun c H1=>if c=true then u σ H1 Q else Q false H1
def FB(t u:TT):TT:=fun σ H Q=>t σ H fun c H1=>if c=true then Q true H1 else u σ H1 Q
def Ct(t:TT):TT:=fun σ H Q=>t σ H fun c H1=>Q (!c) H1
theorem iK(ha:PT X a tA):PW X (.BoolOp .And [a] pos) tA:=by
 intro wh pins s σ H Q I h
 refine isTrue_and (bj (ha pins s σ H Q I h) fun c s1 e=>?_)
 cases c with
 | true=>exact isTrue_and_nil e
 | false=>exact e
theorem pN(ha:PT X a tA):PW X (.BoolOp .Or [a] pos) tA:=by
 intro wh pins s σ H Q I h
 refine isTrue_or (bj (ha pins s σ H Q I h) fun c s1 e=>?_)
 cases c with
 | false=>exact isTrue_or_nil e
 | true=>exact e
theorem h_(ha:PT X a tA)(hb:PW X (.BoolOp .And (b::rest) pos) tB'):PW X (.BoolOp .And (a::b::rest) pos) (CO tA tB'):=by
 intro wh pins s σ H Q I h
 refine isTrue_and (bj (ha pins s σ H _ I h) fun c s1 ⟨H1,I1,q1⟩=>?_)
 cases c with
 | true=>exact hb wh pins s1 σ H1 Q I1 q1
 | false=>exact⟨H1,I1,q1⟩
theorem n_(ha:PT X a tA)(hb:PW X (.BoolOp .Or (b::rest) pos) tB'):PW X (.BoolOp .Or (a::b::rest) pos) (FB tA tB'):=by
 intro wh pins s σ H Q I h
 refine isTrue_or (bj (ha pins s σ H _ I h) fun c s1 ⟨H1,I1,q1⟩=>?_)
 cases c with
 | true=>exact⟨H1,I1,q1⟩
 | false=>exact hb wh pins s1 σ H1 Q I1 q1
theorem iJ(ha:PT X a tA):PT X (.UnaryOp .Not a pos) (Ct tA):=by
 intro pins s σ H Q I h
 exact isTrue_not (ha pins s σ H (fun c H1=>Q (!c) H1) I h)
def zH(ta tb:TE):TE:=fun σ H Q=>ta σ H fun x H1=>∃ c,x = .bl c∧if c=true then tb σ H1 Q else Q (.bl false) H1
theorem En{op}{t:TE}(h:PE X a t):PE X (.BoolOp op [a] pos) t:=fun pins s σ H Q I hw=>BoolOp_one (h pins s σ H Q I hw)
theorem CH(ha:PE X a ta)(hb:PE X (.BoolOp .And (b::rest) pos) tb):PE X (.BoolOp .And (a::b::rest) pos) (zH ta tb):=by
 intro pins s σ H Q I h
 refine BoolOp_and (bj (ha pins s σ H _ I h) fun v s1 ⟨x,H1,I1,r1,q1⟩=>?_)
 obtain⟨c,rfl,q1⟩:=q1
 cases r1;refine wpAny_truthy_bool ?_
 cases c with
 | true=>exact hb pins s1 σ H1 Q I1 q1
 | false=>exact⟨.bl false,H1,I1,rfl,q1⟩
def FF(t:TT)(ta tb:TE):TE:=fun σ H Q=>t σ H fun c H1=>if c=true then ta σ H1 Q else tb σ H1 Q
theorem hZ{c:Expr}(hc:PT X c tA)(ha:PE X a ta)(hb:PE X b tb):PE X (.IfExp c a b pos) (FF tA ta tb):=by
 intro pins s σ H Q I h
 refine wpAny_IfExp (bj (hc pins s σ H _ I h) fun d s1 ⟨H1,I1,q1⟩=>?_)
 cases d with
 | true=>exact ha pins s1 σ H1 Q I1 q1
 | false=>exact hb pins s1 σ H1 Q I1 q1
end
end L2
namespace L2
open PySem PySem.Spec PyProof.Rows
def SqL(K:PySem.W.Frag)(H:Hp)(a:Addr)(xs:List V):Prop:=
 Rd H a (.lst xs)∨
  ∃ (o:Obj) (its:Array Value) (n:Nat),K.lookup a=some o∧o.cls = .type "list" ∧ o.dict=none∧o.data = .seq its n∧its.size≤sizeLine∧Vals xs its.toList
def SqT(K:PySem.W.Frag)(H:Hp)(a:Addr)(xs:List V):Prop:=
 Rd H a (.tup xs)∨
  ∃ (o:Obj) (its:Array Value) (n:Nat),K.lookup a=some o∧o.cls = .type "tuple" ∧ o.data = .seq its n∧its.size≤sizeLine∧Vals xs its.toList
def IV:Value→Option V
 | .none=>some .non
 | .bool b=>some (.bl b)
 | .int i _=>some (.int i)
 | .str x _=>some (.str x)
 | .bytes b _=>some (.byt b)
 | .float b _=>some (.flt b)
 | .ref a=>some (.ref a)
 | .type n=>some (.ty n)
 | _=>none
theorem RelV.abs{x:V}{u:Value}(r:RelV x u):IV u=some x:=by
 cases x with
 | non=>cases r; rfl
 | bl _=>cases r; rfl
 | int _=>obtain⟨t,rfl⟩:=r; rfl
 | str _=>obtain⟨t,rfl⟩:=r; rfl
 | byt _=>obtain⟨t,rfl⟩:=r; rfl
 | flt _=>obtain⟨t,rfl⟩:=r; rfl
 | ref _=>cases r; rfl
 | ty _=>cases r; rfl
theorem RelV.inj{x y:V}{u:Value}(r:RelV x u)(q:RelV y u):x=y:=Option.some.inj (r.abs.symm.trans q.abs)
theorem Vals.inj:∀ {xs ys:List V} {us:List Value},Vals xs us→Vals ys us→xs=ys
 | _,_,_,.nil,.nil=>rfl
 | _,_,_,.cons r t,.cons r' t'=>by rw[r.inj r',Vals.inj t t']
section
variable{X:Cx}{pins:List (Addr × Obj)}{σ : St}{H:Hp}{s:Shared}{a:Addr}{xs ys:List V}
theorem SqL.of{K:PySem.W.Frag}(h:H a=some (.lst xs)):SqL K H a xs:=.inl (.inl h)
theorem SqT.of{K:PySem.W.Frag}(h:H a=some (.tup xs)):SqT K H a xs:=.inl (.inl h)
theorem Inv.list(I:Inv X pins σ H s)(h:SqL X.K H a xs):∃ its:List Value,Vals xs its∧PlainL s.heap a its.toArray∧xs.length≤sizeLine:=by
 rcases h with h | ⟨o,its,n,hk,hc,hd,hs,hz,r⟩
 ·obtain⟨z,its,n,r,e⟩:=h.ok I.hok
  exact⟨its,r,⟨_,n,e,rfl,rfl,rfl⟩,z⟩
 ·refine⟨its.toList,r,⟨o,n,I.kIn a o hk,hc,hd,by simpa using hs⟩,?_⟩
  have e:=r.length;simp only[Array.length_toList]at e
  omega
theorem Inv.tuple(I:Inv X pins σ H s)(h:SqT X.K H a xs):∃ its:List Value,Vals xs its∧IsTup s.heap a its.toArray∧xs.length≤sizeLine:=by
 rcases h with h | ⟨o,its,n,hk,hc,hs,hz,r⟩
 ·obtain⟨z,its,r,p⟩:=h.ok I.hok
  exact⟨its,r,p.tup,z⟩
 ·refine⟨its.toList,r,⟨o,I.kIn a o hk,hc,n,by simpa using hs⟩,?_⟩
  have e:=r.length;simp only[Array.length_toList]at e
  omega
theorem Inv.list_inj(I:Inv X pins σ H s)(h:SqL X.K H a xs)(h':SqL X.K H a ys):xs=ys:=by
 obtain⟨its,r,⟨o,n,e,_,_,d⟩,_⟩:=I.list h
 obtain⟨its',r',⟨o',n',e',_,_,d'⟩,_⟩:=I.list h'
 rw[e]at e'; cases e'
 rw[d]at d'
 injection d' with d1 _
 have:its=its':=by simpa using congrArg Array.toList d1
 subst this;exact r.inj r'
theorem Inv.tuple_inj(I:Inv X pins σ H s)(h:SqT X.K H a xs)(h':SqT X.K H a ys):xs=ys:=by
 obtain⟨its,r,⟨o,e,_,n,d⟩,_⟩:=I.tuple h
 obtain⟨its',r',⟨o',e',_,n',d'⟩,_⟩:=I.tuple h'
 rw[e]at e'; cases e'
 rw[d]at d'
 injection d' with d1 _
 have:its=its':=by simpa using congrArg Array.toList d1
 subst this;exact r.inj r'
end
abbrev Cx.wish (X:Cx) (E:Value→Shared→Prop):Cx:={ X with xe:=E }
abbrev Cx.nox (X:Cx):Cx:=X.wish fun _ _=>False
theorem Cx.Ok.wish{X:Cx}(ok:X.Ok)(E:Value→Shared→Prop):(X.wish E).Ok:=
 ⟨ok.mod,ok.kind,ok.glob,ok.blt,ok.above,ok.inj,ok.has,ok.cab,ok.hd,ok.frames,ok.stk,ok.exf,ok.bs,ok.bsz,ok.noex,ok.exfs,ok.funs,ok.frf⟩
theorem Cx.Ok.unwish{X:Cx}{E:Value→Shared→Prop}(ok:(X.wish E).Ok):X.Ok:=
 ⟨ok.mod,ok.kind,ok.glob,ok.blt,ok.above,ok.inj,ok.has,ok.cab,ok.hd,ok.frames,ok.stk,ok.exf,ok.bs,ok.bsz,ok.noex,ok.exfs,ok.funs,ok.frf⟩
section
variable{X:Cx}{pins:List (Addr × Obj)}{σ : St}{H:Hp}{s:Shared}{E:Value→Shared→Prop}
theorem Inv.wish(I:Inv X pins σ H s)(E:Value→Shared→Prop):Inv (X.wish E) pins σ H s:=⟨I.ok.wish E,I.os,I.bare,I.base,I.loc,I.cell,I.free,I.freeC,I.pin,I.hok,I.len⟩
theorem Inv.unwish(I:Inv (X.wish E) pins σ H s):Inv X pins σ H s:=⟨I.ok.unwish,I.os,I.bare,I.base,I.loc,I.cell,I.free,I.freeC,I.pin,I.hok,I.len⟩
theorem SP.unwish{D:dj}{f:Flow}{s':Shared}(h:SP (X.wish E) pins D f s'):SP X pins D f s':=by
 cases f with
 | next=>obtain⟨σ',H',I,q⟩:=h; exact⟨σ',H',I.unwish,q⟩
 | brk=>obtain⟨σ',H',I,q⟩:=h; exact⟨σ',H',I.unwish,q⟩
 | cont=>obtain⟨σ',H',I,q⟩:=h; exact⟨σ',H',I.unwish,q⟩
 | ret u=>obtain⟨v,σ',H',I,r,q⟩:=h; exact⟨v,σ',H',I.unwish,r,q⟩
theorem PSs.nox{st:List Stmt}{t:TS}(h:PSs X.nox st t):PSs X st t:=fun pins s σ H D I hw=>
 wpAny_mono (h pins s σ H D (I.wish _) hw) (fun _ _ q=>q.unwish) fun _ _ z=>False.elim z
end
section
variable{X:Cx}{st:Stmt}{rest:List Stmt}{t u:TS}{e:Expr}{te:TE}{pos:Pos}
def Ac:TS:=fun D σ H=>D.nx σ H
def iQ(t u:TS):TS:=fun D σ H=>t { D with nx:=u D } σ H
theorem bH:PSs X [] Ac:=fun _ _ σ H _ I h=>wpAny_execs_nil ⟨σ,H,I,h⟩
theorem af(h1:PS X st t)(h2:PSs X rest u):PSs X (st::rest) (iQ t u):=by
 intro pins s σ H D I h
 refine wpAny_execs_cons (bj (h1 pins s σ H { D with nx:=u D } I h) fun f s1 q=>?_)
 cases f with
 | next=>
  obtain⟨σ',H',I',q⟩:=q
  exact h2 pins s1 σ' H' D I' q
 | ret v=>exact q
 | brk=>exact q
 | cont=>exact q
theorem aj(h1:PS X st t):PSs X [st] t:=by
 intro pins s σ H D I h
 refine wpAny_execs_cons (bj (h1 pins s σ H D I h) fun f s1 q=>?_)
 cases f with
 | next=>exact wpAny_execs_nil q
 | ret v=>exact q
 | brk=>exact q
 | cont=>exact q
theorem Inv.quiet{pins:List (Addr × Obj)}{σ : St}{H:Hp}{s:Shared}(I:Inv X pins σ H s):interactive X.env=false:=by simp[interactive,I.ok.kind]
def sy(te:TE):TS:=fun D σ H=>te σ H fun _ H1=>D.nx σ H1
theorem aO(he:PE X e te)(hs:swapsWith e none pos.line X.env=pure false:=by rfl):PS X (.Expr e pos) (sy te):=by
 intro pins s σ H D I h
 exact wpAny_Expr_any (bj (he pins s σ H _ I h) fun v s1 ⟨x,H1,I1,r1,q1⟩=>⟨σ,H1,I1,q1⟩) I.quiet hs
def C9(te:TE):TS:=fun D σ H=>te σ H D.rt
theorem aG(he:PE X e te):PS X (.Return (some e) pos) (C9 te):=by
 intro pins s σ H D I h
 exact wpAny_Return_some (bj (he pins s σ H _ I h) fun v s1 ⟨x,H1,I1,r1,q1⟩=>⟨x,σ,H1,I1,r1,q1⟩)
def zI:TS:=fun D _ H=>D.rt .non H
theorem rh:PS X (.Return none pos) zI:=fun _ _ σ H _ I h=>wpAny_Return_none ⟨.non,σ,H,I,rfl,h⟩
def y_(c:TT)(t u:TS):TS:=fun D σ H=>c σ H fun b H1=>if b=true then t D σ H1 else u D σ H1
theorem bE{c:Expr}{a b:List Stmt}{tc:TT}(hc:PT X c tc)(ha:PSs X a t)(hb:PSs X b u):PS X (.If c a b pos) (y_ tc t u):=by
 intro pins s σ H D I h
 refine wpAny_If (bj (hc pins s σ H _ I h) fun d s1 ⟨H1,I1,q1⟩=>?_)
 cases d with
 | true=>exact ha pins s1 σ H1 D I1 q1
 | false=>exact hb pins s1 σ H1 D I1 q1
def vT:TS:=fun _ _ _=>False
theorem jg:PS X st vT:=fun _ _ _ _ _ _ h=>h.elim
theorem mZ{sts:List Stmt}:PSs X sts vT:=fun _ _ _ _ _ _ h=>h.elim
end
abbrev TG:=V→St→Hp→(St→Hp→Prop)→Prop
abbrev gU:=List V→St→Hp→(St→Hp→Prop)→Prop
def PG(X:Cx)(target:Expr)(t:TG):Prop:=
 ∀ (pins:List (Addr × Obj)) (s:Shared) (σ : St) (H:Hp) (v:V) (u:Value) (Q:St→Hp→Prop),Inv X pins σ H s→RelV v u→t v σ H Q→
  wpAny (model X.prog X.w) X.A (assign target X.env u) (fun _ s'=>∃ σ' H',Inv X pins σ' H' s'∧Q σ' H') X.xe s
def PGs(X:Cx)(ts:List Expr)(t:gU):Prop:=
 ∀ (pins:List (Addr × Obj)) (s:Shared) (σ : St) (H:Hp) (vs:List V) (us:List Value) (Q:St→Hp→Prop),Inv X pins σ H s→Vals vs us→t vs σ H Q→
  wpAny (model X.prog X.w) X.A (assignInOrder ((assignEach ts X.env).map (·.2)) us) (fun _ s'=>∃ σ' H',Inv X pins σ' H' s'∧Q σ' H') X.xe s
abbrev lZ:=V→V→V→Hp→(Hp→Prop)→Prop
def PSet(X:Cx)(t:lZ):Prop:=
 ∀ (pins:List (Addr × Obj)) (s:Shared) (σ : St) (H:Hp) (o i v:V) (ov iv u:Value) (Q:Hp→Prop),Inv X pins σ H s→RelV o ov→RelV i iv→RelV v u→t o i v H Q→
  wpAny (model X.prog X.w) X.A (setItem ov iv u) (fun _ s'=>∃ H',Inv X pins σ H' s'∧Q H') X.xe s
section
variable{X:Cx}{pos:Pos}
def e8(i:Nat):TG:=fun v σ H Q=>Q (σ.set i (some v)) H
theorem An{i:Nat}{x:Str}(hN:X.N.Nodup)(hi:X.N[i]? = some x)(hx:aT X.env.scope x)(hf:X.fn x=true∨X.env.scope.names.lookup x=some .local:=by first | exact .inl rfl | exact .inr rfl | assumption):PG X (.Name x pos) (e8 i):=by
 intro pins s σ H v u Q I r h
 exact wpAny_assign_Name (pd I hN hi hx r (fun s' I'=>⟨_,H,I',h⟩) hf)
def oE:gU:=fun vs σ H Q=>vs=[]∧Q σ H
def jZ(t:TG)(u:gU):gU:=fun vs σ H Q=>∃ v r,vs=v::r∧t v σ H fun σ' H'=>u r σ' H' Q
theorem gd:PGs X [] oE:=by
 intro pins s σ H vs us Q I r h
 obtain⟨e,h⟩:=h
 subst e
 cases r;exact assignInOrder_nil ⟨σ,H,I,h⟩
theorem cO{e:Expr}{es:List Expr}{t:TG}{u:gU}(h1:PG X e t)(h2:PGs X es u)
  (hs:(assignEach (e::es) X.env).map (·.2)=assign e X.env::(assignEach es X.env).map (·.2):=by rfl):PGs X (e::es) (jZ t u):=by
 intro pins s σ H vs us Q I r h
 obtain⟨v,vr,e1,h⟩:=h
 subst e1
 cases r with
 | cons r rr=>
  rw[hs];refine assignInOrder_cons (bj (h1 pins s σ H _ _ _ I r h) fun _ s1 ⟨σ1,H1,I1,q1⟩=>?_)
  exact h2 pins s1 σ1 H1 _ _ Q I1 rr q1
def pV(K:PySem.W.Frag)(n:Nat)(t:gU):TG:=fun v σ H Q=>∃ a xs,v = .ref a∧SqT K H a xs∧xs.length=n∧t xs σ H Q
theorem Eb{es:List Expr}{k:Nat}{t:gU}{n:Nat}(hc:X.calm=true)(h:PGs X es t)
  (hn:(assignEach es X.env).length=n:=by rfl) (hst:(assignEach es X.env).findIdx? (·.1)=none:=by rfl):PG X (.Tuple es k pos) (pV X.K n t):=by
 intro pins s σ H v u Q I r hw
 obtain⟨a,xs,e1,hq,hl,hw⟩:=hw
 subst e1
 cases r;obtain⟨its,rv,ht,hz⟩:=I.tuple hq
 refine assign_Tuple_tuple (I.ok.hd hc) ht (by simp[hn,← hl,rv.length]) hst fun h' hx=>?_
 have I1:Inv X pins σ H { s with heap:=h' }:=I.kept (t':=s.toks) fun b o e=>hx b o (Nat.ne_of_lt (Heap.lt_size e)) e
 exact h pins _ σ H xs _ Q I1 (by simpa using rv) hw
def tG(to ti:TE)(t:lZ):TG:=fun v σ H Q=>to σ H fun o H1=>ti σ H1 fun i H2=>t o i v H2 fun H3=>Q σ H3
theorem hX{o i:Expr}{to ti:TE}{t:lZ}(ho:PE X o to)(hi:PE X i ti)(hs:PSet X t)
  (ha:∀ v,assign (.Subscript o i pos) X.env v=(do
   let ov ← holding [v] (eval o X.env)
   let iv ← holding [v,ov] (eval i X.env)
   standAt pos
   holding [v,ov,iv] (setItem ov iv v)
   release [v,ov,iv] []):=by intro _; rfl):PG X (.Subscript o i pos) (tG to ti t):=by
 intro pins s σ H v u Q I r h
 rw[ha];refine wpAny_bind (wpAny_holding (bj (ho pins s σ H _ I h) fun ov s1 ⟨x,H1,I1,r1,q1⟩=>?_))
 refine wpAny_bind (wpAny_holding (bj (hi pins s1 σ H1 _ I1 q1) fun iv s2 ⟨y,H2,I2,r2,q2⟩=>?_))
 refine wpAny_bind (wpAny_standAt (wpAny_bind (wpAny_holding (bj (hs pins s2 σ H2 x y v ov iv u _ I2 r1 r2 r q2) fun _ s3 ⟨H3,I3,q3⟩=>?_))))
 exact wpAny_release ⟨σ,H3,I3,q3⟩
def k7(te:TE)(g:TG):TS:=fun D σ H=>te σ H fun x H1=>g x σ H1 D.nx
theorem gW{tg e:Expr}{te:TE}{g:TG}(he:PE X e te)(hg:PG X tg g)(hs:swapsWithSole [tg] e pos.line X.env=pure false:=by rfl)(hw:swappedStores [tg] e X.env=pure none:=by rfl)
  (h1:(assignEach [tg] X.env).map (·.2)=[assign tg X.env]:=by rfl):PS X (.Assign [tg] e pos) (k7 te g):=by
 intro pins s σ H D I h
 refine wpAny_Assign_stores (bj (he pins s σ H _ I h) fun v s1 ⟨x,H1,I1,r1,q1⟩=>?_) hs hw
 rw[h1];exact bj (hg pins s1 σ H1 x v _ I1 r1 q1) fun _ s2 q=>q
theorem C7{i:Nat}{x:Str}{e:Expr}{te:TE}{pos':Pos}(hN:X.N.Nodup)(hi:X.N[i]? = some x)(hx:aT X.env.scope x)(he:PE X e te)(hs:swapsWith e (some (.Name x pos')) pos.line X.env=pure false:=by rfl)(hf:X.fn x=true∨X.env.scope.names.lookup x=some .local:=by first | exact .inl rfl | exact .inr rfl | assumption) :
  PS X (.Assign [.Name x pos'] e pos) (k7 te (e8 i)):=by
 intro pins s σ H D I h
 refine wpAny_Assign_Name (bj (he pins s σ H _ I h) fun v s1 ⟨y,H1,I1,r1,q1⟩=>?_) hs
 exact pd I1 hN hi hx r1 (fun s2 I2=>⟨_,H1,I2,q1⟩) hf
end
section
variable{X:Cx}{pos:Pos}
def Ei(c:TT)(tb:TS):TS:=fun D σ H=>∃ W:Nat→St→Hp→Prop,(∃ m,W m σ H)∧∀ m σ H,W m σ H→
 c σ H fun b H1=>if b=true then ∃ N:St→Hp→Prop,(∀ σ' H',N σ' H'→∃ m',m'<m∧W m' σ' H')∧tb { D with nx:=N,ct:=N,bk:=D.nx } σ H1 else D.nx σ H1
theorem pS{c:Expr}{body:List Stmt}{tc:TT}{tb:TS}(hp:PassesOwn (model X.prog X.w) X.A X.env X.xe)(hc:PT X c tc)(hb:PSs X body tb):PS X (.While c body [] pos) (Ei tc tb):=by
 intro pins s σ H D I h
 obtain⟨W,⟨m0,w0⟩,turn⟩:=h
 refine wpAny_While (codeAny_whileLoop (fun n s'=>∃ σ' H',Inv X pins σ' H' s'∧W n σ' H') ?_ m0 ⟨σ,H,I,w0⟩)
 rintro n s1 ⟨σ1,H1,I1,w1⟩
 refine wpAny_passesOwn hp (bj (hc pins s1 σ1 H1 _ I1 (turn n σ1 H1 w1)) fun b s2 ⟨H2,I2,q2⟩=>?_)
 cases b with
 | true=>
  obtain⟨N,hN,q2⟩:=q2
  rw[if_pos rfl];refine wpAny_passesOwn hp (bj (hb pins s2 σ1 H2 _ I2 q2) fun f s3 q3=>?_)
  cases f with
  | next=>
   obtain⟨σ3,H3,I3,n3⟩:=q3
   obtain⟨m',hm,w3⟩:=hN σ3 H3 n3
   exact⟨m',hm,σ3,H3,I3,w3⟩
  | cont=>
   obtain⟨σ3,H3,I3,n3⟩:=q3
   obtain⟨m',hm,w3⟩:=hN σ3 H3 n3
   exact⟨m',hm,σ3,H3,I3,w3⟩
  | brk=>exact q3
  | ret v=>exact q3
 | false=>
  rw[if_neg Bool.false_ne_true];exact wpAny_execs_nil ⟨σ1,H2,I2,q2⟩
end
set_option genInjectivity false in
set_option genSizeOf false in
structure It where
 go:Nat→Hp→Prop
 yld:Nat→Hp→V→Hp→Prop
 stop:Nat→Hp→Prop
def gZ(X:Cx)(pins:List (Addr × Obj))(H:Hp)(b:Addr):Prop:=
 H b=none∧b≠X.env.locals∧b∉X.fs∧(b∈X.ex∨X.s₀.heap.objs.size≤b)∧(∀ x c,X.env.cells.lookup x=some c→c≠b)∧∀ p∈X.pn++pins,p.1≠b
theorem Inv.fpOk{X:Cx}{pins:List (Addr × Obj)}{σ : St}{H H':Hp}{s:Shared}{b:Addr}(I:Inv X pins σ H s)(hb:s.heap.objs.size≤b)(hn:H' b=none):gZ X pins H' b:=by
 refine⟨hn,Nat.ne_of_gt (Nat.lt_of_lt_of_le I.lt hb),I.nofs hb,.inr (Nat.le_trans I.sz hb),fun x c e z=>?_,fun p hp z=>?_⟩
 ·obtain⟨v,q⟩:=I.cell x c e
  exact absurd (Nat.lt_of_lt_of_le q.lt (by rw[z]; exact hb)) (Nat.lt_irrefl _)
 ·exact absurd (Nat.lt_of_lt_of_le (Heap.lt_size (I.pin p hp).1) (by rw[z]; exact hb)) (Nat.lt_irrefl _)
structure jB (P:Program) (w:World) (K:PySem.W.Frag) (tg:Expr) (J:It) (fp:List Addr) (it:Addr) (tn:Nat→Heap→Prop):Prop where
 mem:it∈fp
 obj:∀ i h,tn i h→∀ b∈fp,∃ o,h.get? b=some o∧∀ v,o.data ≠ .cell v
 keep:∀ i h h',tn i h→(∀ b∈fp,∀ o,h.get? b=some o→h'.get? b=some o)→tn i h'
 item:∀ (X:Cx),X.prog=P→X.w=w→X.K=K→X.calm=true→∀ (i:Nat) (pins:List (Addr × Obj)) (s:Shared) (σ : St) (H:Hp) (E:Value→Shared→Prop),Inv X pins σ H s→(∀ b∈fp,gZ X pins H b)→tn i s.heap→J.go i H→
  wpAny (model P w) X.A (pyNext (.ref it)) (fun r s1=>∃ u,r=some u∧
   wpAny (model P w) X.A (letOwnedTupleGo tg (.ref it) u) (fun _ s2=>∃ x H',Inv X pins σ H' s2∧RelV x u∧J.yld i H x H'∧tn (i+1) s2.heap∧∀ b∈fp,H' b=none) E s1) E s
 done:∀ (X:Cx),X.prog=P→X.w=w→X.K=K→X.calm=true→∀ (i:Nat) (pins:List (Addr × Obj)) (s:Shared) (σ : St) (H:Hp) (E:Value→Shared→Prop),Inv X pins σ H s→(∀ b∈fp,gZ X pins H b)→tn i s.heap→J.stop i H→
  wpAny (model P w) X.A (pyNext (.ref it)) (fun r s1=>r=none∧Inv X pins σ H s1) E s
 self:∀ (A:Around) (i:Nat) (s:Shared) (Q:Value→Shared→Prop) (E:Value→Shared→Prop),tn i s.heap→Q (.ref it) s→wpAny (model P w) A (pyIter (.ref it)) Q E s
abbrev TI:=St→Hp→(It→Hp→Prop)→Prop
def Fy(X:Cx)(pins:List (Addr × Obj))(σ : St)(tg:Expr)(R:It→Hp→Prop)(itv:Value)(s2:Shared):Prop:=
 ∃ (it:Addr) (fp:List Addr) (tn:Nat→Heap→Prop) (J:It) (H':Hp),itv = .ref it∧Inv X pins σ H' s2∧jB X.prog X.w X.K tg J fp it tn∧tn 0 s2.heap∧(∀ b∈fp,gZ X pins H' b)∧R J H'
def PI(X:Cx)(tg iter:Expr)(wi:TI):Prop:=
 ∀ (pins:List (Addr × Obj)) (s:Shared) (σ : St) (H:Hp) (R:It→Hp→Prop),Inv X pins σ H s→wi σ H R→
  wpAny (model X.prog X.w) X.A (eval iter X.env) (fun v s1=>wpAny (model X.prog X.w) X.A (pyIter v) (Fy X pins σ tg R) X.xe s1) X.xe s
theorem rR{M:Model}{A:Around}{E:Value→Shared→Prop}{s:Shared}{tg:Expr}{it:Addr}{u:Value}{o:Obj}{n:String}{vs:Array Value}{Q:Unit→Shared→Prop}(ho:s.heap.get? it=some o)(hc:o.cls = .type n)(hd:o.data = .fields vs)
    (hn:["enumerate", "zip", "dict_itemiterator", "dict_reverseitemiterator", "odict_iterator", "itertools.zip_longest", "itertools.pairwise"].contains n=false) (hQ:Q () s):wpAny M A (letOwnedTupleGo tg (.ref it) u) Q E s:=by
  unfold letOwnedTupleGo
  cases tg <;> first
    | exact wpAny_pure hQ
    | (cases u <;> first
        | exact wpAny_pure hQ
        | (refine wpAny_bind (wpAny_load ho ?_)
           rw[hc,hd];show wpAny M A (if (["enumerate", "zip", "dict_itemiterator", "dict_reverseitemiterator", "odict_iterator", "itertools.zip_longest", "itertools.pairwise"].contains n&&vs[0]? == some (rawInt _))=true then _ else _) Q E s
           rw[if_neg (by intro h; rw[hn,Bool.false_and]at h; cases h)]
           exact wpAny_pure hQ))
def kE(K:PySem.W.Frag)(a:Addr):It:=
 ⟨fun i H=>∃ xs x,SqL K H a xs∧xs[i]? = some x,fun i H x H'=>H'=H∧∀ xs,SqL K H a xs→xs[i]? = some x,fun i H=>∃ xs,SqL K H a xs∧xs.length≤i⟩
def uN(K:PySem.W.Frag)(a:Addr):It:=
 ⟨fun i H=>∃ xs x,SqT K H a xs∧xs[i]? = some x,fun i H x H'=>H'=H∧∀ xs,SqT K H a xs→xs[i]? = some x,fun i H=>∃ xs,SqT K H a xs∧xs.length≤i⟩
def mY(lo:Int)(n:Nat):It:=⟨fun i _=>i<n,fun i H x H'=>H'=H∧x = .int (lo+i),fun i _=>n≤i⟩
theorem v5{P:Program}{w:World}{K:PySem.W.Frag}{tg:Expr}(a it:Addr):jB P w K tg (kE K a) [it] it (fun i h=>h.IsListIter it a i) where
 mem:=by simp
 obj:=fun i h st b hb=>by
  have e:b=it:=by simpa using hb
  subst e;obtain⟨o,e,c,d⟩:=st
  exact⟨o,e,fun v z=>by rw[d]at z; cases z⟩
 keep:=fun i h h' st k=>st.at fun o e=>k it (by simp) o e
 item:=by
  intro X hP hw hK hc i pins s σ H E I hf st hg
  subst hP hw hK;obtain⟨xs,x,hq,hx⟩:=hg
  obtain⟨its,rv,p,hz⟩:=I.list hq
  obtain⟨u,hu,ru⟩:=rv.get hx
  obtain⟨f0,f1,f2,f3,f4,f5⟩:=hf it (by simp)
  refine wpAny_pyNext_list_item st p.isList (x:=u) (by simpa using hu) fun h' st' sb=>?_
  have I1:Inv X pins σ H { s with heap:=h' }:=I.turned (t':=s.toks) (fun b o hb e=>(sb.2 b hb).trans e) f0 f1 f3 f4 f5
  obtain⟨o,e,c,d⟩:=id st'
  exact⟨u,rfl,rR (s:={ s with heap:=h' }) e c d (by decide) ⟨x,H,I1,ru,⟨rfl,fun ys hy=>by rw[I.list_inj hy hq]; exact hx⟩,st',fun b hb=>(hf b hb).1⟩⟩
 done:=by
  intro X hP hw hK hc i pins s σ H E I hf st hg
  subst hP hw hK;obtain⟨xs,hq,hx⟩:=hg
  obtain⟨its,rv,p,hz⟩:=I.list hq
  obtain⟨f0,f1,f2,f3,f4,f5⟩:=hf it (by simp)
  have hl:=rv.length;exact wpAny_pyNext_list_end (I.ok.hd hc) st p.isList (by simp; omega) fun h' eb=>⟨rfl,I.turned (t':=s.toks) (fun b o hb e=>eb b o hb e) f0 f1 f3 f4 f5⟩
 self:=fun _ _ _ _ _ st h=>wpAny_pyIter_listiter st h
theorem uz{P:Program}{w:World}{K:PySem.W.Frag}{tg:Expr}(a it:Addr):jB P w K tg (uN K a) [it] it (fun i h=>h.IsTupleIter it a i) where
 mem:=by simp
 obj:=fun i h st b hb=>by
  have e:b=it:=by simpa using hb
  subst e;obtain⟨o,e,c,d⟩:=st
  exact⟨o,e,fun v z=>by rw[d]at z; cases z⟩
 keep:=fun i h h' st k=>st.at fun o e=>k it (by simp) o e
 item:=by
  intro X hP hw hK hc i pins s σ H E I hf st hg
  subst hP hw hK;obtain⟨xs,x,hq,hx⟩:=hg
  obtain⟨its,rv,p,hz⟩:=I.tuple hq
  obtain⟨u,hu,ru⟩:=rv.get hx
  obtain⟨f0,f1,f2,f3,f4,f5⟩:=hf it (by simp)
  refine wpAny_pyNext_tuple_item st (show s.heap.IsTuple a its.toArray from p) (x:=u) (by simpa using hu) fun h' st' sb=>?_
  have I1:Inv X pins σ H { s with heap:=h' }:=I.turned (t':=s.toks) (fun b o hb e=>(sb.2 b hb).trans e) f0 f1 f3 f4 f5
  obtain⟨o,e,c,d⟩:=id st'
  exact⟨u,rfl,rR (s:={ s with heap:=h' }) e c d (by decide) ⟨x,H,I1,ru,⟨rfl,fun ys hy=>by rw[I.tuple_inj hy hq]; exact hx⟩,st',fun b hb=>(hf b hb).1⟩⟩
 done:=by
  intro X hP hw hK hc i pins s σ H E I hf st hg
  subst hP hw hK;obtain⟨xs,hq,hx⟩:=hg
  obtain⟨its,rv,p,hz⟩:=I.tuple hq
  obtain⟨f0,f1,f2,f3,f4,f5⟩:=hf it (by simp)
  have hl:=rv.length;exact wpAny_pyNext_tuple_end (I.ok.hd hc) st (show s.heap.IsTuple a its.toArray from p) (by simp; omega) fun h' eb=>⟨rfl,I.turned (t':=s.toks) (fun b o hb e=>eb b o hb e) f0 f1 f3 f4 f5⟩
 self:=fun _ _ _ _ _ st h=>wpAny_pyIter_tupleiter st h
theorem sU{P:Program}{w:World}{K:PySem.W.Frag}{tg:Expr}(it:Addr)(lo:Int)(n:Nat):jB P w K tg (mY lo n) [it] it (fun i h=>IsRangeIter h it (lo+(i:Nat) * 1) ((n:Int) - (i:Nat)) 1) where
 mem:=by simp
 obj:=fun i h st b hb=>by
  have e:b=it:=by simpa using hb
  subst e
  exact⟨_,st,fun v z=>by
   have z':Data.fields _=Data.cell v:=z
   cases z'⟩
 keep:=fun i h h' st k=>k it (by simp) _ st
 item:=by
  intro X hP hw hK hc i pins s σ H E I hf st hg
  subst hP hw hK;obtain⟨f0,f1,f2,f3,f4,f5⟩:=hf it (by simp)
  have W:=Walks.range (prog:=X.prog) (w:=X.w) (I.ok.hd hc) it lo 1 n;refine W.item i s _ _ hg st fun v h' tk hv st' kk=>?_
  obtain⟨t,rfl⟩:=hv
  have I1:Inv X pins σ H { s with heap:=h',toks:=tk }:=I.turned (fun b o hb e=>kk b o (by simpa using hb) e) f0 f1 f3 f4 f5
  refine⟨_,rfl,rR (s:={ s with heap:=h',toks:=tk }) (n := "range_iterator") st' rfl rfl (by decide) ⟨.int (lo+i),H,I1,⟨t,?_⟩,⟨rfl,rfl⟩,st',fun b hb=>(hf b hb).1⟩⟩
  rw[Int.mul_one]
 done:=by
  intro X hP hw hK hc i pins s σ H E I hf st hg
  subst hP hw hK;obtain⟨f0,f1,f2,f3,f4,f5⟩:=hf it (by simp)
  exact wpAny_pyNext_range_end (I.ok.hd hc) st (by have:n≤i:=hg; omega) fun h' eb=>⟨rfl,I.turned (t':=s.toks) (fun b o hb e=>eb b o hb e) f0 f1 f3 f4 f5⟩
 self:=fun _ _ _ _ _ st h=>wpAny_pyIter_rangeiter st h
end L2
namespace L2
open PySem PySem.Spec PyProof.Rows
section
variable{X:Cx}{tg:Expr}
def lQ(K:PySem.W.Frag)(tl:TE):TI:=fun σ H R=>tl σ H fun x H1=>∃ a,x = .ref a∧(∃ xs,SqL K H1 a xs)∧R (kE K a) H1
def xo(K:PySem.W.Frag)(tl:TE):TI:=fun σ H R=>tl σ H fun x H1=>∃ a,x = .ref a∧(∃ xs,SqT K H1 a xs)∧R (uN K a) H1
theorem A0{l:Expr}{tl:TE}(hl:PE X l tl):PI X tg l (lQ X.K tl):=by
 intro pins s σ H R I h
 refine bj (hl pins s σ H _ I h) fun v s1 ⟨x,H1,I1,r1,q1⟩=>?_
 obtain⟨a,e,⟨xs,hq⟩,q⟩:=q1
 subst e
 cases r1;obtain⟨its,rv,p,hz⟩:=I1.list hq
 refine wpAny_pyIter_list p.isList ?_
 refine⟨s1.heap.objs.size,[s1.heap.objs.size],_,_,H1,rfl,I1.kept (t':=s1.toks) fun b o e=>Heap.get?_push_of_some _ e,v5 a _,⟨_,Heap.get?_push_size _ rfl,rfl,rfl⟩,fun b hb=>?_,q⟩
 have e:b=s1.heap.objs.size:=by simpa using hb
 subst e;exact I1.fpOk (Nat.le_refl _) (I1.hok.fresh (Nat.le_refl _))
theorem EO{l:Expr}{tl:TE}(hl:PE X l tl):PI X tg l (xo X.K tl):=by
 intro pins s σ H R I h
 refine bj (hl pins s σ H _ I h) fun v s1 ⟨x,H1,I1,r1,q1⟩=>?_
 obtain⟨a,e,⟨xs,hq⟩,q⟩:=q1
 subst e
 cases r1;obtain⟨its,rv,p,hz⟩:=I1.tuple hq
 refine wpAny_pyIter_tuple (show s1.heap.IsTuple a its.toArray from p) ?_
 refine⟨s1.heap.objs.size,[s1.heap.objs.size],_,_,H1,rfl,I1.kept (t':=s1.toks) fun b o e=>Heap.get?_push_of_some _ e,uz a _,⟨_,Heap.get?_push_size _ rfl,rfl,rfl⟩,fun b hb=>?_,q⟩
 have e:b=s1.heap.objs.size:=by simpa using hb
 subst e;exact I1.fpOk (Nat.le_refl _) (I1.hok.fresh (Nat.le_refl _))
theorem xy{pins:List (Addr × Obj)}{σ : St}{H:Hp}{s:Shared}{R:It→Hp→Prop}{E:Value→Shared→Prop}{lo hi:Int}{t u v:Tok}{tk:Nat}(I:Inv X pins σ H s)(h1:-(2 ^ 62)≤lo)(h2:lo<2 ^ 62)(h3:-(2 ^ 62)≤hi)(h4:hi<2 ^ 62)
  (q:R (mY lo (hi - lo).toNat) H):wpAny (model X.prog X.w) X.A (pyIter (.ref s.heap.objs.size)) (Fy X pins σ tg R) E { s with heap:=s.heap.push { cls:=.type "range", data:=.fields #[.int lo t,.int hi u,.int 1 v] },toks:=tk }:=by
 refine wpAny_pyIter_range (IsRange.new ..) (small_one h1 h2 h3 h4) ?_
 have I1:Inv X pins σ H { s with heap:=s.heap.push { cls:=.type "range", data:=.fields #[.int lo t,.int hi u,.int 1 v] },toks:=tk }:=I.kept fun b o e=>Heap.get?_push_of_some _ e
 refine⟨(s.heap.push { cls:=.type "range", data:=.fields #[.int lo t,.int hi u,.int 1 v] }).objs.size,[(s.heap.push { cls:=.type "range", data:=.fields #[.int lo t,.int hi u,.int 1 v] }).objs.size],_,_,H,rfl,
  I1.kept (t':=tk) fun b o e=>Heap.get?_push_of_some _ e,sU _ lo (hi - lo).toNat,?_,fun b hb=>?_,q⟩
 ·have e1:lo+((0:Nat):Int) * 1=lo:=by simp
  have e2:(((hi - lo).toNat:Nat):Int) - ((0:Nat):Int)=Builtin.Range.rangeSize lo hi 1:=by rw[rangeSize_one]; split <;> omega
  show IsRangeIter _ _ (lo+((0:Nat):Int) * 1) ((((hi - lo).toNat:Nat):Int) - ((0:Nat):Int)) 1
  rw[e1,e2];exact Heap.get?_push_size _ rfl
 ·have e:b=(s.heap.push { cls:=.type "range", data:=.fields #[.int lo t,.int hi u,.int 1 v] }).objs.size:=by simpa using hb
  subst e;exact I1.fpOk (Nat.le_refl _) (I1.hok.fresh (Nat.le_refl _))
def zX(ta:TA):TI:=fun σ H R=>ta σ H fun vs H1=>∃ j:Int,vs=[.int j]∧-(2 ^ 62)≤j∧j<2 ^ 62∧R (mY 0 j.toNat) H1
theorem jU{a:Expr}{ta:TA}{p pos:Pos}(hg:Gl X "range") (hm:X.mg "range" = none) (ha:PA X [a] ta) (hs:starEach [a] X.env=[(false,eval a X.env)]:=by rfl):PI X tg (.Call (.Name "range" p) [a] [] pos) (zX ta):=by
 intro pins s σ H R I h
 refine Call_ (gX I hg hm boot_range (PyProof.Rows.callWith_type1 (bj (ha pos pins s σ H _ I h) fun us s1 ⟨vs,H1,I1,r1,q1⟩=>?_) hs rfl))
 obtain⟨j,e,q1,q2,q⟩:=q1
 subst e
 cases r1 with
 | cons r rr=>
  cases rr;obtain⟨t,rfl⟩:=r
  exact call_range_1 (xy I1 (by omega) (by omega) q1 q2 (by simpa using q))
def yF(wi:TI)(g:TG)(tb:TS):TS:=fun D σ H=>wi σ H fun J H1=>∃ W:Nat→Nat→St→Hp→Prop,(∃ m,W 0 m σ H1)∧∀ i m σ H,W i m σ H→
 (J.stop i H∧D.nx σ H)∨(J.go i H∧∃ N:St→Hp→Prop,(∀ σ' H',N σ' H'→∃ m',m'<m∧W (i+1) m' σ' H')∧∀ x H',J.yld i H x H'→g x σ H' fun σ2 H2=>tb { D with nx:=N,ct:=N,bk:=D.nx } σ2 H2)
def jT(fp:List Addr)(h:Heap):List (Addr × Obj):=fp.filterMap fun b=>(h.get? b).map fun o=>(b,o)
theorem gG{fp:List Addr}{h:Heap}{b:Addr}{o:Obj}(hb:b∈fp)(e:h.get? b=some o):(b,o)∈jT fp h:=List.mem_filterMap.mpr ⟨b,hb,by rw[e]; rfl⟩
theorem we{fp:List Addr}{h:Heap}{p:Addr × Obj}(hp:p∈jT fp h):p.1∈fp∧h.get? p.1=some p.2:=by
 obtain⟨b,hb,e⟩:=List.mem_filterMap.mp hp
 cases q:h.get? b with
 | none=>rw[q]at e; cases e
 | some o=>
  rw[q]at e
  have e':(b,o)=p:=Option.some.inj e
  subst e';exact⟨hb,q⟩
theorem Inv.pinned{pins:List (Addr × Obj)}{σ : St}{H:Hp}{s:Shared}{fp:List Addr}(I:Inv X pins σ H s)(hf:∀ b∈fp,gZ X pins H b)(ho:∀ b∈fp,∃ o,s.heap.get? b=some o∧∀ v,o.data ≠ .cell v):Inv X (pins++jT fp s.heap) σ H s:=
 I.pins_of fun p hp=>(List.mem_append.mp hp).elim (fun z=>I.pin p (List.mem_append_right _ z)) fun z=>by
  obtain⟨hb,e⟩:=we z
  obtain⟨f0,f1,f2,_⟩:=hf p.1 hb
  obtain⟨o,e',d⟩:=ho p.1 hb
  rw[e]at e'; cases e'
  exact⟨e,f0,f1,f2,d⟩
theorem Inv.unpinned{pins pl:List (Addr × Obj)}{σ : St}{H:Hp}{s:Shared}(I:Inv X (pins++pl) σ H s):Inv X pins σ H s:=I.pins_of fun p hp=>I.pin p (List.mem_append_right _ (List.mem_append_left _ hp))
theorem cu{iter:Expr}{body:List Stmt}{wi:TI}{g:TG}{tb:TS}{pos:Pos}(hp:PassesOwn (model X.prog X.w) X.A X.env X.xe)(hc:X.calm=true)(hi:PI X tg iter wi)(hg:PG X tg g)(hb:PSs X body tb)
  (hs:∀ x,foldedSetIterable iter X.env x=pure x:=by intro _; rfl):PS X (.For tg iter body [] pos) (yF wi g tb):=by
 intro pins s σ H D I h
 refine wpAny_For (bj (hi pins s σ H _ I h) fun v s1 h1=>bj h1 fun itv s2 h2=>?_) hs
 obtain⟨it,fp,tn,J,H2,e,I2,T,st2,f2,W,⟨m0,w0⟩,turn⟩:=h2
 subst e
 -- what stays true of the iterator's objects through the loop
 have stat:∀ {H':Hp},(∀ b∈fp,H' b=none)→∀ b∈fp,gZ X pins H' b:=fun hn b hb=>⟨hn b hb,(f2 b hb).2⟩
 refine codeAny_forLoop_any (fun n s'=>∃ i σ' H',Inv X pins σ' H' s'∧tn i s'.heap∧(∀ b∈fp,H' b=none)∧W i n σ' H') ?_ m0 ⟨0,σ,H2,I2,st2,fun b hb=>(f2 b hb).1,w0⟩
 rintro n s3 ⟨i,σ3,H3,I3,st3,fr3,w3⟩
 rcases turn i n σ3 H3 w3 with ⟨stop,qn⟩ | ⟨go,N,hN,step⟩
 ·refine wpAny_passesOwn hp (bj (T.done X rfl rfl rfl hc i pins s3 σ3 H3 X.xe I3 (stat fr3) st3 stop) fun r s4 ⟨hr,I4⟩=>?_)
  subst hr;exact wpAny_execs_nil ⟨σ3,H3,I4,qn⟩
 ·refine wpAny_passesOwn hp (bj (T.item X rfl rfl rfl hc i pins s3 σ3 H3 X.xe I3 (stat fr3) st3 go) fun r s4 ⟨u,hr,h4⟩=>?_)
  subst hr;refine wpAny_passesOwn hp (bj h4 fun _ s5 ⟨x,H5,I5,r5,y5,st5,fr5⟩=>?_)
  have I5':=I5.pinned (stat fr5) (T.obj _ _ st5);refine wpAny_passesOwn hp (bj (hg _ s5 σ3 H5 x u _ I5' r5 (step x H5 y5)) fun _ s6 ⟨σ6,H6,I6,q6⟩=>?_)
  refine wpAny_passesOwn hp (bj (hb _ s6 σ6 H6 _ I6 q6) fun f s7 q7=>?_)
  have again:∀ {σ7:St} {H7:Hp},Inv X (pins++jT fp s5.heap) σ7 H7 s7→N σ7 H7→∃ m,m<n∧∃ i σ' H',Inv X pins σ' H' s7∧tn i s7.heap∧(∀ b∈fp,H' b=none)∧W i m σ' H':=fun {σ7 H7} I7 n7=>by
   obtain⟨m',hm,w7⟩:=hN σ7 H7 n7
   refine⟨m',hm,i+1,σ7,H7,I7.unpinned,T.keep _ _ _ st5 fun b hb o e=>(I7.pin (b,o) (List.mem_append_right _ (List.mem_append_right _ (gG hb e)))).1,fun b hb=>?_,w7⟩
   obtain⟨o,e,d⟩:=T.obj _ _ st5 b hb
   exact(I7.pin (b,o) (List.mem_append_right _ (List.mem_append_right _ (gG hb e)))).2.1
  cases f with
  | next=>obtain⟨σ7,H7,I7,n7⟩:=q7; exact again I7 n7
  | cont=>obtain⟨σ7,H7,I7,n7⟩:=q7; exact again I7 n7
  | brk=>obtain⟨σ7,H7,I7,q7⟩:=q7; exact⟨σ7,H7,I7.unpinned,q7⟩
  | ret v=>obtain⟨x7,σ7,H7,I7,r7,q7⟩:=q7; exact⟨x7,σ7,H7,I7.unpinned,r7,q7⟩
end
theorem xB{K:PySem.W.Frag}{a:Addr}{xs:List V}{g:TG}{tb:TS}{D:dj}{σ : St}{H:Hp}(Pv:Nat→St→Hp→Prop)(h0:Pv 0 σ H)(hl:∀ i σ H,i≤xs.length→Pv i σ H→SqL K H a xs)
  (hs:∀ i x σ H,xs[i]? = some x→Pv i σ H→g x σ H fun σ2 H2=>tb { D with nx:=Pv (i+1),ct:=Pv (i+1),bk:=D.nx } σ2 H2) (hd:∀ σ H,Pv xs.length σ H→D.nx σ H) :
  ∃ W:Nat→Nat→St→Hp→Prop,(∃ m,W 0 m σ H)∧∀ i m σ H,W i m σ H→
   ((kE K a).stop i H∧D.nx σ H)∨((kE K a).go i H∧∃ N:St→Hp→Prop,(∀ σ' H',N σ' H'→∃ m',m'<m∧W (i+1) m' σ' H')∧∀ x H',(kE K a).yld i H x H'→g x σ H' fun σ2 H2=>tb { D with nx:=N,ct:=N,bk:=D.nx } σ2 H2):=by
 refine⟨fun i m σ H=>m=xs.length - i∧i≤xs.length∧Pv i σ H,⟨xs.length,by simp,Nat.zero_le _,h0⟩,?_⟩
 rintro i m σ H ⟨rfl,hi,p⟩
 have q:=hl i σ H hi p
 by_cases hlt:i<xs.length
 ·refine .inr ⟨⟨xs,xs[i],q,by simp[hlt]⟩,Pv (i+1),fun σ' H' p'=>⟨xs.length - (i+1),by omega,rfl,hlt,p'⟩,fun x H' y=>?_⟩
  obtain⟨e,y⟩:=y
  subst e;exact hs i x σ _ (y xs q) p
 ·have e:i=xs.length:=by omega
  subst e;exact .inl ⟨⟨xs,q,Nat.le_refl _⟩,hd σ H p⟩
theorem vQ{lo:Int}{n:Nat}{g:TG}{tb:TS}{D:dj}{σ : St}{H:Hp}(Pv:Nat→St→Hp→Prop)(h0:Pv 0 σ H)
  (hs:∀ i σ H,i<n→Pv i σ H→g (.int (lo+i)) σ H fun σ2 H2=>tb { D with nx:=Pv (i+1),ct:=Pv (i+1),bk:=D.nx } σ2 H2) (hd:∀ σ H,Pv n σ H→D.nx σ H) :
  ∃ W:Nat→Nat→St→Hp→Prop,(∃ m,W 0 m σ H)∧∀ i m σ H,W i m σ H→
   ((mY lo n).stop i H∧D.nx σ H)∨((mY lo n).go i H∧∃ N:St→Hp→Prop,(∀ σ' H',N σ' H'→∃ m',m'<m∧W (i+1) m' σ' H')∧∀ x H',(mY lo n).yld i H x H'→g x σ H' fun σ2 H2=>tb { D with nx:=N,ct:=N,bk:=D.nx } σ2 H2):=by
 refine⟨fun i m σ H=>m=n - i∧i≤n∧Pv i σ H,⟨n,by simp,Nat.zero_le _,h0⟩,?_⟩
 rintro i m σ H ⟨rfl,hi,p⟩
 by_cases hlt:i<n
 ·refine .inr ⟨hlt,Pv (i+1),fun σ' H' p'=>⟨n - (i+1),by omega,rfl,hlt,p'⟩,fun x H' y=>?_⟩
  obtain⟨e,y⟩:=y
  subst e y;exact hs i σ _ hlt p
 ·have e:i=n:=by omega
  subst e;exact .inl ⟨Nat.le_refl _,hd σ H p⟩
end L2
namespace L2
open PySem PySem.Spec PyProof.Rows
abbrev R2:=V→V→Hp→VK→Prop
def OpR(X:Cx)(f:Value→Value→Sem Value)(r:R2):Prop:=
 ∀ (pins:List (Addr × Obj)) (s:Shared) (σ : St) (H:Hp) (x y:V) (v u:Value) (Q:VK),Inv X pins σ H s→RelV x v→RelV y u→r x y H Q→
  wpAny (model X.prog X.w) X.A (f v u) (EP X pins σ Q) X.xe s
def UnR(X:Cx)(f:Value→Sem Value)(r:V→Hp→VK→Prop):Prop:=
 ∀ (pins:List (Addr × Obj)) (s:Shared) (σ : St) (H:Hp) (x:V) (v:Value) (Q:VK),Inv X pins σ H s→RelV x v→r x H Q→
  wpAny (model X.prog X.w) X.A (f v) (EP X pins σ Q) X.xe s
def CallR(X:Cx)(f:Value)(r:List V→Hp→VK→Prop):Prop:=
 ∀ (pins:List (Addr × Obj)) (s:Shared) (σ : St) (H:Hp) (xs:List V) (us:List Value) (Q:VK),Inv X pins σ H s→Vals xs us→r xs H Q→
  wpAny (model X.prog X.w) X.A (call f us) (EP X pins σ Q) X.xe s
def jE(r:R2)(ta tb:TE):TE:=fun σ H Q=>ta σ H fun x H1=>tb σ H1 fun y H2=>r x y H2 Q
def FA(r:V→Hp→VK→Prop)(ta:TE):TE:=fun σ H Q=>ta σ H fun x H1=>r x H1 Q
def rI(C:Int→Int→Prop)(g:Int→Int→V):R2:=fun x y H Q=>∃ i j,x = .int i∧y = .int j∧C i j∧Q (g i j) H
def oS(g:Int→Int→V):R2:=fun x y H Q=>∃ i j,x = .int i∧y = .int j∧Q (g i j) H
def rU(g:Int→V):V→Hp→VK→Prop:=fun x H Q=>∃ i,x = .int i∧Q (g i) H
section
variable{X:Cx}{a b c:Expr}{ta tb tc:TE}{pos:Pos}
theorem zl(ha:PE X a ta)(hb:PE X b tb){pins:List (Addr × Obj)}{s:Shared}{σ : St}{H:Hp}{R:V→V→Hp→Prop}(I:Inv X pins σ H s)
  (h:ta σ H fun x H1=>tb σ H1 fun y H2=>R x y H2) {Q:Value→Shared→Prop} {f:Value→Value→Sem Value}
  (hf:∀ v u s2 x y H2,Inv X pins σ H2 s2→RelV x v→RelV y u→R x y H2→wpAny (model X.prog X.w) X.A (f v u) Q X.xe s2) :
  wpAny (model X.prog X.w) X.A (eval a X.env) (fun v s₁=>wpAny (model X.prog X.w) X.A (eval b X.env) (fun u s₂=>wpAny (model X.prog X.w) X.A (f v u) Q X.xe s₂) X.xe s₁) X.xe s:=by
 refine bj (ha pins s σ H _ I h) fun v s1 ⟨x,H1,I1,r1,q1⟩=>?_
 refine bj (hb pins s1 σ H1 _ I1 q1) fun u s2 ⟨y,H2,I2,r2,q2⟩=>?_
 exact hf v u s2 x y H2 I2 r1 r2 q2
theorem ap{op:Operator}{r:R2}(ho:OpR X (binaryOp op) r)(ha:PE X a ta)(hb:PE X b tb):PE X (.BinOp a op b pos) (jE r ta tb):=by
 intro pins s σ H Q I h
 exact wpAny_BinOp (zl ha hb I h fun v u s2 x y H2 I2 rx ry q=>ho pins s2 σ H2 x y v u Q I2 rx ry q)
theorem j3{op:UnaryOp}{r:V→Hp→VK→Prop}(ho:UnR X (unaryOp op) r)(ha:PE X a ta):PE X (.UnaryOp op a pos) (FA r ta):=by
 intro pins s σ H Q I h
 exact UnaryOp_ (bj (ha pins s σ H _ I h) fun v s1 ⟨x,H1,I1,r1,q1⟩=>ho pins s1 σ H1 x v Q I1 r1 q1)
theorem zT{f:Value→Value→Sem Value}{C:Int→Int→Prop}{g:Int→Int→Int}
  (rule:∀ (i j:Int) (t u:Tok) (s:Shared) (Q:Value→Shared→Prop) (E:Value→Shared→Prop),C i j→Q (.int (g i j) s.toks) { s with toks:=s.toks+1 }→wpAny (model X.prog X.w) X.A (f (.int i t) (.int j u)) Q E s) :
  OpR X f (rI C fun i j=>.int (g i j)):=by
 intro pins s σ H x y v u Q I rx ry h
 obtain⟨i,j,rfl,rfl,hc,q⟩:=h
 obtain⟨t,rfl⟩:=rx
 obtain⟨t',rfl⟩:=ry
 exact rule i j t t' s _ _ hc ⟨.int (g i j),H,I.tok _,⟨_,rfl⟩,q⟩
theorem Cf{f:Value→Value→Sem Value}{g:Int→Int→Int}
  (rule:∀ (i j:Int) (t u:Tok) (s:Shared) (Q:Value→Shared→Prop) (E:Value→Shared→Prop),Q (.int (g i j) s.toks) { s with toks:=s.toks+1 }→wpAny (model X.prog X.w) X.A (f (.int i t) (.int j u)) Q E s) :
  OpR X f (oS fun i j=>.int (g i j)):=by
 intro pins s σ H x y v u Q I rx ry h
 obtain⟨i,j,rfl,rfl,q⟩:=h
 obtain⟨t,rfl⟩:=rx
 obtain⟨t',rfl⟩:=ry
 exact rule i j t t' s _ _ ⟨.int (g i j),H,I.tok _,⟨_,rfl⟩,q⟩
theorem Ek{f:Value→Value→Sem Value}{g:Int→Int→Bool}
  (rule:∀ (i j:Int) (t u:Tok) (s:Shared) (Q:Value→Shared→Prop) (E:Value→Shared→Prop),Q (.bool (g i j)) s→wpAny (model X.prog X.w) X.A (f (.int i t) (.int j u)) Q E s) :
  OpR X f (oS fun i j=>.bl (g i j)):=by
 intro pins s σ H x y v u Q I rx ry h
 obtain⟨i,j,rfl,rfl,q⟩:=h
 obtain⟨t,rfl⟩:=rx
 obtain⟨t',rfl⟩:=ry
 exact rule i j t t' s _ _ ⟨.bl (g i j),H,I,rfl,q⟩
def IE(i j:Int):Prop:=0<j∧j<1073741824
def Hj(i j:Int):Prop:=0≤j∧j≤1000000∧i.natAbs<2 ^ 64
def CMul(i j:Int):Prop:=(-(2 ^ 64)<i∧i<2 ^ 64)∨(-(2 ^ 64)<j∧j<2 ^ 64)
theorem CMul.ok{i j:Int}(h:CMul i j):IntMulOk i j:=by
 rcases h with ⟨h1,h2⟩ | ⟨h1,h2⟩
 ·exact .of_left (intBits_le_64 h1 h2)
 ·exact .of_right (intBits_le_64 h1 h2)
theorem CQ:OpR X (binaryOp .Add) (oS fun i j=>.int (i+j)):=Cf fun _ _ _ _ _ _ _ q=>add_int q
theorem js:OpR X (binaryOp .Sub) (oS fun i j=>.int (i - j)):=Cf fun _ _ _ _ _ _ _ q=>sub_int q
theorem EC:OpR X (binaryOp .Mult) (rI CMul fun i j=>.int (i * j)):=zT fun _ _ _ _ _ _ _ hc q=>mul_int q hc.ok
theorem mq:OpR X (binaryOp .FloorDiv) (rI IE fun i j=>.int (i / j)):=zT fun i j _ _ _ _ _ hc q=>by
 have h1:(0:Int)<j:=hc.1
 have h2:j<1073741824:=hc.2
 exact floordiv_int (by omega) (by rw[Int.fdiv_eq_ediv_of_nonneg i (by omega)]; exact q) (.inl (PyProof.noPylong_small (by omega)))
theorem cB:OpR X (binaryOp .Mod) (rI (fun _ j=>0<j) fun i j=>.int (i % j)):=zT fun i j _ _ _ _ _ hc q=>by
 have h1:(0:Int)<j:=hc
 exact mod_int' (by omega) (by rw[Int.fmod_eq_emod_of_nonneg i (by omega)]; exact q)
theorem k8:OpR X (binaryOp .Pow) (rI Hj fun i j=>.int (i ^ j.toNat)):=zT fun _ _ _ _ _ _ _ hc q=>pow_int_small hc.1 hc.2.1 hc.2.2 q
theorem JV{f:Value→Sem Value}{g:Int→Int}
  (rule:∀ (i:Int) (t:Tok) (s:Shared) (Q:Value→Shared→Prop) (E:Value→Shared→Prop),Q (.int (g i) s.toks) { s with toks:=s.toks+1 }→wpAny (model X.prog X.w) X.A (f (.int i t)) Q E s) :
  UnR X f (rU fun i=>.int (g i)):=by
 intro pins s σ H x v Q I rx h
 obtain⟨i,rfl,q⟩:=h
 obtain⟨t,rfl⟩:=rx
 exact rule i t s _ _ ⟨.int (g i),H,I.tok _,⟨_,rfl⟩,q⟩
theorem iu:UnR X (unaryOp .USub) (rU fun i=>.int (-i)):=JV fun _ _ _ _ _ q=>neg_int q
end
def mf:V→V→Bool
 | .non,.non=>true | .non,.int _=>true | .int _,.non=>true | .non,.bl _=>true | .bl _,.non=>true | .non,.str _=>true | .str _,.non=>true
 | .int _,.int _=>true | .bl _,.bl _=>true | .str _,.str _=>true | .byt _,.byt _=>true
 | .int _,.str _=>true | .str _,.int _=>true | .bl _,.str _=>true | .str _,.bl _=>true
 | _,_=>false
def FE:R2:=fun x y H Q=>mf x y=true∧Q (.bl (decide (x=y))) H
def FG:R2:=fun x y H Q=>mf x y=true∧Q (.bl (!decide (x=y))) H
theorem qA{i j:Int}:decide (V.int i=V.int j)=(i == j):=by
 rw[Bool.eq_iff_iff];simp
theorem v_{i j:Bool}:decide (V.bl i=V.bl j)=(i == j):=by
 rw[Bool.eq_iff_iff];simp
theorem qC{i j:Str}:decide (V.str i=V.str j)=(i == j):=by
 rw[Bool.eq_iff_iff];simp
theorem qW{i j:Array UInt8}:decide (V.byt i=V.byt j)=(i.toList == j.toList):=by
 rw[Bool.eq_iff_iff]
 cases i
 cases j;simp
section
variable{X:Cx}{a b c:Expr}{ta tb tc:TE}{pos:Pos}
theorem bz{pins:List (Addr × Obj)}{σ : St}{H:Hp}{s:Shared}{Q:VK}{k k':Bool}(I:Inv X pins σ H s)(q:Q (.bl k) H)(e:k=k'):EP X pins σ Q (.bool k') s:=by
 subst e;exact⟨.bl k,H,I,rfl,q⟩
theorem Fm:OpR X (compareOp .Eq) FE:=by
 intro pins s σ H x y v u Q I rx ry h
 obtain⟨hs,q⟩:=h
 cases x with
 | non=>
  cases rx
  cases y with
  | non=>cases ry; exact PySem.EqNone.eq_none_none (bz I q (by simp))
  | bl j=>cases ry; exact PySem.EqNone.eq_none_bool (bz I q (by simp))
  | int j=>obtain⟨t',rfl⟩:=ry; exact PySem.EqNone.eq_none_int (bz I q (by simp))
  | str j=>obtain⟨t',rfl⟩:=ry; exact PySem.EqNone.eq_none_str (bz I q (by simp))
  | _=>exact absurd (show false=true from hs) Bool.false_ne_true
 | bl i=>
  cases rx
  cases y with
  | non=>cases ry; exact PySem.EqNone.eq_bool_none (bz I q (by simp))
  | bl j=>cases ry; exact eq_bool (bz I q v_)
  | str j=>obtain⟨t',rfl⟩:=ry; exact PySem.EqMixed.eq_bool_str (bz I q (by simp))
  | _=>exact absurd (show false=true from hs) Bool.false_ne_true
 | int i=>
  obtain⟨t,rfl⟩:=rx
  cases y with
  | non=>cases ry; exact PySem.EqNone.eq_int_none (bz I q (by simp))
  | int j=>obtain⟨t',rfl⟩:=ry; exact eq_int (bz I q qA)
  | str j=>obtain⟨t',rfl⟩:=ry; exact PySem.EqMixed.eq_int_str (bz I q (by simp))
  | _=>exact absurd (show false=true from hs) Bool.false_ne_true
 | str i=>
  obtain⟨t,rfl⟩:=rx
  cases y with
  | non=>cases ry; exact PySem.EqNone.eq_str_none (bz I q (by simp))
  | bl j=>cases ry; exact PySem.EqMixed.eq_str_bool (bz I q (by simp))
  | int j=>obtain⟨t',rfl⟩:=ry; exact PySem.EqMixed.eq_str_int (bz I q (by simp))
  | str j=>obtain⟨t',rfl⟩:=ry; exact eq_str (bz I q qC)
  | _=>exact absurd (show false=true from hs) Bool.false_ne_true
 | byt i=>
  obtain⟨t,rfl⟩:=rx
  cases y with
  | byt j=>obtain⟨t',rfl⟩:=ry; exact PySem.W.eq_bytes (bz I q qW)
  | _=>exact absurd (show false=true from hs) Bool.false_ne_true
 | _=>cases y <;> exact absurd (show false=true from hs) Bool.false_ne_true
theorem ET:OpR X (compareOp .NotEq) FG:=by
 intro pins s σ H x y v u Q I rx ry h
 obtain⟨hs,q⟩:=h
 cases x with
 | non=>
  cases rx
  cases y with
  | non=>cases ry; exact PySem.EqNone.ne_none_none (bz I q (by simp))
  | bl j=>cases ry; exact PySem.EqNone.ne_none_bool (bz I q (by simp))
  | int j=>obtain⟨t',rfl⟩:=ry; exact PySem.EqNone.ne_none_int (bz I q (by simp))
  | str j=>obtain⟨t',rfl⟩:=ry; exact PySem.EqNone.ne_none_str (bz I q (by simp))
  | _=>exact absurd (show false=true from hs) Bool.false_ne_true
 | bl i=>
  cases rx
  cases y with
  | non=>cases ry; exact PySem.EqNone.ne_bool_none (bz I q (by simp))
  | bl j=>cases ry; exact ne_bool (bz I q (congrArg not v_))
  | str j=>obtain⟨t',rfl⟩:=ry; exact PySem.EqMixed.ne_bool_str (bz I q (by simp))
  | _=>exact absurd (show false=true from hs) Bool.false_ne_true
 | int i=>
  obtain⟨t,rfl⟩:=rx
  cases y with
  | non=>cases ry; exact PySem.EqNone.ne_int_none (bz I q (by simp))
  | int j=>obtain⟨t',rfl⟩:=ry; exact ne_int (bz I q (congrArg not qA))
  | str j=>obtain⟨t',rfl⟩:=ry; exact PySem.EqMixed.ne_int_str (bz I q (by simp))
  | _=>exact absurd (show false=true from hs) Bool.false_ne_true
 | str i=>
  obtain⟨t,rfl⟩:=rx
  cases y with
  | non=>cases ry; exact PySem.EqNone.ne_str_none (bz I q (by simp))
  | bl j=>cases ry; exact PySem.EqMixed.ne_str_bool (bz I q (by simp))
  | int j=>obtain⟨t',rfl⟩:=ry; exact PySem.EqMixed.ne_str_int (bz I q (by simp))
  | str j=>obtain⟨t',rfl⟩:=ry; exact ne_str (bz I q (congrArg not qC))
  | _=>exact absurd (show false=true from hs) Bool.false_ne_true
 | byt i=>
  obtain⟨t,rfl⟩:=rx
  cases y with
  | byt j=>obtain⟨t',rfl⟩:=ry; exact PySem.W.ne_bytes (bz I q (congrArg not qW))
  | _=>exact absurd (show false=true from hs) Bool.false_ne_true
 | _=>cases y <;> exact absurd (show false=true from hs) Bool.false_ne_true
theorem EX:OpR X (compareOp .Lt) (oS fun i j=>.bl (decide (i<j))):=Ek fun _ _ _ _ _ _ _ q=>lt_int q
theorem uy:OpR X (compareOp .Gt) (oS fun i j=>.bl (decide (j<i))):=Ek fun _ _ _ _ _ _ _ q=>gt_int q
theorem vE:OpR X (compareOp .Lt) (fun x y H Q=>∃ i j,x = .str i∧y = .str j∧Q (.bl (decide (i.cps.toList<j.cps.toList))) H):=by
 intro pins s σ H x y v u Q I rx ry h
 obtain⟨i,j,rfl,rfl,q⟩:=h
 obtain⟨t,rfl⟩:=rx
 obtain⟨t',rfl⟩:=ry
 exact lt_str (bz I q rfl)
theorem wv:OpR X (compareOp .In) (fun x y H Q=>∃ i j,x = .str i∧y = .str j∧Q (.bl (!(Builtin.Str.occurrences j i 0 j.length 1).isEmpty)) H):=by
 intro pins s σ H x y v u Q I rx ry h
 obtain⟨i,j,rfl,rfl,q⟩:=h
 obtain⟨t,rfl⟩:=rx
 obtain⟨t',rfl⟩:=ry
 exact in_str (bz I q rfl)
theorem C8:OpR X (compareOp .Is) (fun x y H Q=>y = .non∧Q (.bl (decide (x = .non))) H):=by
 intro pins s σ H x y v u Q I rx ry h
 obtain⟨rfl,q⟩:=h
 cases ry;refine is_none_gen (bz I q ?_)
 cases x <;> first
  | (cases rx; rfl)
  | (obtain⟨t,rfl⟩:=rx; rfl)
theorem Bu:OpR X (compareOp .IsNot) (fun x y H Q=>y = .non∧Q (.bl (!decide (x = .non))) H):=by
 intro pins s σ H x y v u Q I rx ry h
 obtain⟨rfl,q⟩:=h
 cases ry;refine isnot_none_gen (bz I q ?_)
 cases x <;> first
  | (cases rx; rfl)
  | (obtain⟨t,rfl⟩:=rx; rfl)
theorem aP(b:Expr){op:CmpOp}(h:op ≠ .In:=by decide)(h2:op ≠ .NotIn:=by decide):behindInMarks op b=false:=by
 have e1:(op == CmpOp.In)=false:=by cases op <;> first | rfl | exact absurd rfl h
 have e2:(op == CmpOp.NotIn)=false:=by cases op <;> first | rfl | exact absurd rfl h2
 cases b <;> simp[behindInMarks,e1,e2]
theorem iD{op:CmpOp}{r:R2}(ho:OpR X (compareOp op) r)(ha:PE X a ta)(hb:PE X b tb)(hm:behindInMarks op b=false):PE X (.Compare a [op] [b] pos) (jE r ta tb):=by
 intro pins s σ H Q I h
 exact wpAny_Compare1 (zl ha hb I h fun v u s2 x y H2 I2 rx ry q=>ho pins s2 σ H2 x y v u Q I2 rx ry q) hm
def zZ(t:TE):TT:=fun σ H Q=>t σ H fun x H'=>∃ k,x = .bl k∧Q k H'
theorem aE{op:CmpOp}{r:R2}(ho:OpR X (compareOp op) r)(ha:PE X a ta)(hb:PE X b tb)(hm:behindInMarks op b=false):PT X (.Compare a [op] [b] pos) (zZ (jE r ta tb)):=by
 intro pins s σ H Q I h
 refine wpAny_isTrue_Compare1 (bj (ha pins s σ H _ I h) fun v s1 ⟨x,H1,I1,r1,q1⟩=>bj (hb pins s1 σ H1 _ I1 q1) fun u s2 ⟨y,H2,I2,r2,q2⟩=>
  bj (ho pins s2 σ H2 x y v u _ I2 r1 r2 q2) fun c s3 ⟨z,H3,I3,r3,k,e,q3⟩=>?_) hm
 subst e
 cases r3;exact wpAny_truthy_bool ⟨H3,I3,q3⟩
theorem iy:(sizeLine:Nat)<2 ^ 63:=by rw[sizeLine_eq]; decide
theorem tY:OpR X (binaryOp .Add) (fun x y H Q=>∃ i j,x = .str i∧y = .str j∧i.length+j.length≤sizeLine∧Q (.str (i++j)) H):=by
 intro pins s σ H x y v u Q I rx ry h
 obtain⟨i,j,rfl,rfl,hz,q⟩:=h
 obtain⟨t,rfl⟩:=rx
 obtain⟨t',rfl⟩:=ry
 exact add_str (fun t' tk=>⟨.str (i++j),H,I.tok _,⟨_,rfl⟩,q⟩) hz
theorem fB{x:V}{us:List Value}(r:Vals [x] us):∃ u,us=[u]∧RelV x u:=by
 cases r with
 | cons r1 r2=>cases r2; exact⟨_,rfl,r1⟩
theorem j0{x y:V}{us:List Value}(r:Vals [x,y] us):∃ u w',us=[u,w']∧RelV x u∧RelV y w':=by
 cases r with
 | cons r1 r2=>
  cases r2 with
  | cons r3 r4=>cases r4; exact⟨_,_,rfl,r1,r3⟩
theorem uQ:CallR X (.type "int") (fun xs H Q=>(∃ i,xs=[.int i]∧Q (.int i) H)∨∃ k,xs=[.bl k]∧Q (.int (if k then 1 else 0)) H):=by
 intro pins s σ H xs us Q I r h
 rcases h with ⟨i,rfl,q⟩ | ⟨k,rfl,q⟩
 ·obtain⟨u,rfl,t,rfl⟩:=fB r
  exact call_int_int ⟨.int i,H,I,⟨_,rfl⟩,q⟩
 ·obtain⟨u,rfl,r1⟩:=fB r
  cases r1;exact call_int_bool ⟨.int (if k then 1 else 0),H,I.tok _,⟨_,rfl⟩,q⟩
theorem pO:CallR X (.type "str") (fun xs H Q=>∃ i,xs=[.int i]∧i.natAbs.log2<1920∧Q (.str (toString i)) H):=by
 intro pins s σ H xs us Q I r h
 obtain⟨i,rfl,hz,q⟩:=h
 obtain⟨u,rfl,t,rfl⟩:=fB r
 exact PySem.P.str_of_int hz ⟨.str _,H,I.tok _,⟨_,rfl⟩,q⟩
end
end L2
namespace L2
open PySem PySem.Spec PyProof.Rows
structure ObjM (h:Heap) (x dx C:Addr) (mA:Str→Option Value):Prop where
 obj:h.get? x=some (PySem.W.instObj C dx)
 ns:h.Ns1 dx mA
 ne:dx≠x
theorem uD{h:Heap}{dx:Addr}{mA:Str→Option Value}(n:h.Ns1 dx mA):∃ od,h.get? dx=some od∧∀ name,PySem.W.lookIn name od=some (mA name):=by
 obtain⟨o,es,ep,ho,hd,hk,_,hm⟩:=n
 refine⟨o,ho,fun name=>?_⟩
 have e:=hm name;unfold nsFind findBy at e;rw[← Array.find?_toList]at e
 unfold PySem.W.lookIn;rw[hd]
 dsimp only
 split
 ·rename_i y q
  rw[q]at e
  exact congrArg some e
 ·rename_i q
  rw[q]at e
  have a:es.toList.any (·.refKey)=false:=by
   rw[List.any_eq_false];intro y hy
   obtain⟨z,t,hkey⟩:=hk y (Array.mem_toList_iff.mp hy)
   simp[DictEntry.refKey,hkey]
  have a':¬ es.toList.any (·.refKey)=true:=by rw[a]; exact Bool.false_ne_true
  rw[if_neg a'];exact congrArg some e
theorem ObjM.look{h:Heap}{x dx C:Addr}{mA:Str→Option Value}(I:ObjM h x dx C mA):∃ od,PySem.W.InstAt h x (PySem.W.instObj C dx) C (some od)∧∀ name,PySem.W.lookIn name od=some (mA name):=
 let ⟨od,ho,hl⟩:=uD I.ns
 ⟨od,⟨I.obj,rfl,rfl,ho⟩,hl⟩
section
variable{prog:Program}{w:World}{A:Around}{E:Value→Shared→Prop}{s:Shared}{K:PySem.W.Frag}{x dx C f:Addr}{mA:Str→Option Value}{name:Str}{v:Value}
theorem A6{expr:Bool}{Q:Value→Shared→Prop}(X:K.In s.heap)(I:ObjM s.heap x dx C mA)(hg:PySem.W.plainGet K C name=true)(hh:PySem.W.hasDictIn K C=true)
  (ha:PySem.W.findIn K (.ref C) name=some none) (hv:mA name=some v) (hv':PySem.W.handedIn v=true) (h:Q v { s with toks:=s.toks+1 }) :
  wpAny (model prog w) A (getAttr (.ref x) name expr) Q E s:=by
 obtain⟨od,J,hl⟩:=I.look
 exact PySem.W.get_value X J (PySem.W.plainGet_of hg).1 (PySem.W.findObj_own hh ha rfl (by rw[hl,hv])) hv' h
theorem yw{pl:Sem Bool}{Q:Value × List Value→Shared→Prop}(X:K.In s.heap)(I:ObjM s.heap x dx C mA)(hg:PySem.W.plainGet K C name=true)
  (hf:PySem.W.findIn K (.ref C) name=some (some (.ref f))) (ht:PySem.W.isFn K (.ref f)=true) (hv:mA name=none) (h:Q (.ref f,[.ref x]) s) :
  wpAny (model prog w) A (getMethod (.ref x) name pl) Q E s:=by
 obtain⟨od,J,hl⟩:=I.look
 exact PySem.W.method_fn X J (PySem.W.plainGet_of hg).1 (PySem.W.plainGet_of hg).2 hf (beq_iff_eq.mp ht) (by show (PySem.W.lookIn name od).map (·.isSome)=some false; rw[hl,hv]; rfl) h
theorem BK{ns:List Str}{Q:Unit→Shared→Prop}(X:K.In s.heap)(I:ObjM s.heap x dx C mA)
  (hs:PySem.W.findIn K (.ref C) "__setattr__" = some (some (.builtin "object.__setattr__"))) (hp:PySem.W.plainOver K C=true) (ht:PySem.W.takerIn K C name=some none) (hh:PySem.W.hasDictIn K C=true)
  (hw:PySem.Within mA ns) (hsz:ns.length≤sizeLine)
  (h:∀ h',ObjM h' x dx C (fun y=>if y=name then some v else mA y)→Heap.SameBut dx s.heap h'→Q () { s with heap:=h',toks:=s.toks+2 }) :
  wpAny (model prog w) A (setAttr (.ref x) name v) Q E s:=by
 obtain⟨od,J,hl⟩:=I.look
 refine PySem.W.set_plain X J hs (PySem.W.osa_open (s:={ s with toks:=s.toks+1 }) (r:=none) X J hp ht fun b=>?_)
 obtain⟨cd,hc,hd'⟩:=PySem.W.any_some hh
 have hx:s.heap.get? x=some ⟨.ref C,some dx,.plain,#[]⟩:=I.obj
 refine wpAny_bind (wpAny_pure (wpAny_bind (wpAny_bind (wpAny_loadPart hx (wpAny_bind (PySem.W.Looks.here (s:={ s with toks:=s.toks+1 }) (PySem.W.looks_clsIn X hc) ?_))))))
 rw[hd'];refine wpAny_pure (a:=some dx) (wpAny_bind (wpAny_pure (wpAny_bind ?_)))
 refine wpAny_nsSet1 (s:={ s with toks:=s.toks+1 }) I.ns fun h' hn2 hs2=>?_
 obtain⟨oD,esD,epD,hoD,hdD,hcD⟩:=hn2.count (PySem.Within.cons name v hw)
 refine wpAny_bind (wpAny_lookBehind hoD (by rw[hdD]; exact pastItsLine_dict (Nat.le_trans hcD (by rw[List.length_cons]; omega))) ?_)
 exact wpAny_pure (h _ ⟨(hs2.2 _ (Ne.symm I.ne)).trans I.obj,hn2,I.ne⟩ hs2)
theorem xZ{R:Result→Shared→Prop}{vs:List Value}{kw:List (Str × Value)}(X:K.In s.heap)(hm:PySem.W.makesIn K C=true)
  (hi:PySem.W.findIn K (.ref C) "__init__" = some (some (.ref f))) (hf:PySem.W.typeIn K (.ref f)=some (.type "function"))
  (h:codeAny (model prog w) (A.under (.builtin "type.__call__" ⟨.ref C::vs,kw⟩)) (.call (.ref f) ⟨.ref (s.heap.objs.size+1)::vs,kw⟩) (PySem.W.InitBack (s.heap.objs.size+1) R)
   { s with heap:=(s.heap.push PySem.W.emptyDict).push (PySem.W.instObj C s.heap.objs.size) }) :
  codeAny (model prog w) A (.call (.ref C) ⟨vs,kw⟩) R s:=by
 obtain⟨hh,g,d,t,os⟩:=s
 exact PySem.W.make_core (PySem.W.makes_of X hm) (PySem.W.looks_findIn X hi) (fun self=>PySem.W.bind_fn X self hf) (.inl rfl) h
end
def cL(f:Str)(v:V):List (Str × V)→List (Str × V)
 | []=>[(f,v)]
 | (g,x)::r=>if g=f then (g,v)::r else (g,x)::cL f v r
theorem ku(f g:Str)(v:V):∀ fs:List (Str × V),(cL f v fs).lookup g=if g=f then some v else fs.lookup g
 | []=>by
  show List.lookup g [(f,v)]=_
  by_cases h:g=f
  ·have hb:(g == f)=true:=beq_iff_eq.mpr h
   simp only[List.lookup,hb,if_pos h]
  ·have hb:(g == f)=false:=beq_eq_false_iff_ne.mpr h
   simp only[List.lookup,hb,if_neg h]
 | (k,x)::r=>by
  have ih:=ku f g v r;rw[show cL f v ((k,x)::r)=(if k=f then (k,v)::r else (k,x)::cL f v r) from rfl]
  by_cases hk:k=f
  ·rw[if_pos hk]
   by_cases h:g=k
   ·have hb:(g == k)=true:=beq_iff_eq.mpr h
    simp only[List.lookup,hb,if_pos (h.trans hk)]
   ·have hb:(g == k)=false:=beq_eq_false_iff_ne.mpr h
    simp only[List.lookup,hb,if_neg (fun e:g=f=>h (e.trans hk.symm))]
  ·rw[if_neg hk]
   by_cases h:g=k
   ·have hb:(g == k)=true:=beq_iff_eq.mpr h
    simp only[List.lookup,hb,if_neg (fun e:g=f=>hk (h.symm.trans e))]
   ·have hb:(g == k)=false:=beq_eq_false_iff_ne.mpr h
    simp only[List.lookup,hb]
    exact ih
theorem jG(f:Str)(v:V):∀ fs:List (Str × V),f∈(cL f v fs).map (·.1)∧∀ g,g∈fs.map (·.1)→g∈(cL f v fs).map (·.1)
 | []=>⟨by simp[cL],fun g h=>by simp at h⟩
 | (k,x)::r=>by
  obtain⟨i1,i2⟩:=jG f v r
  rw[show cL f v ((k,x)::r)=(if k=f then (k,v)::r else (k,x)::cL f v r) from rfl]
  by_cases hk:k=f
  ·rw[if_pos hk]
   subst hk;exact⟨by simp,fun g h=>by simpa using h⟩
  ·rw[if_neg hk]
   refine⟨?_,fun g h=>?_⟩
   ·rw[List.map_cons]
    exact List.mem_cons_of_mem _ i1
   ·rw[List.map_cons]at h ⊢
    rcases List.mem_cons.mp h with e | e
    ·exact List.mem_cons.mpr (.inl e)
    ·exact List.mem_cons_of_mem _ (i2 g e)
theorem kD(f:Str)(v:V):∀ fs:List (Str × V),(cL f v fs).length≤fs.length+1
 | []=>by simp[cL]
 | (k,x)::r=>by
  have ih:=kD f v r;rw[show cL f v ((k,x)::r)=(if k=f then (k,v)::r else (k,x)::cL f v r) from rfl]
  by_cases hk:k=f
  ·rw[if_pos hk,List.length_cons,List.length_cons]; omega
  ·rw[if_neg hk,List.length_cons,List.length_cons]; omega
theorem RelO.some_of{v:V}{o:Option Value}(r:RelO (some v) o):∃ u,o=some u∧RelV v u:=by
 cases o with
 | none=>exact(show False from r).elim
 | some u=>exact⟨u,rfl,r⟩
theorem RelO.none_of{o:Option Value}(r:RelO none o):o=none:=by
 cases o with
 | none=>rfl
 | some u=>exact(show False from r).elim
theorem wI{v:V}{u:Value}(r:RelV v u):PySem.W.handedIn u=true:=by
 cases v with
 | non=>cases (show u=Value.none from r); rfl
 | bl b=>cases (show u=Value.bool b from r); rfl
 | int i=>obtain⟨t,e⟩:=(show ∃ t,u=Value.int i t from r); cases e; rfl
 | str x=>obtain⟨t,e⟩:=(show ∃ t,u=Value.str x t from r); cases e; rfl
 | byt b=>obtain⟨t,e⟩:=(show ∃ t,u=Value.bytes b t from r); cases e; rfl
 | flt b=>obtain⟨t,e⟩:=(show ∃ t,u=Value.float b t from r); cases e; rfl
 | ref a=>cases (show u=Value.ref a from r); rfl
 | ty n=>cases (show u=Value.type n from r); rfl
section
variable{P:Program}{w:World}{H H':Hp}{h h':Heap}{a C dx:Addr}{fs fs':List (Str × V)}
theorem j_(hok:HOk P w H h)(e:H a=some (.ins C dx fs)):∃ mA,ObjM h a dx C mA∧(∀ f,RelO (fs.lookup f) (mA f))∧PySem.Within mA (fs.map (·.1))∧fs.length≤1000∧H dx=some (.own a):=by
 obtain⟨d,z,ne,ob,mA,n,r,q⟩:=(show ObjOk P w H h a (.ins C dx fs) from hok a _ e)
 exact⟨mA,⟨ob,n,ne⟩,r,q,z,d⟩
end
structure Cls (K:PySem.W.Frag) (C:Addr):Prop where
 pg:PySem.W.plainGet K C Str.empty=true
 hd:PySem.W.hasDictIn K C=true
 po:PySem.W.plainOver K C=true
 sa:PySem.W.findIn K (.ref C) "__setattr__" = some (some (.builtin "object.__setattr__"))
theorem Cls.get{K:PySem.W.Frag}{C:Addr}(c:Cls K C)(f:Str):PySem.W.plainGet K C f=true:=c.pg
def NoAttr(K:PySem.W.Frag)(C:Addr)(f:Str):Prop:=PySem.W.findIn K (.ref C) f=some none
theorem NoAttr.taker{K:PySem.W.Frag}{C:Addr}{f:Str}(n:NoAttr K C f):PySem.W.takerIn K C f=some none:=by
 unfold PySem.W.takerIn;rw[show PySem.W.findIn K (.ref C) f=some none from n]
 rfl
structure zh (K:PySem.W.Frag) (C:Addr) (m:Str) (f:Addr):Prop where
 at_:PySem.W.findIn K (.ref C) m=some (some (.ref f))
 fn:PySem.W.isFn K (.ref f)=true
 kp:PySem.W.keepIn K (.ref f)=true
section
variable{X:Cx}{pins:List (Addr × Obj)}{σ : St}{H:Hp}{s:Shared}{a C dx:Addr}{fs:List (Str × V)}{f:Str}{v:V}{A:Around}{E:Value→Shared→Prop}
theorem t0{b:Bool}{Q:Value→Shared→Prop}(I:Inv X pins σ H s)(e:H a=some (.ins C dx fs))(c:Cls X.K C)(n:NoAttr X.K C f)(l:fs.lookup f=some v)
  (h:∀ u s',Inv X pins σ H s'→RelV v u→Q u s'):wpAny (model X.prog X.w) A (getAttr (.ref a) f b) Q E s:=by
 obtain⟨mA,O,r,_,_,_⟩:=j_ I.hok e
 obtain⟨u,hu,ru⟩:=RelO.some_of (v:=v) (o:=mA f) (by rw[← l]; exact r f)
 exact A6 I.kIn O (c.get f) c.hd n hu (wI ru) (h u _ (I.tok _) ru)
theorem sY{m:Str}{g:Addr}{pl:Sem Bool}{Q:Value × List Value→Shared→Prop}(I:Inv X pins σ H s)(e:H a=some (.ins C dx fs))(c:Cls X.K C)(k:zh X.K C m g)(l:fs.lookup m=none)
  (h:Q (.ref g,[.ref a]) s):wpAny (model X.prog X.w) A (getMethod (.ref a) m pl) Q E s:=by
 obtain⟨mA,O,r,_,_,_⟩:=j_ I.hok e
 have hn:mA m=none:=RelO.none_of (by rw[← l]; exact r m)
 exact yw I.kIn O (c.get m) k.at_ k.fn hn h
theorem uq{y:V}{u:Value}{Q:Unit→Shared→Prop}(I:Inv X pins σ H s)(e:H a=some (.ins C dx fs))(c:Cls X.K C)(n:NoAttr X.K C f)(hl:fs.length<1000)(ry:RelV y u)
  (h:∀ s',Inv X pins σ (upd H a (.ins C dx (cL f y fs))) s'→Q () s'):wpAny (model X.prog X.w) A (setAttr (.ref a) f u) Q E s:=by
 obtain⟨mA,O,r,wi,_,ho⟩:=j_ I.hok e
 have hz:(fs.map (·.1)).length≤sizeLine:=by rw[List.length_map,sizeLine_eq]; omega
 refine BK I.kIn O c.sa c.po n.taker c.hd wi hz fun h' O' sb=>h _ ?_
 have hd:∃ o,h'.get? dx=some o:=let ⟨o,_,_,e',_⟩:=O'.ns; ⟨o,e'⟩
 refine I.write (x:=a) (e:=dx) (by rw[e]; exact True.intro) (.inr ho) (fun b q hb z=>(sb.2 b hb).trans z) hd ?_
 refine⟨by rw[am O.ne]; exact ho,?_,O.ne,O'.obj,_,O'.ns,fun g=>?_,fun g hg=>?_⟩
 ·have:=kD f y fs; omega
 ·show RelO ((cL f y fs).lookup g) (if g=f then some u else mA g)
  rw[ku]
  by_cases q:g=f
  ·rw[if_pos q,if_pos q]; exact ry
  ·rw[if_neg q,if_neg q]; exact r g
 ·by_cases q:g=f
  ·rw[q]; exact(jG f y fs).1
  ·refine(jG f y fs).2 g (wi g fun z=>hg ?_)
   show (if g=f then some u else mA g)=none
   rw[if_neg q]; exact z
theorem Inv.made(I:Inv X pins σ H s):Inv X pins σ (upd (upd H s.heap.objs.size (.own (s.heap.objs.size+1))) (s.heap.objs.size+1) (.ins C s.heap.objs.size []))
  { s with heap:=(s.heap.push PySem.W.emptyDict).push (PySem.W.instObj C s.heap.objs.size) }:=by
 have e1:(s.heap.push PySem.W.emptyDict).get? s.heap.objs.size=some PySem.W.emptyDict:=Heap.get?_push_size s.heap rfl
 have e2:((s.heap.push PySem.W.emptyDict).push (PySem.W.instObj C s.heap.objs.size)).get? (s.heap.objs.size+1)=some (PySem.W.instObj C s.heap.objs.size):=by
  have:=Heap.get?_push_size (s.heap.push PySem.W.emptyDict) (o:=PySem.W.instObj C s.heap.objs.size) rfl
  rwa [Heap.size_push]at this
 have e3:(s.heap.push PySem.W.emptyDict).Ns s.heap.objs.size (fun _=>none):=⟨PySem.W.emptyDict,#[],_,e1,rfl,(fun e he=>absurd he (by simp)),fun _=>rfl⟩
 have I1:=I.laid (a:=s.heap.objs.size) (o:=.own (s.heap.objs.size+1)) (h':=s.heap.push PySem.W.emptyDict) (t':=s.toks) (fun b u q=>Heap.get?_push_of_some _ q) (Nat.le_refl _) ⟨_,e1⟩
 refine I1.laid (a:=s.heap.objs.size+1) (o:=.ins C s.heap.objs.size []) (t':=s.toks) (fun b u q=>Heap.get?_push_of_some _ q) (Nat.le_of_eq (Heap.size_push _ _)) ?_
 have ne:s.heap.objs.size≠s.heap.objs.size+1:=Nat.ne_of_lt (Nat.lt_succ_self _)
 refine⟨by rw[am ne,ae],Nat.zero_le _,ne,e2,fun _=>none,(Heap.Ns1.of_empty e3).at fun o q=>Heap.get?_push_of_some _ q,fun _=>True.intro,fun y hy=>absurd rfl hy⟩
theorem A4{prog:Program}{w:World}{env:Env}{e:Expr}{f:Str}{pos:Pos}{s:Shared}{Q:Value→Shared→Prop}(hb:attributeBase e f env (eval e env)=eval e env)
  (h:wpAny (model prog w) A (eval e env) (fun o s₁=>wpAny (model prog w) A (getAttr o f true) Q E s₁) E s):wpAny (model prog w) A (eval (.Attribute e f pos) env) Q E s:=
 Attribute_any_ h (by rw[arm_eval_Attribute,hb])
end
section
variable{X:Cx}{o e value:Expr}{f:Str}{pos pos' tpos:Pos}{ta tv:TE}
end
section
variable{X:Cx}{pins:List (Addr × Obj)}{σ : St}{H:Hp}{s:Shared}{A:Around}{E:Value→Shared→Prop}{Q:Value→Shared→Prop}{c:Value}{b:Bool}
inductive fY (K:PySem.W.Frag) (H:Hp):V→Value→Prop where
 | non:fY K H .non (.type "NoneType")
 | bl (x:Bool):fY K H (.bl x) (.type "bool")
 | int (i:Int):fY K H (.int i) (.type "int")
 | str (x:Str):fY K H (.str x) (.type "str")
 | flt (x:UInt64):fY K H (.flt x) (.type "float")
 | lst {a:Addr} {xs:List V} (e:H a=some (.lst xs)):fY K H (.ref a) (.type "list")
 | frz {a:Addr} {o:Obj} {xs:List V} (e:H a=some (.frz o (.lst xs))):fY K H (.ref a) (.type "list")
 | tup {a:Addr} {xs:List V} (e:H a=some (.tup xs)):fY K H (.ref a) (.type "tuple")
 | dK {a:Addr} {kvs:List (aw × V)} (e:H a=some (.dK kvs)):fY K H (.ref a) (.type "dict")
 | dT {a:Addr} {kvs:List (List aw × V)} (e:H a=some (.dT kvs)):fY K H (.ref a) (.type "dict")
 | ins {a C dx:Addr} {fs:List (Str × V)} (e:H a=some (.ins C dx fs)) (cl:Cls K C) (ha:PySem.W.findIn K (.ref C) "__class__" = some (some (.builtin "object.__class__")))
   (hn:PySem.W.specialIn K (.builtin "object.__class__") "__get__" = some (some (.builtin "getset_descriptor.__get__"))) (htk:PySem.W.takesIn K (.builtin "object.__class__")=some true)
   (hm:PySem.W.mroIn K C (.type "object")=some true):fY K H (.ref a) (.ref C)
theorem v8{x:V}{u t:Value}(I:Inv X pins σ H s)(rx:RelV x u)(ty:fY X.K H x t)(e:PySem.W.kitOne X.K t c=some b)(h:∀ tk,Q (.bool b) { s with toks:=tk }) :
  wpAny (model X.prog X.w) A (call (.builtin "isinstance") [u,c]) Q E s:=by
 cases ty with
 | non=>cases (show u=Value.none from rx); exact PySem.W.kia_one PySem.W.kitx_none I.kIn True.intro e (fun z=>nomatch z) h
 | bl y=>cases (show u=Value.bool y from rx); exact PySem.W.kia_one PySem.W.kitx_bool I.kIn True.intro e (fun z=>nomatch z) h
 | int i=>obtain⟨t,q⟩:=(show ∃ t,u=Value.int i t from rx); cases q; exact PySem.W.kia_one PySem.W.kitx_int I.kIn True.intro e (fun z=>nomatch z) h
 | str y=>obtain⟨t,q⟩:=(show ∃ t,u=Value.str y t from rx); cases q; exact PySem.W.kia_one PySem.W.kitx_str I.kIn True.intro e (fun z=>nomatch z) h
 | flt y=>obtain⟨t,q⟩:=(show ∃ t,u=Value.float y t from rx); cases q; exact PySem.W.kia_one PySem.W.kitx_float I.kIn True.intro e (fun z=>nomatch z) h
 | @lst a xs ea=>
  cases (show u=Value.ref a from rx)
  obtain⟨_,_,n,_,h1⟩:=(show ObjOk X.prog X.w H s.heap a (.lst xs) from I.hok a _ ea)
  exact PySem.W.kia_one PySem.W.kitx_list I.kIn ⟨_,h1,rfl⟩ e (fun z=>nomatch z) h
 | @frz a ob xs ea=>
  cases (show u=Value.ref a from rx)
  obtain⟨_,_,_,n,_,h1⟩:=(show ObjOk X.prog X.w H s.heap a (.frz ob (.lst xs)) from I.hok a _ ea)
  exact PySem.W.kia_one PySem.W.kitx_list I.kIn ⟨_,h1,rfl⟩ e (fun z=>nomatch z) h
 | @tup a xs ea=>
  cases (show u=Value.ref a from rx)
  obtain⟨_,_,_,p⟩:=(show ObjOk X.prog X.w H s.heap a (.tup xs) from I.hok a _ ea)
  obtain⟨o,h1,h2,_⟩:=p
  exact PySem.W.kia_one PySem.W.kitx_tuple I.kIn ⟨o,h1,h2⟩ e (fun z=>nomatch z) h
 | @dK a kvs ea=>
  cases (show u=Value.ref a from rx)
  obtain⟨_,_,vs,_,p⟩:=(show ObjOk X.prog X.w H s.heap a (.dK kvs) from I.hok a _ ea)
  obtain⟨o,es,ep,h1,h2,_⟩:=p
  exact PySem.W.kia_one PySem.W.kitx_dict I.kIn ⟨o,h1,h2.1⟩ e (fun z=>nomatch z) h
 | @dT a kvs ea=>
  cases (show u=Value.ref a from rx)
  obtain⟨_,_,xs,_,o,es,ep,h1,h2,_⟩:=(show ObjOk X.prog X.w H s.heap a (.dT kvs) from I.hok a _ ea)
  exact PySem.W.kia_one PySem.W.kitx_dict I.kIn ⟨o,h1,h2.1⟩ e (fun z=>nomatch z) h
 | @ins a C dx fs ea cl ha hn htk hm=>
  cases (show u=Value.ref a from rx)
  obtain⟨mA,O,_⟩:=j_ I.hok ea
  obtain⟨od,J,_⟩:=O.look
  exact PySem.W.kia_one (PySem.W.kitx_own (cl.get _) cl.hd ha hn htk hm) I.kIn J e (fun z=>nomatch z) h
end
end L2
namespace L2
open PySem PySem.Spec PyProof.Rows
structure Room (k:Nat) (A:Around):Prop where
 hd:A.handled=none
 dp:A.depth+3 * k+5<recursionLimit
 un:A.units+16 * k+200<cLine
theorem Room.mono{j k:Nat}{A:Around}(r:Room k A)(h:j≤k):Room j A:=⟨r.hd,by have:=r.dp; omega,by have:=r.un; omega⟩
theorem Room.deeper{k:Nat}{A:Around}(r:Room (k+1) A)(env:Env):Room k (A.deeper env):=
 ⟨r.hd,by have:=r.dp; show A.depth+1+3 * k+5<_; omega,by have:=r.un; show A.units+3+16 * k+200<_; omega⟩
theorem ub{A:Around}{C:Addr}{us:List Value}{kw:List (Str × Value)}:(A.under (.builtin "type.__call__" ⟨.ref C::us,kw⟩)).depth=A.depth+1:=by
 first | rfl | simp[Around.under,Code.weight,Code.isCreation,Code.isGuard,Code.isCaller,Code.frames,Code.isFrame,guardIds]
theorem rP{A:Around}{C:Addr}{us:List Value}{kw:List (Str × Value)}:(A.under (.builtin "type.__call__" ⟨.ref C::us,kw⟩)).units=A.units+1:=by
 first | rfl | simp[Around.under,Code.cUnits,Code.frames,Code.isFrame]
theorem Room.make{k:Nat}{A:Around}(r:Room (k+1) A)(C:Addr)(us:List Value)(kw:List (Str × Value)):Room k (A.under (.builtin "type.__call__" ⟨.ref C::us,kw⟩)):=
 ⟨r.hd,by have:=r.dp; rw[ub]; omega,by have:=r.un; rw[rP]; omega⟩
theorem Room.depth{k:Nat}{A:Around}(r:Room k A):A.depth<recursionLimit:=by have:=r.dp; omega
theorem Room.units{k:Nat}{A:Around}(r:Room k A):A.units+64<cLine:=by have:=r.un; omega
def t_:TA:=fun _ H Q=>Q [] H
def lS(ta:TE)(tr:TA):TA:=fun σ H Q=>ta σ H fun x H1=>tr σ H1 fun xs H2=>Q (x::xs) H2
section
variable{X:Cx}{e:Expr}{es:List Expr}{te:TE}{t:TA}{pos:Pos}
theorem ac:PA X [] t_:=fun _ _ _ _ H Q I h=>Calls.spliced_nil ⟨[],H,I,.nil,h⟩
theorem aa(ha:PE X e te)(hr:PA X es t)(hs:starEach (e::es) X.env=(false,eval e X.env)::starEach es X.env:=by rfl):PA X (e::es) (lS te t):=by
 intro pos pins s σ H Q I h
 rw[hs];show wpAny _ _ (spliced ((false,eval e X.env)::backTo pos (starEach es X.env))) _ _ s
 refine Calls.spliced_cons (bj (ha pins s σ H _ I h) fun u s1 ⟨x,H1,I1,r1,q1⟩=>?_)
 exact bj (hr pos pins s1 σ H1 _ I1 q1) fun us s2 ⟨xs,H2,I2,r2,q2⟩=>⟨x::xs,H2,I2,.cons r1 r2,q2⟩
def C_(t:TA):TE:=fun σ H Q=>t σ H fun xs H1=>xs.length≤sizeLine∧∀ p,H1 p=none→Q (.ref p) (upd H1 p (.tup xs))
def B8(t:TA):TE:=fun σ H Q=>t σ H fun xs H1=>xs.length≤sizeLine∧∀ p,H1 p=none→Q (.ref p) (upd H1 p (.lst xs))
theorem aX{x1}(h:PA X es t):PE X (.Tuple es x1 pos) (C_ t):=by
 intro pins s σ H Q I hq
 refine wpAny_Tuple_spliced (bj (h pos pins s σ H _ I hq) fun us s1 ⟨xs,H1,I1,r,z,q⟩=>⟨by rw[← r.length]; exact z,?_⟩)
 have hf:H1 s1.heap.objs.size=none:=I1.hok.fresh (Nat.le_refl _)
 refine⟨.ref s1.heap.objs.size,upd H1 s1.heap.objs.size (.tup xs),I1.laid (t':=s1.toks) (fun b u e=>Heap.get?_push_of_some _ e) (Nat.le_refl _) ?_,rfl,q _ hf⟩
 exact⟨z,us,r,⟨_,Heap.get?_push_size _ rfl,rfl,rfl,_,rfl⟩⟩
theorem aQ(h:PA X es t):PE X (.List es pos) (B8 t):=by
 intro pins s σ H Q I hq
 refine wpAny_List_spliced (bj (h pos pins s σ H _ I hq) fun us s1 ⟨xs,H1,I1,r,z,q⟩=>⟨by rw[← r.length]; exact z,?_⟩)
 have hf:H1 s1.heap.objs.size=none:=I1.hok.fresh (Nat.le_refl _)
 refine⟨.ref s1.heap.objs.size,upd H1 s1.heap.objs.size (.lst xs),I1.laid (t':=s1.toks) (fun b u e=>Heap.get?_push_of_some _ e) (Nat.le_refl _) ?_,rfl,q _ hf⟩
 exact⟨z,us,0,r,Heap.get?_push_size _ rfl⟩
end
abbrev Sp:=List V→Hp→VK→XK→Prop
abbrev ix:=List Env→Hp→Shared→XK→Value→Shared→Prop
structure Env0 (P:Program) (w:World) (K:PySem.W.Frag) (mg:Str→Option Value) (base:Heap) (A:Around) (outer:List Env) (s:Shared) (H:Hp):Prop where
 frames:A.frames=some outer
 mod:Mod K mg base
 bs:∀ b o,base.get? b=some o→s.heap.get? b=some o∧H b=none
 bsz:base.objs.size≤s.heap.objs.size
 funs:s.heap.FunFrames base outer
 frf:∀ b∈jl outer,H b=none
 hok:HOk P w H s.heap
 bare:AllBare s.gens
def CE(outer:List Env)(P:Program)(w:World)(H:Hp)(s:Shared)(Q:VK)(u:Value)(s':Shared):Prop:=
 ∃ v H',s'.os=s.os∧AllBare s'.gens∧Un (jl outer) [] H H' s.heap s'.heap∧HOk P w H' s'.heap∧RelV v u∧Q v H'
def CR(CX:ix)(outer:List Env)(P:Program)(w:World)(H:Hp)(s:Shared)(Q:VK)(E:XK)(r:Result)(s':Shared):Prop:=
 match r with
 | .ok (.ret u)=>CE outer P w H s Q u s'
 | .ok _=>False
 | .error e=>CX outer H s E e s'
structure FnOk (P:Program) (w:World) (K:PySem.W.Frag) (mg:Str→Option Value) (base:Heap) (CX:ix) (k:Nat) (f:Addr) (fd:FuncData) (ps:List Str) (sp:Sp):Prop where
 len:∀ vs H Q E,sp vs H Q E→vs.length=ps.length
 run:∀ (A:Around) (outer:List Env) (s:Shared) (H:Hp) (args:Args) (us:List Value) (vs:List V) (Q:VK) (E:XK),Room k A→Env0 P w K mg base A outer s H→BindsTo s fd args (ps.zip us)→Vals vs us→sp vs H Q E→
  codeAny (model P w) A (.call (.ref f) args) (CR CX outer P w H s Q E) s
theorem FnOk.mono{P:Program}{w:World}{K:PySem.W.Frag}{mg:Str→Option Value}{base:Heap}{CX:ix}{j k:Nat}{f:Addr}{fd:FuncData}{ps:List Str}{sp:Sp}(F:FnOk P w K mg base CX j f fd ps sp)(h:j≤k) :
  FnOk P w K mg base CX k f fd ps sp:=⟨F.len,fun A outer s H args us vs Q E hr=>F.run A outer s H args us vs Q E (hr.mono h)⟩
theorem FnOk.imp{P:Program}{w:World}{K:PySem.W.Frag}{mg:Str→Option Value}{base:Heap}{CX:ix}{k:Nat}{f:Addr}{fd:FuncData}{ps:List Str}{sp sp':Sp}(F:FnOk P w K mg base CX k f fd ps sp)
  (h:∀ vs H Q E,sp' vs H Q E→sp vs H Q E):FnOk P w K mg base CX k f fd ps sp':=
 ⟨fun vs H Q E q=>F.len vs H Q E (h _ _ _ _ q),fun A outer s H args us vs Q E hr he hb hv hs=>F.run A outer s H args us vs Q E hr he hb hv (h _ _ _ _ hs)⟩
theorem Env0.make{P:Program}{w:World}{K:PySem.W.Frag}{mg:Str→Option Value}{base:Heap}{A:Around}{outer:List Env}{s:Shared}{H:Hp}(e:Env0 P w K mg base A outer s H)(C:Addr)(us:List Value)(kw:List (Str × Value)) :
  Env0 P w K mg base (A.under (.builtin "type.__call__" ⟨.ref C::us,kw⟩)) outer s H:=⟨by first | exact e.frames | (simpa [Around.under,Code.envs,Code.isFrame,pushEnvs] using e.frames),e.mod,e.bs,e.bsz,e.funs,e.frf,e.hok,e.bare⟩
section
variable{X:Cx}{pins:List (Addr × Obj)}{σ : St}{H:Hp}{s s':Shared}
theorem Inv.env0(I:Inv X pins σ H s):Env0 X.prog X.w X.K X.mg X.base X.A X.stack s H:=
 ⟨I.ok.frames,I.ok.mod,I.bs,Nat.le_trans I.ok.bsz I.sz,I.stack,I.stkFree,I.hok,I.bare⟩
theorem Inv.after{Q:VK}{u:Value}(I:Inv X pins σ H s)(h:CE X.stack X.prog X.w H s Q u s'):EP X pins σ Q u s':=by
 obtain⟨v,H',os,bare,un,hok,r,q⟩:=h
 obtain⟨hh,g,d,t,os'⟩:=s'
 obtain rfl:os'=s.os:=os
 exact⟨v,H',I.call (h':=hh) (g':=g) (d':=d) (t':=t) (ch:=[]) un hok bare (fun b z=>absurd z (by simp)),r,q⟩
end
def ui(sp:Sp)(dvs:List V)(E:XK)(t:TA):TE:=fun σ H Q=>t σ H fun vs H1=>sp (vs++dvs) H1 Q E
def Binds(K:PySem.W.Frag)(fd:FuncData)(ps:List Str)(ds:List Value):Prop:=
 ∀ (s:Shared) (us:List Value),K.In s.heap→(us++ds).length=ps.length→BindsTo s fd ⟨us,[]⟩ (ps.zip (us++ds))
theorem Binds.all{K:PySem.W.Frag}{fd:FuncData}{ps:List Str}(h:∀ us:List Value,us.length=ps.length→bindArgs fd ⟨us,[]⟩=pure (ps.zip us)):Binds K fd ps []:=fun s us _ hl=>by
 rw[List.append_nil]at hl ⊢
 exact .of_eq (h us hl)
def lc(CX:ix)(X:Cx)(E:XK):Prop:=∀ (pins:List (Addr × Obj)) (σ : St) (H:Hp) (s:Shared) (e:Value) (s':Shared),Inv X pins σ H s→CX X.stack H s E e s'→X.xe e s'
section
variable{X:Cx}{CX:ix}{k:Nat}{f C:Addr}{fd:FuncData}{ps:List Str}{sp:Sp}{dvs:List V}{ds:List Value}{E:XK}{x m:Str}{p pos apos:Pos}{e o:Expr}{es:List Expr}{ta:TE}{t:TA}
theorem wR{pins:List (Addr × Obj)}{σ : St}{H:Hp}{s:Shared}{Q:VK}{us:List Value}{vs:List V}(F:FnOk X.prog X.w X.K X.mg X.base CX k f fd ps sp)(hr:Room k X.A)(hb:Binds X.K fd ps ds)(hd:Vals dvs ds)(hx:lc CX X E)
  (I:Inv X pins σ H s) (r:Vals vs us) (h:sp (vs++dvs) H Q E):wpAny (model X.prog X.w) X.A (call (.ref f) us) (EP X pins σ Q) X.xe s:=by
 have r2:Vals (vs++dvs) (us++ds):=r.append hd
 have hl:(us++ds).length=ps.length:=by rw[← r2.length]; exact F.len _ _ _ _ h
 refine wpAny_call (codeAny_mono (F.run X.A X.stack s H ⟨us,[]⟩ (us++ds) (vs++dvs) Q E hr I.env0 (hb s us I.kIn hl) r2 h) fun r s' hq=>?_)
 cases r with
 | error e=>exact hx pins σ H s e s' I hq
 | ok fl=>
  cases fl with
  | ret u=>exact I.after hq
  | next=>exact False.elim hq
  | brk=>exact False.elim hq
  | cont=>exact False.elim hq
theorem AD(F:FnOk X.prog X.w X.K X.mg X.base CX k f fd ps sp)(hr:Room k X.A)(hg:Gl X x)(hm:X.mg x=some (.ref f))(hk:PySem.W.keepIn X.K (.ref f)=true)(hb:Binds X.K fd ps ds)(hd:Vals dvs ds)(hx:lc CX X E)
  (ha:PA X (e::es) t) (hdb:(x == ("__debug__" : Str))=false:=by decide) (he:starEach (e::es) X.env=(false,eval e X.env)::starEach es X.env:=by rfl) (hpl:(backTo pos (starEach es X.env)).any (·.1)=false:=by rfl) :
  PE X (.Call (.Name x p) (e::es) [] pos) (ui sp dvs E t):=by
 intro pins s σ H Q I h
 refine wpAny_Call_Name_kw (mx I hg hm ?_ hdb)
 refine PySem.W.callWith_K (h₀:=X.base) I.ok.mod.kin hk (bj (ha pos pins s σ H _ I h) fun us s1 ⟨vs,H1,I1,r,q⟩=>⟨I1.kIn,?_⟩) he hpl
 exact wR F hr hb hd hx I1 r q
structure Mk (K:PySem.W.Frag) (C f:Addr):Prop where
 makes:PySem.W.makesIn K C=true
 init:PySem.W.findIn K (.ref C) "__init__" = some (some (.ref f))
 fn:PySem.W.isFn K (.ref f)=true
 kp:PySem.W.keepIn K (.ref C)=true
theorem yJ{pins:List (Addr × Obj)}{σ : St}{H:Hp}{s:Shared}{Q:VK}{us:List Value}{vs:List V}(M:Mk X.K C f)(F:FnOk X.prog X.w X.K X.mg X.base CX k f fd ps sp)(hr:Room (k+1) X.A)(hb:Binds X.K fd ps ds)(hd:Vals dvs ds)
  (hx:lc CX X E) (I:Inv X pins σ H s) (r:Vals vs us)
  (h:∀ x dx,H x=none→H dx=none→dx≠x→sp (.ref x::(vs++dvs)) (upd (upd H dx (.own x)) x (.ins C dx [])) (fun v H2=>v = .non∧Q (.ref x) H2) E) :
  wpAny (model X.prog X.w) X.A (call (.ref C) us) (EP X pins σ Q) X.xe s:=by
 have hq:=h (s.heap.objs.size+1) s.heap.objs.size (I.hok.fresh (Nat.le_succ _)) (I.hok.fresh (Nat.le_refl _)) (Nat.ne_of_lt (Nat.lt_succ_self _));have I2:=Inv.made (C:=C) I;have r2:Vals (V.ref (s.heap.objs.size+1)::(vs++dvs)) (Value.ref (s.heap.objs.size+1)::(us++ds)):=.cons rfl (r.append hd)
 have hl:(Value.ref (s.heap.objs.size+1)::us++ds).length=ps.length:=by
  have e:=r2.length;rw[F.len _ _ _ _ hq]at e
  exact e.symm
 refine wpAny_call (xZ (f:=f) I.kIn M.makes M.init (beq_iff_eq.mp M.fn) (codeAny_mono (F.run _ X.stack _ _ ⟨Value.ref (s.heap.objs.size+1)::us,[]⟩ (Value.ref (s.heap.objs.size+1)::(us++ds)) _ _ E (hr.make C us [])
  (I2.env0.make C us []) (hb _ (Value.ref (s.heap.objs.size+1)::us) I2.kIn hl) r2 hq) fun r s' hq'=>?_))
 cases r with
 | error e=>exact hx pins σ _ _ e s' I2 hq'
 | ok fl=>
  cases fl with
  | ret u=>
   obtain⟨v,H',I3,rv,ev,q3⟩:=I2.after hq'
   subst ev;exact⟨rv,⟨V.ref (s.heap.objs.size+1),H',I3,rfl,q3⟩⟩
  | next=>exact False.elim hq'
  | brk=>exact False.elim hq'
  | cont=>exact False.elim hq'
end
section
variable{X:Cx}{CX:ix}{k:Nat}{f C:Addr}{fd:FuncData}{ps ks:List Str}{sp:Sp}{E:XK}{x m:Str}{p pos apos kpos:Pos}{e o:Expr}{es:List Expr}{kws:List Keyword}{te ta:TE}{t tk:TA}{nm:Option Str}
variable{g:List Value→List Value→List Value}{gV:List V→List V→List V}
end
structure ar (N P:List Str) (sc:Scope):Prop where
 kind:sc.kind = .function
 co:sc.isCoroutine=false
 gen:sc.isGenerator=false
 nd:N.Nodup
 pre:N.take P.length=P
 par:∀ x∈P,sc.names.lookup x=some .local∨sc.names.lookup x=some .cell
 nofree:∀ y∈sc.names,y.2 ≠ .free
theorem mKk{N P:List Str}{s:Stmt}(h1:(L2.defScope s).kind = .function:=by rfl)(h2:(L2.defScope s).isCoroutine=false:=by rfl)(h3:(L2.defScope s).isGenerator=false:=by rfl)(h4:N.Nodup:=by decide +kernel)(h5:N.take P.length=P:=by rfl)(h6:∀ x∈P,(L2.defScope s).names.lookup x=some .local∨(L2.defScope s).names.lookup x=some .cell:=by decide +kernel)(h7:∀ y∈(L2.defScope s).names,y.2 ≠ .free:=by decide +kernel):ar N P (L2.defScope s):=⟨h1,h2,h3,h4,h5,h6,h7⟩
theorem mS{kindOf:Str→Option NameKind}{x:Str}:∀ {binds:List (Str × Value)} {m:Str→Option Value},(∀ v,(x,v)∉binds)→bindL kindOf binds m x=m x
 | [],_,_=>rfl
 | (n,v)::r,m,h=>by
  unfold bindL;rw[mS fun w hw=>h w (List.mem_cons_of_mem _ hw)]
  split
  ·have:x≠n:=by rintro rfl; exact h v List.mem_cons_self
   simp[this]
  ·rfl
theorem nI{kindOf:Str→Option NameKind}{x:Str}:∀ {binds:List (Str × Value)} {m:Str→Option Value},(∀ v,(x,v)∉binds)→bindC kindOf binds m x=m x
 | [],_,_=>rfl
 | (n,v)::r,m,h=>by
  unfold bindC;rw[nI fun w hw=>h w (List.mem_cons_of_mem _ hw)]
  split
  ·rfl
  ·have:x≠n:=by rintro rfl; exact h v List.mem_cons_self
   simp[this]
theorem nK{kindOf:Str→Option NameKind}{x:Str}{v:Value}:∀ {P:List Str} {vs:List Value} {i:Nat} {m:Str→Option Value},P.Nodup→P[i]? = some x→vs[i]? = some v→kindOf x=some .local→
  bindL kindOf (P.zip vs) m x=some v
 | [],_,_,_,_,h,_,_=>by simp at h
 | _::_,[],_,_,_,_,h,_=>by simp at h
 | p::P,w::vs,0,m,nd,h1,h2,hk=>by
  simp at h1 h2; subst h1; subst h2
  show bindL kindOf ((p,w)::P.zip vs) m p=_
  unfold bindL;rw[mS fun v hv=>(List.nodup_cons.mp nd).1 (List.of_mem_zip hv).1,if_pos hk]
  simp
 | p::P,w::vs,i+1,m,nd,h1,h2,hk=>by
  show bindL kindOf ((p,w)::P.zip vs) m x=_
  unfold bindL;exact nK (i:=i) (List.nodup_cons.mp nd).2 (by simpa using h1) (by simpa using h2) hk
theorem mU{kindOf:Str→Option NameKind}{x:Str}{v:Value}:∀ {P:List Str} {vs:List Value} {i:Nat} {m:Str→Option Value},P.Nodup→P[i]? = some x→vs[i]? = some v→kindOf x≠some .local→
  bindC kindOf (P.zip vs) m x=some v
 | [],_,_,_,_,h,_,_=>by simp at h
 | _::_,[],_,_,_,_,h,_=>by simp at h
 | p::P,w::vs,0,m,nd,h1,h2,hk=>by
  simp at h1 h2; subst h1; subst h2
  show bindC kindOf ((p,w)::P.zip vs) m p=_
  unfold bindC;rw[nI fun v hv=>(List.nodup_cons.mp nd).1 (List.of_mem_zip hv).1,if_neg hk]
  simp
 | p::P,w::vs,i+1,m,nd,h1,h2,hk=>by
  show bindC kindOf ((p,w)::P.zip vs) m x=_
  unfold bindC;exact mU (i:=i) (List.nodup_cons.mp nd).2 (by simpa using h1) (by simpa using h2) hk
def start(N:List Str)(vs:List V):St:=vs.map some++List.replicate (N.length - vs.length) none
def iO(CX:ix)(P:Program)(w:World)(K:PySem.W.Frag)(mg:Str→Option Value)(base:Heap)(N:List Str)(qual:Str)(scope:Scope)(f:Addr)(cd:Value)(A:Around)(outer:List Env)(s:Shared)(H:Hp)(E:XK):Cx where
 prog:=P
 w:=w
 K:=K
 mg:=mg
 base:=base
 A:=A.deeper (envOfC qual scope s.heap.objs.size f cd)
 N:=N
 s₀:=s
 H₀:=H
 env:=envOfC qual scope s.heap.objs.size f cd
 outer:=outer
 stack:=envOfC qual scope s.heap.objs.size f cd::outer
 ex:=[]
 calm:=true
 fn:=fun _=>true
 pn:=[]
 xe:=fun e s'=>wpAny (model P w) (A.deeper (envOfC qual scope s.heap.objs.size f cd)) (leaving (envOfC qual scope s.heap.objs.size f cd) e) (fun _ s''=>CX outer H s E e s'') (fun e' s''=>CX outer H s E e' s'') s'
theorem pX{sc:Scope}{n:Nat}{x:Str}(h:sc.names.lookup x=some .cell):∃ c,(cellsFrom n sc.names []).lookup x=some c:=by
 have q:=PySem.W.cellsFrom_some sc.names n [] (.inl h);exact Option.isSome_iff_exists.mp q
theorem wg{CX:ix}{P:Program}{w:World}{K:PySem.W.Frag}{mg:Str→Option Value}{base:Heap}{N ps:List Str}{qual:Str}{scope:Scope}{f:Addr}{cd:Value}{A:Around}{outer:List Env}{s s1:Shared}{H:Hp}{E:XK}{us:List Value}{vs:List V}
  (S:ar N ps scope) (hd:A.handled=none) (e0:Env0 P w K mg base A outer s H) (hl:vs.length=ps.length) (r:Vals vs us)
  (x:InCallC s s.heap.objs.size (bindL (envOfC qual scope s.heap.objs.size f cd).kindOf (ps.zip us) fun _=>none) (cellsFrom (s.heap.objs.size+1) scope.names []) (bindC (envOfC qual scope s.heap.objs.size f cd).kindOf (ps.zip us) fun _=>none) s1) :
  Inv (iO CX P w K mg base N qual scope f cd A outer s H E) [] (start N vs) H s1:=by
 have hpl:ps.length≤N.length:=by have:=congrArg List.length S.pre; rw[List.length_take]at this; omega
 obtain⟨h1,tk,rfl,hk⟩:=x.done
 have noA:∀ b:Addr,b∉(iO CX P w K mg base N qual scope f cd A outer s H E).ex:=fun b z=>absurd (show b∈([]:List Addr) from z) (by simp)
 refine⟨⟨e0.mod,S.kind,rfl,rfl,Nat.le_refl _,fun y z c h1 h2=>?_,fun y hy=>?_,fun y c _ h=>?_,fun _=>hd,Around.frames_deeper e0.frames,.inr ⟨rfl,rfl⟩,fun b z=>absurd z (noA b),e0.bs,e0.bsz,fun b _ _=>noA b,fun b z=>absurd z (noA b),e0.funs,e0.frf⟩,
  rfl,e0.bare,Un.kept hk,⟨_,x.toInCall.ns,fun i y v h1 h2 h3=>?_⟩,fun y c h=>⟨_,x.cell y c h⟩,e0.hok.fresh (Nat.le_refl _),fun y c h=>?_,fun p hp=>absurd (show p∈([]:List (Addr × Obj)) from hp) (by simp),e0.hok.kept hk,?_⟩
 ·exact name_of_addr x.apart (PySem.mem_of_lookup h1) (PySem.mem_of_lookup h2)
 ·have hy:scope.names.lookup y=some .cell∨scope.names.lookup y=some .free:=hy
  rcases hy with hy | hy
  ·exact pX hy
  ·exact absurd rfl (S.nofree _ (PySem.mem_of_lookup hy))
 ·exact Nat.le_of_lt (x.above y c (PySem.mem_of_lookup h))
 ·have hi:i<vs.length:=by
   unfold start at h2
   by_cases hi:i<vs.length
   ·exact hi
   ·rw[List.getElem?_append_right (by simpa using hi)]at h2
    rw[List.getElem?_replicate]at h2
    split at h2 <;> cases h2
  have ha:vs[i]? = some v:=by
   unfold start at h2;rw[List.getElem?_append_left (by simpa using hi),List.getElem?_map]at h2
   cases e:vs[i]? with
   | none=>rw[e]at h2; cases h2
   | some a=>rw[e]at h2; cases h2; rfl
  obtain⟨u,hu,rv⟩:=r.get ha
  have hp:ps[i]? = some y:=by
   rw[← S.pre,List.getElem?_take_of_lt (by omega)]; exact h1
  have ndP:ps.Nodup:=by rw[← S.pre]; exact S.nd.sublist (List.take_sublist _ _)
  refine⟨u,rv,?_⟩
  rcases S.par y (List.mem_of_getElem? hp) with k | k
  ·exact .inl ⟨k,nK ndP hp hu k⟩
  ·obtain⟨c,e⟩:=pX (n:=s.heap.objs.size+1) k
   refine .inr ⟨.inl k,c,e,?_⟩
   have q:=x.cell y c e;rw[mU ndP hp hu (by show scope.names.lookup y≠_; rw[k]; decide)]at q
   exact q
 ·exact e0.hok.fresh (Nat.le_of_lt (x.above y c (PySem.mem_of_lookup h)))
 ·unfold start
  show _=N.length
  rw[List.length_append,List.length_map,List.length_replicate];omega
theorem E9{CX:ix}{P:Program}{w:World}{K:PySem.W.Frag}{mg:Str→Option Value}{base:Heap}{k:Nat}{f:Addr}{name qual:Str}{params:Arguments}{body:List Stmt}{scope:Scope}{dV kV doc pm cdv ct oc:Value}{an od:Option Addr}
  {osl:Array (Option Value)} {N ps:List Str} {sp:Sp} (lk:K.lookup f=some ⟨oc,od,.func (PySem.W.fnOf name qual params body scope dV kV doc pm an cdv ct),osl⟩) (hcd:PySem.W.codeIn K cdv qual=true) (S:ar N ps scope)
  (len:∀ vs H Q E,sp vs H Q E→vs.length=ps.length)
  (hbody:∀ (A:Around) (outer:List Env) (s:Shared) (H:Hp) (vs:List V) (Q:VK) (E:XK),Room k (A.deeper (envOfC qual scope s.heap.objs.size f cdv))→sp vs H Q E→
   ∃ t,PSs (iO CX P w K mg base N qual scope f cdv A outer s H E) body t∧t { nx:=fun _ H'=>Q .non H',rt:=Q } (start N vs) H) :
  FnOk P w K mg base CX (k+1) f (PySem.W.fnOf name qual params body scope dV kV doc pm an cdv ct) ps sp:=by
 refine⟨len,fun A outer s H args us vs Q E hr e0 hb r hsp=>?_⟩
 have hl:=len _ _ _ _ hsp;have KX:K.In s.heap:=e0.mod.kin.keeps fun b o e=>(e0.bs b o e).1
 have lim:s.heap.NoLimit:=e0.mod.nolimit.keeps fun b o e=>(e0.bs b o e).1
 have hkind:∀ y∈ps.zip us,scope.names.lookup y.1=some .local∨(scope.names.lookup y.1=some .cell∧((cellsFrom (s.heap.objs.size+1) scope.names []).lookup y.1).isSome=true):=fun ⟨n,v⟩ hy=>by
  rcases S.par n (List.of_mem_zip hy).1 with q | q
  ·exact .inl q
  ·exact .inr ⟨q,PySem.W.cellsFrom_some _ _ _ (.inl q)⟩
 refine codeAny_call_function hr.depth (KX _ _ lk) rfl S.co S.gen rfl (PySem.W.codeRec_of KX hcd) (hb _ _ _ _ ?_)
 refine wpAny_newFunctionEnv_cells S.kind hkind fun env he s1 x=>?_
 subst he;refine⟨lim.keeps x.toInCall.keep,codeAny_func ?_⟩
 obtain⟨t,ht,hq⟩:=hbody A outer s H vs Q E (hr.deeper _) hsp
 have I:Inv (iO CX P w K mg base N qual scope f cdv A outer s H E) [] (start N vs) H s1:=wg S hr.hd e0 hl r x
 refine wpAny_mono (ht [] s1 (start N vs) H _ I hq) (fun fl s' hs=>?_) fun e s' hs=>hs
 have fin:∀ {σ':St} {H':Hp} {v:V} {u:Value},Inv (iO CX P w K mg base N qual scope f cdv A outer s H E) [] σ' H' s'→RelV v u→Q v H'→CE outer P w H s Q u s':=
  fun {σ' H' v u} J rv q=>⟨v,H',J.os,J.bare,J.base,J.hok,rv,q⟩
 cases fl with
 | ret u=>
  obtain⟨v,σ',H',J,rv,q⟩:=hs
  exact fin J rv q
 | next=>
  obtain⟨σ',H',J,q⟩:=hs
  exact fin (v:=V.non) (u:=Value.none) J rfl q
 | brk=>
  obtain⟨_,_,_,q⟩:=hs
  exact False.elim q
 | cont=>
  obtain⟨_,_,_,q⟩:=hs
  exact False.elim q
end L2
namespace L2
open PySem PySem.Spec PyProof.Rows
section
variable{X:Cx}{x:Str}{p pos:Pos}{e:Expr}{es:List Expr}{t:TA}{id T:String}{r:List V→Hp→VK→Prop}
def wK(r:List V→Hp→VK→Prop)(t:TA):TE:=fun σ H Q=>t σ H fun vs H1=>r vs H1 Q
theorem yN(hc:CallR X (.builtin id) r)(hg:Gl X x)(hm:X.mg x=none)(hv:bootBuiltins x=some (.builtin id))(ha:PA X (e::es) t)(hn:x ≠ "__name__" := by decide) (hdb:(x == ("__debug__" : Str))=false:=by decide)
  (he:starEach (e::es) X.env=(false,eval e X.env)::starEach es X.env:=by rfl) (hpl:(backTo pos (starEach es X.env)).any (·.1)=false:=by rfl):PE X (.Call (.Name x p) (e::es) [] pos) (wK r t):=by
 intro pins s σ H Q I h
 refine wpAny_Call_Name_kw (gX I hg hm hv ?_ hn hdb)
 exact PyProof.Rows.callWith_builtin1 (bj (ha pos pins s σ H _ I h) fun us s1 ⟨vs,H1,I1,r1,q1⟩=>hc pins s1 σ H1 vs us Q I1 r1 q1) he hpl
theorem vS(hc:CallR X (.type T) r)(hg:Gl X x)(hm:X.mg x=none)(hv:bootBuiltins x=some (.type T))(ha:PA X (e::es) t)(hn:x ≠ "__name__" := by decide) (hdb:(x == ("__debug__" : Str))=false:=by decide)
  (he:starEach (e::es) X.env=(false,eval e X.env)::starEach es X.env:=by rfl) (hpl:(backTo pos (starEach es X.env)).any (·.1)=false:=by rfl):PE X (.Call (.Name x p) (e::es) [] pos) (wK r t):=by
 intro pins s σ H Q I h
 refine wpAny_Call_Name_kw (gX I hg hm hv ?_ hn hdb)
 exact PyProof.Rows.callWith_type1 (bj (ha pos pins s σ H _ I h) fun us s1 ⟨vs,H1,I1,r1,q1⟩=>hc pins s1 σ H1 vs us Q I1 r1 q1) he hpl
end
end L2
namespace HT
open PySem PyProof.Rows
section
open PySem.SeqAt
open PySem.AutoSeq1 (wpAny_loadPart')
open PySem.MeetsSeq PySem.MeetsSeq2 PySem.MeetsSeq3
end
section
variable{prog:Program}{w:World}{A:Around}{E:Value→Shared→Prop}{s:Shared}
theorem cat_tup{t b:Addr}{vs ws:List Value}{Q:Value→Shared→Prop}(ht:IsTup s.heap t vs.toArray)(hb:IsTup s.heap b ws.toArray)(hv:vs≠[])
  (h1:ws=[]→Q (.ref t) s) (h2:ws≠[]→Q (.ref s.heap.objs.size) { s with heap:=s.heap.push { cls:=.type "tuple", data:=.seq (vs++ws).toArray } })
  (hsz:vs.length+ws.length≤sizeLine):wpAny (model prog w) A (binaryOp .Add (.ref t) (.ref b)) Q E s:=by
 obtain⟨⟨cls,dd,data,sl⟩,ho,hc,n,hd⟩:=id ht
 obtain⟨⟨cls2,dd2,data2,sl2⟩,ho2,hc2,n2,hd2⟩:=id hb
 simp only at hc hd hc2 hd2
 subst hc hd hc2 hd2;have e:vs.toArray++ws.toArray=(vs++ws).toArray:=by simp
 by_cases hw:ws=[]
 ·exact concat_meets ⟨_,ho,rfl⟩ ⟨_,ho2,rfl⟩ noFill_tuple_add seq_tuple_add PySem.F.slot_tuple_add PySem.F.entry_tuple_add (PySem.F.args_tuple_add_2 _ _)
   (tuple_addW1 t b vs.toArray ws.toArray n n2 dd dd2 sl sl2 (by simpa using hv) (by simp[hw])) ⟨ho,ho2,h1 hw⟩
 ·refine concat_meets ⟨_,ho,rfl⟩ ⟨_,ho2,rfl⟩ noFill_tuple_add seq_tuple_add PySem.F.slot_tuple_add PySem.F.entry_tuple_add (PySem.F.args_tuple_add_2 _ _)
   (tuple_addW2 t b vs.toArray ws.toArray n n2 dd dd2 sl sl2 (by simpa using hv) (by simpa using hw) (by rw[List.size_toArray,List.size_toArray]; exact hsz)) ⟨ho,ho2,?_⟩
  rw[e];exact h2 hw
def sIx(n d:Nat):Option Int→Nat
 | none=>d
 | some v=>if v<0 then (v+(n:Int)).toNat else min v.toNat n
theorem sIx_none(n d:Nat):sIx n d none=d:=rfl
theorem sIx_nat(n d k:Nat):sIx n d (some (k:Int))=min k n:=by
 show (if (k:Int)<0 then ((k:Int)+(n:Int)).toNat else min (k:Int).toNat n)=min k n
 rw[if_neg (by omega),Int.toNat_natCast]
theorem DF(n d:Nat)(hd:d≤n)(o:Option Int):sIx n d o≤n:=by
 cases o with
 | none=>exact hd
 | some v=>
  show (if v<0 then (v+(n:Int)).toNat else min v.toNat n)≤n
  by_cases hv:v<0
  ·rw[if_pos hv]; omega
  ·rw[if_neg hv]; exact Nat.min_le_right _ _
theorem qE(v:Int)(n d:Nat):(if v<0 then max (v+(n:Int)) 0 else min v (n:Int))=((sIx n d (some v):Nat):Int):=by
 show (if v<0 then max (v+(n:Int)) 0 else min v (n:Int))=(((if v<0 then (v+(n:Int)).toNat else min v.toNat n):Nat):Int)
 by_cases hv:v<0
 ·simp only[if_pos hv]; omega
 ·simp only[if_neg hv]; omega
theorem tT(lo hi:Option Int)(n:Nat):Builtin.Slice.sliceAdjust lo hi 1 (n:Int)=(((sIx n 0 lo:Nat):Int),((sIx n n hi:Nat):Int)):=by
 have h1:¬ ((1:Int)<0):=by omega
 unfold Builtin.Slice.sliceAdjust;simp only[h1,if_false]
 refine Prod.ext ?_ ?_
 ·cases lo with
  | none=>rfl
  | some v=>exact qE v n 0
 ·cases hi with
  | none=>rfl
  | some v=>exact qE v n n
theorem tN(i j:Nat):Builtin.Slice.slicePlaces (i:Int) (j:Int) 1=j - i:=by
 unfold Builtin.Slice.slicePlaces;have h1:(1:Int)>0:=by omega
 simp only[h1,if_true,Int.ediv_one]
 split <;> omega
theorem lG{v:Value}{o:Option Int}{Q:Option Int→Shared→Prop}(p:IsPart v o)(h:Q o s):wpAny (model prog w) A (Builtin.Slice.slicePartIndex v) Q E s:=by
 cases p with
 | none=>exact slicePart_none h
 | int i t=>exact slicePart_int h
theorem sliceApplied_gen{sl:Addr}{vl vu:Value}{lo hi:Option Int}{n:Nat}{Q:Int × Int × Nat→Shared→Prop}(hs:s.heap.IsSliceOf sl vl vu .none)(pl:IsPart vl lo)(pu:IsPart vu hi)
  (h:Q (((sIx n 0 lo:Nat):Int),1,sIx n n hi - sIx n 0 lo) s):wpAny (model prog w) A (Builtin.Slice.sliceApplied (.ref sl) (pure (n:Int))) Q E s:=by
 obtain⟨os,hos,hcs,hds⟩:=id hs
 unfold Builtin.Slice.sliceApplied Builtin.Slice.sliceFields;refine wpAny_bind (wpAny_bind (wpAny_field hos hds (x:=vl) rfl (wpAny_bind (wpAny_field hos hds (x:=vu) rfl (wpAny_bind (wpAny_field hos hds (x:=.none) rfl (wpAny_pure ?_)))))))
 refine wpAny_bind (slicePart_none ?_)
 show wpAny _ _ (if ((1:Int) == 0)=true then _ else _) _ _ s
 rw[if_neg (by decide)]
 refine wpAny_bind (lG pl (wpAny_bind (lG pu (wpAny_bind (wpAny_pure ?_)))))
 show wpAny _ _ (match Builtin.Slice.sliceAdjust lo hi 1 (n:Int) with | (lo,hi)=>pure (lo,(1:Int),Builtin.Slice.slicePlaces lo hi 1)) _ _ s
 rw[tT lo hi n];show wpAny _ _ (pure (((sIx n 0 lo:Nat):Int),(1:Int),Builtin.Slice.slicePlaces ((sIx n 0 lo:Nat):Int) ((sIx n n hi:Nat):Int) 1)) _ _ s
 rw[tN];exact wpAny_pure h
theorem x8(xs:Array Value)(i k:Nat):((List.range k).filterMap fun (m:Nat)=>xs[((i:Int)+(m:Int) * 1).toNat]?).toArray=((xs.toList.drop i).take k).toArray:=by
 have e:(fun (m:Nat)=>xs[((i:Int)+(m:Int) * 1).toNat]?)=fun m=>xs[i+m]?:=by
  funext m
  have:((i:Int)+(m:Int) * 1).toNat=i+m:=by omega
  rw[this]
 rw[e];have:=pick_run xs i k
 rw[List.filterMap_map]at this
 have e2:((fun x=>xs[x]?) ∘ fun x=>i+x)=fun m=>xs[i+m]?:=rfl
 rw[e2]at this
 rw[this]
theorem getItem_tuple_cut{t sl:Addr}{items:Array Value}{vl vu:Value}{lo hi:Option Int}{Q:Value→Shared→Prop}(ht:IsTup s.heap t items)(hs:s.heap.IsSliceOf sl vl vu .none)(pl:IsPart vl lo)(pu:IsPart vu hi)
  (hw:¬ (sIx items.size 0 lo=0∧sIx items.size items.size hi=items.size))
  (h:Q (.ref s.heap.objs.size) { s with heap:=s.heap.push { cls:=.type "tuple", data:=.seq ((items.toList.drop (sIx items.size 0 lo)).take (sIx items.size items.size hi - sIx items.size 0 lo)).toArray } })
  (hsz:items.size≤sizeLine):wpAny (model prog w) A (getItem (.ref t) (.ref sl)) Q E s:=by
 have htake:sizeOk (.seq ((items.toList.drop (sIx items.size 0 lo)).take (sIx items.size items.size hi - sIx items.size 0 lo)).toArray):=by
  show ((items.toList.drop (sIx items.size 0 lo)).take (sIx items.size items.size hi - sIx items.size 0 lo)).toArray.size≤sizeLine
  rw[List.size_toArray,List.length_take,List.length_drop,Array.length_toList];omega
 have hj:sIx items.size items.size hi≤items.size:=DF _ _ (Nat.le_refl _) hi
 obtain⟨os,hos,hcs,hds⟩:=id hs
 have hTs:s.TypeIs (.ref sl) "slice" := ⟨os,hos,hcs⟩
 unfold getItem
 try with_reducible refine wpAny_holding ?_
 first | refine wpAny_bind (wpAny_pure ?_) | skip
 refine wpAny_bind (wpAny_sequenceKey ht.typeIs (by decide) ?_)
 refine wpAny_bind (wpAny_callSpecial?_slot (name:=Str.ofString "__getitem__") ht.typeIs PyProof.Rows.slot_tuple_getitem
  (wpAny_call_entry PyProof.Rows.slot_tuple_getitem ht.typeIs entry_tuple_getitem ?_ (args_tuple_getitem _ _)))
 show wpAny _ _ (Builtin.Tuple.tupleItemsOf (.ref t) >>= _) _ _ s
 refine wpAny_bind (tupleItemsOf_ ht ?_)
 refine wpAny_bind (wpAny_typeOf hTs ?_)
 rw[if_pos (by decide)]
 refine wpAny_bind (sliceApplied_gen hs pl pu ?_)
 have hno:¬ ((((sIx items.size 0 lo:Nat):Int) == 0&&(1:Int) == 1&&(sIx items.size items.size hi - sIx items.size 0 lo) == items.size)=true):=by
  intro q
  rw[Bool.and_eq_true,Bool.and_eq_true]at q
  have q1:((sIx items.size 0 lo:Nat):Int)=0:=eq_of_beq q.1.1
  have q2:sIx items.size items.size hi - sIx items.size 0 lo=items.size:=eq_of_beq q.2
  exact hw ⟨by omega,by omega⟩
 show wpAny _ _ (if (((sIx items.size 0 lo:Nat):Int) == 0&&(1:Int) == 1&&(sIx items.size items.size hi - sIx items.size 0 lo) == items.size)=true then _ else _) _ _ s
 rw[if_neg hno,x8]
 first
  | exact wpAny_bind (m:=Builtin.Tuple.tupleExact _) (wpAny_newObj_type (wpAny_pure ⟨_,rfl,wpAny_pure h⟩) htake)
  | exact wpAny_bind (m:=Builtin.Tuple.tupleExact _) (wpAny_newObj_type (wpAny_bind (wpAny_pure (wpAny_pure ⟨_,rfl,wpAny_pure h⟩))) htake)
  | exact wpAny_bind (wpAny_bind (m:=Builtin.Tuple.tupleExact _) (wpAny_newObj_type (wpAny_pure (wpAny_pure ⟨_,rfl,wpAny_pure h⟩)) htake))
  | exact wpAny_bind (wpAny_bind (m:=Builtin.Tuple.tupleExact _) (wpAny_newObj_type (wpAny_pure ⟨_,rfl,wpAny_pure h⟩) htake))
end
end HT
namespace L2
open PySem PySem.Spec PyProof.Rows
abbrev TO:=St→Hp→(Option Int→Hp→Prop)→Prop
def PO(X:Cx)(e:Option Expr)(t:TO):Prop:=
 ∀ (pins:List (Addr × Obj)) (s:Shared) (σ : St) (H:Hp) (Q:Option Int→Hp→Prop),Inv X pins σ H s→t σ H Q→
  wpAny (model X.prog X.w) X.A (evalPart e X.env) (fun u s'=>∃ o H',Inv X pins σ H' s'∧IsPart u o∧Q o H') X.xe s
def qI:TO:=fun _ H Q=>Q none H
def zG(t:TE):TO:=fun σ H Q=>t σ H fun x H1=>∃ i,x = .int i∧Q (some i) H1
section
variable{X:Cx}{e:Expr}{te:TE}{lo hi:Option Expr}{tl th:TO}{pos p2:Pos}
theorem gQ:PO X none qI:=by
 intro pins s σ H Q I h
 rw[evalPart_none];exact wpAny_pure ⟨none,H,I,.none,h⟩
theorem d_(h:PE X e te):PO X (some e) (zG te):=by
 intro pins s σ H Q I hw
 rw[evalPart_some];refine bj (h pins s σ H _ I hw) fun u s1 ⟨x,H1,I1,r1,q1⟩=>?_
 obtain⟨i,rfl,q⟩:=q1
 obtain⟨t,rfl⟩:=r1
 exact⟨some i,H1,I1,.int i t,q⟩
def SlR(X:Cx)(r:V→Option Int→Option Int→Hp→VK→Prop):Prop:=
 ∀ (pins:List (Addr × Obj)) (s:Shared) (σ : St) (H:Hp) (x:V) (v vl vu:Value) (lo hi:Option Int) (sl:Addr) (Q:VK),Inv X pins σ H s→RelV x v→s.heap.IsSliceOf sl vl vu .none→IsPart vl lo→IsPart vu hi→r x lo hi H Q→
  ∃ T id,typeLookup (.type T) "__getitem__" = pure (some (.builtin id))∧s.TypeIs v T∧wpAny (model X.prog X.w) X.A (getItem v (.ref sl)) (EP X pins σ Q) X.xe s
def FC(r:V→Option Int→Option Int→Hp→VK→Prop)(te:TE)(tl th:TO):TE:=fun σ H Q=>te σ H fun x H1=>tl σ H1 fun l H2=>th σ H2 fun u H3=>r x l u H3 Q
theorem eJ{r:V→Option Int→Option Int→Hp→VK→Prop}(hr:SlR X r)(he:PE X e te)(hl:PO X lo tl)(hu:PO X hi th):PE X (.Subscript e (.Slice lo hi none p2) pos) (FC r te tl th):=by
 intro pins s σ H Q I h
 refine Subscript_ (bj (he pins s σ H _ I h) fun v s1 ⟨x,H1,I1,r1,q1⟩=>?_)
 refine wpAny_Slice (bj (hl pins s1 σ H1 _ I1 q1) fun vl s2 ⟨l,H2,I2,pl,q2⟩=>bj (hu pins s2 σ H2 _ I2 q2) fun vu s3 ⟨u,H3,I3,pu,q3⟩=>?_)
 rw[evalPart_none];refine wpAny_pure ?_
 have I4:Inv X pins σ H3 { s3 with heap:=s3.heap.push { cls:=.type "slice", data:=.fields #[vl,vu,.none] } }:=I3.kept (t':=s3.toks) fun b ob q=>Heap.get?_push_of_some _ q
 obtain⟨T,id,hT,ht,hg⟩:=hr pins { s3 with heap:=s3.heap.push { cls:=.type "slice", data:=.fields #[vl,vu,.none] } } σ H3 x v vl vu l u s3.heap.objs.size Q I4 r1 (Heap.IsSliceOf.new ..) pl pu q3
 show wpAny (model X.prog X.w) X.A (subscriptTail e (.Slice lo hi none p2) v (.ref s3.heap.objs.size)) (EP X pins σ Q) X.xe { s3 with heap:=s3.heap.push { cls:=.type "slice", data:=.fields #[vl,vu,.none] } }
 exact tail_any (ops:=[.ref s3.heap.objs.size,v]) ht hT hg (by with_unfolding_all rfl)
def dk(xs:List V)(lo hi:Option Int):List V:=(xs.drop (HT.sIx xs.length 0 lo)).take (HT.sIx xs.length xs.length hi - HT.sIx xs.length 0 lo)
theorem kC(xs:List V)(lo hi:Option Int):(dk xs lo hi).length≤xs.length:=by
 unfold dk;rw[List.length_take,List.length_drop];omega
def G6(K:PySem.W.Frag):V→Option Int→Option Int→Hp→VK→Prop:=fun x lo hi H Q=>∃ a xs,x = .ref a∧SqT K H a xs∧
 ¬ (HT.sIx xs.length 0 lo=0∧HT.sIx xs.length xs.length hi=xs.length)∧∀ p,H p=none→Q (.ref p) (upd H p (.tup (dk xs lo hi)))
theorem Ed:SlR X (G6 X.K):=by
 intro pins s σ H x v vl vu lo hi sl Q I rx hs pl pu h
 obtain⟨a,xs,rfl,hx,hw,q⟩:=h
 cases rx;obtain⟨its,r,ht,hz⟩:=I.tuple hx
 have hlen:its.toArray.size=xs.length:=by rw[List.size_toArray]; exact r.length.symm
 refine⟨"tuple", _,PyProof.Rows.slot_tuple_getitem.lookup,ht.typeIs,?_⟩
 refine HT.getItem_tuple_cut ht hs pl pu (by rw[hlen]; exact hw) ?_ (by rw[hlen]; exact hz)
 rw[hlen];refine⟨.ref s.heap.objs.size,_,I.laid (t':=s.toks) (o:=.tup (dk xs lo hi)) (fun b ob q=>Heap.get?_push_of_some _ q) (Nat.le_refl _) ?_,rfl,q _ (I.hok.fresh (Nat.le_refl _))⟩
 exact⟨Nat.le_trans (kC xs lo hi) hz,_,(r.drop (HT.sIx xs.length 0 lo)).take (HT.sIx xs.length xs.length hi - HT.sIx xs.length 0 lo),IsTupN.new _ _⟩
def ut(K:PySem.W.Frag):R2:=fun x y H Q=>∃ a b xs ys,x = .ref a∧y = .ref b∧SqT K H a xs∧SqT K H b ys∧xs≠[]∧xs.length+ys.length≤sizeLine∧
 (ys=[]→Q (.ref a) H)∧(ys≠[]→∀ p,H p=none→Q (.ref p) (upd H p (.tup (xs++ys))))
theorem Vals.nil_iff{xs:List V}{us:List Value}(r:Vals xs us):us=[] ↔ xs=[]:=by
 cases r with
 | nil=>simp
 | cons _ _=>simp
theorem BH:OpR X (binaryOp .Add) (ut X.K):=by
 intro pins s σ H x y v u Q I rx ry h
 obtain⟨a,b,xs,ys,rfl,rfl,ha,hb,hx,hz,q1,q2⟩:=h
 cases rx
 cases ry;obtain⟨its,r1,p1,_⟩:=I.tuple ha
 obtain⟨its2,r2,p2,_⟩:=I.tuple hb
 refine HT.cat_tup p1 p2 (fun z=>hx (r1.nil_iff.mp z)) (fun z=>⟨.ref a,H,I,rfl,q1 (r2.nil_iff.mp z)⟩) (fun z=>?_) (by rw[← r1.length,← r2.length]; exact hz)
 refine⟨.ref s.heap.objs.size,_,I.laid (t':=s.toks) (o:=.tup (xs++ys)) (fun b ob q=>Heap.get?_push_of_some _ q) (Nat.le_refl _) ?_,rfl,q2 (fun w=>z (r2.nil_iff.mpr w)) _ (I.hok.fresh (Nat.le_refl _))⟩
 exact⟨by rw[List.length_append]; exact hz,_,r1.append r2,IsTupN.new _ _⟩
end
end L2
namespace L2
open PySem PySem.Spec PyProof.Rows
def jv(n:Nat)(i:Int):Option Nat:=if 0≤i then (if i<n then some i.toNat else none) else if -(n:Int)≤i then some (i+n).toNat else none
def ej{α : Type}(xs:List α)(i:Int):Option α:=(jv xs.length i).bind fun j=>xs[j]?
theorem ra{n:Nat}{i:Int}{j:Nat}(h:jv n i=some j):seqIndex? i n=some j∧j<n∧-(n:Int)≤i∧i<n:=by
 unfold jv at h
 by_cases h0:0≤i
 ·rw[if_pos h0]at h
  by_cases h1:i<n
  ·rw[if_pos h1]at h
   have e:i.toNat=j:=Option.some.inj h
   exact⟨by rw[seqIndex_of h0 h1,e],by omega,by omega,h1⟩
  ·rw[if_neg h1]at h; cases h
 ·rw[if_neg h0]at h
  by_cases h1:-(n:Int)≤i
  ·rw[if_pos h1]at h
   have e:(i+n).toNat=j:=Option.some.inj h
   exact⟨by rw[seqIndex_neg (by omega) h1,e],by omega,h1,by omega⟩
  ·rw[if_neg h1]at h; cases h
theorem my{α : Type}{xs:List α}{i:Int}{v:α}(h:ej xs i=some v):∃ j,seqIndex? i xs.length=some j∧xs[j]? = some v∧j<xs.length∧-(xs.length:Int)≤i∧i<xs.length:=by
 unfold ej at h
 cases e:jv xs.length i with
 | none=>rw[e]at h; cases h
 | some j=>
  rw[e]at h
  obtain⟨h1,h2,h3,h4⟩:=ra e
  exact⟨j,h1,h,h2,h3,h4⟩
theorem aW{α : Type}{xs:List α}{j:Nat}{v:α}(h:xs[j]? = some v):ej xs (j:Int)=some v:=by
 have hj:j<xs.length:=(List.getElem?_eq_some_iff.mp h).1
 have e:jv xs.length (j:Int)=some j:=by
  unfold jv;rw[if_pos (by omega),if_pos (by omega)]; simp
 unfold ej; rw[e]; exact h
def Bx(b:Expr):Prop:=∀ o i,subscripted b false o i=operate [o,i] (getItem o i)
def IxR(X:Cx)(r:R2):Prop:=
 ∀ (value slice:Expr) (pins:List (Addr × Obj)) (s:Shared) (σ : St) (H:Hp) (x y:V) (v u:Value) (Q:VK),Inv X pins σ H s→RelV x v→RelV y u→r x y H Q→
  subscripted slice false v u=operate [v,u] (getItem v u)→wpAny (model X.prog X.w) X.A (subscriptTail value slice v u) (EP X pins σ Q) X.xe s
def MtR(X:Cx)(id:String)(r:V→List V→Hp→VK→Prop):Prop:=
 ∀ (pins:List (Addr × Obj)) (s:Shared) (σ : St) (H:Hp) (x:V) (xs:List V) (v:Value) (us:List Value) (Q:VK),Inv X pins σ H s→RelV x v→Vals xs us→r x xs H Q→
  wpAny (model X.prog X.w) X.A (call (.builtin id) (v::us)) (EP X pins σ Q) X.xe s
section
variable{X:Cx}{a b:Expr}{ta tb:TE}{pos:Pos}
theorem IxR.or{r r':R2}(h:IxR X r)(h':IxR X r'):IxR X (fun x y H Q=>r x y H Q∨r' x y H Q):=by
 intro value slice pins s σ H x y v u Q I rx ry q hs
 rcases q with q | q
 ·exact h value slice pins s σ H x y v u Q I rx ry q hs
 ·exact h' value slice pins s σ H x y v u Q I rx ry q hs
theorem aq{r:R2}(hr:IxR X r)(ha:PE X a ta)(hb:PE X b tb)(hs:Bx b):PE X (.Subscript a b pos) (jE r ta tb):=by
 intro pins s σ H Q I h
 exact Subscript_ (zl ha hb I h fun v u s2 x y H2 I2 rx ry q=>hr a b pins s2 σ H2 x y v u Q I2 rx ry q (hs _ _))
def Ez(K:PySem.W.Frag):R2:=fun x y H Q=>∃ p xs i v,x = .ref p∧y = .int i∧SqL K H p xs∧ej xs i=some v∧Q v H
def Dt(K:PySem.W.Frag):R2:=fun x y H Q=>∃ p xs i v,x = .ref p∧y = .int i∧SqT K H p xs∧ej xs i=some v∧Q v H
def EB:R2:=fun x y H Q=>∃ z i c,x = .str z∧y = .int i∧z.length≤sizeLine∧ej z.cps.toList i=some c∧Q (.str ⟨#[c]⟩) H
theorem ix_list:IxR X (Ez X.K):=by
 intro value slice pins s σ H x y v u Q I rx ry h hs
 obtain⟨p,xs,i,z,rfl,rfl,hq,he,q⟩:=h
 cases rx;obtain⟨t,rfl⟩:=ry
 obtain⟨its,r,pl,hz⟩:=I.list hq
 obtain⟨j,h1,h2,h3,h4,h5⟩:=my he
 obtain⟨w,ew,rw'⟩:=r.get h2
 have hl:=r.length;have hn:=iy;have fin:EP X pins σ Q w s:=⟨z,H,I,rw',q⟩
 by_cases h0:0≤i
 ·have hj:i.toNat=j:=by
   rw[seqIndex_of h0 h5]at h1
   exact Option.some.inj h1
  exact item_listR pl.isList h0 (by omega) (by rw[hj]; simpa using ew) fin hs
 ·have hj:(i+(its.toArray.size:Int)).toNat=j:=by
   rw[seqIndex_neg (by omega) h4]at h1
   rw[List.size_toArray,← hl];exact Option.some.inj h1
  exact subscriptTail_builtinR (x:=w) pl.isList.typeIs slot_list_getitem.lookup
   (wpAny_getItem_list_neg (Q:=fun r s'=>r=w∧EP X pins σ Q r s') pl.isList (by omega) (by rw[List.size_toArray] <;> omega) (by omega) (by rw[hj]; simpa using ew) ⟨rfl,fin⟩) hs
theorem ix_tup:IxR X (Dt X.K):=by
 intro value slice pins s σ H x y v u Q I rx ry h hs
 obtain⟨p,xs,i,z,rfl,rfl,hq,he,q⟩:=h
 cases rx;obtain⟨t,rfl⟩:=ry
 obtain⟨its,r,pl,hz⟩:=I.tuple hq
 obtain⟨j,h1,h2,h3,h4,h5⟩:=my he
 obtain⟨w,ew,rw'⟩:=r.get h2
 have hl:=r.length;have hn:=iy;have fin:EP X pins σ Q w s:=⟨z,H,I,rw',q⟩
 exact subscriptTail_builtinR (x:=w) pl.typeIs slot_tuple_getitem.lookup
  (getItem_tuple (j:=j) (Q:=fun r s'=>r=w∧EP X pins σ Q r s') pl (by omega) (by omega) (by rw[List.size_toArray,← hl]; exact h1) (by simpa using ew) ⟨rfl,fin⟩) hs
theorem DN:IxR X EB:=by
 intro value slice pins s σ H x y v u Q I rx ry h hs
 obtain⟨z,i,c,rfl,rfl,hz,he,q⟩:=h
 obtain⟨t,rfl⟩:=rx
 obtain⟨t',rfl⟩:=ry
 obtain⟨j,h1,h2,h3,h4,h5⟩:=my he
 have hl:z.cps.toList.length=z.length:=by simp[Str.length]
 rw[hl]at h1 h4 h5
 have hn:=iy
 exact tail_any (typeIs_str s z t) slot_str_getitem.lookup (getItem_str (c:=c) (by
  have e1:decide (i < -(2 ^ 63:Int))=false:=decide_eq_false (by omega)
  have e2:decide (i≥2 ^ 63)=false:=decide_eq_false (by omega)
  rw[e1,e2,Bool.or_false]) (by rw[h1]; simpa using h2) ⟨.str ⟨#[c]⟩,H,I.tok _,⟨_,rfl⟩,q⟩) hs
def Ke(K:PySem.W.Frag):R2:=fun x y H Q=>Ez K x y H Q∨Dt K x y H Q∨EB x y H Q
theorem Dc:IxR X (Ke X.K):=ix_list.or (ix_tup.or DN)
theorem sT(its:List Value)(n j:Nat)(u:Value):Obj.mapSeq (·.setIfInBounds j u) { cls:=.type "list", data:=.seq its.toArray n }={ cls:=.type "list", data:=.seq (its.set j u).toArray n }:=by
 simp[Obj.mapSeq]
theorem Inv.lst{pins:List (Addr × Obj)}{σ : St}{H:Hp}{s:Shared}{p:Addr}{xs:List V}(I:Inv X pins σ H s)(h:H p=some (.lst xs)) :
  ∃ (its:List Value) (n:Nat),Vals xs its∧s.heap.get? p=some { cls:=.type "list", data:=.seq its.toArray n }∧xs.length≤sizeLine:=by
 obtain⟨z,its,n,r,e⟩:=I.hok p _ h
 exact⟨its,n,r,e,z⟩
theorem Inv.lstUpd{pins:List (Addr × Obj)}{σ : St}{H:Hp}{s:Shared}{p:Addr}{xs ys:List V}{its its':List Value}{n n':Nat}{f:Obj→Obj}(I:Inv X pins σ H s)(h:H p=some (.lst xs))
  (ho:s.heap.get? p=some { cls:=.type "list", data:=.seq its.toArray n }) (hf:f { cls:=.type "list", data:=.seq its.toArray n }={ cls:=.type "list", data:=.seq its'.toArray n' }) (r:Vals ys its') (hz:ys.length≤sizeLine) (t:Nat) :
  Inv X pins σ (upd H p (.lst ys)) { s with heap:=s.heap.update p f,toks:=t }:=by
 have e:(s.heap.update p f).get? p=some { cls:=.type "list", data:=.seq its'.toArray n' }:=by
  rw[Heap.get?_update_self f ho (by rw[hf] <;> rfl),hf]
 refine I.write (x:=p) (e:=p) (by rw[h]; trivial) (.inl rfl) (fun b u hb q=>(Heap.get?_update_other _ _ (Ne.symm hb)).trans q) ⟨_,e⟩ ?_
 exact⟨hz,its',n',r,e⟩
def ux:V→V→V→Hp→(Hp→Prop)→Prop:=fun o i v H Q=>∃ p xs k j,o = .ref p∧i = .int k∧H p=some (.lst xs)∧jv xs.length k=some j∧Q (upd H p (.lst (xs.set j v)))
theorem y4:PSet X ux:=by
 intro pins s σ H o i v ov iv u Q I ro ri rv h
 obtain⟨p,xs,k,j,rfl,rfl,hp,hj,q⟩:=h
 cases ro;obtain⟨t,rfl⟩:=ri
 obtain⟨its,n,r,ho,hz⟩:=I.lst hp
 obtain⟨h1,h2,h3,h4⟩:=ra hj
 have hl:=r.length;have hn:=iy
 have I':Inv X pins σ (upd H p (.lst (xs.set j v))) { s with heap:=s.heap.update p (Obj.mapSeq (·.setIfInBounds j u)) }:=
  I.lstUpd hp ho (sT its n j u) (r.set rv j) (by rw[List.length_set]; exact hz) s.toks
 by_cases h0:0≤k
 ·have hk:k.toNat=j:=by
   rw[seqIndex_of h0 h4]at h1
   exact Option.some.inj h1
  exact PySem.W.ki_setAt ho h0 (by omega) (by rw[List.size_toArray,← hl]; exact h4) (by rw[hk]; exact⟨_,I',q⟩)
 ·have hk:(k+(its.toArray.size:Int)).toNat=j:=by
   rw[seqIndex_neg (by omega) h3]at h1
   rw[List.size_toArray,← hl];exact Option.some.inj h1
  exact PySem.W.ki_setBack ho (by omega) (by rw[List.size_toArray,← hl]; exact h3) (by omega) (by rw[hk]; exact⟨_,I',q⟩)
theorem ox(lo hi:Option Int)(n:Nat):(sliceBounds lo hi none n).1=((HT.sIx n 0 lo:Nat):Int)∧(sliceBounds lo hi none n).2.1=((HT.sIx n n hi:Nat):Int)∧(sliceBounds lo hi none n).2.2=1:=by
 refine⟨?_,?_,rfl⟩
 ·cases lo with
  | none=>simp[sliceBounds,HT.sIx]
  | some i=>
   simp only[sliceBounds,HT.sIx,Option.getD_none,show (1:Int)>0 by decide,if_true]
   by_cases h:i<0
   ·simp only[h,if_true] <;> omega
   ·simp only[h,if_false] <;> omega
 ·cases hi with
  | none=>simp[sliceBounds,HT.sIx]
  | some i=>
   simp only[sliceBounds,HT.sIx,Option.getD_none,show (1:Int)>0 by decide,if_true]
   by_cases h:i<0
   ·simp only[h,if_true] <;> omega
   ·simp only[h,if_false] <;> omega
theorem nX(its:List Value)(lo hi:Option Int):slicePick its.toArray lo hi none=((its.drop (HT.sIx its.length 0 lo)).take (HT.sIx its.length its.length hi - HT.sIx its.length 0 lo)).toArray:=by
 obtain⟨h1,h2,h3⟩:=ox lo hi its.toArray.size
 unfold slicePick;rw[h1,h2,h3];simp only[sliceRange_one,pick_run,List.size_toArray] <;> rfl
def xL(K:PySem.W.Frag):V→Option Int→Option Int→Hp→VK→Prop:=fun x lo hi H Q=>∃ a xs,x = .ref a∧SqL K H a xs∧∀ p,H p=none→Q (.ref p) (upd H p (.lst (dk xs lo hi)))
theorem Au:SlR X (xL X.K):=by
 intro pins s σ H x v vl vu lo hi sl Q I rx hs pl pu h
 obtain⟨a,xs,rfl,hx,q⟩:=h
 cases rx;obtain⟨its,r,ht,hz⟩:=I.list hx
 have hlen:=r.length;refine⟨"list", _,slot_list_getitem.lookup,ht.isList.typeIs,?_⟩
 refine wpAny_getItem_list_slice ht.isList hs pl pu .none (by simp) ?_ (by rw[List.size_toArray] <;> omega)
 rw[nX,← hlen];refine⟨.ref s.heap.objs.size,_,I.laid (t':=s.toks) (o:=.lst (dk xs lo hi)) (fun b ob q=>Heap.get?_push_of_some _ q) (Nat.le_refl _) ?_,rfl,q _ (I.hok.fresh (Nat.le_refl _))⟩
 exact⟨Nat.le_trans (kC xs lo hi) hz,_,0,(r.drop (HT.sIx xs.length 0 lo)).take (HT.sIx xs.length xs.length hi - HT.sIx xs.length 0 lo),Heap.get?_push_size _ rfl⟩
def cA:V→Bool
 | .non=>true
 | .bl _=>true
 | .int _=>true
 | .str _=>true
 | _=>false
def fg:V→V→Bool
 | .non,.non=>true
 | .bl a,.bl b=>a == b
 | .bl a,.int b=>(if a then 1 else 0) == b
 | .int a,.bl b=>a == (if b then 1 else 0)
 | .int a,.int b=>a == b
 | .str a,.str b=>a == b
 | _,_=>false
theorem jO{A:Around}{s:Shared}{y x:V}{u v:Value}(ry:RelV y u)(rx:RelV x v)(fy:cA y=true)(fx:cA x=true):SeqAt.EqAt A s u v (fg y x):=by
 cases y with
 | non=>
  cases ry
  cases x with
  | non=>cases rx; exact SeqAt.EqAt.same _
  | bl b=>cases rx; exact SeqAt.EqAt.none_bool b
  | int b=>obtain⟨t,rfl⟩:=rx; exact SeqAt.EqAt.none_int b t
  | str b=>obtain⟨t,rfl⟩:=rx; exact SeqAt.EqAt.none_str b t
  | _=>exact absurd (show false=true from fx) Bool.false_ne_true
 | bl a=>
  cases ry
  cases x with
  | non=>cases rx; exact SeqAt.EqAt.bool_none a
  | bl b=>cases rx; exact SeqAt.EqAt.bool_bool a b
  | int b=>obtain⟨t,rfl⟩:=rx; exact SeqAt.EqAt.bool_int a b t
  | str b=>obtain⟨t,rfl⟩:=rx; exact SeqAt.EqAt.bool_str a b t
  | _=>exact absurd (show false=true from fx) Bool.false_ne_true
 | int a=>
  obtain⟨t',rfl⟩:=ry
  cases x with
  | non=>cases rx; exact SeqAt.EqAt.int_none a t'
  | bl b=>cases rx; exact SeqAt.EqAt.int_bool a t' b
  | int b=>obtain⟨t,rfl⟩:=rx; exact SeqAt.EqAt.int_int a t' b t
  | str b=>obtain⟨t,rfl⟩:=rx; exact SeqAt.EqAt.int_str a t' b t
  | _=>exact absurd (show false=true from fx) Bool.false_ne_true
 | str a=>
  obtain⟨t',rfl⟩:=ry
  cases x with
  | non=>cases rx; exact SeqAt.EqAt.str_none a t'
  | bl b=>cases rx; exact SeqAt.EqAt.str_bool a t' b
  | int b=>obtain⟨t,rfl⟩:=rx; exact SeqAt.EqAt.str_int a t' b t
  | str b=>obtain⟨t,rfl⟩:=rx; exact SeqAt.EqAt.str_str a t' b t
  | _=>exact absurd (show false=true from fx) Bool.false_ne_true
 | _=>exact absurd (show false=true from fy) Bool.false_ne_true
def lH(x:V)(u:Value):Bool:=match u with
 | .none=>fg .non x
 | .bool b=>fg (.bl b) x
 | .int i _=>fg (.int i) x
 | .str z _=>fg (.str z) x
 | _=>false
theorem uZ{x y:V}{u:Value}(r:RelV y u)(f:cA y=true):lH x u=fg y x:=by
 cases y with
 | non=>cases r; rfl
 | bl b=>cases r; rfl
 | int i=>obtain⟨t,rfl⟩:=r; rfl
 | str z=>obtain⟨t,rfl⟩:=r; rfl
 | _=>exact absurd (show false=true from f) Bool.false_ne_true
theorem mR{x:V}:∀ {xs:List V} {us:List Value},Vals xs us→xs.all cA=true→us.any (lH x)=xs.any fun y=>fg y x
 | _,_,.nil,_=>rfl
 | y::xs,u::us,.cons r t,f=>by
  rw[List.all_cons,Bool.and_eq_true]at f
  rw[List.any_cons,List.any_cons,uZ r f.1,mR t f.2]
theorem kR{A:Around}{s:Shared}{x:V}{v:Value}(rx:RelV x v)(fx:cA x=true):∀ {xs:List V} {us:List Value},Vals xs us→xs.all cA=true→∀ u∈us,SeqAt.EqAt A s u v (lH x u)
 | _,_,.nil,_=>fun u hu=>by cases hu
 | y::xs,u::us,.cons r t,f=>fun u' hu=>by
  rw[List.all_cons,Bool.and_eq_true]at f
  rcases List.mem_cons.mp hu with rfl | hu
  ·rw[uZ r f.1]; exact jO r rx f.1 fx
  ·exact kR rx fx t f.2 u' hu
def jQ(x:V)(xs:List V):Bool:=xs.any fun y=>fg y x
def Lh(K:PySem.W.Frag)(neg:Bool):R2:=fun x y H Q=>∃ p xs,y = .ref p∧(SqL K H p xs∨SqT K H p xs)∧cA x=true∧xs.all cA=true∧Q (.bl (if neg then !jQ x xs else jQ x xs)) H
theorem uH:OpR X (compareOp .In) (Lh X.K false):=by
 intro pins s σ H x y v u Q I rx ry h
 obtain⟨p,xs,rfl,hq,fx,fs,q⟩:=h
 cases ry;rcases hq with hq | hq
 ·obtain⟨its,r,pl,hz⟩:=I.list hq
  refine SeqAt.in_listAt (lH x) pl.isList (fun w hw=>kR rx fx r fs w (by simpa using hw)) ⟨.bl _,H,I,rfl,?_⟩
  rw[show its.toArray.any (lH x)=its.any (lH x) by simp,mR r fs]
  exact q
 ·obtain⟨its,r,pl,hz⟩:=I.tuple hq
  refine SeqAt.in_tupleAt (lH x) pl (fun w hw=>kR rx fx r fs w (by simpa using hw)) ⟨.bl _,H,I,rfl,?_⟩
  rw[show its.toArray.any (lH x)=its.any (lH x) by simp,mR r fs]
  exact q
theorem ph:CallR X (.builtin "len") (fun xs H Q=>∃ p ys,xs=[.ref p]∧(SqL X.K H p ys∨SqT X.K H p ys)∧Q (.int ys.length) H):=by
 intro pins s σ H xs us Q I r h
 obtain⟨p,ys,rfl,hq,q⟩:=h
 obtain⟨u,rfl,rx⟩:=fB r
 cases rx;have hn:=iy;rcases hq with hq | hq
 ·obtain⟨its,r',pl,hz⟩:=I.list hq
  have hlen:=r'.length;exact Calls.call_len_list pl.isList (by simp only[List.size_toArray] <;> omega) ⟨.int ys.length,H,I.tok _,⟨s.toks+1,by rw[List.size_toArray,hlen]⟩,q⟩
 ·obtain⟨its,r',pl,hz⟩:=I.tuple hq
  have hlen:=r'.length;exact len_tuple pl (by simp only[List.size_toArray] <;> omega) ⟨.int ys.length,H,I.tok _,⟨s.toks+1,by rw[List.size_toArray,hlen]⟩,q⟩
theorem ou:CallR X (.builtin "len") (fun xs H Q=>∃ z,xs=[.str z]∧z.length≤sizeLine∧Q (.int z.length) H):=by
 intro pins s σ H xs us Q I r h
 obtain⟨z,rfl,hz,q⟩:=h
 obtain⟨u,rfl,t,rfl⟩:=fB r
 have hn:=iy;exact len_str (by omega) ⟨.int z.length,H,I.tok _,⟨_,rfl⟩,q⟩
theorem oI:CallR X (.type "list") (fun xs H Q=>∃ p ys,xs=[.ref p]∧(SqL X.K H p ys∨SqT X.K H p ys)∧∀ l,H l=none→Q (.ref l) (upd H l (.lst ys))):=by
 intro pins s σ H xs us Q I r h
 obtain⟨p,ys,rfl,hq,q⟩:=h
 obtain⟨u,rfl,rx⟩:=fB r
 cases rx
 have fin:∀ (its:List Value),Vals ys its→ys.length≤sizeLine→∀ (h':Heap) (c':Nat),(∀ b o',s.heap.get? b=some o'→h'.get? b=some o')→
   h'.get? s.heap.objs.size=some { cls:=.type "list", dict:=none,data:=.seq its.toArray c',slots:=#[] }→EP X pins σ Q (.ref s.heap.objs.size) { s with heap:=h' }:=fun its r' hz h' c' kp e=>
  ⟨.ref s.heap.objs.size,_,I.laid (t':=s.toks) kp (Nat.le_refl _) (show ObjOk X.prog X.w _ h' _ (.lst ys) from ⟨hz,its,c',r',e⟩),rfl,q _ (I.hok.fresh (Nat.le_refl _))⟩
 rcases hq with hq | hq
 ·obtain⟨its,r',pl,hz⟩:=I.list hq
  have hlen:=r'.length;obtain⟨o,ho,hc,n,hd⟩:=pl.isList
  exact call_list_seq p (.inl rfl) ho hc hd (fun h' c' kp e=>fin its r' hz h' c' kp e) (by simp only[List.size_toArray] <;> omega)
 ·obtain⟨its,r',pl,hz⟩:=I.tuple hq
  have hlen:=r'.length;obtain⟨o,ho,hc,n,hd⟩:=pl
  exact call_list_seq p (.inr rfl) ho hc hd (fun h' c' kp e=>fin its r' hz h' c' kp e) (by simp only[List.size_toArray] <;> omega)
theorem nY:CallR X (.type "tuple") (fun xs H Q=>∃ p ys,xs=[.ref p]∧((SqL X.K H p ys∧∀ l,H l=none→Q (.ref l) (upd H l (.tup ys)))∨(SqT X.K H p ys∧Q (.ref p) H))):=by
 intro pins s σ H xs us Q I r h
 obtain⟨p,ys,rfl,h⟩:=h
 obtain⟨u,rfl,rx⟩:=fB r
 cases rx;rcases h with ⟨hq,q⟩ | ⟨hq,q⟩
 ·obtain⟨its,r',pl,hz⟩:=I.list hq
  have hlen:=r'.length;refine call_tuple_list pl.isList (fun h' kp=>?_) (by simp only[List.size_toArray] <;> omega)
  have I1:Inv X pins σ H { s with heap:=h' }:=I.kept (t':=s.toks) kp
  have I2:Inv X pins σ (upd H h'.objs.size (.tup ys)) { s with heap:=h'.push { cls:=.type "tuple", data:=.seq its.toArray } }:=
   I1.laid (t':=s.toks) (fun b o e=>Heap.get?_push_of_some _ e) (Nat.le_refl _) (show ObjOk X.prog X.w _ _ _ (.tup ys) from ⟨hz,its,r',IsTupN.new _ _⟩)
  exact⟨.ref h'.objs.size,_,I2,rfl,q _ (I1.hok.fresh (Nat.le_refl _))⟩
 ·obtain⟨its,r',pl,hz⟩:=I.tuple hq
  exact call_tuple_same pl ⟨.ref p,H,I,rfl,q⟩
def ko(K:PySem.W.Frag)(T:String)(x:V)(H:Hp):Prop:=match x with
 | .str _=>T = "str"
 | .int _=>T = "int"
 | .ref p=>(T = "list" ∧ ∃ xs,SqL K H p xs)∨(T = "tuple" ∧ ∃ o,K.lookup p=some o∧o.cls = .type "tuple" ∧ o.dict=none)∨
   (T = "dict" ∧ ((∃ kvs,H p=some (.dK kvs))∨∃ kvs,H p=some (.dT kvs)))∨(T = "set" ∧ ∃ S n,H p=some (.set S n))
 | _=>False
theorem wW{pins:List (Addr × Obj)}{σ : St}{H:Hp}{s:Shared}{T:String}{x:V}{v:Value}(I:Inv X pins σ H s)(r:RelV x v)(ty:ko X.K T x H) :
  s.TypeIs v T∧∀ a,v = .ref a→∃ ob,s.heap.get? a=some ob∧ob.dict=none:=by
 cases x with
 | str z=>
  obtain⟨t,rfl⟩:=r
  cases (show T = "str" from ty)
  exact⟨typeIs_str s z t,fun _ e=>nomatch e⟩
 | int i=>
  obtain⟨t,rfl⟩:=r
  cases (show T = "int" from ty)
  exact⟨typeIs_int s i t,fun _ e=>nomatch e⟩
 | ref p=>
  cases r;rcases ty with ⟨rfl,xs,hq⟩ | ⟨rfl,o,hk,hc,hd⟩ | ⟨rfl,hk⟩ | ⟨rfl,S,n,hk⟩
  ·obtain⟨its,_,pl,_⟩:=I.list hq
   refine⟨pl.isList.typeIs,fun a e=>?_⟩
   cases e;obtain⟨o,n,e,c,hd,_⟩:=pl
   exact⟨o,e,hd⟩
  ·refine⟨⟨o,I.kIn p o hk,hc⟩,fun a e=>?_⟩
   cases e;exact⟨o,I.kIn _ o hk,hd⟩
  ·have z:∃ o,s.heap.get? p=some o∧o.ExactDict:=by
    rcases hk with ⟨kvs,hk⟩ | ⟨kvs,hk⟩
    ·obtain⟨_,_,_,_,o,_,_,e,ex,_⟩:=I.hok p _ hk
     exact⟨o,e,ex⟩
    ·obtain⟨_,_,_,_,o,_,_,e,ex,_⟩:=I.hok p _ hk
     exact⟨o,e,ex⟩
   obtain⟨o,e,ex⟩:=z
   refine⟨⟨o,e,ex.1⟩,fun a e2=>?_⟩
   cases e2;exact⟨o,e,ex.2.1⟩
  ·obtain⟨o,_,_,_,e,ex,_⟩:=I.hok p _ hk
   refine⟨⟨o,e,ex.1⟩,fun a e2=>?_⟩
   cases e2;exact⟨o,e,ex.2.1⟩
 | _=>exact False.elim ty
def wZ(K:PySem.W.Frag)(T:String)(r:V→List V→Hp→VK→Prop)(to:TE):TE:=fun σ H Q=>to σ H fun x H1=>ko K T x H1∧r x [] H1 Q
def zR(K:PySem.W.Frag)(T:String)(r:V→List V→Hp→VK→Prop)(to:TE)(t:TA):TE:=fun σ H Q=>to σ H fun x H1=>ko K T x H1∧t σ H1 fun xs H2=>r x xs H2 Q
variable{o e:Expr}{es:List Expr}{to:TE}{t:TA}{name:Str}{apos cpos:Pos}{T id:String}{r:V→List V→Hp→VK→Prop}
theorem DE(pa:PlainAttrs T)(slot:Slot T name id)(hty:typeOf (.builtin id)=pure (.type "method_descriptor")) (hm:MtR X id r) (ho:PE X o to)
  (hbase:attributeBase o name X.env (eval o X.env)=eval o X.env:=by rfl) (hline:(apos.endLine == cpos.line)=true:=by rfl):PE X (.Call (.Attribute o name apos) [] [] cpos) (wZ X.K T r to):=by
 intro pins s σ H Q I h
 refine wpAny_Call_method0_late hbase hline (bj (ho pins s σ H _ I h) fun v s1 ⟨x,H1,I1,r1,ty,q1⟩=>?_)
 obtain⟨h1,h2⟩:=wW I1 r1 ty
 exact⟨T,id,pa,slot,hty,h1,h2,Calls.callWith_builtin rfl (PySem.evalArgs_none (hm pins s1 σ H1 x [] v [] Q I1 r1 .nil q1))⟩
theorem EW(pa:PlainAttrs T)(slot:Slot T name id)(hty:typeOf (.builtin id)=pure (.type "method_descriptor")) (hm:MtR X id r) (ho:PE X o to) (ha:PA X (e::es) t)
  (hbase:attributeBase o name X.env (eval o X.env)=eval o X.env:=by rfl)
  (hfew:((backTo cpos (starEach (e::es) X.env)).all (fun x=>!x.1)&&(backToKw cpos (keywordEach [] X.env)).all (fun x=>x.1.isSome)
   && decide ((e::es).length+([]:List Keyword).length+(if ([]:List Keyword).isEmpty then 0 else 1)<30))=true:=by rfl)
  (hline:(apos.endLine == cpos.line)=true:=by rfl) (hs:starEach (e::es) X.env=(false,eval e X.env)::starEach es X.env:=by rfl) (hplain:(backTo cpos (starEach es X.env)).any (·.1)=false:=by rfl) :
  PE X (.Call (.Attribute o name apos) (e::es) [] cpos) (zR X.K T r to t):=by
 intro pins s σ H Q I h
 refine wpAny_Call_method_late hbase hfew hline rfl (bj (ho pins s σ H _ I h) fun v s1 ⟨x,H1,I1,r1,ty,q1⟩=>?_)
 obtain⟨h1,h2⟩:=wW I1 r1 ty
 refine⟨T,id,pa,slot,hty,h1,h2,?_⟩
 have hA:=ha cpos pins s1 σ H1 _ I1 q1;rw[hs]at hA ⊢
 refine Calls.callWith_builtin (by show (false||(backTo cpos (starEach es X.env)).any (·.1))=false; rw[hplain] <;> rfl) (Calls.evalArgs_plain ?_)
 exact bj hA fun us s2 ⟨vs,H2,I2,r2,q2⟩=>hm pins s2 σ H2 x vs v us Q I2 r1 r2 q2
/- xs.append(e), list.index on a module's tuple .. are MtR facts of 06m -/
end
end L2
namespace L2
open PySem PySem.Spec PyProof.Rows
def Dl(X:Cx)(id:String)(r:V→List V→Hp→VK→Prop):Prop:=
 ∀ (pins:List (Addr × Obj)) (s:Shared) (σ : St) (H:Hp) (x:V) (xs:List V) (v:Value) (us:List Value) (Q:VK),Inv X pins σ H s→RelV x v→Vals xs us→r x xs H Q→
  wpAny (model X.prog X.w) X.A (call (.builtin id) (v::us)) (EP X pins σ Q) X.xe s
theorem Vals.one:∀ {x:V} {us:List Value},Vals [x] us→∃ u,us=[u]∧RelV x u
 | _,_,.cons r .nil=>⟨_,rfl,r⟩
theorem Vals.zero:∀ {us:List Value},Vals [] us→us=[]
 | _,.nil=>rfl
theorem Vals.dropLast{xs:List V}{us:List Value}(h:Vals xs us):Vals xs.dropLast us.dropLast:=by
 induction h with
 | nil=>exact .nil
 | cons r t ih=>
  cases t with
  | nil=>exact .nil
  | cons q t'=>exact .cons r ih
theorem sv{α : Type}(l:List α):l.eraseIdx (l.length - 1)=l.dropLast:=by
 induction l with
 | nil=>rfl
 | cons a r ih=>
  cases r with
  | nil=>rfl
  | cons b r=>
   have e:(a::b::r).length - 1=((b::r).length - 1)+1:=by
    have h1:(a::b::r).length=r.length+2:=rfl
    have h2:(b::r).length=r.length+1:=rfl
    omega
   rw[e,List.eraseIdx_cons_succ,ih]
   all_goals rfl
section
variable{X:Cx}{pins:List (Addr × Obj)}{σ : St}{H:Hp}{s:Shared}{l b:Addr}{xs ys zs:List V}
theorem Inv.lset{its its':List Value}{n:Nat}{f:Array Value→Array Value}{t':Nat}(I:Inv X pins σ H s)(hH:H l=some (.lst xs))
  (e:s.heap.get? l=some { cls:=.type "list", data:=.seq its.toArray n }) (hf:f its.toArray=its'.toArray) (hv:Vals ys its') (hz:ys.length≤sizeLine) :
  Inv X pins σ (upd H l (.lst ys)) { s with heap:=s.heap.update l (Obj.mapSeq f),toks:=t' }:=by
 have q:=PySem.IsL.update e f;rw[hf]at q
 refine I.write (x:=l) (e:=l) (by rw[hH]; exact trivial) (.inl rfl) (fun b' u hb hu=>(Heap.get?_update_other s.heap (Obj.mapSeq f) (Ne.symm hb)).trans hu) ⟨_,q⟩ ?_
 exact⟨hz,its',_,hv,q⟩
theorem Inv.lnew{its:List Value}{t':Nat}(I:Inv X pins σ H s)(hv:Vals ys its)(hz:ys.length≤sizeLine) :
  Inv X pins σ (upd H s.heap.objs.size (.lst ys)) { s with heap:=s.heap.push { cls:=.type "list", data:=.seq its.toArray },toks:=t' }:=
 I.laid (fun _ _ q=>Heap.get?_push_of_some _ q) (Nat.le_refl _) ⟨hz,its,0,hv,Heap.get?_push_size _ rfl⟩
theorem Inv.fresh(I:Inv X pins σ H s):H s.heap.objs.size=none:=I.hok.fresh (Nat.le_refl _)
theorem Inv.lstM(I:Inv X pins σ H s)(hH:H l=some (.lst xs)):xs.length≤sizeLine∧∃ (its:List Value) (n:Nat),Vals xs its∧xs.length=its.length∧s.heap.get? l=some { cls:=.type "list", data:=.seq its.toArray n }:=by
 obtain⟨z,its,n,r,e⟩:=I.hok l _ hH
 exact⟨z,its,n,r,r.length,e⟩
theorem za{n:Nat}(h:n≤sizeLine):Builtin.List.listTooLong n=false:=by
 unfold Builtin.List.listTooLong;exact decide_eq_false (by omega)
end
section
variable{X:Cx}
def fX:V→List V→Hp→VK→Prop:=fun x vs H Q=>∃ l xs y,x = .ref l∧vs=[y]∧H l=some (.lst xs)∧xs.length<sizeLine∧Q .non (upd H l (.lst (xs++[y])))
theorem nv:Dl X "list.append" fX:=by
 intro pins s σ H x vs v us Q I rx rv h
 obtain⟨l,xs,y,rfl,rfl,hH,hz,q⟩:=h
 cases rx;obtain⟨u,rfl,ru⟩:=rv.one
 obtain⟨z,its,n,r,hl,e⟩:=I.lstM hH
 refine call_meets F.slot_list_append ⟨_,e,rfl⟩ F.entry_list_append (F.args_list_append_2 _ _) (PySem.list_append l its.toArray n u (by rw[List.size_toArray]; omega)) ⟨e,?_⟩
 refine⟨.non,_,I.lset (its':=its++[u]) hH e (by simp) (r.append (.cons ru .nil)) ?_,rfl,q⟩
 rw[List.length_append,List.length_singleton];omega
def mP:V→List V→Hp→VK→Prop:=fun x vs H Q=>∃ l b xs zs,x = .ref l∧vs=[.ref b]∧H l=some (.lst xs)∧H b=some (.lst zs)∧xs.length+zs.length≤sizeLine∧Q .non (upd H l (.lst (xs++zs)))
theorem wy:Dl X "list.extend" mP:=by
 intro pins s σ H x vs v us Q I rx rv h
 obtain⟨l,b,xs,zs,rfl,rfl,hH,hB,hz,q⟩:=h
 cases rx;obtain⟨u,rfl,ru⟩:=rv.one
 cases ru;obtain⟨z,its,n,r,hl,e⟩:=I.lstM hH
 obtain⟨z2,its2,n2,r2,hl2,e2⟩:=I.lstM hB
 have hsz:its.toArray.size+its2.toArray.size≤sizeLine:=by rw[List.size_toArray,List.size_toArray]; omega
 have hlong:¬ (!its.toArray.isEmpty&&Builtin.List.listTooLong (its.toArray.size+its2.toArray.size))=true:=by
  rw[za hsz,Bool.and_false];exact Bool.false_ne_true
 refine call_meets F.slot_list_extend ⟨_,e,rfl⟩ F.entry_list_extend (F.args_list_extend_2 _ _)
  (AutoSeq1.list_extend_list_list_0 l its.toArray n b its2.toArray n2 hlong (by rw[List.size_toArray]; omega) (by omega)) ⟨e,e2,?_⟩
 refine⟨.non,_,I.lset (its':=its++its2) hH e (by simp) (r.append r2) ?_,rfl,q⟩
 rw[List.length_append];omega
def zk:V→List V→Hp→VK→Prop:=fun x vs H Q=>∃ l xs y,x = .ref l∧vs=[]∧H l=some (.lst xs)∧xs[xs.length - 1]? = some y∧Q y (upd H l (.lst xs.dropLast))
theorem Cj:Dl X "list.pop" zk:=by
 intro pins s σ H x vs v us Q I rx rv h
 obtain⟨l,xs,y,rfl,rfl,hH,hy,q⟩:=h
 cases rx;have hus:=rv.zero;subst hus;obtain⟨z,its,n,r,hl,e⟩:=I.lstM hH
 obtain⟨u,hu,ru⟩:=r.get hy
 have hy':its.toArray[its.toArray.size - 1]? = some u:=by
  show its.toArray[its.length - 1]? = some u
  rw[← Array.getElem?_toList,← hl];exact hu
 refine call_meets F.slot_list_pop ⟨_,e,rfl⟩ F.entry_list_pop (F.args_list_pop_1 _) (MeetsSeq.list_pop_last l its.toArray n u hy' (by rw[List.size_toArray]; omega)) ⟨e,?_⟩
 refine⟨y,_,I.lset (its':=its.dropLast) hH e ?_ r.dropLast ?_,ru,q⟩
 ·show its.toArray.eraseIdxIfInBounds (its.toArray.size - 1)=its.dropLast.toArray
  rw[List.size_toArray,List.eraseIdxIfInBounds_toArray,sv]
 ·rw[List.length_dropLast]
  omega
def Jr:R2:=fun x y H Q=>∃ l b xs zs,x = .ref l∧y = .ref b∧H l=some (.lst xs)∧H b=some (.lst zs)∧xs.length+zs.length≤sizeLine∧∀ p,H p=none→Q (.ref p) (upd H p (.lst (xs++zs)))
theorem BU:OpR X (binaryOp .Add) Jr:=by
 intro pins s σ H x y v u Q I rx ry h
 obtain⟨l,b,xs,zs,rfl,rfl,hH,hB,hz,q⟩:=h
 cases rx
 cases ry;obtain⟨z,its,n,r,hl,e⟩:=I.lstM hH
 obtain⟨z2,its2,n2,r2,hl2,e2⟩:=I.lstM hB
 refine PySem.P.add_list e e2 ?_ (by rw[List.size_toArray,List.size_toArray]; omega)
 have ea:its.toArray++its2.toArray=(its++its2).toArray:=by simp
 rw[ea];exact⟨.ref _,_,I.lnew (t':=s.toks) (r.append r2) (by rw[List.length_append]; omega),rfl,q _ I.fresh⟩
end
section
variable{prog:Program}{w:World}{A:Around}{E:Value→Shared→Prop}{s:Shared}
end
section
variable{X:Cx}
end
end L2
namespace L2
open PySem PySem.Spec PyProof.Rows
section
variable{κ : Type}[DecidableEq κ]
def aN(kvs:List (κ × V))(k:κ):Option V:=(kvs.find? fun kv=>decide (kv.1=k)).map (·.2)
def bC(kvs:List (κ × V))(k:κ)(v:V):List (κ × V):=
 if (kvs.any fun kv=>decide (kv.1=k))=true then kvs.map (fun kv=>if kv.1=k then (kv.1,v) else kv) else kvs++[(k,v)]
theorem df{p:κ × V}{r:List (κ × V)}{k:κ}(e:p.1=k):aN (p::r) k=some p.2:=by simp[aN,List.find?_cons,e]
theorem dg{p:κ × V}{r:List (κ × V)}{k:κ}(e:¬ p.1=k):aN (p::r) k=aN r k:=by simp[aN,List.find?_cons,e]
theorem i9(k:κ):∀ kvs:List (κ × V),(kvs.any fun kv=>decide (kv.1=k))=(aN kvs k).isSome
 | []=>rfl
 | p::r=>by
  rw[List.any_cons]
  by_cases e:p.1=k
  ·simp only[df e,decide_eq_true e,Bool.true_or,Option.isSome_some]
  ·rw[dg e,decide_eq_false e,Bool.false_or]; exact i9 k r
theorem qg(k j:κ)(y:V):∀ kvs:List (κ × V),aN (kvs.map fun kv=>if kv.1=k then (kv.1,y) else kv) j=(aN kvs j).map fun x=>if j=k then y else x
 | []=>rfl
 | p::r=>by
  have ih:=qg k j y r;rw[List.map_cons]
  by_cases h:p.1=k
  ·rw[if_pos h]
   by_cases e:p.1=j
   ·rw[df (p:=(p.1,y)) e,df e,Option.map_some,if_pos (e.symm.trans h)]
   ·rw[dg (p:=(p.1,y)) e,dg e,ih]
  ·rw[if_neg h]
   by_cases e:p.1=j
   ·rw[df (p:=p) e,df e,Option.map_some,if_neg (fun z=>h (e.trans z))]
   ·rw[dg (p:=p) e,dg e,ih]
theorem m9(k j:κ)(y:V):∀ kvs:List (κ × V),aN kvs k=none→aN (kvs++[(k,y)]) j=if j=k then some y else aN kvs j
 | [],_=>by
  by_cases e:k=j
  ·rw[if_pos e.symm]; exact df (p:=(k,y)) e
  ·rw[if_neg (fun z=>e z.symm)]; exact dg (p:=(k,y)) e
 | p::r,hn=>by
  rw[List.cons_append];have hk:¬ p.1=k:=fun z=>by rw[df z]at hn; cases hn
  rw[dg hk]at hn
  have ih:=m9 k j y r hn
  by_cases e:p.1=j
  ·rw[df e,df e,if_neg (fun z=>hk (e.trans z))]
  ·rw[dg e,dg e,ih]
theorem db(kvs:List (κ × V))(k j:κ)(y:V):aN (bC kvs k y) j=if j=k then some y else aN kvs j:=by
 unfold bC
 by_cases a:(kvs.any fun kv=>decide (kv.1=k))=true
 ·rw[if_pos a,qg]
  rw[i9]at a
  by_cases e:j=k
  ·obtain⟨x,hx⟩:=Option.isSome_iff_exists.mp a
   rw[if_pos e,e,hx,Option.map_some,if_pos rfl]
  ·rw[if_neg e]
   cases aN kvs j with
   | none=>rfl
   | some x=>rw[Option.map_some,if_neg e]
 ·rw[if_neg a]
  refine m9 k j y kvs ?_
  rw[i9]at a
  cases q:aN kvs k with
  | none=>rfl
  | some x=>rw[q]at a; exact(a rfl).elim
theorem cW(kvs:List (κ × V))(k:κ)(v:V):(bC kvs k v).length≤kvs.length+1:=by
 unfold bC;split
 ·rw[List.length_map]; omega
 ·rw[List.length_append,List.length_cons,List.length_nil]; omega
theorem RelO.isSome_eq{o:Option V}{u:Option Value}(r:RelO o u):o.isSome=u.isSome:=by
 cases o with
 | none=>cases u with
  | none=>rfl
  | some _=>exact(show False from r).elim
 | some _=>cases u with
  | none=>exact(show False from r).elim
  | some _=>rfl
theorem RelO.getD{o:Option V}{u:Option Value}{d:V}{d':Value}(r:RelO o u)(rd:RelV d d'):RelV (o.getD d) (u.getD d'):=by
 cases o with
 | none=>cases u with
  | none=>exact rd
  | some _=>exact(show False from r).elim
 | some _=>cases u with
  | none=>exact(show False from r).elim
  | some _=>exact r
theorem KV.val{kvs:List (κ × V)}{vs:List (κ × Value)}(r:KV kvs vs)(k:κ):RelO (aN kvs k) (valueAt vs k):=by
 unfold KV at r
 induction r with
 | nil=>exact True.intro
 | @cons p q ps qs h t ih=>
  obtain⟨h1,h2⟩:=h
  by_cases e:p.1=k
  ·have e':q.1=k:=h1.symm.trans e
   have b:valueAt (q::qs) k=some q.2:=by simp[valueAt,List.find?_cons,e']
   rw[df e,b]; exact h2
  ·have e':¬ q.1=k:=fun z=>e (h1.trans z)
   have b:valueAt (q::qs) k=valueAt qs k:=by simp[valueAt,List.find?_cons,e']
   rw[dg e,b]; exact ih
theorem KV.any{kvs:List (κ × V)}{vs:List (κ × Value)}(r:KV kvs vs)(k:κ):(kvs.any fun kv=>decide (kv.1=k))=vs.any fun kv=>decide (kv.1=k):=by
 unfold KV at r
 induction r with
 | nil=>rfl
 | cons h t ih=>rw[List.any_cons,List.any_cons,ih,h.1]
theorem KV.repl{kvs:List (κ × V)}{vs:List (κ × Value)}(r:KV kvs vs)(k:κ){y:V}{u:Value}(ry:RelV y u) :
  KV (kvs.map fun kv=>if kv.1=k then (kv.1,y) else kv) (vs.map fun kv=>if kv.1=k then (kv.1,u) else kv):=by
 unfold KV at r ⊢
 induction r with
 | nil=>exact .nil
 | @cons p q ps qs h t ih=>
  rw[List.map_cons,List.map_cons];refine .cons ?_ ih
  obtain⟨h1,h2⟩:=h
  by_cases e:p.1=k
  ·rw[if_pos e,if_pos (h1.symm.trans e)]; exact⟨h1,ry⟩
  ·rw[if_neg e,if_neg (fun z=>e (h1.trans z))]; exact⟨h1,h2⟩
theorem KV.put{kvs:List (κ × V)}{vs:List (κ × Value)}(r:KV kvs vs)(k:κ){y:V}{u:Value}(ry:RelV y u):KV (bC kvs k y) (stored vs k u):=by
 unfold bC stored;rw[r.any k]
 by_cases e:(vs.any fun kv=>decide (kv.1=k))=true
 ·rw[if_pos e,if_pos e]; exact r.repl k ry
 ·rw[if_neg e,if_neg e]; exact Paired.snoc r ⟨rfl,ry⟩
theorem KV.length{kvs:List (κ × V)}{vs:List (κ × Value)}(r:KV kvs vs):kvs.length=vs.length:=Paired.length r
end
theorem i6{P:Program}{w:World}{k:aw}{u:Value}(r:RelV (kV k) u):(cy P w).is k u=true:=by
 cases k with
 | inl i=>obtain⟨t,e⟩:=(show ∃ t,u=Value.int i t from r); subst e; exact qr P w i t
 | inr x=>obtain⟨t,e⟩:=(show ∃ t,u=Value.str x t from r); subst e; exact ql P w x t
theorem nM{P:Program}{w:World}:∀ {ks:List aw} {us:List Value},Vals (ks.map kV) us→ItemsAre (cy P w) ks us
 | [],_,r=>by rw[List.map_nil]at r; cases r; exact .nil
 | k::ks,_,r=>by
  rw[List.map_cons]at r
  cases r with
  | cons h t=>exact .cons (i6 h) (nM t)
abbrev KT (H:Hp):List (List aw × V)→List (List aw × Addr × Value)→Prop:=Paired fun p q=>p.1=q.1∧H q.2.1=some (.tup (p.1.map kV))∧RelV p.2 q.2.2
theorem KT.val{H:Hp}{kvs:List (List aw × V)}{xs:List (List aw × Addr × Value)}(r:KT H kvs xs)(k:List aw):RelO (aN kvs k) ((atKey xs k).map (·.2)):=by
 induction r with
 | nil=>exact True.intro
 | @cons p q ps qs h t ih=>
  obtain⟨h1,_,h2⟩:=h
  by_cases e:p.1=k
  ·have e':q.1=k:=h1.symm.trans e
   have b:atKey (q::qs) k=some q.2:=by simp[atKey,List.find?_cons,e']
   rw[df e,b]; exact h2
  ·have e':¬ q.1=k:=fun z=>e (h1.trans z)
   have b:atKey (q::qs) k=atKey qs k:=by simp[atKey,List.find?_cons,e']
   rw[dg e,b]; exact ih
theorem KT.repl{H:Hp}{kvs:List (List aw × V)}{xs:List (List aw × Addr × Value)}(r:KT H kvs xs)(k:List aw){y:V}{u:Value}(ry:RelV y u) :
  KT H (kvs.map fun kv=>if kv.1=k then (kv.1,y) else kv) (xs.map (putAt k u)):=by
 induction r with
 | nil=>exact .nil
 | @cons p q ps qs h t ih=>
  rw[List.map_cons,List.map_cons];refine .cons ?_ ih
  obtain⟨h1,h2,h3⟩:=h
  unfold putAt
  by_cases e:p.1=k
  ·rw[if_pos e,if_pos (h1.symm.trans e)]; exact⟨h1,h2,ry⟩
  ·rw[if_neg e,if_neg (fun z=>e (h1.trans z))]; exact⟨h1,h2,h3⟩
theorem KT.put{H:Hp}{kvs:List (List aw × V)}{xs:List (List aw × Addr × Value)}(r:KT H kvs xs)(k:List aw){b:Addr}{y:V}{u:Value}(hb:H b=some (.tup (k.map kV)))(ry:RelV y u) :
  KT H (bC kvs k y) (storedH xs k b u):=by
 have e:(kvs.any fun kv=>decide (kv.1=k))=(atKey xs k).isSome:=by
  rw[i9,(r.val k).isSome_eq,Option.isSome_map]
 unfold bC storedH;rw[e]
 by_cases q:(atKey xs k).isSome=true
 ·rw[if_pos q,if_pos q]; exact r.repl k ry
 ·rw[if_neg q,if_neg q]; exact Paired.snoc r ⟨rfl,hb,ry⟩
theorem KT.keeps{H H':Hp}{kvs:List (List aw × V)}{xs:List (List aw × Addr × Value)}(r:KT H kvs xs)(ht:∀ b ys,H b=some (.tup ys)→H' b=some (.tup ys)):KT H' kvs xs:=
 Paired.mapP r fun _ _ z=>⟨z.1,ht _ _ z.2.1,z.2.2⟩
section
variable{P:Program}{w:World}{H:Hp}{h:Heap}{a:Addr}
theorem Ag{u:HO}(ok:HOk P w H h)(e:Rd H a u):ObjOk P w H h a u:=e.ok ok
theorem iS{kvs:List (aw × V)}(ok:HOk P w H h)(e:Rd H a (.dK kvs)):kvs.length≤sizeLine∧(a == sysModules)=false∧∃ vs,KV kvs vs∧h.DictOf (cy P w) a vs:=
 show ObjOk P w H h a (.dK kvs) from Ag ok e
theorem zQ{kvs:List (aw × V)}(ok:HOk P w H h)(e:H a=some (.dK kvs)):kvs.length≤sizeLine∧(a == sysModules)=false∧∃ vs,KV kvs vs∧h.DictOf (cy P w) a vs:=iS ok (.inl e)
theorem h9{ks:List aw}(ok:HOk P w H h)(e:H a=some (.tup (ks.map kV))):(tupleKind (cy P w)).is h ks a:=by
 obtain⟨_,its,r,o,h1,h2,_,n,h3⟩:=(show ObjOk P w H h a (.tup (ks.map kV)) from ok a _ e)
 exact⟨o,its.toArray,n,h1,h2,h3,by simpa using nM r⟩
theorem lB{kvs:List (List aw × V)}(ok:HOk P w H h)(e:Rd H a (.dT kvs)):kvs.length≤sizeLine∧(a == sysModules)=false∧
  ∃ xs,KT H kvs xs∧h.DictOfH (tupleKind (cy P w)) a xs:=by
 obtain⟨z,y,xs,r,o,es,ep,h1,h2,h3,h4,h5⟩:=(show ObjOk P w H h a (.dT kvs) from Ag ok e)
 refine⟨z,y,xs,r,o,es,ep,h1,h2,h3,h4,fun x hx=>?_,h5⟩
 have all:∀ {l:List (List aw × V)} {m:List (List aw × Addr × Value)},KT H l m→∀ x∈m,(tupleKind (cy P w)).is h x.1 x.2.1:=by
  intro l m q
  induction q with
  | nil=>intro x hx; exact nomatch hx
  | @cons p q ps qs hq t ih=>
   intro x hx
   rcases List.mem_cons.mp hx with e | hx
   ·subst e
    exact h9 ok (by rw[← hq.1]; exact hq.2.1)
   ·exact ih x hx
 exact all r x hx
theorem rO{kvs:List (List aw × V)}(ok:HOk P w H h)(e:H a=some (.dT kvs)):kvs.length≤sizeLine∧(a == sysModules)=false∧
  ∃ xs,KT H kvs xs∧h.DictOfH (tupleKind (cy P w)) a xs:=lB ok (.inl e)
end
def DGet(H:Hp)(a:Addr)(y:V)(r:Option V):Prop:=
 (∃ kvs k,Rd H a (.dK kvs)∧y=kV k∧r=aN kvs k)∨∃ kvs k b,Rd H a (.dT kvs)∧y = .ref b∧H b=some (.tup (k.map kV))∧r=aN kvs k
def DPut(H:Hp)(a:Addr)(y v:V)(H':Hp):Prop:=
 (∃ kvs k,H a=some (.dK kvs)∧y=kV k∧kvs.length<sizeLine∧H'=upd H a (.dK (bC kvs k v)))∨
 ∃ kvs k b,H a=some (.dT kvs)∧y = .ref b∧H b=some (.tup (k.map kV))∧kvs.length<sizeLine∧H'=upd H a (.dT (bC kvs k v))
theorem DGet.k{H:Hp}{a:Addr}{kvs:List (aw × V)}{k:aw}(e:H a=some (.dK kvs)):DGet H a (kV k) (aN kvs k):=.inl ⟨kvs,k,.inl e,rfl,rfl⟩
theorem DGet.t{H:Hp}{a b:Addr}{kvs:List (List aw × V)}{k:List aw}(e:H a=some (.dT kvs))(eb:H b=some (.tup (k.map kV))):DGet H a (.ref b) (aN kvs k):=.inr ⟨kvs,k,b,.inl e,rfl,eb,rfl⟩
theorem DPut.k{H:Hp}{a:Addr}{kvs:List (aw × V)}{k:aw}{v:V}(e:H a=some (.dK kvs))(hl:kvs.length<sizeLine):DPut H a (kV k) v (upd H a (.dK (bC kvs k v))):=.inl ⟨kvs,k,e,rfl,hl,rfl⟩
theorem DPut.t{H:Hp}{a b:Addr}{kvs:List (List aw × V)}{k:List aw}{v:V}(e:H a=some (.dT kvs))(eb:H b=some (.tup (k.map kV)))(hl:kvs.length<sizeLine) :
  DPut H a (.ref b) v (upd H a (.dT (bC kvs k v))):=.inr ⟨kvs,k,b,e,rfl,eb,hl,rfl⟩
section
variable{X:Cx}{pins:List (Addr × Obj)}{σ : St}{H:Hp}{s:Shared}{a:Addr}{y v:V}{u r:Value}{o:Option V}{A:Around}{E:Value→Shared→Prop}
theorem Inv.big(I:Inv X pins σ H s):sysModules<s.heap.objs.size:=by
 have h:mainGlobals<s.heap.objs.size:=(I.mod.glob.keeps I.bk).lt
 exact Nat.lt_trans (by decide) h
theorem FW{Q:Value→Shared→Prop}(hu:A.units+1<cLine)(I:Inv X pins σ H s)(g:DGet H a y o)(ry:RelV y u)(h:∀ s',Inv X pins σ H s'→Q (.bool o.isSome) s') :
  wpAny (model X.prog X.w) A (compareOp .In u (.ref a)) Q E s:=by
 rcases g with ⟨kvs,k,e,ey,l⟩ | ⟨kvs,k,b,e,ey,eb,l⟩
 ·subst ey
  obtain⟨z,hd,vs,rel,dd⟩:=iS I.hok e
  refine wpAny_in_of (i6 ry) hd dd.mapOf ?_
  rw[← (rel.val k).isSome_eq,← l];exact h _ (I.tok _)
 ·subst ey
  cases (show u=Value.ref b from ry)
  obtain⟨z,hd,xs,rel,dd⟩:=lB I.hok e
  refine wpAny_in_heap (tupleKind_room_in1 hu) (h9 I.hok eb) hd dd ?_
  have q:=(rel.val k).isSome_eq;rw[Option.isSome_map]at q
  rw[← q,← l];exact h _ (I.tok _)
theorem By{Q:Value→Shared→Prop}(hu:A.units+1<cLine)(I:Inv X pins σ H s)(g:DGet H a y o)(ry:RelV y u)(h:∀ s',Inv X pins σ H s'→Q (.bool (!o.isSome)) s') :
  wpAny (model X.prog X.w) A (compareOp .NotIn u (.ref a)) Q E s:=by
 rcases g with ⟨kvs,k,e,ey,l⟩ | ⟨kvs,k,b,e,ey,eb,l⟩
 ·subst ey
  obtain⟨z,hd,vs,rel,dd⟩:=iS I.hok e
  refine wpAny_notIn_of (i6 ry) hd dd.mapOf ?_
  rw[← (rel.val k).isSome_eq,← l];exact h _ (I.tok _)
 ·subst ey
  cases (show u=Value.ref b from ry)
  obtain⟨z,hd,xs,rel,dd⟩:=lB I.hok e
  refine wpAny_notIn_heap (tupleKind_room_in1 hu) (h9 I.hok eb) hd dd ?_
  have q:=(rel.val k).isSome_eq;rw[Option.isSome_map]at q
  rw[← q,← l];exact h _ (I.tok _)
theorem j7{h':Heap}{t':Nat}{ob:HO}(I:Inv X pins σ H s)(mu:wn (H a))(hs:Heap.SameBut a s.heap h')(he:∃ q,h'.get? a=some q)(new:ObjOk X.prog X.w (upd H a ob) h' a ob) :
  Inv X pins σ (upd H a ob) { s with heap:=h',toks:=t' }:=
 I.write (x:=a) (e:=a) mu (.inl rfl) (fun b q hb z=>(hs.2 b hb).trans z) he new
theorem vm{P:Program}{w:World}{H':Hp}{h':Heap}{kvs:List (aw × V)}{vs:List (aw × Value)}(z:kvs.length≤sizeLine)(hd:(a == sysModules)=false)(rel:KV kvs vs)(dd:h'.DictOf (cy P w) a vs) :
  ObjOk P w H' h' a (.dK kvs):=⟨z,hd,vs,rel,dd⟩
theorem mV{H':Hp}{Q:Unit→Shared→Prop}(hu:A.units+1<cLine)(I:Inv X pins σ H s)(g:DPut H a y v H')(ry:RelV y u)(rv:RelV v r)(h:∀ s',Inv X pins σ H' s'→Q () s') :
  wpAny (model X.prog X.w) A (setItem (.ref a) u r) Q E s:=by
 rcases g with ⟨kvs,k,e,ey,l,eH⟩ | ⟨kvs,k,b,e,ey,eb,l,eH⟩
 ·subst ey eH
  obtain⟨z,hd,vs,rel,dd⟩:=zQ I.hok e
  have hz:vs.length≤sizeLine:=by rw[← rel.length]; exact z
  have hl:(bC kvs k v).length≤sizeLine:=by have:=cW kvs k v; omega
  refine wpAny_setItem_pairs (hsz:=hz) (i6 ry) dd fun h' dd' hs=>h _ ?_
  have he:∃ q,h'.get? a=some q:=let ⟨q,_,_,hq,_⟩:=dd'; ⟨q,hq⟩
  exact j7 I (by rw[e]; exact True.intro) hs he (vm hl hd (rel.put k rv) dd')
 ·subst ey eH
  cases (show u=Value.ref b from ry)
  obtain⟨z,hd,xs,rel,dd⟩:=rO I.hok e
  have hz:xs.length≤sizeLine:=by rw[← Paired.length rel]; exact z
  have hl:(bC kvs k v).length≤sizeLine:=by have:=cW kvs k v; omega
  refine wpAny_setItem_heap (hsz:=hz) (tupleKind_room_in1 hu) (h9 I.hok eb) dd fun h' dd' hs=>h _ ?_
  obtain⟨q,es,ep,hq,h2,h3,h4,_,h5⟩:=dd'
  refine j7 I (by rw[e]; exact True.intro) hs ⟨q,hq⟩ ⟨hl,hd,_,(rel.put k eb rv).keeps fun c ys ec=>?_,q,es,ep,hq,h2,h3,h4,h5⟩
  rw[am (bv ec e (fun z=>nomatch z))]
  exact ec
end
section
variable{X:Cx}{pins:List (Addr × Obj)}{σ : St}{H:Hp}{s:Shared}{a:Addr}{kvs:List (aw × V)}{k:aw}{u:Value}{A:Around}{E:Value→Shared→Prop}
end
section
variable{X:Cx}{o i e value:Expr}{pos pos' tpos:Pos}{td ty tv:TE}
end
theorem yC{P:Program}{w:World}{H:Hp}(h:Heap)(hb:sysModules<h.objs.size):ObjOk P w H (h.push { cls:=.type "dict", data:=.dict #[] }) h.objs.size (.dK []):=
 ⟨Nat.zero_le _,beq_eq_false_iff_ne.mpr (Ne.symm (Nat.ne_of_lt hb)),[],.nil,Heap.DictOf.new h⟩
theorem zn{P:Program}{w:World}{H:Hp}(h:Heap)(hb:sysModules<h.objs.size):ObjOk P w H (h.push { cls:=.type "dict", data:=.dict #[] }) h.objs.size (.dT []):=
 ⟨Nat.zero_le _,beq_eq_false_iff_ne.mpr (Ne.symm (Nat.ne_of_lt hb)),[],.nil,_,#[],0,Heap.get?_push_size _ rfl,⟨rfl,rfl,rfl⟩,rfl,rfl,List.nodup_nil⟩
def qb:TE:=fun _ H Q=>∀ p,H p=none→Q (.ref p) (upd H p (.dK []))
def pK:TE:=fun _ H Q=>∀ p,H p=none→Q (.ref p) (upd H p (.dT []))
section
variable{X:Cx}{pos:Pos}
theorem fW:PE X (.Dict [] [] pos) qb:=fun pins s σ H Q I h=>
 wpAny_Dict_empty ⟨.ref s.heap.objs.size,_,I.laid (a:=s.heap.objs.size) (o:=.dK []) (t':=s.toks) (fun _ _ q=>Heap.get?_push_of_some _ q) (Nat.le_refl _) (yC s.heap I.big),rfl,h _ (I.hok.fresh (Nat.le_refl _))⟩
theorem o0:PE X (.Dict [] [] pos) pK:=fun pins s σ H Q I h=>
 wpAny_Dict_empty ⟨.ref s.heap.objs.size,_,I.laid (a:=s.heap.objs.size) (o:=.dT []) (t':=s.toks) (fun _ _ q=>Heap.get?_push_of_some _ q) (Nat.le_refl _) (zn s.heap I.big),rfl,h _ (I.hok.fresh (Nat.le_refl _))⟩
end
def jx:List (TE × TE)→St→Hp→(List (V × V)→Hp→Prop)→Prop
 | [],_,H,Q=>Q [] H
 | (tk,tv)::r,σ,H,Q=>tk σ H fun x H1=>tv σ H1 fun y H2=>jx r σ H2 fun ps H3=>Q ((x,y)::ps) H3
abbrev VV:List (V × V)→List (Value × Value)→Prop:=Paired fun p q=>RelV p.1 q.1∧RelV p.2 q.2
def PPs(X:Cx)(pos:Pos)(keys:List (Option Expr))(values:List Expr)(trs:List (TE × TE)):Prop:=
 ∀ (pins:List (Addr × Obj)) (s:Shared) (σ : St) (H:Hp) (Q:List (V × V)→Hp→Prop),Inv X pins σ H s→jx trs σ H Q→
  wpAny (model X.prog X.w) X.A (evalPairs (pairTrees keys values X.env pos)) (fun vs s'=>∃ ps H',Inv X pins σ H' s'∧VV ps vs∧Q ps H') X.xe s
structure M1 (X:Cx) (o:Expr) (m:Str) (apos:Pos) (e:Expr) (cpos:Pos):Prop where
 base:attributeBase o m X.env (eval o X.env)=eval o X.env
 few:((backTo cpos (starEach [e] X.env)).all (fun x=>!x.1)&&(backToKw cpos (keywordEach [] X.env)).all (fun x=>x.1.isSome)
  && decide (([e]:List Expr).length+([]:List Keyword).length+(if ([]:List Keyword).isEmpty then 0 else 1)<30))=true
 line:(apos.endLine == cpos.line)=true
 trees:backTo cpos (starEach [e] X.env)=[(false,eval e X.env)]
def zC(H:Hp)(a:Addr):Prop:=(∃ kvs,Rd H a (.dK kvs))∨∃ kvs,Rd H a (.dT kvs)
theorem CI{X:Cx}{pins:List (Addr × Obj)}{σ : St}{H:Hp}{s:Shared}{a:Addr}(I:Inv X pins σ H s)(d:zC H a) :
  s.TypeIs (.ref a) "dict" ∧ (∀ b,Value.ref a = .ref b→∃ ob,s.heap.get? b=some ob∧ob.dict=none)∧(a == sysModules)=false:=by
 rcases d with ⟨kvs,e⟩ | ⟨kvs,e⟩
 ·obtain⟨_,hd,vs,_,dd⟩:=iS I.hok e
  refine⟨dd.typeIs,fun b q=>?_,hd⟩
  cases q;obtain⟨ob,_,_,h1,h2,_⟩:=dd
  exact⟨ob,h1,h2.2.1⟩
 ·obtain⟨_,hd,xs,_,dd⟩:=lB I.hok e
  refine⟨dd.typeIs,fun b q=>?_,hd⟩
  cases q;obtain⟨ob,_,_,h1,h2,_⟩:=dd
  exact⟨ob,h1,h2.2.1⟩
section
variable{X:Cx}{pins:List (Addr × Obj)}{σ : St}{H:Hp}{s:Shared}{a:Addr}{y d:V}{u r:Value}{o:Option V}{A:Around}{E:Value→Shared→Prop}
theorem Cz{Q:Value→Shared→Prop}(hu:A.units+1<cLine)(I:Inv X pins σ H s)(g:DGet H a y o)(ry:RelV y u)(h:∀ w' s',Inv X pins σ H s'→RelV (o.getD .non) w'→Q w' s') :
  wpAny (model X.prog X.w) A (call (.builtin "dict.get") [.ref a,u]) Q E s:=by
 rcases g with ⟨kvs,k,e,ey,l⟩ | ⟨kvs,k,b,e,ey,eb,l⟩
 ·subst ey
  obtain⟨z,hd,vs,rel,dd⟩:=iS I.hok e
  refine call_meetsIn PySem.F.slot_dict_get dd.typeIs PySem.F.entry_dict_get (PySem.F.args_dict_get_2 _ _) (meets_dict_get (cy X.prog X.w) a (i6 ry) hd) ⟨_,dd.mapOf,h _ _ (I.tok _) ?_⟩
  rw[l];exact(rel.val k).getD rfl
 ·subst ey
  cases (show u=Value.ref b from ry)
  obtain⟨z,hd,xs,rel,dd⟩:=lB I.hok e
  refine call_meetsIn PySem.F.slot_dict_get dd.typeIs PySem.F.entry_dict_get (PySem.F.args_dict_get_2 _ _) (meetsH_dict_get (tupleKind (cy X.prog X.w)) a b hd) ⟨tupleKind_room_in1 hu,k,xs,h9 I.hok eb,dd,h _ _ (I.tok _) ?_⟩
  rw[l];exact(rel.val k).getD rfl
end
def wm(td ty:TE):TE:=fun σ H Q=>td σ H fun x H1=>∃ a,x = .ref a∧zC H1 a∧ty σ H1 fun y H2=>∃ o,DGet H2 a y o∧Q (o.getD .non) H2
section
variable{X:Cx}{o e f:Expr}{apos cpos:Pos}{td ty tx:TE}
theorem zc(hu:X.A.units+1<cLine)(ho:PE X o td)(he:PE X e ty)(m:M1 X o "get" apos e cpos):PE X (.Call (.Attribute o "get" apos) [e] [] cpos) (wm td ty):=by
 intro pins s σ H Q I h
 refine wpAny_Call_method m.base m.few m.line PySem.F.plainAttrs_dict PySem.F.slot_dict_get PySem.F.type_dict_get (bj (ho pins s σ H _ I h) fun u s1 ⟨x,H1,I1,rx,a,ex,d,q1⟩=>?_)
 subst ex;obtain rfl:u=Value.ref a:=rx
 obtain⟨t1,t2,_⟩:=CI I1 d
 refine⟨t1,t2,?_⟩
 rw[m.trees];refine Calls.callWith_builtin rfl (Calls.evalArgs_plain (Calls.spliced_cons (bj (he pins s1 σ H1 _ I1 q1) fun iv s2 ⟨y,H2,I2,ry,ov,g,q2⟩=>Calls.spliced_nil ?_)))
 exact Cz hu I2 g ry fun w' s3 I3 rw'=>⟨_,H2,I3,rw',q2⟩
end
section
variable{X:Cx}{pins:List (Addr × Obj)}{σ : St}{H:Hp}{s:Shared}{a:Addr}{kvs:List (aw × V)}{A:Around}{E:Value→Shared→Prop}
end
section
variable{X:Cx}{pins:List (Addr × Obj)}{σ : St}{H:Hp}{s:Shared}{a:Addr}{y:V}{u:Value}{A:Around}{E:Value→Shared→Prop}
end
end L2
namespace Att
open PySem PySem.W PySem.Calls PyProof.Rows
theorem lr{P:Params}{h:Heap}:∀ (ns:List Int) (vs:List Value),WellAll P h vs (ns.map WData.int)→IntsAre vs ns:=by
 intro ns
 induction ns with
 | nil=>
  intro vs w
  rw[List.map_nil]at w
  cases w;exact .nil
 | cons n ns ih=>
  intro vs w
  rw[List.map_cons]at w
  cases w with
  | cons a b=>
   cases a;exact .cons _ _ (ih _ b)
theorem uX{l:OpenLaw}{n:Nat}(hn:l.most=some n){P:Params}{h:Heap}{args:List WData}{vals:List Value}
  (hpre:l.row.toRowW.claim.pre args=true) (hwl:WellAll P h vals args) :
  ∃ a vs ns,vals=[Value.ref a]∧args=[WData.list (ns.map WData.int)]∧h.get? a=some { cls:=.type "list", data:=.seq vs.toArray }∧IntsAre vs ns∧ns.length≤n:=by
 have hsh:WShape.hasAll [] args [.list .int]=true:=(pre_splitW hpre).1
 have hc:l.pre.holds [] { args:=args }=true:=(pre_splitW hpre).2
 obtain⟨d,r,rfl,h1,h2⟩:=hasAllW_cons hsh
 obtain rfl:=hasAllW_nil h2
 obtain⟨xs,rfl,h3⟩:=hasW_list h1
 obtain⟨ns,rfl⟩:=items_int h3
 have hlen:ns.length≤n:=by
  unfold OpenLaw.pre at hc
  have h4:(WTm.not (.lt (.lit (.int (n:Int))) (.len (.arg 0)))).holds [] { args:=[.list (ns.map .int)] }=true:=by
   have h4:=(holds_andW hc).1;rw[hn]at h4
   exact h4
  have h5:=condW_of h4 (w_not (w_lt w_lit (w_len_list (w_arg rfl))));rw[List.length_map]at h5
  refine Nat.le_of_not_lt fun q=>?_
  have q':(n:Int)<((ns.length:Nat):Int):=by omega
  first
   | (rw[decide_eq_true q']at h5; exact absurd h5 (by decide))
   | (simp at h5; omega)
 cases hwl with
 | cons w1 w2=>
  cases w2
  cases w1 with
  | list ho hall=>exact⟨_,_,ns,rfl,rfl,ho,lr ns _ hall,hlen⟩
theorem uJ(l:OpenLaw)(args:List WData):l.row.toRowW.claim.post args (.bool true) args=true:=
 postW_of (r:=l.row.toRowW) (X:=(true == true))
  (show WShape.has [] (.bool true) .bool=true by first | rfl | decide | simp[WShape.has,WShape.arms,WShape.armsAll])
  (show (WTm.eq .res (.lit (.bool true))).value [] { args:=args,res:=some (.bool true),after:=args }=some (.bool (true == true)) from w_eq_bool (w_res rfl) w_lit) rfl
theorem attach_call{l:OpenLaw}{n:Nat}{q:Program}{loose:List Str}{XP:(Str→Option Value)→Heap→Prop}{YP:World→Heap→Prop}{d:DefRec}
  (hn:l.most=some n) (hdf:d.params.defaults=[])
  (call:∀ (w:World) (s₀ s₁:Shared) (mg mb:Str→Option Value) (fa:Addr) (o:Obj) (pm cd doc:Value) (a:Addr) (vs:List Value) (ns:List Int),
   Ground q loose [] XP w s₀ mg mb s₁.heap→YP w s₁.heap→
   s₁.heap.get? fa=some o→o.data = .func (docDef d.name d.params d.body d.scope pm cd doc)→s₁.heap.CodeRec cd d.name→mg d.name=some (.ref fa)→
   s₁.heap.get? a=some { cls:=.type "list", data:=.seq vs.toArray }→IntsAre vs ns→ns.length≤n→s₁.gens = #[]→
   codeAny (model l.prog w) callerA (.call (.ref fa) ⟨[.ref a],[]⟩) (fun r s'=>r = .ok (.ret (.bool true))∧OldK s₁.heap s'.heap∧s'.os=s₁.os∧AllBare s'.gens) s₁) :
  WalkO q loose XP YP l.row.toRowW d [] (fun f vs=>PySem.call f vs):=by
 intro w s₀ s₁ mg mb G Y fa o pm cd doc dV kV ho hd hcd hD hmg hg args vals as hpre hlay hrd hwl hlo
 obtain rfl:dV = .none:=Dflts.none hD hdf
 obtain rfl:kV = .none:=Dflts.noKw hD
 obtain⟨a,vs,ns,rfl,rfl,hobj,hints,hlen⟩:=uX hn hpre hwl
 refine enter_call (codeAny_mono (call w s₀ s₁ mg mb fa o pm cd doc a vs ns G Y ho (fd_plain hd) hcd hmg hobj hints hlen hg) fun r s' hq=>?_)
 obtain⟨rfl,h2,h3,h4⟩:=hq
 exact⟨.inl ⟨.bool true,.bool true,[],rfl,fun _=>rfl,.bool true,uJ l _,fun _=>⟨List.Pairwise.nil,fun _ hm=>(nomatch hm)⟩⟩,h2,h3,h4⟩
section
variable{prog:Program}{w:World}{A:Around}{E:Value→Shared→Prop}{s:Shared}{K:Frag}
end
end Att
namespace L2
open PySem PySem.Spec PyProof.Rows
theorem nE:∀ {vs:List Value} {ns:List Int},IntsAre vs ns→Vals (ns.map V.int) vs
 | _,_,.nil=>.nil
 | _,_,.cons n t h=>.cons ⟨t,rfl⟩ (nE h)
def xa(H:Hp):Prop:=∀ b,H b=none∨∃ o xs,H b=some (.frz o (.lst xs))
theorem xT{P:Program}{w:World}{K:PySem.W.Frag}{mg mb:Str→Option Value}{CX:ix}{k:Nat}{fa a:Addr}{fd:FuncData}{x:Str}{sp:Sp}{s₁:Shared}{vs:List Value}{ns:List Int}
  (KX:K.In s₁.heap) (hns:s₁.heap.Ns mainGlobals mg) (hb:s₁.heap.Ns builtinsNs mb) (hbb:∀ x:Str,x ≠ "__name__" → mb x=bootBuiltins x) (hlim:s₁.heap.NoLimit) (hg:s₁.gens = #[])
  (ha:s₁.heap.get? a=some { cls:=.type "list", data:=.seq vs.toArray }) (hi:IntsAre vs ns) (hl:ns.length≤sizeLine) (hr:Room k callerA)
  (F:∀ base:Heap,K.In base→base.Ns mainGlobals mg→FnOk P w K mg base CX k fa fd [x] sp) (hbind:∀ (s:Shared) (u:Value),BindsTo s fd ⟨[u],[]⟩ [(x,u)])
  (hsp:∀ H:Hp,xa H→SqL K H a (ns.map V.int)→sp [.ref a] H (fun v _=>v = .bl true) fun _ _ _=>False)
  (hCX:∀ H e s',CX [] H s₁ (fun _ _ _=>False) e s'→False) :
  codeAny (model P w) callerA (.call (.ref fa) ⟨[.ref a],[]⟩) (fun r s'=>r = .ok (.ret (.bool true))∧OldK s₁.heap s'.heap∧s'.os=s₁.os∧AllBare s'.gens) s₁:=by
 have rv:=nE hi;have lenV:=hi.length
 -- from an abstract heap in which nothing but the script may be tracked
 have core:∀ H:Hp,xa H→SqL K H a (ns.map V.int)→HOk P w H s₁.heap→(∀ b,H b≠none→b=a)→(H a≠none→K.lookup a=none)→
   codeAny (model P w) callerA (.call (.ref fa) ⟨[.ref a],[]⟩) (fun r s'=>r = .ok (.ret (.bool true))∧OldK s₁.heap s'.heap∧s'.os=s₁.os∧AllBare s'.gens) s₁:=by
  intro H hO hS hok hA hK
  have base_of:∀ {b:Addr} {o:Obj},s₁.heap.get? b=some o→H b=none→(jb s₁.heap H).get? b=some o:=fun e n=>yR e n
  have noA:∀ {b:Addr} {o:Obj} {es:Array DictEntry} {ep:Nat},s₁.heap.get? b=some o→o.data = .dict es ep→H b=none:=fun {b o es ep} e d=>by
   cases q:H b with
   | none=>rfl
   | some u=>
    have e':b=a:=hA b (by rw[q]; simp)
    subst e';rw[ha]at e; cases e
    have d':Data.seq vs.toArray _=Data.dict es ep:=d
    cases d'
  have nsK:∀ {b:Addr} {m:Str→Option Value},s₁.heap.Ns b m→(jb s₁.heap H).Ns b m:=fun {b m} ⟨o,es,ep,e,d,r⟩=>⟨o,es,ep,base_of e (noA e d),d,r⟩
  have hKb:K.In (jb s₁.heap H):=fun b o e=>base_of (KX b o e) (by
   cases q:H b with
   | none=>rfl
   | some u=>
    have e':b=a:=hA b (by rw[q]; simp)
    subst e';rw[hK (by rw[q]; simp)]at e; cases e)
  have hM:Mod K mg (jb s₁.heap H):=⟨hKb,nsK hns,⟨mb,nsK hb,hbb⟩,let ⟨mc,h1,h2⟩:=hlim; ⟨mc,nsK h1,h2⟩⟩
  have e0:Env0 P w K mg (jb s₁.heap H) callerA [] s₁ H:=⟨rfl,hM,fun b o e=>BG e,Nat.le_of_eq (vI _ _),trivial,fun b hb=>absurd (show b∈([]:List Addr) from hb) (by simp),hok,.of_eq hg⟩
  refine codeAny_mono ((F _ hKb (nsK hns)).run callerA [] s₁ H ⟨[.ref a],[]⟩ [.ref a] [.ref a] _ _ hr e0 (hbind s₁ (.ref a)) (.cons rfl .nil) (hsp H hO hS)) fun r s' h=>?_
  cases r with
  | error e=>exact(hCX H e s' h).elim
  | ok fl=>
   cases fl with
   | next=>exact False.elim h
   | brk=>exact False.elim h
   | cont=>exact False.elim h
   | ret u=>
    obtain⟨v,H',os,bare,un,hok',r',q⟩:=h
    have q':v = .bl true:=q
    subst q';obtain rfl:u=Value.bool true:=r'
    refine⟨rfl,OldK.of_keep fun b o e=>?_,os,bare⟩
    cases q:H b with
    | none=>exact un.keep b o e q (by intro z; exact absurd (show b∈([]:List Addr) from z) (by simp)) (by simp)
    | some u=>
     rcases hO b with z | ⟨ob,xs,z⟩
     ·rw[q]at z; cases z
     ·have z2:=un.frzs b ob _ z
      obtain⟨e1,_⟩:=hok b _ z
      obtain⟨e2,_⟩:=hok' b _ z2
      rw[e]at e1; cases e1
      exact e2
 cases hk:K.lookup a with
 | some o=>
  -- the script is one of the module's own objects
  have e:=KX a o hk;rw[ha]at e
  cases e;refine core (fun _=>none) (fun _=>.inl rfl) (.inr ⟨_,vs.toArray,_,hk,rfl,rfl,rfl,by rw[List.size_toArray,lenV]; exact hl,by simpa using rv⟩) (fun b u z=>by have z':(none:Option HO)=some u:=z; cases z') (fun b z=>absurd rfl z) fun z=>absurd rfl z
 | none=>
  refine core (fun b=>if b=a then some (.frz { cls:=.type "list", data:=.seq vs.toArray } (.lst (ns.map V.int))) else none) (fun b=>?_) (.inl (.inr ⟨{ cls:=.type "list", data:=.seq vs.toArray },if_pos rfl⟩)) (fun b u z=>?_) (fun b z=>?_) fun _=>hk
  ·by_cases hb:b=a
   ·exact .inr ⟨_,_,if_pos hb⟩
   ·exact .inl (if_neg hb)
  ·by_cases hb:b=a
   ·have z':=(if_pos hb).symm.trans z
    cases z';subst hb;exact⟨ha,by rw[List.length_map]; exact hl,vs,_,rv,ha⟩
   ·have z':=(if_neg hb).symm.trans z
    cases z'
  ·by_cases hb:b=a
   ·exact hb
   ·exact absurd (if_neg hb) z
end L2
namespace L2
open PySem PySem.Spec PyProof.Rows
abbrev KOf {K:PySem.W.Frag} {h:Heap} (_:K.In h):PySem.W.Frag:=K
theorem walk_of{l:PySem.W.OpenLaw}{n k:Nat}{q:Program}{loose:List Str}{XP:(Str→Option Value)→Heap→Prop}{YP:World→Heap→Prop}{d:DefRec}{K:Params→PySem.W.Frag}{CX:World→ix}{sp:World→Sp}{x:Str}
  (hn:l.most=some n) (hn2:n≤sizeLine) (hdf:d.params.defaults=[]) (hr:Room k callerA)
  (hY:∀ (w:World) (h:Heap),YP w h→(K w.params).In h)
  (F:∀ (w:World) (mg:Str→Option Value) (fa:Addr) (h:Heap),(K w.params).In h→h.Ns mainGlobals mg→mg d.name=some (.ref fa)→
   ∃ fd:FuncData,(∀ (s:Shared) (u:Value),BindsTo s fd ⟨[u],[]⟩ [(x,u)])∧
    ∀ base:Heap,(K w.params).In base→base.Ns mainGlobals mg→FnOk l.prog w (K w.params) mg base (CX w) k fa fd [x] (sp w))
  (hsp:∀ (w:World) (H:Hp) (a:Addr) (ns:List Int),ns.length≤n→xa H→SqL (K w.params) H a (ns.map V.int)→sp w [.ref a] H (fun v _=>v = .bl true) fun _ _ _=>False)
  (hCX:∀ (w:World) (H:Hp) (s:Shared) (e:Value) (s':Shared),CX w [] H s (fun _ _ _=>False) e s'→False) :
  PySem.W.WalkO q loose XP YP l.row.toRowW d [] (fun f vs=>PySem.call f vs):=by
 refine Att.attach_call hn hdf fun w s₀ s₁ mg mb fa o pm cd doc a vs ns G Y ho hd hcd hmg hobj hints hlen hg=>?_
 have KX:=hY w _ Y;obtain⟨fd,hb,hF⟩:=F w mg fa _ KX G.T.g hmg
 exact xT KX G.T.g G.T.b G.T.builtins G.T.nolimit hg hobj hints (Nat.le_trans hlen hn2) hr hF hb (fun H hO hS=>hsp w H a ns hlen hO hS) fun H e s'=>hCX w H s₁ e s'
end L2
/- THE LAST THEOREM (shape; LID, My.* are yours):
   My.Adr: a structure of the addresses that your layer names (classes,functions); My.Txt K t: a structure (Prop) of the equations over K;
   My.txt_mk:{K} {implicit addresses ..} (e1:nsIn K mainGlobals "law" = some (some (.ref f))) (e2:K.lookup f=some ⟨oc,od,.func (fnOf "law" "law" params body scope dV kV doc pm an cdv ct),sl⟩) (e3:codeIn K cdv "law" = true) .. : ∃ t,My.Txt K t
set_option maxRecDepth 100000 in
set_option maxHeartbeats 0 in
theorem PySem.Challenge.cw_LID_holds : PySem.Challenge.rw_LID.Holds := by
 w_on; o_law; k_head; (case hw=>w_witness2)
 k_fill
 refine L2.walk_of (l:=PySem.Challenge.rw_LID) (n:=63) (k:=40) (x := "script") (CX:=fun w=>..) (sp:=fun _=>My.sp_law) rfl (by decide) rfl ⟨rfl,by decide,by decide⟩ (fun w h Y=>PySem.W.kIn_of Y) ?F ?S ?C
 case F=>
  intro w mg fa h KX G hmg
  have T:∃ t,My.Txt (L2.KOf KX) t:=by
   dsimp only[L2.KOf]                          -- K must stand as «<heap const> w.params» for k_is
   refine' My.txt_mk ?e1 ?e2 ?e3 ..
   (case e1=>PySem.W.k_is)                    -- in the order: a name -> its address -> its object -> its parts
   (case e2=>PySem.W.k_is)
   ..
  obtain⟨t,T⟩:=T
  have e0:=hmg.symm.trans (PySem.W.mg_of KX G T.law)
  cases e0                                       -- fa is the law's own address
  exact⟨_,fun s u=>.of_eq rfl,fun base kb nb=>My.law_fn T kb nb⟩     -- if «.of_eq rfl» comes too early: refine' ⟨_,?b,fun base kb nb=>My.law_fn T kb nb⟩; exact fun s u=>.of_eq rfl
 case S=>exact fun w H a ns hl hO hS=>..
 case C=>exact ..
(the tactic k_is has no namespace: write k_is) -/
namespace L2
open PySem PySem.Spec PyProof.Rows
abbrev iB:ix:=fun _ _ _ _ _ _=>False
abbrev E0:XK:=fun _ _ _=>False
theorem rX{X:Cx}:lc iB X E0:=fun _ _ _ _ _ _ _ h=>h.elim
structure Fun (K:PySem.W.Frag) (x qual:Str) (st:Stmt) (f:Addr) (fd:FuncData):Prop where
 ex:∃ (oc:Value) (od:Option Addr) (kV doc pm:Value) (an:Option Addr) (cdv ct:Value) (osl:Array (Option Value)),
  fd=PySem.W.fnOf x qual (defArgs st) (defBody st) (defScope st) .none kV doc pm an cdv ct∧K.lookup f=some ⟨oc,od,.func fd,osl⟩∧PySem.W.codeIn K cdv qual=true
 kp:PySem.W.keepIn K (.ref f)=true
section
variable{P:Program}{w:World}{K:PySem.W.Frag}{mg:Str→Option Value}{base:Heap}
theorem Fun.ok{x qual:Str}{st:Stmt}{f:Addr}{fd:FuncData}{N ps:List Str}{k:Nat}{sp:Sp}(F:Fun K x qual st f fd)(S:ar N ps (defScope st))(len:∀ vs H Q E,sp vs H Q E→vs.length=ps.length)
  (hbody:∀ (cdv:Value) (A:Around) (outer:List Env) (s:Shared) (H:Hp) (vs:List V) (Q:VK) (E:XK),Room k (A.deeper (envOfC qual (defScope st) s.heap.objs.size f cdv))→sp vs H Q E→
   ∃ t,PSs (iO iB P w K mg base N qual (defScope st) f cdv A outer s H E).nox (defBody st) t∧t { nx:=fun _ H'=>Q .non H',rt:=Q } (start N vs) H):FnOk P w K mg base iB (k+1) f fd ps sp:=by
 obtain⟨oc,od,kV,doc,pm,an,cdv,ct,osl,rfl,lk,hcd⟩:=F.ex
 refine E9 lk hcd S len fun A outer s H vs Q E hr hsp=>?_
 obtain⟨t,h,q⟩:=hbody cdv A outer s H vs Q E hr hsp
 exact⟨t,h.nox,q⟩
theorem Fun.binds{x qual:Str}{st:Stmt}{f:Addr}{fd:FuncData}{ps:List Str}(F:Fun K x qual st f fd)
  (h:∀ (kV doc pm:Value) (an:Option Addr) (cdv ct:Value) (us:List Value),us.length=ps.length→bindArgs (PySem.W.fnOf x qual (defArgs st) (defBody st) (defScope st) .none kV doc pm an cdv ct) ⟨us,[]⟩=pure (ps.zip us)):Binds K fd ps []:=by
 obtain⟨oc,od,kV,doc,pm,an,cdv,ct,osl,rfl,lk,hcd⟩:=F.ex
 exact .all (h kV doc pm an cdv ct)
theorem cR{x qual:Str}{st:Stmt}{f:Addr}{oc:Value}{od an:Option Addr}{osl:Array (Option Value)}{kV doc pm cdv ct:Value}(l:K.lookup f=some ⟨oc,od,.func (PySem.W.fnOf x qual (defArgs st) (defBody st) (defScope st) .none kV doc pm an cdv ct),osl⟩)
  (c:PySem.W.codeIn K cdv qual=true) (k:PySem.W.keepIn K (.ref f)=true):Fun K x qual st f (PySem.W.fnOf x qual (defArgs st) (defBody st) (defScope st) .none kV doc pm an cdv ct):=⟨⟨oc,od,kV,doc,pm,an,cdv,ct,osl,rfl,l,c⟩,k⟩
end
theorem ER{A:Around}{k:Nat}(hr:Room k A):A.units+1<cLine:=Nat.lt_of_le_of_lt (Nat.add_le_add_left (by decide:1≤64) _) hr.units
section
variable{X:Cx}
theorem pv(i:Nat){x:Str}{pos:Pos}(hN:X.N[i]? = some x:=by rfl)(hv:ao X.env.scope x:=by first | exact vSs (by decide +kernel) | exact Or.inl rfl)(hd:(x == ("__debug__" : Str))=false:=by decide)
  (hcd:(x == ("__classdict__" : Str))=false:=by decide):PE X (.Name x pos) (da i):=BR hN hv hd hcd
end
theorem bG{c A B:Prop}[Decidable c](h1:c→A)(h2:¬ c→B):if c then A else B:=by
 by_cases h:c
 ·rw[if_pos h]
  exact h1 h
 ·rw[if_neg h]
  exact h2 h
def Same(H H':Hp):Prop:=∀ b o,H b=some o→H' b=some o
theorem Same.refl(H:Hp):Same H H:=fun _ _ h=>h
theorem Same.trans{H H1 H2:Hp}(a:Same H H1)(b:Same H1 H2):Same H H2:=fun c o h=>b c o (a c o h)
theorem Same.free{H H':Hp}(e:Same H H'){l:Addr}(h:H' l=Option.none):H l=Option.none:=by
 cases q:H l with
 | none=>rfl
 | some o=>
  rw[e l o q]at h
  cases h
theorem Same.seq{K:PySem.W.Frag}{H H':Hp}{a:Addr}{xs:List V}(e:Same H H')(h:SqL K H a xs):SqL K H' a xs:=by
 rcases h with (h | ⟨o,h⟩) | h
 ·exact .inl (.inl (e _ _ h))
 ·exact .inl (.inr ⟨o,e _ _ h⟩)
 ·exact .inr h
section
variable{κ : Type}[DecidableEq κ]
end
end L2
namespace L2
open PySem PySem.Spec PyProof.Rows
def dZ(cells:List (Str × Addr)):List (Str × NameKind)→List (Str × Addr)→List (Str × Addr)
 | [],acc=>acc
 | (n,k)::r,acc=>dZ cells r (if k == .free then (n,(cells.lookup n).getD 0)::acc else acc)
theorem p9{env:Env}{f:(Str × NameKind)→List (Str × Addr)→Sem (ForInStep (List (Str × Addr)))}
  (hf:∀ n k cs,f (n,k) cs=if (k == NameKind.free)=true then (cellOf env n >>= fun c=>pure (ForInStep.yield ((n,c)::cs))) else pure (ForInStep.yield cs)) :
  ∀ (names:List (Str × NameKind)) (acc:List (Str × Addr)),(∀ x∈names,x.2 = .free→∃ c,env.cells.lookup x.1=some c)→
  forIn names acc f=(pure (dZ env.cells names acc):Sem _)
 | [],acc,_=>rfl
 | (n,k)::r,acc,h=>by
  rw[List.forIn_cons,hf];have ih:=fun acc=>p9 hf r acc fun x hx=>h x (List.mem_cons_of_mem _ hx)
  by_cases hk:(k == NameKind.free)=true
  ·rw[if_pos hk]
   obtain⟨c,hc⟩:=h (n,k) List.mem_cons_self (by simpa using hk)
   have e:cellOf env n=pure c:=by unfold cellOf; rw[hc]
   rw[e,pure_bind,pure_bind];show forIn r ((n,c)::acc) f=_
   rw[ih];show _=pure (dZ env.cells r (if (k == NameKind.free)=true then (n,(env.cells.lookup n).getD 0)::acc else acc))
   rw[if_pos hk,hc]; rfl
  ·rw[if_neg hk,pure_bind]
   show forIn r acc f=_
   rw[ih];show _=pure (dZ env.cells r (if (k == NameKind.free)=true then (n,(env.cells.lookup n).getD 0)::acc else acc))
   rw[if_neg hk]
theorem jj{env:Env}{scope:Scope}(h:∀ x∈scope.names,x.2 = .free→∃ c,env.cells.lookup x.1=some c):closureFor scope env=pure (dZ env.cells scope.names []):=by
 unfold closureFor;show (forIn scope.names ([]:List (Str × Addr)) _ >>= fun cs=>pure cs)=_
 rw[p9 (env:=env) (fun n k cs=>?_) _ _ h]
 ·rfl
 ·rfl
theorem kh{cells:List (Str × Addr)}:∀ {names:List (Str × NameKind)} {acc:List (Str × Addr)} {x:Str} {c:Addr},(∀ y∈names,y.2 = .free→∃ c,cells.lookup y.1=some c)→
  (∀ y c,acc.lookup y=some c→cells.lookup y=some c)→(dZ cells names acc).lookup x=some c→cells.lookup x=some c
 | [],acc,x,c,_,ha,h=>ha x c h
 | (n,k)::r,acc,x,c,hn,ha,h=>by
  refine kh (names:=r) (fun y hy=>hn y (List.mem_cons_of_mem _ hy)) ?_ h
  intro y d hy
  by_cases hk:(k == NameKind.free)=true
  ·rw[if_pos hk]at hy
   obtain⟨e,he⟩:=hn (n,k) List.mem_cons_self (by simpa using hk)
   have he':cells.lookup n=some e:=he
   rw[List.lookup_cons]at hy
   by_cases hyn:(y == n)=true
   ·rw[hyn]at hy
    have hy':(cells.lookup n).getD 0=d:=Option.some.inj hy
    rw[he']at hy'
    have e1:y=n:=by simpa using hyn
    rw[e1,he',← hy']; rfl
   ·have hf:(y == n)=false:=by simpa using hyn
    rw[hf]at hy
    exact ha y d hy
  ·rw[if_neg hk]at hy
   exact ha y d hy
theorem la{cells:List (Str × Addr)}:∀ {names:List (Str × NameKind)} {acc:List (Str × Addr)} {x:Str},(∃ c,acc.lookup x=some c)→∃ c,(dZ cells names acc).lookup x=some c
 | [],_,_,h=>h
 | (n,k)::r,acc,x,h=>by
  refine la (names:=r) ?_
  by_cases hk:(k == NameKind.free)=true
  ·rw[if_pos hk,List.lookup_cons]
   cases hx:(x == n) with
   | true=>exact⟨_,rfl⟩
   | false=>exact h
  ·rw[if_neg hk]; exact h
theorem ji{cells:List (Str × Addr)}:∀ {names:List (Str × NameKind)} {acc:List (Str × Addr)} {x:Str},(x,NameKind.free)∈names→∃ c,(dZ cells names acc).lookup x=some c
 | (n,k)::r,acc,x,h=>by
  rcases List.mem_cons.mp h with e | h
  ·have e1:x=n:=congrArg (·.1) e
   have e2:NameKind.free=k:=congrArg (·.2) e
   subst e1 e2;refine la (names:=r) ?_
   rw[if_pos (by rfl),List.lookup_cons]
   rw[beq_self_eq_true];exact⟨_,rfl⟩
  ·exact ji (names:=r) h
theorem eK{env:Env}:∀ {names:List (Str × NameKind)} {x:Str} {k:NameKind},(∀ y∈names,y.2 ≠ .cell)→
  (names.map fun (n,k)=>if (k == NameKind.free&&env.scope.kind == .function&&env.kindOf n == some .cell) then (n,NameKind.cell) else (n,k)).lookup x=some k→(k = .cell∨k = .free)→(x,NameKind.free)∈names
 | [],_,_,_,h,_=>by simp at h
 | (n,k0)::r,x,k,hc,h,hk=>by
  have ih:=@eK env r x k (fun y hy=>hc y (List.mem_cons_of_mem _ hy))
  rw[List.map_cons]at h
  by_cases hf:(k0 == NameKind.free&&env.scope.kind == .function&&env.kindOf n == some .cell)=true
  ·have hk0:k0 = .free:=by
    have:(k0 == NameKind.free)=true:=by
     rw[Bool.and_eq_true,Bool.and_eq_true]at hf; exact hf.1.1
    simpa using this
   dsimp only at h
   rw[if_pos hf,List.lookup_cons]at h
   cases hx:(x == n) with
   | true=>
    have:x=n:=by simpa using hx
    rw[this,hk0]; exact List.mem_cons_self
   | false=>rw[hx]at h; exact List.mem_cons_of_mem _ (ih h hk)
  ·dsimp only at h
   rw[if_neg hf,List.lookup_cons]at h
   cases hx:(x == n) with
   | true=>
    rw[hx]at h
    have e:k0=k:=Option.some.inj h
    have:x=n:=by simpa using hx
    rcases hk with z | z
    ·exact absurd (e.trans z) (hc (n,k0) List.mem_cons_self)
    ·rw[this,e,z]; exact List.mem_cons_self
   | false=>rw[hx]at h; exact List.mem_cons_of_mem _ (ih h hk)
def ce(X:Cx)(N0 T:List Str)(scope:Scope)(C:Addr)(fp:List Addr)(s:Shared)(H:Hp):Cx:=
 { X with N:=N0++T,s₀:=s,H₀:=H,env:=compEnvC scope (dZ X.env.cells scope.names []) C X.env,outer:=X.stack,stack:=X.stack,ex:=fp,fn:=fun _=>false,pn:=[],xe:=fun _ _=>False }
structure ia (X:Cx) (N0 T:List Str) (scope:Scope):Prop where
 kind:scope.kind = .function
 nocell:∀ y∈scope.names,y.2 ≠ .cell
 names:∀ y∈scope.names,y.2 = .local→scope.names.lookup y.1=some .local
 free:∀ y∈scope.names,y.2 = .free→X.env.kindOf y.1=some .cell∨X.env.kindOf y.1=some .free
 apart:∀ y∈scope.names,y.2 = .local→y.1∉N0
 len0:N0.length=X.N.length
 same:∀ (i:Nat) (x:Str) (k:NameKind),N0[i]? = some x→(x,k)∈scope.names→X.N[i]? = some x
theorem jn{prog:Program}{w:World}{A:Around}{R:Result→Shared→Prop}{s:Shared}{elt target iter:Expr}{ifs:List Expr}{scope:Scope}{pos:Pos}{it acc:Value}{env:Env}(I:Nat→Shared→Prop)
  (turn:∀ n s,I n s→wpAny (model prog w) A (pyNext it) (fun r s₁=>match r with
   | none=>R (.ok .next) s₁
   | some v=>wpAny (model prog w) A (letOwnedTupleGo target it v) (fun _ s₀=>wpAny (model prog w) A (assign target env v) (fun _ s₂=>
     wpAny (model prog w) A (forIn ifs true fun c r=>if r=true then do let ok ← isTrue c env (eval c env); pure (ForInStep.yield ok) else pure (ForInStep.yield r)) (fun ok s₃=>
      if ok=true then wpAny (model prog w) A (eval elt env) (fun x s₄=>
       wpAny (model prog w) A (call (.builtin "list.append") [acc,x]) (fun _ s₅=>∃ m,m<n∧I m s₅) (fun _ _=>False) s₄) (fun _ _=>False) s₃
      else ∃ m,m<n∧I m s₃) (fun _ _=>False) s₂) (fun _ _=>False) s₀) (fun _ _=>False) s₁) (fun _ _=>False) s)
  (n:Nat) (h:I n s) :
  codeAny (model prog w) A (.compLoop (.ListComp elt [⟨target,iter,ifs,0⟩] scope pos) 0 it acc env) R s:=by
 refine codeAny_loop rfl I (fun n s hI=>?_) n h
 show wpAny _ A ((compTurn (.ListComp elt [⟨target,iter,ifs,0⟩] scope pos) 0 it acc env).onRaise (fun x=>do noteFrame x env; theTreesLotGoes x)) _ _ s
 refine wpAny_noted ?_
 rw[compTurn_list];refine wpAny_bind (wpAny_standAt (wpAny_bind (wpAny_mono (turn n s hI) (fun r s₁ h₁=>?_) fun _ _ h'=>h'.elim)))
 cases r with
 | none=>exact wpAny_pure h₁
 | some v=>
  refine wpAny_bind (wpAny_mono h₁ (fun _ s₀ h₀=>?_) fun _ _ h'=>h'.elim)
  refine wpAny_bind (wpAny_mono h₀ (fun _ s₂ h₂=>wpAny_bind (wpAny_mono h₂ (fun ok s₃ h₃=>?_) fun _ _ h'=>h'.elim)) fun _ _ h'=>h'.elim)
  cases ok with
  | false=>exact wpAny_pure ⟨rfl,h₃⟩
  | true=>
   exact wpAny_bind (wpAny_bind (wpAny_mono h₃ (fun x s₄ h₄=>wpAny_bind (wpAny_mono h₄ (fun _ s₅ h₅=>wpAny_pure (wpAny_pure ⟨rfl,h₅⟩)) fun _ _ h'=>h'.elim)) fun _ _ h'=>h'.elim))
def PIfs(X:Cx)(ifs:List Expr)(tc:TT):Prop:=
 ∀ (pins:List (Addr × Obj)) (s:Shared) (σ : St) (H:Hp) (Q:Bool→Hp→Prop),Inv X pins σ H s→tc σ H Q→
  wpAny (model X.prog X.w) X.A (forIn ifs true fun c r=>if r=true then do let ok ← isTrue c X.env (eval c X.env); pure (ForInStep.yield ok) else pure (ForInStep.yield r)) (TP X pins σ Q) X.xe s
def iX:TT:=fun _ H Q=>Q true H
theorem em{X:Cx}:PIfs X [] iX:=fun _ _ _ H _ I h=>wpAny_tests_nil ⟨H,I,h⟩
theorem xQ{X:Cx}{c:Expr}{tc:TT}(hc:PT X c tc):PIfs X [c] tc:=fun pins s σ H Q I h=>wpAny_tests_one (hc pins s σ H Q I h)
def rb(g:TG)(n:Nat):Prop:=∀ x σ H Q,g x σ H Q→g x σ H fun σ' H'=>Q σ' H'∧σ'.length=σ.length∧∀ k,k<n→σ'[k]? = σ[k]?
def ue(g:gU)(n:Nat):Prop:=∀ x σ H Q,g x σ H Q→g x σ H fun σ' H'=>Q σ' H'∧σ'.length=σ.length∧∀ k,k<n→σ'[k]? = σ[k]?
theorem dh{i n:Nat}(h:n≤i):rb (e8 i) n:=fun x σ H Q q=>⟨q,by simp,fun k hk=>by rw[List.getElem?_set_ne (by omega)]⟩
theorem p_{n:Nat}:ue oE n:=fun x σ H Q q=>⟨q.1,q.2,rfl,fun _ _=>rfl⟩
def rV(g:TG):Prop:=∀ x σ H Q Q',(∀ σ' H',Q σ' H'→Q' σ' H')→g x σ H Q→g x σ H Q'
def lm(g:gU):Prop:=∀ x σ H Q Q',(∀ σ' H',Q σ' H'→Q' σ' H')→g x σ H Q→g x σ H Q'
theorem gJ{i:Nat}:rV (e8 i):=fun x σ H Q Q' h q=>h _ _ q
theorem kc:lm oE:=fun x σ H Q Q' h q=>⟨q.1,h _ _ q.2⟩
theorem oX{t:TG}{u:gU}(h1:rV t)(h2:lm u):lm (jZ t u):=fun x σ H Q Q' h ⟨v,r,e,q⟩=>⟨v,r,e,h1 _ _ _ _ _ (fun σ' H' z=>h2 _ _ _ _ _ h z) q⟩
theorem ie{t:TG}{u:gU}{n:Nat}(h1:rb t n)(m1:rV t)(h2:ue u n)(m2:lm u):ue (jZ t u) n:=fun x σ H Q ⟨v,r,e,q⟩=>by
 refine⟨v,r,e,?_⟩
 refine m1 _ _ _ _ _ (fun σ' H' z=>?_) (h1 _ _ _ _ q)
 obtain⟨z,l1,k1⟩:=z
 exact m2 _ _ _ _ _ (fun σ2 H2 y=>⟨y.1,y.2.1.trans l1,fun k hk=>(y.2.2 k hk).trans (k1 k hk)⟩) (h2 _ _ _ _ z)
theorem rm{K:PySem.W.Frag}{m n:Nat}{t:gU}(h:ue t n):rb (pV K m t) n:=fun x σ H Q ⟨a,xs,e,q,l,z⟩=>⟨a,xs,e,q,l,h _ _ _ _ z⟩
def gg(J:It)(g:TG)(tc:TT)(te:TE)(nT:Nat)(σ : St)(D:Addr)(Q:VK)(H:Hp):Prop:=
 ∃ W:Nat→Nat→List V→Hp→Prop,(∃ m,W 0 m [] H)∧∀ i m ys H2,W i m ys H2→
  (J.stop i H2∧Q (.ref D) H2)∨(J.go i H2∧∀ x H',J.yld i H2 x H'→g x (σ++List.replicate nT none) H' fun σ2 H3=>tc σ2 H3 fun b H4=>
   if b=true then te σ2 H4 fun y H5=>H5 D=some (.lst ys)∧ys.length<sizeLine∧∃ m',m'<m∧W (i+1) m' (ys++[y]) (upd H5 D (.lst (ys++[y]))) else ∃ m',m'<m∧W (i+1) m' ys H4)
def lR(wi:TI)(g:TG)(tc:TT)(te:TE)(nT:Nat):TE:=fun σ H Q=>wi σ H fun J H1=>∀ D,H1 D=none→gg J g tc te nT σ D Q (upd H1 D (.lst []))
theorem HOk.sameBut{P:Program}{w:World}{H:Hp}{h h':Heap}{C:Addr}(x:HOk P w H h)(hs:Heap.SameBut C h h')(hC:H C=none):HOk P w H h':=fun a o e=>
 (x a o e).stay (fun b u hb q=>(hs.2 b (by
  rintro rfl
  rcases hb with z | z
  ·rw[z]at hC; rw[hC]at e; cases e
  ·rw[hC]at z; cases z)).trans q) (fun _ q=>q) fun _ _ q=>q
section
variable{X:Cx}{N0 T:List Str}{scope:Scope}{tg elt iter:Expr}{ifs:List Expr}{pos:Pos}{wi:TI}{g:TG}{tc:TT}{te:TE}
theorem nj{pins:List (Addr × Obj)}{σ : St}{H:Hp}{s:Shared}{E:Value→Shared→Prop}{it:Addr}{fp:List Addr}{tn:Nat→Heap→Prop}{J:It}{Q:VK}{RR:Value→Addr→Result→Shared→Prop}
  (S:ia X N0 T scope) (hc:X.calm=true)
  (hg:∀ C fp s H,PG (ce X N0 T scope C fp s H) tg g) (hfr:rb g X.N.length) (hi:∀ C fp s H,PIfs (ce X N0 T scope C fp s H) ifs tc) (he:∀ C fp s H,PE (ce X N0 T scope C fp s H) elt te)
  (I:Inv X pins σ H s) (Tn:jB X.prog X.w X.K tg J fp it tn) (st:tn 0 s.heap) (hf:∀ b∈fp,gZ X pins H b)
  (h:∀ D,H D=none→gg J g tc te T.length σ D Q (upd H D (.lst [])))
  (hRR:∀ D C s' H' m,s'.heap.Ns C m→H' C=none→C≠X.env.locals→(∀ x c,X.env.cells.lookup x=some c→c≠C)→(∀ p∈X.pn++pins,p.1≠C)→X.s₀.heap.objs.size≤C→Inv X pins σ H' s'→
   (∀ h',Heap.SameBut C s'.heap h'→Inv X pins σ H' { s' with heap:=h' })→Q (.ref D) H'→RR (.ref D) C (.ok .next) s') :
  wpAny (model X.prog X.w) X.A (newList []) (fun acc s₃=>wpAny (model X.prog X.w) X.A (newFunctionEnv scope X.env.globals (dZ X.env.cells scope.names []) [] X.env.qual none .none (some X.env)) (fun cenv s₄=>
   codeAny (model X.prog X.w) X.A (.compStart (.ListComp elt [⟨tg,iter,ifs,0⟩] scope pos) 0 (.ref it) acc { cenv with scope:=relabel scope X.env }) (RR acc cenv.locals) s₄) E s₃) E s:=by
 refine wpAny_newObj_type (wpAny_newFunctionEnv S.nocell (by intro y hy; simp at hy) (fun h₁ hns₁ hsb₁=>?_) S.kind)
 dsimp only at hns₁ hsb₁ ⊢
 generalize hH2:s.heap.push { cls:=.type "list", dict:=none,data:=.seq ([]:List Value).toArray }=P2 at hns₁ hsb₁ ⊢;have hC:P2.objs.size=s.heap.objs.size+1:=by rw[← hH2,Heap.size_push]
 -- the new list D, the block's names C
 obtain⟨D,hD⟩ : ∃ D:Nat,D=s.heap.objs.size:=⟨_,rfl⟩
 obtain⟨C,hCC⟩ : ∃ C:Nat,C=P2.objs.size:=⟨_,rfl⟩
 rw[← hCC]at hns₁ hsb₁ hC ⊢
 rw[← hD]at hC ⊢
 have hDC:D≠C:=by omega
 have hDlt:D<C:=by omega
 have neD:∀ b o,s.heap.get? b=some o→b≠D:=fun b o e=>hD ▸ Nat.ne_of_lt (Heap.lt_size e)
 have neC:∀ b o,s.heap.get? b=some o→b≠C:=fun b o e=>Nat.ne_of_lt (Nat.lt_trans (hD ▸ Heap.lt_size e) hDlt)
 have old:∀ b o,s.heap.get? b=some o→h₁.get? b=some o:=fun b o e=>hsb₁.extBut b o (neC b o e) (Heap.get?_push_of_some _ (hH2 ▸ Heap.get?_push_of_some _ e))
 have hHD:H D=none:=I.hok.fresh (by omega)
 have hHC:H C=none:=I.hok.fresh (by omega)
 have dat:h₁.get? D=some { cls:=.type "list", data:=.seq ([]:List Value).toArray 0 }:=by
  refine hsb₁.extBut _ _ hDC (Heap.get?_push_of_some _ ?_)
  rw[← hH2,hD];exact Heap.get?_push_size _ rfl
 -- the block's context stands
 have hcl:∀ x c,(dZ X.env.cells scope.names []).lookup x=some c→X.env.cells.lookup x=some c:=fun x c e=>
  kh (fun y hy hk=>I.ok.has y.1 (S.free y hy hk)) (fun y c z=>by simp at z) e
 have okC:(ce X N0 T scope C fp s H).Ok:=by
  refine⟨I.ok.mod,?_,I.ok.glob,I.ok.blt,?_,fun x y c e1 e2=>I.ok.inj x y c (hcl x c e1) (hcl y c e2),fun x hx=>?_,fun x c z _=>(by cases z),I.ok.hd,I.ok.frames,.inl rfl,fun b hb=>⟨?_,fun x c e=>(hf b hb).2.2.2.2.1 x c (hcl x c e)⟩,
   I.bs,?_,fun b o e hb=>?_,fun b hb z=>?_,I.stack,I.stkFree⟩
  ·show (relabel scope X.env).kind = .function
   exact S.kind
  ·show s.heap.objs.size≤C
   omega
  ·have hx':(relabel scope X.env).names.lookup x=some .cell∨(relabel scope X.env).names.lookup x=some .free:=hx
   have m:(x,NameKind.free)∈scope.names:=by
    rcases hx' with z | z
    ·exact eK S.nocell z (.inl rfl)
    ·exact eK S.nocell z (.inr rfl)
   exact ji m
  ·show b≠C
   obtain⟨o,e,_⟩:=Tn.obj 0 _ st b hb
   exact neC b o e
  ·exact Nat.le_trans I.ok.bsz I.sz
  ·obtain⟨_,_,_,z,_⟩:=hf b hb
   rcases z with z | z
   ·exact I.ok.noex b o e z
   ·exact absurd (Nat.lt_of_lt_of_le (Nat.lt_of_lt_of_le (Heap.lt_size e) I.ok.bsz) z) (Nat.lt_irrefl _)
  ·obtain⟨_,z1,z2,_⟩:=hf b hb
   rcases List.mem_cons.mp (I.stkSub b z) with q | q
   ·exact z1 q
   ·exact z2 q
 have I1:Inv (ce X N0 T scope C fp s H) [] (σ++List.replicate T.length none) (upd H D (.lst [])) { s with heap:=h₁,toks:=s.toks+([]:List (Str × Value)).length }:=by
  refine⟨okC,rfl,I.bare,Un.laid (h:=s.heap) old (by omega) hHD,⟨_,hns₁,fun i x v e1 e2 e3=>?_⟩,fun x c e=>?_,?_,fun x c e=>?_,fun p hp=>(by simp[ce]at hp),I.hok.laid old (by omega) ?_,?_⟩
  ·have e1':(N0++T)[i]? = some x:=e1
   have hl:=I.len;have hl0:=S.len0
   have hi:i<σ.length:=by
    rcases Nat.lt_or_ge i σ.length with z | z
    ·exact z
    ·rw[List.getElem?_append_right z]at e2
     rw[List.getElem?_replicate]at e2
     split at e2 <;> cases e2
   rw[List.getElem?_append_left hi]at e2
   rw[List.getElem?_append_left (by omega)]at e1'
   have hxN:x∈N0:=List.mem_of_getElem? e1'
   have e3':(relabel scope X.env).names.lookup x=some .local∨(relabel scope X.env).names.lookup x=some .cell∨(relabel scope X.env).names.lookup x=some .free:=e3
   have fr:(relabel scope X.env).names.lookup x=some .cell∨(relabel scope X.env).names.lookup x=some .free:=by
    rcases e3' with z | z | z
    ·exfalso
     -- a local of the block is no tracked name
     have key:∀ (names:List (Str × NameKind)),(names.map fun (n,k)=>if (k == NameKind.free&&X.env.scope.kind == .function&&X.env.kindOf n == some .cell) then (n,NameKind.cell) else (n,k)).lookup x=some .local→(x,NameKind.local)∈names:=by
      intro names
      induction names with
      | nil=>intro z; simp at z
      | cons y r ih=>
       obtain⟨n,k⟩:=y
       intro z
       rw[List.map_cons]at z
       dsimp only at z
       by_cases hfk:(k == NameKind.free&&X.env.scope.kind == .function&&X.env.kindOf n == some .cell)=true
       ·rw[if_pos hfk,List.lookup_cons]at z
        cases hx:(x == n) with
        | true=>rw[hx]at z; cases z
        | false=>rw[hx]at z; exact List.mem_cons_of_mem _ (ih z)
       ·rw[if_neg hfk,List.lookup_cons]at z
        cases hx:(x == n) with
        | true=>
         rw[hx]at z
         have ek:k = .local:=Option.some.inj z
         have en:x=n:=by simpa using hx
         rw[ek,en]; exact List.mem_cons_self
        | false=>rw[hx]at z; exact List.mem_cons_of_mem _ (ih z)
     exact S.apart (x,.local) (key _ z) rfl hxN
    ·exact .inl z
    ·exact .inr z
   have m:(x,NameKind.free)∈scope.names:=by
    rcases fr with z | z
    ·exact eK S.nocell z (.inl rfl)
    ·exact eK S.nocell z (.inr rfl)
   have kX:=S.free _ m rfl;obtain⟨mm,hn,hl'⟩:=I.loc
   obtain⟨u,r,lk⟩:=hl' i x v (S.same i x _ e1' m) e2 (.inr kX)
   refine⟨u,r,.inr ⟨fr,?_⟩⟩
   rcases lk with ⟨z,_⟩ | ⟨_,c,ec,cc⟩
   ·rcases kX with q | q
    ·rw[q]at z; cases z
    ·rw[q]at z; cases z
   ·obtain⟨c',ec'⟩:=ji (cells:=X.env.cells) (acc:=[]) m
    have:=hcl x c' ec'
    rw[ec]at this; cases this
    exact⟨c,ec',cc.keeps old⟩
  ·obtain⟨v,z⟩:=I.cell x c (hcl x c e)
   exact⟨v,z.keeps old⟩
  ·show upd H D (.lst []) C=none
   rw[am (Ne.symm hDC)]; exact hHC
  ·have q:=I.freeC x c (hcl x c e)
   obtain⟨v,o,z,_⟩:=I.cell x c (hcl x c e)
   rw[am (neD c o z)]; exact q
  ·exact⟨Nat.zero_le _,[],0,.nil,dat⟩
  ·show (σ++List.replicate T.length none).length=(N0++T).length
   rw[List.length_append,List.length_append,List.length_replicate,I.len,S.len0]
 have st1:tn 0 h₁:=Tn.keep _ _ _ st fun b _ o e=>old b o e
 have fp1:∀ {H':Hp},(∀ b∈fp,H' b=none)→∀ b∈fp,gZ (ce X N0 T scope C fp s H) [] H' b:=fun hn b hb=>
  ⟨hn b hb,(okC.exf b hb).1,okC.exfs b hb,.inl hb,(okC.exf b hb).2,fun p hp=>(by simp[ce]at hp)⟩
 have fp0:∀ b∈fp,upd H D (.lst []) b=none:=fun b hb=>by
  obtain⟨o,e,_⟩:=Tn.obj 0 _ st b hb
  rw[am (neD b o e)]; exact(hf b hb).1
 obtain⟨W,⟨m0,w0⟩,turn⟩:=h D hHD
 have loop:∀ s₃ : Shared,s₃={ s with heap:=h₁,toks:=s.toks+([]:List (Str × Value)).length }→
   codeAny (model X.prog X.w) X.A (.compLoop (.ListComp elt [⟨tg,iter,ifs,0⟩] scope pos) 0 (.ref it) (.ref D) (compEnvC scope (dZ X.env.cells scope.names []) C X.env)) (RR (.ref D) C) s₃:=by
  rintro s₃ rfl
  refine jn (fun n s'=>∃ i H' ys,Inv (ce X N0 T scope C fp s H) [] (σ++List.replicate T.length none) H' s'∧tn i s'.heap∧(∀ b∈fp,H' b=none)∧W i n ys H') ?_ m0 ⟨0,_,[],I1,st1,fp0,w0⟩
  rintro n s3 ⟨i,H3,ys,I3,st3,fr3,w3⟩
  rcases turn i n ys H3 w3 with ⟨stop,qn⟩ | ⟨go,step⟩
  ·refine bj (Tn.done (ce X N0 T scope C fp s H) rfl rfl rfl hc i [] s3 _ H3 (fun _ _=>False) I3 (fp1 fr3) st3 stop) fun r s4 ⟨hr,I4⟩=>?_
   subst hr;obtain⟨m,hm,_⟩:=I4.loc
   have hch:∀ b∈fp,(b∈X.ex∨X.s₀.heap.objs.size≤b)∧b≠X.env.locals∧(∀ x c,X.env.cells.lookup x=some c→c≠b)∧∀ p∈X.pn++pins,p.1≠b:=fun b hb=>
    ⟨(hf b hb).2.2.2.1,(hf b hb).2.1,(hf b hb).2.2.2.2.1,(hf b hb).2.2.2.2.2⟩
   have u4:Un (jl X.stack) fp H H3 s.heap s4.heap:=I4.base
   refine hRR D C s4 H3 m hm I4.free (Ne.symm (Nat.ne_of_lt (Nat.lt_trans (hD ▸ I.lt) hDlt))) (fun x c e=>?_) (fun p hp=>?_) (Nat.le_trans (hD ▸ I.sz) (Nat.le_of_lt hDlt)) (I.call' (ch:=fp) I4.os u4 I4.hok I4.bare hch) (fun h' hs'=>?_) qn
   ·obtain⟨v,o,q,_⟩:=I.cell x c e
    exact neC c o q
   ·exact neC _ _ (I.pin p hp).1
   ·refine I.call' (ch:=fp) (s':={ s4 with heap:=h' }) I4.os ⟨fun b o q n' hb hx=>(hs'.2 b (neC b o q)).trans (u4.keep b o q n' hb hx),fun b o q n' hb hx=>?_,u4.free,fun b o q hx=>?_,u4.tups,u4.frzs,u4.tbls⟩ (I4.hok.sameBut hs' I4.free) I4.bare hch
    ·obtain⟨sl,e⟩:=u4.slot b o q n' hb hx
     exact⟨sl,(hs'.2 b (neC b o q)).trans e⟩
    ·obtain⟨o',e⟩:=u4.there b o q hx
     exact⟨o',(hs'.2 b (neC b o q)).trans e⟩
  ·refine bj (Tn.item (ce X N0 T scope C fp s H) rfl rfl rfl hc i [] s3 _ H3 (fun _ _=>False) I3 (fp1 fr3) st3 go) fun r s4 ⟨u,hr,h4⟩=>?_
   subst hr;refine bj h4 fun _ s5 ⟨x,H5,I5,r5,y5,st5,fr5⟩=>?_
   have I5':=I5.pinned (fp1 fr5) (Tn.obj _ _ st5);refine bj (hg C fp s H _ s5 _ H5 x u _ I5' r5 (hfr _ _ _ _ (step x H5 y5))) fun _ s6 ⟨σ6,H6,I6,q6,l6,k6⟩=>?_
   have back:∀ {H7:Hp} {s7:Shared},Inv (ce X N0 T scope C fp s H) ([]++jT fp s5.heap) σ6 H7 s7→(∀ {m':Nat} {zs:List V},m'<n→W (i+1) m' zs H7→∃ m,m<n∧∃ i H' ys,Inv (ce X N0 T scope C fp s H) [] (σ++List.replicate T.length none) H' s7∧tn i s7.heap∧(∀ b∈fp,H' b=none)∧W i m ys H'):=fun {H7 s7} I7 {m' zs} hm w7=>by
    refine⟨m',hm,i+1,H7,zs,I7.unpinned.weak (by rw[l6]) (fun j v e=>?_),Tn.keep _ _ _ st5 fun b hb o e=>(I7.pin (b,o) (List.mem_append_right _ (List.mem_append_right _ (gG hb e)))).1,fun b hb=>?_,w7⟩
    ·have hj:j<σ.length:=by
      rcases Nat.lt_or_ge j σ.length with z | z
      ·exact z
      ·rw[List.getElem?_append_right z,List.getElem?_replicate]at e
       split at e <;> cases e
     rw[k6 j (by rw[← I.len]; exact hj)]
     exact e
    ·obtain⟨o,e,d⟩:=Tn.obj _ _ st5 b hb
     exact(I7.pin (b,o) (List.mem_append_right _ (List.mem_append_right _ (gG hb e)))).2.1
   refine bj (hi C fp s H _ s6 σ6 H6 _ I6 q6) fun b s7 ⟨H7,I7,q7⟩=>?_
   cases b with
   | false=>
    obtain⟨m',hm,w7⟩:=(show ∃ m',m'<n∧W (i+1) m' ys H7 from by simpa using q7)
    exact back I7 hm w7
   | true=>
    rw[if_pos rfl]at q7
    refine bj (he C fp s H _ s7 σ6 H7 _ I7 q7) fun v s8 ⟨y,H8,I8,r8,hD8,hz,m',hm,w8⟩=>?_
    refine bj (nv (X:=ce X N0 T scope C fp s H) _ s8 σ6 H8 (.ref D) [y] (.ref D) [v] (fun _ H9=>H9=upd H8 D (.lst (ys++[y]))) I8 rfl (.cons r8 .nil) ⟨D,ys,y,rfl,rfl,hD8,hz,rfl⟩) fun v9 s9 ⟨y9,H9,I9,_,e9⟩=>?_
    subst e9;exact back I9 hm w8
 exact codeAny_compStart_list (loop _ rfl) (Tn.self X.A 0 _ _ _ st1 (loop _ rfl))
theorem fH(S:ia X N0 T scope)(hc:X.calm=true)(hI:PI X tg iter wi)
  (hg:∀ C fp s H,PG (ce X N0 T scope C fp s H) tg g) (hfr:rb g X.N.length) (hi:∀ C fp s H,PIfs (ce X N0 T scope C fp s H) ifs tc) (he:∀ C fp s H,PE (ce X N0 T scope C fp s H) elt te)
  (hs:∀ x,foldedSetIterable iter X.env x=pure x:=by intro _; rfl):PE X (.ListComp elt [⟨tg,iter,ifs,0⟩] scope pos) (lR wi g tc te T.length):=by
 intro pins s σ H Q I h
 rw[eval_ListComp];refine wpAny_comprehension_free (use:=none) rfl hs (jj fun x hx hk=>I.ok.has x.1 (S.free x hx hk)) S.kind S.names (bj (hI pins s σ H _ I h) fun v s1 h1=>bj h1 fun itv s2 h2=>?_)
 obtain⟨it,fp,tn,J,H2,e,I2,Tn,st2,f2,q2⟩:=h2
 subst e;refine nj (RR:=fun acc C=>compPost (model X.prog X.w) X.A X.xe none (EP X pins σ Q) acc C) S hc hg hfr hi he I2 Tn st2 f2 q2 ?_
 intro D C s' H' m hn hC hL hcells hpins hfresh I' hI' q
 exact⟨m,hn,fun h' hs'=>⟨.ref D,H',hI' h' hs',rfl,q⟩⟩
theorem ur{i:Nat}{x:Str}{pos' spos:Pos}(S:ia X N0 T scope)(hc:X.calm=true)(hN:X.N.Nodup)(hi':X.N[i]? = some x)(hx:X.env.scope.names.lookup x=some .local)(hI:PI X tg iter wi)
  (hg:∀ C fp s H,PG (ce X N0 T scope C fp s H) tg g) (hfr:rb g X.N.length) (hi:∀ C fp s H,PIfs (ce X N0 T scope C fp s H) ifs tc) (he:∀ C fp s H,PE (ce X N0 T scope C fp s H) elt te)
  (hsw:swapsWith (.ListComp elt [⟨tg,iter,ifs,0⟩] scope pos) (some (.Name x pos')) spos.line X.env=pure true:=by rfl)
  (hs:∀ x,foldedSetIterable iter X.env x=pure x:=by intro _; rfl):PS X (.Assign [.Name x pos'] (.ListComp elt [⟨tg,iter,ifs,0⟩] scope pos) spos) (k7 (lR wi g tc te T.length) (e8 i)):=by
 intro pins s σ H D I h
 rw[exec_Assign_Name_used _ _ _ _ hsw];refine wpAny_bind (wpAny_standAt (wpAny_bind ?_))
 show wpAny _ X.A (do let _ ← comprehension (.ListComp elt [⟨tg,iter,ifs,0⟩] scope pos) scope X.env _ (newList []) false (eval iter X.env) (some (assign (.Name x pos') X.env))) _ _ s
 refine wpAny_bind (wpAny_mono (wpAny_comprehension_free (use:=some (assign (.Name x pos') X.env)) (Q:=fun _ s'=>SP X pins D .next s') rfl hs (jj fun x hx hk=>I.ok.has x.1 (S.free x hx hk)) S.kind S.names
  (bj (hI pins s σ H _ I h) fun v s1 h1=>bj h1 fun itv s2 h2=>?_)) (fun _ s' hq=>wpAny_pure (wpAny_pure hq)) fun _ _ e=>e)
 obtain⟨it,fp,tn,J,H2,e,I2,Tn,st2,f2,q2⟩:=h2
 subst e;refine nj (RR:=fun acc C=>compPost (model X.prog X.w) X.A X.xe (some (assign (.Name x pos') X.env)) (fun _ s'=>SP X pins D .next s') acc C) S hc hg hfr hi he I2 Tn st2 f2 q2 ?_
 intro L C s' H' m hn hC hL hcells hpins hfresh I' hI' q
 show wpAny _ X.A (assign (.Name x pos') X.env (.ref L)) _ _ _
 refine wpAny_assign_Name (nJ (v:=.ref L) I' hN hi' (.inl hx) rfl (fun s'' I'' ⟨a,hsa,ha⟩=>?_) (.inr hx))
 have hCa:C≠a:=by
  rintro rfl
  rcases ha with z | z
  ·exact hL z
  ·exact hcells x C z rfl
 refine⟨m,hn.sameBut hsa hCa,fun h' hs'=>?_⟩
 exact⟨σ.set i (some (.ref L)),H',I''.turned (t':=s''.toks) (fun b o hb e=>(hs'.2 b hb).trans e) hC hL (.inr hfresh) hcells hpins,q⟩
end
end L2
namespace L2
open PySem PySem.Spec PyProof.Rows
theorem Vals.of:∀ {xs:List V} {us:List Value} {i:Nat} {u:Value},Vals xs us→us[i]? = some u→∃ x,xs[i]? = some x∧RelV x u
 | _,_,0,u,.cons r _,e=>⟨_,rfl,by simp at e; subst e; exact r⟩
 | _,_,i+1,u,.cons _ rr,e=>by
  obtain⟨x,hx,r⟩:=Vals.of (i:=i) rr (by simpa using e)
  exact⟨x,by simpa using hx,r⟩
theorem nn:∀ {ss:List Str} {us:List Value},Vals (ss.map V.str) us→StrsAre us ss
 | [],_,.nil=>.nil
 | s::ss,_,.cons r rr=>by
  obtain⟨t,rfl⟩:=r
  exact .cons s t (nn rr)
section
variable{X:Cx}
def c7(H:Hp):V→Option String
 | .non=>some "NoneType"
 | .bl _=>some "bool"
 | .int _=>some "int"
 | .str _=>some "str"
 | .ref a=>match H a with
  | some (.lst _)=>some "list"
  | some (.frz _ (.lst _))=>some "list"
  | some (.tup _)=>some "tuple"
  | some (.dK _)=>some "dict"
  | some (.dT _)=>some "dict"
  | _=>none
 | _=>none
theorem wQ{K:PySem.W.Frag}{H:Hp}:∀ {x:V} {T:String},c7 H x=some T→fY K H x (.type T)
 | .non,T,h=>by cases h; exact .non
 | .bl b,T,h=>by cases h; exact .bl b
 | .int i,T,h=>by cases h; exact .int i
 | .str y,T,h=>by cases h; exact .str y
 | .byt _,T,h=>by cases h
 | .flt _,T,h=>by cases h
 | .ty _,T,h=>by cases h
 | .ref a,T,h=>by
  cases e:H a with
  | none=>simp[c7,e]at h
  | some o=>
   cases o with
   | lst xs=>simp[c7,e]at h; subst h; exact .lst e
   | tup xs=>simp[c7,e]at h; subst h; exact .tup e
   | dK xs=>simp[c7,e]at h; subst h; exact .dK e
   | dT xs=>simp[c7,e]at h; subst h; exact .dT e
   | frz ob u=>
    cases u with
    | lst xs=>simp[c7,e]at h; subst h; exact .frz e
    | _=>simp[c7,e]at h
   | _=>simp[c7,e]at h
def Ad(T C:String):Bool:=T == C||(T == "bool" && C == "int")
theorem yb(K:PySem.W.Frag){T C:String}(hT:T∈["NoneType", "bool", "int", "str", "list", "tuple", "dict"]) (hC:C∈["bool", "int", "str", "list", "tuple"]):PySem.W.kitOne K (.type T) (.type C)=some (Ad T C):=by
 simp only[List.mem_cons,List.mem_nil_iff,or_false]at hT hC
 rcases hT with rfl | rfl | rfl | rfl | rfl | rfl | rfl <;> rcases hC with rfl | rfl | rfl | rfl | rfl <;> (with_unfolding_all rfl)
theorem tu{H:Hp}{x:V}{T:String}(h:c7 H x=some T):T∈["NoneType", "bool", "int", "str", "list", "tuple", "dict"]:=by
 cases x with
 | ref a=>
  cases e:H a with
  | none=>simp[c7,e]at h
  | some o=>
   cases o with
   | frz ob u=>cases u <;> simp[c7,e]at h <;> subst h <;> decide
   | _=>simp[c7,e]at h <;> subst h <;> decide
 | _=>first | (cases h; decide) | cases h
def DU:List V→Hp→VK→Prop:=fun xs H Q=>∃ (x:V) (T C:String),xs=[x,.ty C]∧c7 H x=some T∧C∈["bool", "int", "str", "list", "tuple"]∧Q (.bl (Ad T C)) H
theorem Bw{H:Hp}{Q:VK}(x:V)(C:String):DU [x,.ty C] H Q=∃ T,c7 H x=some T∧C∈["bool", "int", "str", "list", "tuple"]∧Q (.bl (Ad T C)) H:=
 propext ⟨fun ⟨_,T,_,e,q⟩=>by cases e; exact⟨T,q⟩,fun ⟨T,q⟩=>⟨x,T,C,rfl,q⟩⟩
theorem pF:CallR X (.builtin "isinstance") DU:=by
 intro pins s σ H xs us Q I r h
 obtain⟨x,T,C,rfl,hT,hC,q⟩:=h
 obtain⟨u,w',rfl,ru,rw'⟩:=j0 r
 cases rw';exact v8 I ru (wQ hT) (yb X.K (tu hT) hC) fun tk=>⟨.bl (Ad T C),H,I.tok tk,rfl,q⟩
def rM(K:PySem.W.Frag):V→List V→Hp→VK→Prop:=fun x vs H Q=>∃ (sep:Str) (p:Addr) (ss:List Str),x = .str sep∧vs=[.ref p]∧SqL K H p (ss.map V.str)∧(ss.map (·.length)).sum+ss.length * sep.length≤16777216∧Q (.str (Txt.join sep ss)) H
theorem AZ:MtR X "str.join" (rM X.K):=by
 intro pins s σ H x xs v us Q I rx r h
 obtain⟨sep,p,ss,rfl,rfl,hq,hz,q⟩:=h
 obtain⟨t,rfl⟩:=rx
 obtain⟨u,rfl,ru⟩:=fB r
 cases ru;obtain⟨its,rv,pl,_⟩:=I.list hq
 exact join_list pl.isList (by simpa using nn rv) hz fun t' k=>⟨.str (Txt.join sep ss),H,I.tok k,⟨t',rfl⟩,q⟩
end
def iL(J:It)(g:TG)(tb:TS)(D:dj)(σ : St)(H:Hp):Prop:=∃ W:Nat→Nat→St→Hp→Prop,(∃ m,W 0 m σ H)∧∀ i m σ H,W i m σ H→
 (J.stop i H∧D.nx σ H)∨(J.go i H∧∃ N:St→Hp→Prop,(∀ σ' H',N σ' H'→∃ m',m'<m∧W (i+1) m' σ' H')∧∀ x H',J.yld i H x H'→g x σ H' fun σ2 H2=>tb { D with nx:=N,ct:=N,bk:=D.nx } σ2 H2)
theorem Ar(wi:TI)(g:TG)(tb:TS)(D:dj)(σ : St)(H:Hp):yF wi g tb D σ H=wi σ H fun J H1=>iL J g tb D σ H1:=rfl
theorem j5{J:It}{g:TG}{tb:TS}{D:dj}{σ : St}{H:Hp}(n:Nat)(Pv:Nat→St→Hp→Prop)(h0:Pv 0 σ H)(hgo:∀ i σ H,i<n→Pv i σ H→J.go i H)(hst:∀ σ H,Pv n σ H→J.stop n H)
  (hs:∀ i σ H x H',i<n→Pv i σ H→J.yld i H x H'→g x σ H' fun σ2 H2=>tb { D with nx:=Pv (i+1),ct:=Pv (i+1),bk:=D.nx } σ2 H2) (hd:∀ σ H,Pv n σ H→D.nx σ H):iL J g tb D σ H:=by
 refine⟨fun i m σ H=>m=n - i∧i≤n∧Pv i σ H,⟨n,by simp,Nat.zero_le _,h0⟩,?_⟩
 rintro i m σ H ⟨rfl,hi,p⟩
 by_cases hlt:i<n
 ·exact .inr ⟨hgo i σ H hlt p,Pv (i+1),fun σ' H' p'=>⟨n - (i+1),by omega,rfl,hlt,p'⟩,fun x H' y=>hs i σ H x H' hlt p y⟩
 ·have e:i=n:=by omega
  subst e;exact .inl ⟨hst σ H p,hd σ H p⟩
theorem c6{K:PySem.W.Frag}{a:Addr}{xs:List V}{g:TG}{tb:TS}{D:dj}{σ : St}{H:Hp}(Pv:Nat→St→Hp→Prop)(h0:Pv 0 σ H)(hl:∀ i σ H,i≤xs.length→Pv i σ H→SqL K H a xs)
  (hs:∀ i x σ H,xs[i]? = some x→Pv i σ H→g x σ H fun σ2 H2=>tb { D with nx:=Pv (i+1),ct:=Pv (i+1),bk:=D.nx } σ2 H2) (hd:∀ σ H,Pv xs.length σ H→D.nx σ H):iL (kE K a) g tb D σ H:=
 xB Pv h0 hl hs hd
theorem iV{lo:Int}{n:Nat}{g:TG}{tb:TS}{D:dj}{σ : St}{H:Hp}(Pv:Nat→St→Hp→Prop)(h0:Pv 0 σ H)
  (hs:∀ i σ H,i<n→Pv i σ H→g (.int (lo+i)) σ H fun σ2 H2=>tb { D with nx:=Pv (i+1),ct:=Pv (i+1),bk:=D.nx } σ2 H2) (hd:∀ σ H,Pv n σ H→D.nx σ H):iL (mY lo n) g tb D σ H:=
 vQ Pv h0 hs hd
def i8(n i:Nat)(Pv:Nat→List V→Hp→Prop)(D:Addr)(ys:List V)(y:V)(H:Hp):Prop:=
 H D=some (.lst ys)∧ys.length<sizeLine∧∃ m',m'<n - i∧(m'=n - (i+1)∧i+1≤n∧Pv (i+1) (ys++[y]) (upd H D (.lst (ys++[y]))))
theorem iM{n i:Nat}{Pv:Nat→List V→Hp→Prop}{D:Addr}{ys:List V}{y:V}{H:Hp}(hi:i<n)(hlen:ys.length=i)(hz:n≤sizeLine)(h1:H D=some (.lst ys))(h2:Pv (i+1) (ys++[y]) (upd H D (.lst (ys++[y])))):i8 n i Pv D ys y H:=
 ⟨h1,by omega,n - (i+1),by omega,rfl,hi,h2⟩
def kf(n i:Nat)(Pv:Nat→List V→Hp→Prop)(D:Addr)(ys:List V)(te:TE)(σ : St)(H:Hp):Prop:=
 if true=true then te σ H (i8 n i Pv D ys) else ∃ m',m'<n - i∧(m'=n - (i+1)∧i+1≤n∧Pv (i+1) ys H)
theorem x5{n i:Nat}{Pv:Nat→List V→Hp→Prop}{D:Addr}{ys:List V}{te:TE}{σ : St}{H:Hp}:kf n i Pv D ys te σ H=te σ H (i8 n i Pv D ys):=by
 unfold kf; rw[if_pos rfl]
theorem kW{J:It}{g:TG}{te:TE}{nT:Nat}{σ : St}{D:Addr}{Q:VK}{H:Hp}(n:Nat)(Pv:Nat→List V→Hp→Prop)(h0:Pv 0 [] H)(hgo:∀ i ys H,i<n→Pv i ys H→J.go i H)(hst:∀ ys H,Pv n ys H→J.stop n H)
  (hs:∀ i ys H x H',i<n→Pv i ys H→J.yld i H x H'→g x (σ++List.replicate nT none) H' (kf n i Pv D ys te))
  (hd:∀ ys H,Pv n ys H→Q (.ref D) H):gg J g iX te nT σ D Q H:=by
 refine⟨fun i m ys H=>m=n - i∧i≤n∧Pv i ys H,⟨n,by simp,Nat.zero_le _,h0⟩,?_⟩
 rintro i m ys H ⟨rfl,hi,p⟩
 by_cases hlt:i<n
 ·exact .inr ⟨hgo i ys H hlt p,fun x H' y=>hs i ys H x H' hlt p y⟩
 ·have e:i=n:=by omega
  subst e;exact .inl ⟨hst ys H p,hd ys H p⟩
theorem gD{K:PySem.W.Frag}{a:Addr}{xs:List V}{g:TG}{te:TE}{nT:Nat}{σ : St}{D:Addr}{Q:VK}{H:Hp}(Pv:Nat→List V→Hp→Prop)(h0:Pv 0 [] H)(hl:∀ i ys H,i≤xs.length→Pv i ys H→SqL K H a xs)
  (hs:∀ i ys H x,xs[i]? = some x→i<xs.length→Pv i ys H→g x (σ++List.replicate nT none) H (kf xs.length i Pv D ys te))
  (hd:∀ ys H,Pv xs.length ys H→Q (.ref D) H):gg (kE K a) g iX te nT σ D Q H:=by
 refine kW xs.length Pv h0 (fun i ys H hi p=>⟨xs,xs[i],hl i ys H (Nat.le_of_lt hi) p,by simp[hi]⟩) (fun ys H p=>⟨xs,hl _ ys H (Nat.le_refl _) p,Nat.le_refl _⟩) (fun i ys H x H' hi p yl=>?_) hd
 obtain⟨rfl,y⟩:=yl
 exact hs i ys _ x (y xs (hl i ys _ (Nat.le_of_lt hi) p)) hi p
end L2
namespace L2
open PySem PySem.Spec PyProof.Rows
def mv(u:TS)(D:dj)(σ : St)(H:Hp):Prop:=u D σ H
section
variable{D:dj}{σ : St}{H:Hp}{Q:VK}{B:Bool→Hp→Prop}{L:List V→Hp→Prop}{R:It→Hp→Prop}{G:St→Hp→Prop}
theorem Am(t u:TS):iQ t u D σ H=t { D with nx:=mv u D } σ H:=rfl
theorem qR(u:TS):mv u D σ H=u D σ H:=rfl
theorem xY:Ac D σ H=D.nx σ H:=rfl
theorem AM(c:TT)(t u:TS):y_ c t u D σ H=c σ H fun b H1=>if b=true then t D σ H1 else u D σ H1:=rfl
theorem Bj(t:TE):C9 t D σ H=t σ H D.rt:=rfl
theorem zw:zI D σ H=D.rt .non H:=rfl
theorem yG(t:TE):sy t D σ H=t σ H fun _ H1=>D.nx σ H1:=rfl
theorem BE(t:TE)(g:TG):k7 t g D σ H=t σ H fun x H1=>g x σ H1 D.nx:=rfl
theorem yf(i:Nat)(v:V):e8 i v σ H G=G (σ.set i (some v)) H:=rfl
theorem BB(vs:List V):oE vs σ H G=(vs=[]∧G σ H):=rfl
theorem xr(t:TG)(u:gU)(vs:List V):jZ t u vs σ H G=∃ v r,vs=v::r∧t v σ H fun σ' H'=>u r σ' H' G:=rfl
theorem As(K:PySem.W.Frag)(n:Nat)(t:gU)(v:V):pV K n t v σ H G=∃ a xs,v = .ref a∧SqT K H a xs∧xs.length=n∧t xs σ H G:=rfl
theorem Aw(to ti:TE)(t:lZ)(v:V):tG to ti t v σ H G=to σ H fun o H1=>ti σ H1 fun i H2=>t o i v H2 fun H3=>G σ H3:=rfl
theorem Ao(i:Nat):da i σ H Q=∃ v,σ[i]? = some (some v)∧Q v H:=rfl
theorem Fi(v:V):tC v σ H Q=Q v H:=rfl
theorem DX(r:R2)(ta tb:TE):jE r ta tb σ H Q=ta σ H fun x H1=>tb σ H1 fun y H2=>r x y H2 Q:=rfl
theorem Dp(r:V→Hp→VK→Prop)(ta:TE):FA r ta σ H Q=ta σ H fun x H1=>r x H1 Q:=rfl
theorem xW(t:TE):zZ t σ H B=t σ H fun x H'=>∃ k,x = .bl k∧B k H':=rfl
theorem Fa(t:TE):tB t σ H B=t σ H fun x H'=>∃ k,x = .bl k∧B k H':=rfl
theorem Bs(t u:TT):CO t u σ H B=t σ H fun c H1=>if c=true then u σ H1 B else B false H1:=rfl
theorem DZ(t u:TT):FB t u σ H B=t σ H fun c H1=>if c=true then B true H1 else u σ H1 B:=rfl
theorem A1(t:TT):Ct t σ H B=t σ H fun c H1=>B (!c) H1:=rfl
theorem y7(ta tb:TE):zH ta tb σ H Q=ta σ H fun x H1=>∃ c,x = .bl c∧if c=true then tb σ H1 Q else Q (.bl false) H1:=rfl
theorem Do(t:TT)(ta tb:TE):FF t ta tb σ H Q=t σ H fun c H1=>if c=true then ta σ H1 Q else tb σ H1 Q:=rfl
theorem EF(r:List V→Hp→VK→Prop)(t:TA):wK r t σ H Q=t σ H fun vs H1=>r vs H1 Q:=rfl
theorem xi(ta:TE)(tr:TA):lS ta tr σ H L=ta σ H fun x H1=>tr σ H1 fun xs H2=>L (x::xs) H2:=rfl
theorem Bo:t_ σ H L=L [] H:=rfl
theorem Bp(t:TA):C_ t σ H Q=t σ H fun xs H1=>xs.length≤sizeLine∧∀ p,H1 p=none→Q (.ref p) (upd H1 p (.tup xs)):=rfl
theorem Bn(t:TA):B8 t σ H Q=t σ H fun xs H1=>xs.length≤sizeLine∧∀ p,H1 p=none→Q (.ref p) (upd H1 p (.lst xs)):=rfl
theorem w5(sp:Sp)(dvs:List V)(E:XK)(t:TA):ui sp dvs E t σ H Q=t σ H fun vs H1=>sp (vs++dvs) H1 Q E:=rfl
theorem EA(K:PySem.W.Frag)(T:String)(r:V→List V→Hp→VK→Prop)(to:TE)(t:TA):zR K T r to t σ H Q=to σ H fun x H1=>ko K T x H1∧t σ H1 fun xs H2=>r x xs H2 Q:=rfl
theorem AV(K:PySem.W.Frag)(T:String)(r:V→List V→Hp→VK→Prop)(to:TE):wZ K T r to σ H Q=to σ H fun x H1=>ko K T x H1∧r x [] H1 Q:=rfl
theorem CM(r:V→Option Int→Option Int→Hp→VK→Prop)(te:TE)(tl th:TO):FC r te tl th σ H Q=te σ H fun x H1=>tl σ H1 fun l H2=>th σ H2 fun u H3=>r x l u H3 Q:=rfl
theorem xH(t:TE)(O:Option Int→Hp→Prop):zG t σ H O=t σ H fun x H1=>∃ i,x = .int i∧O (some i) H1:=rfl
theorem s_(O:Option Int→Hp→Prop):qI σ H O=O none H:=rfl
theorem y6(wi:TI)(g:TG)(tc:TT)(te:TE)(nT:Nat):lR wi g tc te nT σ H Q=wi σ H fun J H1=>∀ D,H1 D=none→gg J g tc te nT σ D Q (upd H1 D (.lst [])):=rfl
theorem AH:iX σ H B=B true H:=rfl
theorem xX(K:PySem.W.Frag)(tl:TE):lQ K tl σ H R=tl σ H fun x H1=>∃ a,x = .ref a∧(∃ xs,SqL K H1 a xs)∧R (kE K a) H1:=rfl
theorem xR(ta:TA):zX ta σ H R=ta σ H fun vs H1=>∃ j:Int,vs=[.int j]∧-(2 ^ 62)≤j∧j<2 ^ 62∧R (mY 0 j.toNat) H1:=rfl
theorem DB(g:Int→Int→V)(i j:Int):oS g (.int i) (.int j) H Q=Q (g i j) H:=propext ⟨fun ⟨_,_,e1,e2,q⟩=>by cases e1; cases e2; exact q,fun q=>⟨i,j,rfl,rfl,q⟩⟩
theorem Fn(C:Int→Int→Prop)(g:Int→Int→V)(i j:Int):rI C g (.int i) (.int j) H Q=(C i j∧Q (g i j) H):=propext ⟨fun ⟨_,_,e1,e2,q⟩=>by cases e1; cases e2; exact q,fun q=>⟨i,j,rfl,rfl,q⟩⟩
end
structure DefAt (K:PySem.W.Frag) (mg:Str→Option Value) (x:Str) (st:Stmt):Prop where
 ex:∃ f fd,Fun K x x st f fd∧mg x=some (.ref f)
structure aR (P:Program) (w:World) (K:PySem.W.Frag) (mg:Str→Option Value) (base:Heap) (k:Nat) (x:Str) (ps:List Str) (sp:Sp):Prop where
 ex:∃ f fd,FnOk P w K mg base iB k f fd ps sp∧Binds K fd ps []∧PySem.W.keepIn K (.ref f)=true∧mg x=some (.ref f)
section
variable{P:Program}{w:World}{K:PySem.W.Frag}{mg:Str→Option Value}{base:Heap}
theorem DefAt.cal{x:Str}{st:Stmt}{N ps:List Str}{k:Nat}{sp:Sp}(D:DefAt K mg x st)(S:ar N ps (defScope st))
  (hb:∀ (kV doc pm:Value) (an:Option Addr) (cdv ct:Value) (us:List Value),us.length=ps.length→bindArgs (PySem.W.fnOf x x (defArgs st) (defBody st) (defScope st) .none kV doc pm an cdv ct) ⟨us,[]⟩=pure (ps.zip us))
  (len:∀ vs H Q E,sp vs H Q E→vs.length=ps.length)
  (hbody:∀ (f:Addr) (cdv:Value) (A:Around) (outer:List Env) (s:Shared) (H:Hp) (vs:List V) (Q:VK) (E:XK),Room k (A.deeper (envOfC x (defScope st) s.heap.objs.size f cdv))→sp vs H Q E→
   ∃ t,PSs (iO iB P w K mg base N x (defScope st) f cdv A outer s H E).nox (defBody st) t∧t { nx:=fun _ H'=>Q .non H',rt:=Q } (start N vs) H):aR P w K mg base (k+1) x ps sp:=by
 obtain⟨f,fd,F,m⟩:=D.ex
 exact⟨f,fd,F.ok S len fun cdv A outer s H vs Q E hr h=>hbody f cdv A outer s H vs Q E hr h,F.binds hb,F.kp,m⟩
end
section
variable{X:Cx}
theorem az{j k:Nat}{x:Str}{ps:List Str}{sp:Sp}{p pos:Pos}{e:Expr}{es:List Expr}{t:TA}(c:aR X.prog X.w X.K X.mg X.base j x ps sp)(hr:Room k X.A)(ha:PA X (e::es) t)(hle:j≤k:=by decide)(hg:Gl X x:=by first | exact vGg (by decide +kernel) | rfl)
  (hdb:(x == ("__debug__" : Str))=false:=by decide) (he:starEach (e::es) X.env=(false,eval e X.env)::starEach es X.env:=by rfl) (hpl:(backTo pos (starEach es X.env)).any (·.1)=false:=by rfl) :
  PE X (.Call (.Name x p) (e::es) [] pos) (ui sp [] E0 t):=by
 obtain⟨f,fd,F,b,kp,m⟩:=c.ex
 exact AD F (hr.mono hle) hg m kp b .nil rX ha hdb he hpl
theorem vh{x:Str}{T:String}{pos:Pos}(hm:X.mg x=none)(hv:bootBuiltins x=some (.type T))(hg:Gl X x:=by first | exact vGg (by decide +kernel) | rfl)(hn:x ≠ "__name__" := by decide) (hd:(x == ("__debug__" : Str))=false:=by decide):PE X (.Name x pos) (tC (.ty T)):=
 BM hg hm hv rfl hn hd
theorem bS{x:Str}{p pos:Pos}{e:Expr}{es:List Expr}{t:TA}{id:String}{r:List V→Hp→VK→Prop}(hc:CallR X (.builtin id) r)(hm:X.mg x=none)(hv:bootBuiltins x=some (.builtin id))(ha:PA X (e::es) t)(hg:Gl X x:=by first | exact vGg (by decide +kernel) | rfl)
  (hn:x ≠ "__name__" := by decide) (hdb:(x == ("__debug__" : Str))=false:=by decide) (he:starEach (e::es) X.env=(false,eval e X.env)::starEach es X.env:=by rfl) (hpl:(backTo pos (starEach es X.env)).any (·.1)=false:=by rfl) :
  PE X (.Call (.Name x p) (e::es) [] pos) (wK r t):=yN hc hg hm hv ha hn hdb he hpl
theorem fz{x:Str}{p pos:Pos}{e:Expr}{es:List Expr}{t:TA}{T:String}{r:List V→Hp→VK→Prop}(hc:CallR X (.type T) r)(hm:X.mg x=none)(hv:bootBuiltins x=some (.type T))(ha:PA X (e::es) t)(hg:Gl X x:=by first | exact vGg (by decide +kernel) | rfl)
  (hn:x ≠ "__name__" := by decide) (hdb:(x == ("__debug__" : Str))=false:=by decide) (he:starEach (e::es) X.env=(false,eval e X.env)::starEach es X.env:=by rfl) (hpl:(backTo pos (starEach es X.env)).any (·.1)=false:=by rfl) :
  PE X (.Call (.Name x p) (e::es) [] pos) (wK r t):=vS hc hg hm hv ha hn hdb he hpl
end
section
variable{X:Cx}
def og:R2:=fun x y H Q=>match x,y with
 | .int i,.int j=>Q (.int (i+j)) H
 | .str a,.str b=>a.length+b.length≤sizeLine∧Q (.str (a++b)) H
 | .ref l,.ref b=>∃ xs zs,H l=some (.lst xs)∧H b=some (.lst zs)∧xs.length+zs.length≤sizeLine∧∀ p,H p=none→Q (.ref p) (upd H p (.lst (xs++zs)))
 | _,_=>False
theorem aD:OpR X (binaryOp .Add) og:=by
 intro pins s σ H x y v u Q I rx ry h
 cases x <;> cases y <;> first
  | exact(show False from h).elim
  | exact CQ pins s σ H _ _ v u Q I rx ry ⟨_,_,rfl,rfl,h⟩
  | exact tY pins s σ H _ _ v u Q I rx ry ⟨_,_,rfl,rfl,h⟩
  | (obtain⟨xs,zs,h1,h2,h3,h4⟩:=h; exact BU pins s σ H _ _ v u Q I rx ry ⟨_,_,xs,zs,rfl,rfl,h1,h2,h3,h4⟩)
def yT:R2:=fun x y H Q=>match x,y with
 | .int i,.int j=>Q (.bl (decide (i<j))) H
 | .str i,.str j=>Q (.bl (decide (i.cps.toList<j.cps.toList))) H
 | _,_=>False
theorem jA:OpR X (compareOp .Lt) yT:=by
 intro pins s σ H x y v u Q I rx ry h
 cases x <;> cases y <;> first
  | exact(show False from h).elim
  | exact EX pins s σ H _ _ v u Q I rx ry ⟨_,_,rfl,rfl,h⟩
  | exact vE pins s σ H _ _ v u Q I rx ry ⟨_,_,rfl,rfl,h⟩
def sr(K:PySem.W.Frag):R2:=fun x y H Q=>match x,y with
 | .str i,.str j=>Q (.bl (!(Builtin.Str.occurrences j i 0 j.length 1).isEmpty)) H
 | x,.ref p=>∃ xs,(SqL K H p xs∨SqT K H p xs)∧cA x=true∧xs.all cA=true∧Q (.bl (jQ x xs)) H
 | _,_=>False
theorem B_:OpR X (compareOp .In) (sr X.K):=by
 intro pins s σ H x y v u Q I rx ry h
 cases y with
 | str j=>
  cases x with
  | str i=>exact wv pins s σ H _ _ v u Q I rx ry ⟨i,j,rfl,rfl,h⟩
  | _=>exact(show False from h).elim
 | ref p=>
  have h':∃ xs,(SqL X.K H p xs∨SqT X.K H p xs)∧cA x=true∧xs.all cA=true∧Q (.bl (jQ x xs)) H:=by cases x <;> exact h
  obtain⟨xs,h1,h2,h3,h4⟩:=h'
  exact uH pins s σ H _ _ v u Q I rx ry ⟨p,xs,rfl,h1,h2,h3,h4⟩
 | _=>cases x <;> exact(show False from h).elim
def oh(K:PySem.W.Frag):List V→Hp→VK→Prop:=fun xs H Q=>match xs with
 | [.str z]=>z.length≤sizeLine∧Q (.int z.length) H
 | [.ref p]=>∃ ys,(SqL K H p ys∨SqT K H p ys)∧Q (.int ys.length) H
 | _=>False
theorem ww:CallR X (.builtin "len") (oh X.K):=by
 intro pins s σ H xs us Q I r h
 match xs,h with
 | [.str z],h=>exact ou pins s σ H _ us Q I r ⟨z,rfl,h⟩
 | [.ref p],h=>obtain⟨ys,h1,h2⟩:=h; exact ph pins s σ H _ us Q I r ⟨p,ys,rfl,h1,h2⟩
def ik(K:PySem.W.Frag):R2:=fun x y H Q=>match x,y with
 | .ref p,.int i=>∃ xs v,(SqL K H p xs∨SqT K H p xs)∧ej xs i=some v∧Q v H
 | .str z,.int i=>∃ c,z.length≤sizeLine∧ej z.cps.toList i=some c∧Q (.str ⟨#[c]⟩) H
 | _,_=>False
theorem JM:IxR X (ik X.K):=by
 intro value slice pins s σ H x y v u Q I rx ry h hs
 refine Dc value slice pins s σ H x y v u Q I rx ry ?_ hs
 match x,y,h with
 | .ref p,.int i,h=>
  obtain⟨xs,v',h1,h2,h3⟩:=h
  rcases h1 with h1 | h1
  ·exact .inl ⟨p,xs,i,v',rfl,rfl,h1,h2,h3⟩
  ·exact .inr (.inl ⟨p,xs,i,v',rfl,rfl,h1,h2,h3⟩)
 | .str z,.int i,h=>
  obtain⟨c,h1,h2,h3⟩:=h
  exact .inr (.inr ⟨z,i,c,rfl,rfl,h1,h2,h3⟩)
end
section
variable{K:PySem.W.Frag}{H:Hp}{Q:VK}
theorem vM(i j:Int):og (.int i) (.int j) H Q=Q (.int (i+j)) H:=rfl
theorem u9(a b:Str):og (.str a) (.str b) H Q=(a.length+b.length≤sizeLine∧Q (.str (a++b)) H):=rfl
theorem m_(l b:Addr):og (.ref l) (.ref b) H Q=∃ xs zs,H l=some (.lst xs)∧H b=some (.lst zs)∧xs.length+zs.length≤sizeLine∧∀ p,H p=none→Q (.ref p) (upd H p (.lst (xs++zs))):=rfl
theorem ze(i j:Int):yT (.int i) (.int j) H Q=Q (.bl (decide (i<j))) H:=rfl
theorem yQ(i j:Str):yT (.str i) (.str j) H Q=Q (.bl (decide (i.cps.toList<j.cps.toList))) H:=rfl
theorem yt(i j:Str):sr K (.str i) (.str j) H Q=Q (.bl (!(Builtin.Str.occurrences j i 0 j.length 1).isEmpty)) H:=rfl
theorem yx(x:V)(p:Addr):sr K x (.ref p) H Q=∃ xs,(SqL K H p xs∨SqT K H p xs)∧cA x=true∧xs.all cA=true∧Q (.bl (jQ x xs)) H:=by cases x <;> rfl
theorem uM(z:Str):oh K [.str z] H Q=(z.length≤sizeLine∧Q (.int z.length) H):=rfl
theorem wC(p:Addr):oh K [.ref p] H Q=∃ ys,(SqL K H p ys∨SqT K H p ys)∧Q (.int ys.length) H:=rfl
theorem x_(p:Addr)(i:Int):ik K (.ref p) (.int i) H Q=∃ xs v,(SqL K H p xs∨SqT K H p xs)∧ej xs i=some v∧Q v H:=rfl
theorem xD(z:Str)(i:Int):ik K (.str z) (.int i) H Q=∃ c,z.length≤sizeLine∧ej z.cps.toList i=some c∧Q (.str ⟨#[c]⟩) H:=rfl
theorem yc(p:Addr)(k:Int)(v:V)(G:Hp→Prop):ux (.ref p) (.int k) v H G=∃ xs j,H p=some (.lst xs)∧jv xs.length k=some j∧G (upd H p (.lst (xs.set j v))):=
 propext ⟨fun ⟨_,xs,_,j,e1,e2,q⟩=>by cases e1; cases e2; exact⟨xs,j,q⟩,fun ⟨xs,j,q⟩=>⟨p,xs,k,j,rfl,rfl,q⟩⟩
theorem iZ(p:Addr)(y:V):fX (.ref p) [y] H Q=∃ xs,H p=some (.lst xs)∧xs.length<sizeLine∧Q .non (upd H p (.lst (xs++[y]))):=
 propext ⟨fun ⟨_,xs,_,e1,e2,q⟩=>by cases e1; cases e2; exact⟨xs,q⟩,fun ⟨xs,q⟩=>⟨p,xs,y,rfl,rfl,q⟩⟩
theorem zd(sep:Str)(p:Addr):rM K (.str sep) [.ref p] H Q=∃ ss,SqL K H p (ss.map V.str)∧(ss.map (·.length)).sum+ss.length * sep.length≤16777216∧Q (.str (Txt.join sep ss)) H:=
 propext ⟨fun ⟨_,_,ss,e1,e2,q⟩=>by cases e1; cases e2; exact⟨ss,q⟩,fun ⟨ss,q⟩=>⟨sep,p,ss,rfl,rfl,q⟩⟩
theorem BJ(y:Str):ko K "str" (.str y) H=True:=eq_true rfl
theorem Bl(p:Addr):(ko K "list" (.ref p) H)=∃ xs,SqL K H p xs:=by
 refine propext ⟨fun h=>?_,fun h=>.inl ⟨rfl,h⟩⟩
 rcases h with ⟨_,h⟩ | ⟨h,_⟩ | ⟨h,_⟩ | ⟨h,_⟩
 ·exact h
 ·exact absurd h (by decide)
 ·exact absurd h (by decide)
 ·exact absurd h (by decide)
end
theorem b6:bootBuiltins "len" = some (.builtin "len"):=by decide +kernel
theorem jk:bootBuiltins "isinstance" = some (.builtin "isinstance"):=by decide +kernel
theorem Dm:bootBuiltins "str" = some (.type "str"):=by decide +kernel
theorem qe:bootBuiltins "int" = some (.type "int"):=by decide +kernel
theorem gH:bootBuiltins "list" = some (.type "list"):=by decide +kernel
theorem pB:bootBuiltins "tuple" = some (.type "tuple"):=by decide +kernel
theorem aA{X:Cx}(i:Nat){x:Str}{e:Expr}{te:TE}{pos pos':Pos}(hN:X.N.Nodup)(he:PE X e te)(hi:X.N[i]? = some x:=by rfl)(hx:aT X.env.scope x:=by first | exact vLl (by decide +kernel) | exact Or.inl rfl)(hs:swapsWith e (some (.Name x pos')) pos.line X.env=pure false:=by rfl)
  (hf:X.fn x=true∨X.env.scope.names.lookup x=some .local:=by first | exact .inl rfl | exact .inr rfl | assumption):PS X (.Assign [.Name x pos'] e pos) (k7 te (e8 i)):=C7 hN hi hx he hs hf
theorem bq{X:Cx}(i:Nat){x:Str}{pos:Pos}(hN:X.N.Nodup)(hi:X.N[i]? = some x:=by rfl)(hx:aT X.env.scope x:=by first | exact vLl (by decide +kernel) | exact Or.inl rfl)
  (hf:X.fn x=true∨X.env.scope.names.lookup x=some .local:=by first | exact .inl rfl | exact .inr rfl | assumption):PG X (.Name x pos) (e8 i):=An hN hi hx hf
structure CompSc (fsc:Scope) (N N0 T:List Str) (scope:Scope):Prop where
 kind:scope.kind = .function
 nocell:∀ y∈scope.names,y.2 ≠ .cell
 names:∀ y∈scope.names,y.2 = .local→scope.names.lookup y.1=some .local
 free:∀ y∈scope.names,y.2 = .free→fsc.names.lookup y.1=some .cell∨fsc.names.lookup y.1=some .free
 apart:∀ y∈scope.names,y.2 = .local→y.1∉N0
 len0:N0.length=N.length
 same:((N0.zip N).all fun p=>p.1 == p.2 || !(scope.names.any fun y=>y.1 == p.1))=true
theorem CompSc.to{X:Cx}{fsc:Scope}{N N0 T:List Str}{scope:Scope}(S:CompSc fsc N N0 T scope)(h1:X.env.scope=fsc)(h2:X.N=N):ia X N0 T scope:=by
 subst h1 h2;refine⟨S.kind,S.nocell,S.names,S.free,S.apart,S.len0,fun i x k e m=>?_⟩
 have hl:=S.len0;have hi:i<N0.length:=(List.getElem?_eq_some_iff.mp e).1
 have hN:X.N[i]? = some X.N[i]:=List.getElem?_eq_getElem (by omega)
 have hz:(x,X.N[i])∈N0.zip X.N:=List.mem_of_getElem? (i:=i) (by rw[List.getElem?_zip_eq_some]; exact⟨e,hN⟩)
 have q:=List.all_eq_true.mp S.same _ hz;simp only[Bool.or_eq_true,beq_iff_eq,Bool.not_eq_true']at q
 rcases q with q | q
 ·rw[hN,← q]
 ·have:(scope.names.any fun y=>y.1 == x)=true:=List.any_eq_true.mpr ⟨_,m,by simp⟩
  rw[this]at q; cases q
def yE:R2:=FE
def xG:R2:=FG
theorem bY{X:Cx}:OpR X (compareOp .Eq) yE:=Fm
theorem lP{X:Cx}:OpR X (compareOp .NotEq) xG:=ET
section
variable{K:PySem.W.Frag}{H:Hp}{Q:VK}
theorem w_(i j:Int):yE (.int i) (.int j) H Q=Q (.bl (decide (i=j))) H:=by
 have e:decide (V.int i=V.int j)=decide (i=j):=by by_cases h:i=j <;> simp[h]
 show (mf (.int i) (.int j)=true∧Q (.bl (decide (V.int i=V.int j))) H)=_
 rw[e]; exact propext ⟨fun h=>h.2,fun h=>⟨rfl,h⟩⟩
theorem yK(i j:Str):yE (.str i) (.str j) H Q=Q (.bl (decide (i=j))) H:=by
 have e:decide (V.str i=V.str j)=decide (i=j):=by by_cases h:i=j <;> simp[h]
 show (mf (.str i) (.str j)=true∧Q (.bl (decide (V.str i=V.str j))) H)=_
 rw[e]; exact propext ⟨fun h=>h.2,fun h=>⟨rfl,h⟩⟩
theorem yD(i j:Int):xG (.int i) (.int j) H Q=Q (.bl (!decide (i=j))) H:=by
 have e:decide (V.int i=V.int j)=decide (i=j):=by by_cases h:i=j <;> simp[h]
 show (mf (.int i) (.int j)=true∧Q (.bl (!decide (V.int i=V.int j))) H)=_
 rw[e]; exact propext ⟨fun h=>h.2,fun h=>⟨rfl,h⟩⟩
theorem yd(i j:Str):xG (.str i) (.str j) H Q=Q (.bl (!decide (i=j))) H:=by
 have e:decide (V.str i=V.str j)=decide (i=j):=by by_cases h:i=j <;> simp[h]
 show (mf (.str i) (.str j)=true∧Q (.bl (!decide (V.str i=V.str j))) H)=_
 rw[e]; exact propext ⟨fun h=>h.2,fun h=>⟨rfl,h⟩⟩
end
theorem EU{X:Cx}:PSet X ux:=y4
section
variable{X:Cx}(K:PySem.W.Frag)
theorem pW(hK:X.K=K:=by rfl):OpR X (compareOp .In) (sr K):=hK ▸ B_
theorem bc(hK:X.K=K:=by rfl):CallR X (.builtin "len") (oh K):=hK ▸ ww
theorem aK(hK:X.K=K:=by rfl):IxR X (ik K):=hK ▸ JM
theorem xx(hK:X.K=K:=by rfl):MtR X "str.join" (rM K):=hK ▸ AZ
theorem i0(hK:X.K=K:=by rfl):SlR X (xL K):=hK ▸ Au
theorem cw{tg l:Expr}{tl:TE}(hl:PE X l tl)(hK:X.K=K:=by rfl):PI X tg l (lQ K tl):=hK ▸ A0 hl
theorem gf{es:List Expr}{k n:Nat}{t:gU}{pos:Pos}(h:PGs X es t)(hn:(assignEach es X.env).length=n:=by rfl)(hst:(assignEach es X.env).findIdx? (·.1)=none:=by rfl)(hK:X.K=K:=by rfl)(hc:X.calm=true:=by rfl):PG X (.Tuple es k pos) (pV K n t):=hK ▸ Eb hc h hn hst
theorem bL{o e:Expr}{es:List Expr}{to:TE}{t:TA}{name:Str}{apos cpos:Pos}{T id:String}{r:V→List V→Hp→VK→Prop}(pa:PlainAttrs T)(slot:Slot T name id)(hty:typeOf (.builtin id)=pure (.type "method_descriptor")) (hm:MtR X id r) (ho:PE X o to) (ha:PA X (e::es) t)
  (hbase:attributeBase o name X.env (eval o X.env)=eval o X.env:=by rfl)
  (hfew:((backTo cpos (starEach (e::es) X.env)).all (fun x=>!x.1)&&(backToKw cpos (keywordEach [] X.env)).all (fun x=>x.1.isSome)&&decide ((e::es).length+([]:List Keyword).length+(if ([]:List Keyword).isEmpty then 0 else 1)<30))=true:=by rfl)
  (hline:(apos.endLine == cpos.line)=true:=by rfl) (hs:starEach (e::es) X.env=(false,eval e X.env)::starEach es X.env:=by rfl) (hplain:(backTo cpos (starEach es X.env)).any (·.1)=false:=by rfl) (hK:X.K=K:=by rfl) :
  PE X (.Call (.Attribute o name apos) (e::es) [] cpos) (zR K T r to t):=hK ▸ EW pa slot hty hm ho ha hbase hfew hline hs hplain
theorem sW(hK:X.K=K:=by rfl):CallR X (.type "list") (fun xs H Q=>∃ p ys,xs=[.ref p]∧(SqL K H p ys∨SqT K H p ys)∧∀ l,H l=none→Q (.ref l) (upd H l (.lst ys))):=hK ▸ oI
theorem qm(hK:X.K=K:=by rfl):CallR X (.type "tuple") (fun xs H Q=>∃ p ys,xs=[.ref p]∧((SqL K H p ys∧∀ l,H l=none→Q (.ref l) (upd H l (.tup ys)))∨(SqT K H p ys∧Q (.ref p) H))):=hK ▸ nY
end
theorem EH(n:Int)(P:Int→Prop):(∃ j,[V.int n]=[V.int j]∧P j)=P n:=propext ⟨fun ⟨_,e,h⟩=>by cases e; exact h,fun h=>⟨n,rfl,h⟩⟩
theorem AW(x:V)(xs:List V)(P:V→List V→Prop):(∃ v r,x::xs=v::r∧P v r)=P x xs:=propext ⟨fun ⟨_,_,e,h⟩=>by cases e; exact h,fun h=>⟨x,xs,rfl,h⟩⟩
def dB(scope fsc:Scope):Scope:={ scope with names:=scope.names.map fun (n,k)=>if (k == .free&&fsc.kind == .function&&fsc.names.lookup n == some .cell) then (n,.cell) else (n,k) }
section
variable{X:Cx}{N0 T:List Str}{scope:Scope}{C:Addr}{fp:List Addr}{s:Shared}{H:Hp}{x:Str}
theorem CC(fsc:Scope)(h:(dB scope fsc).names.lookup x=some .globalImplicit)(e:X.env.scope=fsc:=by rfl):Gl (ce X N0 T scope C fp s H) x:=by subst e; exact h
theorem fD(fsc:Scope)(h:((dB scope fsc).names.lookup x=some .local||(dB scope fsc).names.lookup x=some .cell||(dB scope fsc).names.lookup x=some .free)=true)(e:X.env.scope=fsc:=by rfl):ao (ce X N0 T scope C fp s H).env.scope x:=by
 subst e;simp only[Bool.or_eq_true,decide_eq_true_eq]at h
 rcases h with (h | h) | h
 ·exact .inl h
 ·exact .inr (.inl h)
 ·exact .inr (.inr h)
theorem gY(fsc:Scope)(h:(dB scope fsc).names.lookup x=some .local)(e:X.env.scope=fsc:=by rfl):aT (ce X N0 T scope C fp s H).env.scope x:=by subst e; exact .inl h
theorem jF(fsc:Scope)(h:(dB scope fsc).names.lookup x=some .local)(e:X.env.scope=fsc:=by rfl):(ce X N0 T scope C fp s H).fn x=true∨(ce X N0 T scope C fp s H).env.scope.names.lookup x=some .local:=by subst e; exact .inr h
end
theorem bx{X:Cx}:MtR X "list.append" fX:=nv
theorem PW.pt'{X:Cx}{e:Expr}{t:TT}(h:PW X e t):PT X e t:=h.pt
theorem vR{t u:TS}{D:dj}{σ : St}{H:Hp}(I:St→Hp→Prop)(h:∀ k:St→Hp→Prop,(∀ σ' H',I σ' H'→k σ' H')→t { D with nx:=k } σ H)(hu:∀ σ' H',I σ' H'→mv u D σ' H'):mv (iQ t u) D σ H:=h _ hu
theorem rZ{σ : St}{H:Hp}{Q:List (V × V)→Hp→Prop}:jx [] σ H Q=Q [] H:=rfl
theorem qv{σ : St}{H:Hp}{Q:List (V × V)→Hp→Prop}(tk tv:TE)(r:List (TE × TE)):jx ((tk,tv)::r) σ H Q=tk σ H fun x H1=>tv σ H1 fun y H2=>jx r σ H2 fun ps H3=>Q ((x,y)::ps) H3:=rfl
theorem Same.upd{H H':Hp}{p:Addr}(sm:Same H H')(h:H p=none)(o:HO):Same H (upd H' p o):=fun b u q=>by rw[am (aM q h)]; exact sm b u q
theorem ak{H:Hp}{p:Addr}(h:H p=none)(o:HO):Same H (upd H p o):=fun b u q=>by rw[am (aM q h)]; exact q
end L2
namespace L2
open PySem PySem.Spec PyProof.Rows PySem.SeqAt
def EqN(K:PySem.W.Frag)(H:Hp):Nat→V→V→Bool→Prop
 | 0,x,y,b=>cA x=true∧cA y=true∧b=fg x y
 | n+1,x,y,b=>(cA x=true∧cA y=true∧b=fg x y)∨∃ a c xs ys,x = .ref a∧y = .ref c∧((SqL K H a xs∧SqL K H c ys)∨(SqT K H a xs∧SqT K H c ys))∧
   ((∃ e:Nat→Bool,xs.length=ys.length∧(∀ (i:Nat) x y,xs[i]? = some x→ys[i]? = some y→EqN K H n x y (e i))∧b=(List.range xs.length).all e)∨
    (SqL K H a xs∧SqL K H c ys∧xs.length≠ys.length∧b=false))
theorem kP:∀ {x:V},cA x=true→fg x x=true
 | .non,_=>rfl
 | .bl b,_=>by simp[fg]
 | .int i,_=>by simp[fg]
 | .str y,_=>by simp[fg]
section
variable{X:Cx}{pins:List (Addr × Obj)}{σ : St}{H:Hp}{s:Shared}
theorem EqN.self(I:Inv X pins σ H s):∀ {n:Nat} {x:V} {b:Bool},EqN X.K H n x x b→b=true
 | 0,x,b,h=>by obtain⟨h1,_,rfl⟩:=h; exact kP h1
 | n+1,x,b,h=>by
  rcases h with ⟨h1,_,rfl⟩ | ⟨a,c,xs,ys,rfl,e,hq,h⟩
  ·exact kP h1
  ·cases e
   have exy:xs=ys:=by
    rcases hq with ⟨q1,q2⟩ | ⟨q1,q2⟩
    ·exact I.list_inj q1 q2
    ·exact I.tuple_inj q1 q2
   subst exy;rcases h with ⟨e,_,he,rfl⟩ | ⟨_,_,z,_⟩
   ·rw[List.all_eq_true]
    intro i hi
    have hi':=List.mem_range.mp hi;have q:=he i xs[i] xs[i] (List.getElem?_eq_getElem hi') (List.getElem?_eq_getElem hi');exact EqN.self I q
   ·exact absurd rfl z
theorem EqN.rc(I:Inv X pins σ H s){n:Nat}(ih:∀ {A:Around} {x y:V} {b:Bool} {u v:Value},A.units+n<cLine→EqN X.K H n x y b→RelV x u→RelV y v→EqAt A s u v b)
  {A:Around} {a c:Addr} {xs ys:List V} {b:Bool} (hu:A.units+(n+1)<cLine) (hq:(SqL X.K H a xs∧SqL X.K H c ys)∨(SqT X.K H a xs∧SqT X.K H c ys))
  (h:(∃ e:Nat→Bool,xs.length=ys.length∧(∀ (i:Nat) x y,xs[i]? = some x→ys[i]? = some y→EqN X.K H n x y (e i))∧b=(List.range xs.length).all e)∨(SqL X.K H a xs∧SqL X.K H c ys∧xs.length≠ys.length∧b=false)) :
  RcAt A s (.ref a) (.ref c) b∧RcNeAt A s (.ref a) (.ref c) (!b):=by
 have hin:A.in1.units+n<cLine:=by
  have:A.in1.units=A.units+1:=rfl
  omega
 rcases h with ⟨e,hl,he,rfl⟩ | ⟨q1,q2,hl,rfl⟩
 ·rcases hq with ⟨q1,q2⟩ | ⟨q1,q2⟩
  ·obtain⟨i1,r1,p1,z1⟩:=I.list q1
   obtain⟨i2,r2,p2,z2⟩:=I.list q2
   have l1:=r1.length;have l2:=r2.length
   have hit:∀ j (h1:j<i1.toArray.size) (h2:j<i2.toArray.size),EqAt A.in1 s i1.toArray[j] i2.toArray[j] (e j):=fun j h1 h2=>by
    obtain⟨x,hx,rx⟩:=r1.of (i:=j) (u:=i1.toArray[j]) (by simp at h1 ⊢)
    obtain⟨y,hy,ry⟩:=r2.of (i:=j) (u:=i2.toArray[j]) (by simp at h2 ⊢)
    exact ih hin (he j x y hx hy) rx ry
   have ez:xs.length=i1.toArray.size:=by simp; omega
   rw[ez];exact⟨RcAt.lists p1.isList p2.isList (by simp; omega) (by omega) hit,RcNeAt.lists p1.isList p2.isList (by simp; omega) (by omega) hit⟩
  ·obtain⟨i1,r1,p1,z1⟩:=I.tuple q1
   obtain⟨i2,r2,p2,z2⟩:=I.tuple q2
   have l1:=r1.length;have l2:=r2.length
   have hit:∀ j (h1:j<i1.toArray.size) (h2:j<i2.toArray.size),EqAt A.in1 s i1.toArray[j] i2.toArray[j] (e j):=fun j h1 h2=>by
    obtain⟨x,hx,rx⟩:=r1.of (i:=j) (u:=i1.toArray[j]) (by simp at h1 ⊢)
    obtain⟨y,hy,ry⟩:=r2.of (i:=j) (u:=i2.toArray[j]) (by simp at h2 ⊢)
    exact ih hin (he j x y hx hy) rx ry
   have ez:(List.range xs.length).all e=((List.range (min i1.toArray.size i2.toArray.size)).all e&&i1.toArray.size == i2.toArray.size):=by
    have e1:i1.toArray.size=xs.length:=by simp; omega
    have e2:i2.toArray.size=xs.length:=by simp; omega
    rw[e1,e2,Nat.min_self]; simp
   rw[ez];exact⟨RcAt.tuples (show s.heap.IsTuple a i1.toArray from p1) (show s.heap.IsTuple c i2.toArray from p2) (by omega) hit,RcNeAt.tuples (show s.heap.IsTuple a i1.toArray from p1) (show s.heap.IsTuple c i2.toArray from p2) (by omega) hit⟩
 ·obtain⟨i1,r1,p1,z1⟩:=I.list q1
  obtain⟨i2,r2,p2,z2⟩:=I.list q2
  have l1:=r1.length;have l2:=r2.length
  have hne:(i1.toArray.size != i2.toArray.size)=true:=by
   rw[bne_iff_ne]; simp; omega
  exact⟨RcAt.lists_lengths p1.isList p2.isList hne (by omega),RcNeAt.lists_lengths p1.isList p2.isList hne (by omega)⟩
theorem EqN.at(I:Inv X pins σ H s):∀ {n:Nat} {A:Around} {x y:V} {b:Bool} {u v:Value},A.units+n<cLine→EqN X.K H n x y b→RelV x u→RelV y v→EqAt A s u v b
 | 0,A,x,y,b,u,v,_,h,rx,ry=>by obtain⟨h1,h2,rfl⟩:=h; exact jO rx ry h1 h2
 | n+1,A,x,y,b,u,v,hu,h,rx,ry=>by
  have h0:=h;rcases h with ⟨h1,h2,rfl⟩ | ⟨a,c,xs,ys,rfl,rfl,hq,h⟩
  ·exact jO rx ry h1 h2
  ·cases rx
   cases ry
   by_cases hac:a=c
   ·subst hac
    rw[EqN.self I h0];exact EqAt.same _
   ·exact EqAt.of_refs hac (EqN.rc I (fun hu' q rx ry=>EqN.at I hu' q rx ry) hu hq h).1
end
section
variable{X:Cx}
def xF(K:PySem.W.Frag):R2:=fun x y H Q=>∃ (a c:Addr) (n:Nat) (b:Bool),x = .ref a∧y = .ref c∧n≤100∧EqN K H (n+1) x y b∧Q (.bl (!b)) H
theorem Dj(hu:X.A.units+101<cLine):OpR X (compareOp .NotEq) (xF X.K):=by
 intro pins s σ H x y v u Q I rx ry h
 obtain⟨a,c,n,b,rfl,rfl,hn,he,q⟩:=h
 cases rx
 cases ry;rcases he with ⟨h1,_⟩ | ⟨a',c',xs,ys,e1,e2,hq,h⟩
 ·cases h1
 ·cases e1
  cases e2;exact(EqN.rc I (fun hu' q rx ry=>EqN.at I hu' q rx ry) (by omega) hq h).2 _ _ _ _ ⟨.bl (!b),H,I,rfl,q⟩
theorem iH(K:PySem.W.Frag){k:Nat}(hr:Room k X.A)(hK:X.K=K:=by rfl):OpR X (compareOp .NotEq) (xF K):=by subst hK; exact Dj (by have:=hr.un; omega)
end
section
variable{K:PySem.W.Frag}{H:Hp}{Q:VK}
theorem Bc(a c:Addr):xF K (.ref a) (.ref c) H Q=∃ (n:Nat) (b:Bool),n≤100∧EqN K H (n+1) (.ref a) (.ref c) b∧Q (.bl (!b)) H:=
 propext ⟨fun ⟨_,_,n,b,e1,e2,q⟩=>⟨n,b,q⟩,fun ⟨n,b,q⟩=>⟨a,c,n,b,rfl,rfl,q⟩⟩
theorem EqN.flat{n:Nat}{x y:V}(hx:cA x=true)(hy:cA y=true):EqN K H n x y (fg x y):=by
 cases n with
 | zero=>exact⟨hx,hy,rfl⟩
 | succ n=>exact .inl ⟨hx,hy,rfl⟩
theorem EqN.refl{n:Nat}{x:V}(hx:cA x=true):EqN K H n x x true:=by
 have q:EqN K H n x x (fg x x):=EqN.flat hx hx
 rwa [kP hx]at q
theorem EqN.seq{n:Nat}{a c:Addr}{xs ys:List V}(hq:(SqL K H a xs∧SqL K H c ys)∨(SqT K H a xs∧SqT K H c ys))(hl:xs.length=ys.length)(he:∀ (i:Nat) x y,xs[i]? = some x→ys[i]? = some y→EqN K H n x y true):EqN K H (n+1) (.ref a) (.ref c) true:=
 .inr ⟨a,c,xs,ys,rfl,rfl,hq,.inl ⟨fun _=>true,hl,he,by simp⟩⟩
theorem EqN.seqFlat{n:Nat}{a c:Addr}{xs:List V}(hq:(SqL K H a xs∧SqL K H c xs)∨(SqT K H a xs∧SqT K H c xs))(hf:∀ x∈xs,cA x=true):EqN K H (n+1) (.ref a) (.ref c) true:=
 EqN.seq hq rfl fun i x y e1 e2=>by
  rw[e1]at e2; cases e2
  exact EqN.refl (hf x (List.mem_of_getElem? e1))
end
section
variable{X:Cx}
end
section
variable{X:Cx}
def De:R2:=fun x y H Q=>y = .non∧Q (.bl (decide (x = .non))) H
def Ai:R2:=fun x y H Q=>y = .non∧Q (.bl (!decide (x = .non))) H
theorem rD:OpR X (compareOp .Is) De:=C8
theorem kT:OpR X (compareOp .IsNot) Ai:=Bu
def zY:List V→Hp→VK→Prop:=fun xs H Q=>(∃ i,xs=[.int i]∧Q (.int i) H)∨∃ k,xs=[.bl k]∧Q (.int (if k then 1 else 0)) H
theorem jL:CallR X (.type "int") zY:=uQ
def q9(K:PySem.W.Frag):List V→Hp→VK→Prop:=fun xs H Q=>∃ p ys,xs=[.ref p]∧(SqL K H p ys∨SqT K H p ys)∧∀ l,H l=none→Q (.ref l) (upd H l (.lst ys))
theorem gF(K:PySem.W.Frag)(hK:X.K=K:=by rfl):CallR X (.type "list") (q9 K):=sW K hK
def wU(K:PySem.W.Frag):List V→Hp→VK→Prop:=fun xs H Q=>∃ p ys,xs=[.ref p]∧((SqL K H p ys∧∀ l,H l=none→Q (.ref l) (upd H l (.tup ys)))∨(SqT K H p ys∧Q (.ref p) H))
theorem wB(K:PySem.W.Frag)(hK:X.K=K:=by rfl):CallR X (.type "tuple") (wU K):=qm K hK
def uB:R2:=fun x y H Q=>match x,y with
 | .int i,.int j=>CMul i j∧Q (.int (i * j)) H
 | .str z,.int n=>0≤n∧n≤4096∧z.length≤4096∧Q (.str (Txt.mul z n)) H
 | _,_=>False
theorem eX:OpR X (binaryOp .Mult) uB:=by
 intro pins s σ H x y v u Q I rx ry h
 match x,y,h with
 | .int i,.int j,h=>exact EC pins s σ H _ _ v u Q I rx ry ⟨_,_,rfl,rfl,h⟩
 | .str z,.int n,h=>
  obtain⟨t,rfl⟩:=rx
  obtain⟨t',rfl⟩:=ry
  obtain⟨h0,h1,h2,q⟩:=h
  exact SB.mul (mulOk_of 4096 4096 h2 (by omega) (by omega) (by decide) (by decide)) fun t' k=>⟨.str (Txt.mul z n),H,I.tok k,⟨t',rfl⟩,q⟩
end
section
variable{K:PySem.W.Frag}{H:Hp}{Q:VK}
theorem Bq(x:V):De x .non H Q=Q (.bl (decide (x = .non))) H:=propext ⟨fun h=>h.2,fun h=>⟨rfl,h⟩⟩
theorem yA(x:V):Ai x .non H Q=Q (.bl (!decide (x = .non))) H:=propext ⟨fun h=>h.2,fun h=>⟨rfl,h⟩⟩
theorem yX(k:Bool):zY [.bl k] H Q=Q (.int (if k then 1 else 0)) H:=propext ⟨fun h=>by rcases h with ⟨_,e,q⟩ | ⟨_,e,q⟩ <;> cases e; exact q,fun q=>.inr ⟨k,rfl,q⟩⟩
theorem sP(p:Addr):q9 K [.ref p] H Q=∃ ys,(SqL K H p ys∨SqT K H p ys)∧∀ l,H l=none→Q (.ref l) (upd H l (.lst ys)):=propext ⟨fun ⟨_,ys,e,q⟩=>by cases e; exact⟨ys,q⟩,fun ⟨ys,q⟩=>⟨p,ys,rfl,q⟩⟩
theorem vc(p:Addr):wU K [.ref p] H Q=∃ ys,((SqL K H p ys∧∀ l,H l=none→Q (.ref l) (upd H l (.tup ys)))∨(SqT K H p ys∧Q (.ref p) H)):=propext ⟨fun ⟨_,ys,e,q⟩=>by cases e; exact⟨ys,q⟩,fun ⟨ys,q⟩=>⟨p,ys,rfl,q⟩⟩
theorem uP(i j:Int):uB (.int i) (.int j) H Q=(CMul i j∧Q (.int (i * j)) H):=rfl
theorem vg(z:Str)(n:Int):uB (.str z) (.int n) H Q=(0≤n∧n≤4096∧z.length≤4096∧Q (.str (Txt.mul z n)) H):=rfl
theorem A8(a:Addr)(lo hi:Option Int):xL K (.ref a) lo hi H Q=∃ xs,SqL K H a xs∧∀ p,H p=none→Q (.ref p) (upd H p (.lst (dk xs lo hi))):=propext ⟨fun ⟨_,xs,e,q⟩=>by cases e; exact⟨xs,q⟩,fun ⟨xs,q⟩=>⟨a,xs,rfl,q⟩⟩
theorem Fc(g:Int→V)(i:Int):rU g (.int i) H Q=Q (g i) H:=propext ⟨fun ⟨_,e,q⟩=>by cases e; exact q,fun q=>⟨i,rfl,q⟩⟩
end
theorem bX{n:Nat}(h:n≤1000000):n<sizeLine:=by
 have:sizeLine=16777216:=sizeLine_eq
 omega
theorem bt{n:Nat}(h:n≤1000000):n≤sizeLine:=Nat.le_of_lt (bX h)
theorem vp{α : Type}{f:α→V}{xs:List α}{i:Int}{x:α}(h0:0≤i)(h:xs[i.toNat]? = some x):ej (xs.map f) i=some (f x):=by
 have q:(xs.map f)[i.toNat]? = some (f x):=by rw[List.getElem?_map,h]; rfl
 have q':=aW q
 rwa [show ((i.toNat:Nat):Int)=i by omega]at q'
theorem aV{H H':Hp}{p:Addr}{o:HO}(h:upd H p o=H')(hp:H p=none):Same H H':=h ▸ ak hp o
theorem bB{H H':Hp}{p:Addr}{o:HO}(h:upd H p o=H'):H' p=some o:=h ▸ ae
theorem k5{α β : Type}{f:α→β}(xs:List α)(x:α):xs.map f++[f x]=(xs++[x]).map f:=by rw[List.map_append]; rfl
end L2
namespace L2
open PySem PySem.Spec PyProof.Rows
theorem Inv.turnedL{X:Cx}{pins:List (Addr × Obj)}{σ : St}{H:Hp}{s:Shared}{h':Heap}{t':Nat}{ch:List Addr}(I:Inv X pins σ H s)(k:∀ b o,b∉ch→s.heap.get? b=some o→h'.get? b=some o)
  (hf:∀ b∈ch,gZ X pins H b):Inv X pins σ H { s with heap:=h',toks:=t' }:=by
 have nit:∀ b u,H b=some u→b∉ch:=fun b u e z=>by rw[(hf b z).1]at e; cases e
 refine I.step (g':=s.gens) (d':=s.drawn) (ch:=ch) (fun b hb=>?_) (fun b o _ _ hc e _=>k b o hc e) (fun b o _ _ hc e _=>⟨o.slots,k b o hc e⟩) (fun _ _ _ _ n=>n)
  (fun b o hc e=>⟨o,k b o hc e⟩) (fun _ _ e=>e) (fun _ _ _ e=>e) (fun b ps e=>⟨#[],by rw[e]; simp⟩) (fun m hm=>?_) (fun b u e=>?_) I.bare
 ·obtain⟨_,f1,_,f3,f4,f5⟩:=hf b hb
  exact⟨f3,f1,f4,f5⟩
 ·obtain⟨o,es,ep,ho,r⟩:=hm
  exact⟨o,es,ep,k _ o (fun z=>(hf _ z).2.1 rfl) ho,r⟩
 ·refine(I.hok b u e).stay (fun c v hc q=>k c v ?_ q) (fun _ q=>q) fun _ _ q=>q
  rcases hc with z | z
  ·rw[z]; exact nit b u e
  ·exact nit c _ z
theorem Inv.turnedLaid{X:Cx}{pins:List (Addr × Obj)}{σ : St}{H:Hp}{s:Shared}{h':Heap}{t':Nat}{ch:List Addr}{a:Addr}{o:HO}(I:Inv X pins σ H s)(k:∀ b o,b∉ch→s.heap.get? b=some o→h'.get? b=some o)
  (hf:∀ b∈ch,gZ X pins H b) (hp:s.heap.objs.size≤a) (new:ObjOk X.prog X.w (upd H a o) h' a o):Inv X pins σ (upd H a o) { s with heap:=h',toks:=t' }:=by
 have hn:H a=none:=I.hok.fresh hp
 have nit:∀ b u,H b=some u→b∉ch:=fun b u e z=>by rw[(hf b z).1]at e; cases e
 refine I.step (g':=s.gens) (d':=s.drawn) (ch:=ch) (fun b hb=>?_) (fun b o _ _ hc e _=>k b o hc e) (fun b o _ _ hc e _=>⟨o.slots,k b o hc e⟩) (fun b u _ q n=>?_)
  (fun b o hc e=>⟨o,k b o hc e⟩) (fun b xs q=>?_) (fun b u xs q=>?_) (fun b ps q=>⟨#[],?_⟩) (fun m hm=>?_) (fun b u e=>?_) I.bare
 ·obtain⟨_,f1,_,f3,f4,f5⟩:=hf b hb
  exact⟨f3,f1,f4,f5⟩
 ·rw[am (Nat.ne_of_lt (Nat.lt_of_lt_of_le (Heap.lt_size q) hp))]; exact n
 ·rw[am (aM q hn)]; exact q
 ·rw[am (aM q hn)]; exact q
 ·rw[am (aM q hn),q]; simp
 ·obtain⟨o,es,ep,ho,r⟩:=hm
  exact⟨o,es,ep,k _ o (fun z=>(hf _ z).2.1 rfl) ho,r⟩
 ·by_cases hb:b=a
  ·subst hb; rw[ae]at e; cases e; exact new
  ·rw[am hb]at e
   refine(I.hok b u e).stay (fun c v hc q=>k c v ?_ q) (fun c q=>by rw[am (aM q hn)]; exact q) fun c xs q=>by rw[am (aM q hn)]; exact q
   rcases hc with z | z
   ·rw[z]; exact nit b u e
   ·exact nit c _ z
def Af(K:PySem.W.Frag)(a b:Addr):It:=
  ⟨fun i H=>∃ xs ys x y,SqL K H a xs∧SqL K H b ys∧xs[i]? = some x∧ys[i]? = some y,
   fun i H v H'=>∃ t x y,H t=none∧v = .ref t∧H'=upd H t (.tup [x,y])∧(∀ xs,SqL K H a xs→xs[i]? = some x)∧∀ ys,SqL K H b ys→ys[i]? = some y,
   fun i H=>∃ xs ys,SqL K H a xs∧SqL K H b ys∧(xs.length≤i∨ys.length≤i)⟩
structure lJ (z TI TO i1 i2:Addr):Prop where
 TIz:TI≠z
 TOz:TO≠z
 i1z:i1≠z
 i2z:i2≠z
 TITO:TI≠TO
 TIi1:TI≠i1
 TIi2:TI≠i2
 TOi1:TO≠i1
 TOi2:TO≠i2
 i12:i1≠i2
theorem fJ{h:Heap}{l c:Addr}{xs:Array Value}{o:Obj}(hl:h.IsList l xs)(e:h.get? c=some o)(hc:o.cls ≠ .type "list"):l≠c:=by
 rintro rfl
 obtain⟨o',e',c',_⟩:=hl
 rw[e]at e'; cases e'
 exact hc c'
def FH(z TI TO i1 i2 l1 l2:Addr)(i:Nat)(h:Heap):Prop:=
 IsZip h z TI TO .none∧IsPair h TI (.ref i1) (.ref i2)∧(∃ a b,IsPair h TO a b)∧h.IsListIter i1 l1 i∧h.IsListIter i2 l2 i
theorem vG{h:Heap}{z TI TO i1 i2 l1 l2:Addr}{i:Nat}{xs ys:Array Value}(D:lJ z TI TO i1 i2)(st:FH z TI TO i1 i2 l1 l2 i h)(h1:h.IsList l1 xs)(h2:h.IsList l2 ys):ZipApart z TI TO i1 i2 l1 l2:=by
 obtain⟨s1,s2,⟨a,b,s3⟩,⟨o4,s4,c4,_⟩,⟨o5,s5,c5,_⟩⟩:=st
 have n4:o4.cls ≠ .type "list" := by rw[c4]; decide
 have n5:o5.cls ≠ .type "list" := by rw[c5]; decide
 have nz:Value.type "zip" ≠ Value.type "list" := by decide
 have nt:Value.type "tuple" ≠ Value.type "list" := by decide
 exact⟨D.TIz,D.TOz,D.i1z,D.i2z,D.TITO,D.TIi1,D.TIi2,D.TOi1,D.TOi2,D.i12,fJ h1 s1 nz,fJ h1 s3 nt,fJ h1 s4 n4,fJ h1 s5 n5,fJ h2 s1 nz,fJ h2 s3 nt,fJ h2 s4 n4,fJ h2 s5 n5⟩
theorem zx{P:Program}{w:World}{K:PySem.W.Frag}{elts:List Expr}{k:Nat}{pos:Pos}{z TI TO i1 i2 l1 l2:Addr}(D:lJ z TI TO i1 i2):jB P w K (.Tuple elts k pos) (Af K l1 l2) [z,TI,TO,i1,i2] z (FH z TI TO i1 i2 l1 l2) where
 mem:=by simp
 obj:=fun i h st b hb=>by
  obtain⟨s1,s2,⟨_,_,s3⟩,⟨o4,s4,c4,d4⟩,⟨o5,s5,c5,d5⟩⟩:=st
  simp only[List.mem_cons,List.mem_nil_iff,or_false]at hb
  rcases hb with rfl | rfl | rfl | rfl | rfl
  ·exact⟨_,s1,fun v e=>by cases e⟩
  ·exact⟨_,s2,fun v e=>by cases e⟩
  ·exact⟨_,s3,fun v e=>by cases e⟩
  ·exact⟨_,s4,fun v e=>by rw[d4]at e; cases e⟩
  ·exact⟨_,s5,fun v e=>by rw[d5]at e; cases e⟩
 keep:=fun i h h' st kk=>by
  obtain⟨s1,s2,⟨a,b,s3⟩,s4,s5⟩:=st
  exact⟨kk z (by simp) _ s1,kk TI (by simp) _ s2,⟨a,b,kk TO (by simp) _ s3⟩,s4.at fun o e=>kk i1 (by simp) o e,s5.at fun o e=>kk i2 (by simp) o e⟩
 item:=by
  intro X hP hw hK hc i pins s σ H E I hf st hg
  subst hP hw hK;obtain⟨xs,ys,x,y,q1,q2,hx,hy⟩:=hg
  obtain⟨is1,rv1,p1,_⟩:=I.list q1
  obtain⟨is2,rv2,p2,_⟩:=I.list q2
  obtain⟨u1,hu1,ru1⟩:=rv1.get hx
  obtain⟨u2,hu2,ru2⟩:=rv2.get hy
  have D':=vG D st p1.isList p2.isList;obtain⟨s1,s2,⟨a,b,s3⟩,s4,s5⟩:=st
  refine wpAny_pyNext_zip_item D' s1 s2 s3 s4 s5 p1.isList p2.isList (x:=u1) (y:=u2) (by simpa using hu1) (by simpa using hu2) fun h' a1 a2 a3 a4 a5 a6 kk=>?_
  refine⟨_,rfl,wpAny_letOwnedTupleGo_zip a1 fun h'' hz' hs'=>?_⟩
  have lt:∀ {c o},s.heap.get? c=some o→s.heap.objs.size≠c:=fun e=>Nat.ne_of_gt (Heap.lt_size e)
  have zne:s.heap.objs.size≠z:=lt s1
  have keep2:∀ b o,b∉[z,TI,TO,i1,i2]→s.heap.get? b=some o→h''.get? b=some o:=fun b o hb e=>by
   simp only[List.mem_cons,List.mem_nil_iff,or_false,not_or]at hb
   exact hs'.extBut _ _ hb.1 (kk b o hb.1 hb.2.2.1 hb.2.2.2.1 hb.2.2.2.2 e)
  have hsz:H s.heap.objs.size=none:=I.hok.fresh (Nat.le_refl _)
  have tupN:IsPair h'' s.heap.objs.size u1 u2:=hs'.extBut _ _ zne a5
  have nlt:∀ c∈[z,TI,TO,i1,i2],c≠s.heap.objs.size:=fun c hc'=>by
   obtain⟨o4,e4,_⟩:=id s4
   obtain⟨o5,e5,_⟩:=id s5
   simp only[List.mem_cons,List.mem_nil_iff,or_false]at hc'
   rcases hc' with rfl | rfl | rfl | rfl | rfl
   ·exact(lt s1).symm
   ·exact(lt s2).symm
   ·exact(lt s3).symm
   ·exact(lt e4).symm
   ·exact(lt e5).symm
  refine⟨.ref s.heap.objs.size,upd H s.heap.objs.size (.tup [x,y]),I.turnedLaid (t':=s.toks) keep2 hf (Nat.le_refl _) ⟨bt (by show 2≤1000000; decide),[u1,u2],.cons ru1 (.cons ru2 .nil),⟨_,tupN,rfl,rfl,0,rfl⟩⟩,rfl,⟨_,x,y,hsz,rfl,rfl,fun xs' q'=>?_,fun ys' q'=>?_⟩,
   ⟨hz',hs'.extBut _ _ D.TIz (kk _ _ D.TIz D.TITO D.TIi1 D.TIi2 s2),⟨_,_,hs'.extBut _ _ D.TOz a2⟩,a3.extBut hs'.extBut D.i1z,a4.extBut hs'.extBut D.i2z⟩,fun c hc'=>?_⟩
  ·rw[I.list_inj q' q1]; exact hx
  ·rw[I.list_inj q' q2]; exact hy
  ·rw[am (nlt c hc')]; exact(hf c hc').1
 done:=by
  intro X hP hw hK hc i pins s σ H E I hf st hg
  subst hP hw hK;obtain⟨xs,ys,q1,q2,hlen⟩:=hg
  obtain⟨is1,rv1,p1,_⟩:=I.list q1
  obtain⟨is2,rv2,p2,_⟩:=I.list q2
  have l1:=rv1.length;have l2:=rv2.length;have D':=vG D st p1.isList p2.isList;obtain⟨s1,s2,⟨a,b,s3⟩,s4,s5⟩:=st
  refine wpAny_pyNext_zip_end (I.ok.hd hc) D' s1 s2 s3 s4 s5 p1.isList p2.isList ?_ fun h' kk=>⟨rfl,I.turnedL (t':=s.toks) (fun b o hb e=>?_) hf⟩
  ·rcases hlen with z | z
   ·exact .inl (by simp; omega)
   ·exact .inr (by simp; omega)
  ·simp only[List.mem_cons,List.mem_nil_iff,or_false,not_or]at hb
   exact kk b o hb.1 hb.2.2.1 hb.2.2.2.1 hb.2.2.2.2 e
 self:=fun A i s Q E st h=>wpAny_pyIter_zip st.1 h
theorem Fx(n:Nat):lJ (n+4) (n+2) (n+3) n (n+1):=⟨(show (@Ne Nat (n+2) (n+4):Prop) by omega),(show (@Ne Nat (n+3) (n+4):Prop) by omega),(show (@Ne Nat (n) (n+4):Prop) by omega),(show (@Ne Nat (n+1) (n+4):Prop) by omega),(show (@Ne Nat (n+2) (n+3):Prop) by omega),(show (@Ne Nat (n+2) (n):Prop) by omega),(show (@Ne Nat (n+2) (n+1):Prop) by omega),(show (@Ne Nat (n+3) (n):Prop) by omega),(show (@Ne Nat (n+3) (n+1):Prop) by omega),(show (@Ne Nat (n) (n+1):Prop) by omega)⟩
theorem oV:bootBuiltins "zip" = some (.type "zip"):=by decide +kernel
def yo(K:PySem.W.Frag)(ta:TA):TI:=fun σ H R=>ta σ H fun vs H1=>∃ a b:Addr,vs=[.ref a,.ref b]∧(∃ xs,SqL K H1 a xs)∧(∃ ys,SqL K H1 b ys)∧R (Af K a b) H1
theorem Be(K:PySem.W.Frag)(ta:TA){σ : St}{H:Hp}{R:It→Hp→Prop}:yo K ta σ H R=ta σ H fun vs H1=>∃ a b:Addr,vs=[.ref a,.ref b]∧(∃ xs,SqL K H1 a xs)∧(∃ ys,SqL K H1 b ys)∧R (Af K a b) H1:=rfl
theorem xq(n m:Addr)(P:Addr→Addr→Prop):(∃ i j,[V.ref n,V.ref m]=[V.ref i,V.ref j]∧P i j)=P n m:=propext ⟨fun ⟨_,_,e,h⟩=>by cases e; exact h,fun h=>⟨n,m,rfl,h⟩⟩
theorem BV{X:Cx}{elts:List Expr}{k:Nat}{tpos:Pos}{a b:Expr}{ta:TA}{p pos:Pos}(hg:Gl X "zip") (hm:X.mg "zip" = none) (ha:PA X [a,b] ta) (hs:starEach [a,b] X.env=[(false,eval a X.env),(false,eval b X.env)]:=by rfl) (hs2:starEach [b] X.env=[(false,eval b X.env)]:=by rfl) :
  PI X (.Tuple elts k tpos) (.Call (.Name "zip" p) [a,b] [] pos) (yo X.K ta):=by
 intro pins s σ H R I h
 refine Call_ (gX I hg hm oV (PyProof.Rows.callWith_type1 (bj (ha pos pins s σ H _ I h) fun us s1 ⟨vs,H1,I1,r1,q1⟩=>?_) (by rw[hs,hs2]) (by rw[hs2]; rfl)))
 obtain⟨l1,l2,e,⟨xs,h1⟩,⟨ys,h2⟩,q⟩:=q1
 subst e;obtain⟨u1,u2,rfl,r1,r2⟩:=j0 r1
 cases r1
 cases r2;obtain⟨is1,_,p1,_⟩:=I1.list h1
 obtain⟨is2,_,p2,_⟩:=I1.list h2
 refine call_zip_2 p1.isList p2.isList fun h' a1 a2 a3 a4 a5 a6 kk=>?_
 refine wpAny_pyIter_zip a1 ⟨_,[s1.heap.objs.size+4,s1.heap.objs.size+2,s1.heap.objs.size+3,s1.heap.objs.size,s1.heap.objs.size+1],_,_,H1,rfl,I1.kept (t':=s1.toks) kk,
  zx (z:=s1.heap.objs.size+4) (TI:=s1.heap.objs.size+2) (TO:=s1.heap.objs.size+3) (i1:=s1.heap.objs.size) (i2:=s1.heap.objs.size+1) (Fx _),⟨a1,a2,⟨_,_,a3⟩,a4,a5⟩,fun b hb=>?_,q⟩
 have hb':s1.heap.objs.size≤b:=by
  simp only[List.mem_cons,List.mem_nil_iff,or_false]at hb
  rcases hb with rfl | rfl | rfl | rfl | rfl <;> first | exact Nat.le_refl _ | exact Nat.le_add_right _ _
 exact I1.fpOk hb' (I1.hok.fresh hb')
theorem AQ(K:PySem.W.Frag){X:Cx}{elts:List Expr}{k:Nat}{tpos:Pos}{a b:Expr}{ta:TA}{p pos:Pos}(hg:Gl X "zip") (hm:X.mg "zip" = none) (ha:PA X [a,b] ta) (hs:starEach [a,b] X.env=[(false,eval a X.env),(false,eval b X.env)]:=by rfl) (hs2:starEach [b] X.env=[(false,eval b X.env)]:=by rfl) (hK:X.K=K:=by rfl) :
  PI X (.Tuple elts k tpos) (.Call (.Name "zip" p) [a,b] [] pos) (yo K ta):=hK ▸ BV hg hm ha hs hs2
def uC(x:V)(H:Hp)(Q:VK):Prop:=match x with
 | .str y=>y.length≤sizeLine∧Q (.str y) H
 | .int i=>i.natAbs.log2<1920∧Q (.str (toString i)) H
 | _=>False
def Ce(te:TE):TE:=fun σ H Q=>te σ H fun x H1=>uC x H1 Q
abbrev TJ:=Str→St→Hp→VK→Prop
def zS:TJ:=fun acc _ H Q=>acc.length≤sizeLine∧Q (.str acc) H
def wM(te:TE)(tj:TJ):TJ:=fun acc σ H Q=>te σ H fun x H1=>∃ y,x = .str y∧(acc++y).length≤sizeLine∧tj (acc++y) σ H1 Q
def PJ(X:Cx)(es:List Expr)(tj:TJ):Prop:=∀ (pins:List (Addr × Obj)) (s:Shared) (σ : St) (H:Hp) (acc:Str) (Q:VK),Inv X pins σ H s→tj acc σ H Q→wpAny (model X.prog X.w) X.A (joinParts acc (evalEach es X.env)) (EP X pins σ Q) X.xe s
def z9(tj:TJ):TE:=fun σ H Q=>tj Str.empty σ H Q
section
variable{X:Cx}
theorem uE{e:Expr}{te:TE}{pos:Pos}(he:PE X e te):PE X (.FormattedValue e (-1) none pos) (Ce te):=by
 intro pins s σ H Q I h
 refine FormattedValue_plain (bj (he pins s σ H _ I h) fun v s1 ⟨x,H1,I1,r1,q1⟩=>?_)
 match x,r1,q1 with
 | .str y,r1,q1=>
  obtain⟨t,rfl⟩:=r1
  exact formatField_str (fun t' tk=>⟨.str y,H1,I1.tok tk,⟨t',rfl⟩,q1.2⟩) q1.1
 | .int i,r1,q1=>
  obtain⟨t,rfl⟩:=r1
  exact formatField_int_small q1.1 ⟨.str (toString i),H1,I1.tok _,⟨_,rfl⟩,q1.2⟩
theorem Ci:PJ X [] zS:=fun pins s σ H acc Q I h=>joinParts_nil ⟨.str acc,H,I.tok _,⟨_,rfl⟩,h.2⟩ h.1
theorem mF{e:Expr}{es:List Expr}{te:TE}{tj:TJ}(he:PE X e te)(hj:PJ X es tj):PJ X (e::es) (wM te tj):=by
 intro pins s σ H acc Q I h
 show wpAny _ _ (joinParts acc (eval e X.env::evalEach es X.env)) _ _ _
 refine joinParts_cons (bj (he pins s σ H _ I h) fun v s1 ⟨x,H1,I1,r1,y,e,hz,q⟩=>?_)
 subst e;obtain⟨t,rfl⟩:=r1
 exact⟨hz,hj pins s1 σ H1 (acc++y) Q I1 q⟩
theorem BO{e₁ e₂:Expr}{es:List Expr}{tj:TJ}{pos:Pos}(h:PJ X (e₁::e₂::es) tj):PE X (.JoinedStr (e₁::e₂::es) pos) (z9 tj):=fun pins s σ H Q I q=>JoinedStr_many (h pins s σ H Str.empty Q I q)
end
section
variable{σ : St}{H:Hp}{Q:VK}
theorem A9(te:TE):Ce te σ H Q=te σ H fun x H1=>uC x H1 Q:=rfl
theorem xN(tj:TJ):z9 tj σ H Q=tj Str.empty σ H Q:=rfl
theorem yy(acc:Str):zS acc σ H Q=(acc.length≤sizeLine∧Q (.str acc) H):=rfl
theorem vi(te:TE)(tj:TJ)(acc:Str):wM te tj acc σ H Q=te σ H fun x H1=>∃ y,x = .str y∧(acc++y).length≤sizeLine∧tj (acc++y) σ H1 Q:=rfl
theorem yB(y:Str):uC (.str y) H Q=(y.length≤sizeLine∧Q (.str y) H):=rfl
theorem zz(i:Int):uC (.int i) H Q=(i.natAbs.log2<1920∧Q (.str (toString i)) H):=rfl
end
end L2
namespace L2
open PySem PySem.Spec PyProof.Rows
def rf(K:PySem.W.Frag)(a:Addr):It:=
  ⟨fun i H=>∃ xs x,SqL K H a xs∧xs[i]? = some x,
   fun i H v H'=>∃ t x,H t=none∧v = .ref t∧H'=upd H t (.tup [.int i,x])∧∀ xs,SqL K H a xs→xs[i]? = some x,
   fun i H=>∃ xs,SqL K H a xs∧xs.length≤i⟩
def Kf(e it l:Addr)(i:Nat)(h:Heap):Prop:=(∃ old,IsEnum h e it i old)∧h.IsListIter it l i
theorem vB{P:Program}{w:World}{K:PySem.W.Frag}{elts:List Expr}{k:Nat}{pos:Pos}{e it l:Addr}(hei:e≠it):jB P w K (.Tuple elts k pos) (rf K l) [e,it] e (Kf e it l) where
 mem:=by simp
 obj:=fun i h st b hb=>by
  obtain⟨⟨old,s1⟩,⟨o4,s4,c4,d4⟩⟩:=st
  simp only[List.mem_cons,List.mem_nil_iff,or_false]at hb
  rcases hb with rfl | rfl
  ·exact⟨_,s1,fun v e=>by cases e⟩
  ·exact⟨_,s4,fun v e=>by rw[d4]at e; cases e⟩
 keep:=fun i h h' st kk=>by
  obtain⟨⟨old,s1⟩,s4⟩:=st
  exact⟨⟨old,kk e (by simp) _ s1⟩,s4.at fun o z=>kk it (by simp) o z⟩
 item:=by
  intro X hP hw hK hc i pins s σ H E I hf st hg
  subst hP hw hK;obtain⟨xs,x,q1,hx⟩:=hg
  obtain⟨is1,rv1,p1,_⟩:=I.list q1
  obtain⟨u1,hu1,ru1⟩:=rv1.get hx
  obtain⟨⟨old,s1⟩,s4⟩:=st
  refine wpAny_pyNext_enum_item s1 s4 p1.isList (x:=u1) (by simpa using hu1) hei fun h' a1 a3 a5 a6 kk=>?_
  refine⟨_,rfl,wpAny_letOwnedTupleGo_enum a1 fun h'' hz' hs'=>?_⟩
  have lt:∀ {c o},s.heap.get? c=some o→s.heap.objs.size≠c:=fun z=>Nat.ne_of_gt (Heap.lt_size z)
  have zne:s.heap.objs.size≠e:=lt s1
  have keep2:∀ b o,b∉[e,it]→s.heap.get? b=some o→h''.get? b=some o:=fun b o hb z=>by
   simp only[List.mem_cons,List.mem_nil_iff,or_false,not_or]at hb
   exact hs'.extBut _ _ hb.1 (kk b o hb.1 hb.2 z)
  have hsz:H s.heap.objs.size=none:=I.hok.fresh (Nat.le_refl _)
  have tupN:=hs'.extBut _ _ zne a5
  have nlt:∀ c∈[e,it],c≠s.heap.objs.size:=fun c hc'=>by
   obtain⟨o4,e4,_⟩:=id s4
   simp only[List.mem_cons,List.mem_nil_iff,or_false]at hc'
   rcases hc' with rfl | rfl
   ·exact(lt s1).symm
   ·exact(lt e4).symm
  refine⟨.ref s.heap.objs.size,upd H s.heap.objs.size (.tup [.int i,x]),I.turnedLaid (t':=s.toks+1) keep2 hf (Nat.le_refl _) ⟨bt (by show 2≤1000000; decide),[.int i s.toks,u1],.cons ⟨_,rfl⟩ (.cons ru1 .nil),⟨_,tupN,rfl,rfl,0,rfl⟩⟩,rfl,⟨_,x,hsz,rfl,rfl,fun xs' q'=>?_⟩,
   ⟨⟨_,by simpa using hz'⟩,a3.extBut hs'.extBut hei.symm⟩,fun c hc'=>?_⟩
  ·rw[I.list_inj q' q1]; exact hx
  ·rw[am (nlt c hc')]; exact(hf c hc').1
 done:=by
  intro X hP hw hK hc i pins s σ H E I hf st hg
  subst hP hw hK;obtain⟨xs,q1,hlen⟩:=hg
  obtain⟨is1,rv1,p1,_⟩:=I.list q1
  have l1:=rv1.length;obtain⟨⟨old,s1⟩,s4⟩:=st
  refine wpAny_pyNext_enum_end (I.ok.hd hc) s1 s4 p1.isList (by simp; omega) fun h' kk=>⟨rfl,I.turnedL (t':=s.toks) (fun b o hb z=>?_) hf⟩
  simp only[List.mem_cons,List.mem_nil_iff,or_false,not_or]at hb
  exact kk b o hb.2 z
 self:=fun A i s Q E st h=>by
  obtain⟨⟨old,s1⟩,_⟩:=st
  exact wpAny_pyIter_enum s1 h
theorem mw:bootBuiltins "enumerate" = some (.type "enumerate"):=by decide +kernel
def sL(K:PySem.W.Frag)(ta:TA):TI:=fun σ H R=>ta σ H fun vs H1=>∃ a:Addr,vs=[.ref a]∧(∃ xs,H1 a=some (.lst xs))∧R (rf K a) H1
theorem ya(K:PySem.W.Frag)(ta:TA){σ : St}{H:Hp}{R:It→Hp→Prop}:sL K ta σ H R=ta σ H fun vs H1=>∃ a:Addr,vs=[.ref a]∧(∃ xs,H1 a=some (.lst xs))∧R (rf K a) H1:=rfl
theorem AJ(n:Addr)(P:Addr→Prop):(∃ i,[V.ref n]=[V.ref i]∧P i)=P n:=propext ⟨fun ⟨_,e,h⟩=>by cases e; exact h,fun h=>⟨n,rfl,h⟩⟩
theorem je(K:PySem.W.Frag){X:Cx}{elts:List Expr}{k:Nat}{tpos:Pos}{a:Expr}{ta:TA}{p pos:Pos}(hg:Gl X "enumerate") (hm:X.mg "enumerate" = none) (ha:PA X [a] ta) (hs:starEach [a] X.env=[(false,eval a X.env)]:=by rfl) (hK:X.K=K:=by rfl) :
  PI X (.Tuple elts k tpos) (.Call (.Name "enumerate" p) [a] [] pos) (sL K ta):=by
 subst hK;intro pins s σ H R I h
 refine Call_ (gX I hg hm mw (PyProof.Rows.callWith_type1 (bj (ha pos pins s σ H _ I h) fun us s1 ⟨vs,H1,I1,r1,q1⟩=>?_) hs rfl))
 obtain⟨l,e,⟨xs,h1⟩,q⟩:=q1
 subst e;obtain⟨u1,rfl,r1'⟩:=fB r1
 obtain rfl:u1=Value.ref l:=r1'
 obtain⟨hz,its,n,rv,hl⟩ : xs.length≤sizeLine∧∃ (its:List Value) (n:Nat),Vals xs its∧s1.heap.get? l=some { cls:=.type "list", data:=.seq its.toArray n }:=I1.hok l _ h1
 refine call_enumerate_1 hl fun h' a1 a4 a6 kk=>?_
 refine wpAny_pyIter_enum a1 ⟨_,[s1.heap.objs.size+1,s1.heap.objs.size],_,_,H1,rfl,I1.kept (t':=s1.toks) kk,
  vB (e:=s1.heap.objs.size+1) (it:=s1.heap.objs.size) (Nat.ne_of_gt (Nat.lt_succ_self _)),⟨⟨_,a1⟩,a4⟩,fun b hb=>?_,q⟩
 have hb':s1.heap.objs.size≤b:=by
  simp only[List.mem_cons,List.mem_nil_iff,or_false]at hb
  rcases hb with rfl | rfl <;> first | exact Nat.le_refl _ | exact Nat.le_add_right _ _
 exact I1.fpOk hb' (I1.hok.fresh hb')
section
variable{K:PySem.W.Frag}{a b:Addr}{xs ys:List V}{g:TG}{te:TE}{nT:Nat}{σ : St}{D:Addr}{Q:VK}{H:Hp}
theorem tQ(Pv:Nat→List V→Hp→Prop)(h0:Pv 0 [] H)(hl:∀ i zs H,i≤xs.length→Pv i zs H→SqL K H a xs)
  (hs:∀ i zs H x t,xs[i]? = some x→i<xs.length→Pv i zs H→H t=none→g (.ref t) (σ++List.replicate nT none) (upd H t (.tup [.int i,x])) (kf xs.length i Pv D zs te))
  (hd:∀ zs H,Pv xs.length zs H→Q (.ref D) H):gg (rf K a) g iX te nT σ D Q H:=by
 refine kW xs.length Pv h0 (fun i zs H hi p=>⟨xs,xs[i],hl i zs H (Nat.le_of_lt hi) p,by simp[hi]⟩) (fun zs H p=>⟨xs,hl _ zs H (Nat.le_refl _) p,Nat.le_refl _⟩) (fun i zs H v H' hi p yl=>?_) hd
 obtain⟨t,x,ht,rfl,rfl,y1⟩:=yl
 exact hs i zs H x t (y1 xs (hl i zs H (Nat.le_of_lt hi) p)) hi p ht
theorem ni{tb:TS}{D:dj}(Pv:Nat→St→Hp→Prop)(h0:Pv 0 σ H)(hl:∀ i σ H,i≤xs.length→Pv i σ H→SqL K H a xs)
  (hs:∀ i x t σ H,xs[i]? = some x→Pv i σ H→H t=none→g (.ref t) σ (upd H t (.tup [.int i,x])) fun σ2 H2=>tb { D with nx:=Pv (i+1),ct:=Pv (i+1),bk:=D.nx } σ2 H2) (hd:∀ σ H,Pv xs.length σ H→D.nx σ H):iL (rf K a) g tb D σ H:=by
 refine j5 xs.length Pv h0 (fun i σ H hi p=>⟨xs,xs[i],hl i σ H (Nat.le_of_lt hi) p,by simp[hi]⟩) (fun σ H p=>⟨xs,hl _ σ H (Nat.le_refl _) p,Nat.le_refl _⟩) (fun i σ H v H' hi p yl=>?_) hd
 obtain⟨t,x,ht,rfl,rfl,y1⟩:=yl
 exact hs i x t σ H (y1 xs (hl i σ H (Nat.le_of_lt hi) p)) p ht
theorem ye{tb:TS}{D:dj}(Pv:Nat→St→Hp→Prop)(hn:xs.length=ys.length)(h0:Pv 0 σ H)(hl:∀ i σ H,i≤xs.length→Pv i σ H→SqL K H a xs∧SqL K H b ys)
  (hs:∀ i x y t σ H,xs[i]? = some x→ys[i]? = some y→Pv i σ H→H t=none→g (.ref t) σ (upd H t (.tup [x,y])) fun σ2 H2=>tb { D with nx:=Pv (i+1),ct:=Pv (i+1),bk:=D.nx } σ2 H2) (hd:∀ σ H,Pv xs.length σ H→D.nx σ H):iL (Af K a b) g tb D σ H:=by
 refine j5 xs.length Pv h0 (fun i σ H hi p=>⟨xs,ys,xs[i],ys[i],(hl i σ H (Nat.le_of_lt hi) p).1,(hl i σ H (Nat.le_of_lt hi) p).2,by simp[hi],by simp[hn ▸ hi]⟩) (fun σ H p=>⟨xs,ys,(hl _ σ H (Nat.le_refl _) p).1,(hl _ σ H (Nat.le_refl _) p).2,.inl (Nat.le_refl _)⟩) (fun i σ H v H' hi p yl=>?_) hd
 obtain⟨t,x,y,ht,rfl,rfl,y1,y2⟩:=yl
 exact hs i x y t σ H (y1 xs (hl i σ H (Nat.le_of_lt hi) p).1) (y2 ys (hl i σ H (Nat.le_of_lt hi) p).2) p ht
def tH(n i:Nat)(Pv:Nat→List V→Hp→Prop)(ys:List V)(H:Hp):Prop:=∃ m',m'<n - i∧(m'=n - (i+1)∧i+1≤n∧Pv (i+1) ys H)
theorem Fh{n i:Nat}{Pv:Nat→List V→Hp→Prop}{ys:List V}{H:Hp}(hi:i<n)(h:Pv (i+1) ys H):tH n i Pv ys H:=⟨n - (i+1),by omega,rfl,hi,h⟩
theorem Dv{n i:Nat}{Pv:Nat→List V→Hp→Prop}{D:Addr}{ys:List V}{y:V}{H:Hp}(hi:i<n)(hlen:ys.length≤i)(hz:n≤sizeLine)(h1:H D=some (.lst ys))(h2:Pv (i+1) (ys++[y]) (upd H D (.lst (ys++[y])))):i8 n i Pv D ys y H:=
 ⟨h1,by omega,n - (i+1),by omega,rfl,hi,h2⟩
def tO(n i:Nat)(Pv:Nat→List V→Hp→Prop)(D:Addr)(ys:List V)(tc:TT)(te:TE)(σ : St)(H:Hp):Prop:=
 tc σ H fun b H4=>if b=true then te σ H4 (i8 n i Pv D ys) else tH n i Pv ys H4
theorem yi{n i:Nat}{Pv:Nat→List V→Hp→Prop}{D:Addr}{ys:List V}{tc:TT}{te:TE}{σ : St}{H:Hp}:tO n i Pv D ys tc te σ H=tc σ H fun b H4=>if b=true then te σ H4 (i8 n i Pv D ys) else tH n i Pv ys H4:=rfl
theorem yS{J:It}{tc:TT}(n:Nat)(Pv:Nat→List V→Hp→Prop)(h0:Pv 0 [] H)(hgo:∀ i ys H,i<n→Pv i ys H→J.go i H)(hst:∀ ys H,Pv n ys H→J.stop n H)
  (hs:∀ i ys H x H',i<n→Pv i ys H→J.yld i H x H'→g x (σ++List.replicate nT none) H' (tO n i Pv D ys tc te))
  (hd:∀ ys H,Pv n ys H→Q (.ref D) H):gg J g tc te nT σ D Q H:=by
 refine⟨fun i m ys H=>m=n - i∧i≤n∧Pv i ys H,⟨n,by simp,Nat.zero_le _,h0⟩,?_⟩
 rintro i m ys H ⟨rfl,hi,p⟩
 by_cases hlt:i<n
 ·exact .inr ⟨hgo i ys H hlt p,fun x H' y=>hs i ys H x H' hlt p y⟩
 ·have e:i=n:=by omega
  subst e;exact .inl ⟨hst ys H p,hd ys H p⟩
end
end L2
namespace L2
open PySem PySem.Spec PyProof.Rows
end L2
namespace L2
open PySem PySem.Spec PyProof.Rows
set_option genInjectivity false in
set_option genSizeOf false in
structure IK (prog:Program) (w:World) (κ : Type) [DecidableEq κ] where
 is:Heap→κ→Value→Prop
 hash:κ→Int
 draws:κ→Nat
 deep:Nat
 inj:∀ {h:Heap} {v:Value} {x y:κ},is h x v→is h y v→x=y
 keeps:∀ {h h':Heap} {k:κ} {v:Value} {d:Addr} {o:Obj} {es ep},is h k v→h.get? d=some o→o.data = .dict es ep→Heap.SameBut d h h'→is h' k v
 pyHash:∀ {A:Around} {E:Value→Shared→Prop} {s:Shared} {k:κ} {v:Value} {Q:Int→Shared→Prop},A.units+deep<cLine→is s.heap k v→Q (hash k) { s with toks:=s.toks+draws k }→
  wpAny (model prog w) A (PySem.pyHash v) Q E s
 eqBool:∀ {A:Around} {E:Value→Shared→Prop} {s:Shared} {x y:κ} {u v:Value} {Q:Bool→Shared→Prop},A.units+deep<cLine→is s.heap x u→is s.heap y v→Q (decide (x=y)) s→
  wpAny (model prog w) A (PySem.eqBool u v) Q E s
 quiet:∀ {A:Around} {E:Value→Shared→Prop} {s:Shared} {k:κ} {v:Value} {n:Nat} {Q:Bool→Shared→Prop},is s.heap k v→Q true s→wpAny (model prog w) A (eqIsQuiet (n+deep) v) Q E s
section
variable{prog:Program}{w:World}{κ : Type}[DecidableEq κ](K:IK prog w κ)
inductive IsItems (h:Heap):List κ→List Value→Prop
 | nil:IsItems h [] []
 | cons {k:κ} {v:Value} {ks:List κ} {vs:List Value}:K.is h k v→IsItems h ks vs→IsItems h (k::ks) (v::vs)
def IsTupK(h:Heap)(ks:List κ)(v:Value):Prop:=∃ a o items n,v = .ref a∧h.get? a=some o∧o.cls = .type "tuple" ∧ o.data = .seq items n∧IsItems K h ks items.toList
variable{K}
theorem IsItems.inj{h:Heap}:∀ {x y:List κ} {vs:List Value},IsItems K h x vs→IsItems K h y vs→x=y
 | _,_,_,.nil,.nil=>rfl
 | _,_,_,.cons a b,.cons c d=>by rw[K.inj a c,IsItems.inj b d]
theorem IsItems.keeps{h h':Heap}{d:Addr}{o:Obj}{es ep}(ho:h.get? d=some o)(hd:o.data = .dict es ep)(hs:Heap.SameBut d h h'):∀ {x:List κ} {vs:List Value},IsItems K h x vs→IsItems K h' x vs
 | _,_,.nil=>.nil
 | _,_,.cons a b=>.cons (K.keeps a ho hd hs) (b.keeps ho hd hs)
theorem IsItems.len{h:Heap}:∀ {x:List κ} {vs:List Value},IsItems K h x vs→x.length=vs.length
 | _,_,.nil=>rfl
 | _,_,.cons _ b=>by rw[List.length_cons,List.length_cons,b.len]
def im(K:IK prog w κ)(ks:List κ):Nat:=(ks.map K.draws).sum
def pZ(K:IK prog w κ)(ks:List κ):Int:=reduceHash (Builtin.Tuple.tupleHashOf (ks.map K.hash))
theorem jJ{A:Around}{E:Value→Shared→Prop}{s:Shared}{ks:List κ}{v:Value}{Q:Int→Shared→Prop}(hu:A.units+(K.deep+1)<cLine)(hk:IsTupK K s.heap ks v)(h:Q (pZ K ks) { s with toks:=s.toks+(im K ks+1) }) :
  wpAny (model prog w) A (PySem.pyHash v) Q E s:=by
 obtain⟨a,o,items,n,rfl,ho,hc,hd,hi⟩:=hk
 have hT:s.TypeIs (.ref a) "tuple" := ⟨o,ho,hc⟩
 unfold PySem.pyHash
 first | unfold pyHashByItsType | skip
 first | refine wpAny_bind (wpAny_cRoomFor_or (.inr (by omega)) ?_) | skip
 refine wpAny_bind (wpAny_specialOf hT PySem.F.slot_tuple_hash.lookup ?_)
 rw[if_neg (by rw[beq_builtin_none]; exact Bool.false_ne_true)]
 refine wpAny_bind (wpAny_specialOf hT PySem.F.slot_tuple_hash.lookup ?_)
 show wpAny _ _ (callSpecialIfBoundUnlessNone? (.ref a) "__hash__" _ >>= _) Q E s
 refine wpAny_bind (wpAny_callSpecialIfBoundUnlessNone?_slot hT PySem.F.slot_tuple_hash (wpAny_call_entry PySem.F.slot_tuple_hash hT
  PySem.F.entry_tuple_hash ?_ (PySem.F.args_tuple_hash_1 _)))
 show wpAny _ _ (Builtin.Tuple.tupleItemsOf (.ref a) >>= _) _ _ s
 refine wpAny_bind (wpAny_tupleItemsOf ho hd (wpAny_bind ?_))
 rw[← Array.forIn_toList];refine wpAny_forIn_list _ (fun rest (b:Array Int) s'=>∃ done left,ks=done++left∧IsItems K s.heap left rest∧b.toList=done.map K.hash∧s'={ s with toks:=s.toks+im K done }) _ ?_ ?_ _ _ ⟨[],ks,rfl,hi,rfl,rfl⟩
 ·rintro x rest b s' ⟨done,left,rfl,hl,hb,rfl⟩
  cases hl with
  | @cons k _ ks' _ h1 hl'=>
   have e:im K (done++[k])=im K done+K.draws k:=by simp[im]
   refine wpAny_bind (K.pyHash (show A.in1.units+K.deep<cLine from by show A.units+1+K.deep<cLine; omega) h1 ?_)
   have fin:∃ done' left',done++k::ks'=done'++left'∧IsItems K s.heap left' rest∧(b.push (K.hash k)).toList=done'.map K.hash∧({ s with toks:=s.toks+im K done+K.draws k }:Shared)={ s with toks:=s.toks+im K done' }:=
    ⟨done++[k],ks',by simp,hl',by simp[hb],by rw[e,Nat.add_assoc]⟩
   first
    | exact wpAny_pure fin
    | exact wpAny_bind (wpAny_pure (wpAny_pure fin))
 ·rintro b s' ⟨done,left,rfl,hl,hb,rfl⟩
  cases hl;rw[List.append_nil]at h
  show wpAny _ _ (retInt (Builtin.Tuple.tupleHashOf b.toList)) _ _ _
  rw[hb];refine wpAny_ret_mkInt ?_
  unfold pZ reduceHash at h;show wpAny _ _ (if (decide (-(2:Int) ^ 63≤Builtin.Tuple.tupleHashOf (done.map K.hash))&&decide (Builtin.Tuple.tupleHashOf (done.map K.hash)<2 ^ 63))=true then _ else _) Q E _
  by_cases hr:(decide (-(2:Int) ^ 63≤Builtin.Tuple.tupleHashOf (done.map K.hash))&&decide (Builtin.Tuple.tupleHashOf (done.map K.hash)<2 ^ 63))=true
  ·rw[if_pos hr]at h ⊢
   exact wpAny_pure (by simpa [Nat.add_assoc] using h)
  ·rw[if_neg hr]at h ⊢
   exact wpAny_bind (wpAny_rule (wpAny_pure (by simpa [Nat.add_assoc] using h)))
theorem r_{A:Around}{E:Value→Shared→Prop}{s:Shared}{x y:List κ}{a b:Addr}{P:Fin→Shared→Prop}(hu:A.units+K.deep<cLine)(hx:IsTupK K s.heap x (.ref a))(hy:IsTupK K s.heap y (.ref b))(h:P (.done (.ret (.bool (decide (x=y))))) s) :
  wpAny (model prog w) A (Builtin.«tuple.__eq__» ⟨[.ref a,.ref b],[]⟩) P E s:=by
 obtain⟨_,oa,xs,na,e1,hoa,ca,hda,hia⟩:=hx
 obtain⟨_,ob,ys,nb,e2,hob,cb,hdb,hib⟩:=hy
 cases e1
 cases e2;show wpAny _ _ (isInstance (.ref b) (.type "tuple") >>= _) _ _ s
 refine wpAny_bind (wpAny_isInstance ⟨ob,hob,cb⟩ isSubtype_tuple_tuple ?_)
 simp only[Bool.not_true,Bool.false_eq_true,if_false]
 refine wpAny_bind (wpAny_tupleItemsOf hoa hda (wpAny_bind (wpAny_tupleItemsOf hob hdb (wpAny_bind ?_))))
 refine wpAny_forIn_list _ (fun rest r s'=>r.1=none∧s'=s∧∃ x' y' xs' ys',rest=List.zip xs' ys'∧IsItems K s.heap x' xs'∧IsItems K s.heap y' ys'∧decide (x'=y')=decide (x=y)∧(xs'.length == ys'.length)=(xs.size == ys.size)) _ ?_ ?_ _ _
  ⟨rfl,rfl,x,y,xs.toList,ys.toList,rfl,hia,hib,rfl,by simp⟩
 ·rintro⟨u,v⟩ rest r s' ⟨hr,rfl,x',y',xs',ys',hz,hx',hy',hdec,hlen⟩
  cases hx' with
  | nil=>simp at hz
  | @cons k1 u' x'' xs'' h1 hx''=>
   cases hy' with
   | nil=>simp at hz
   | @cons k2 v' y'' ys'' h2 hy''=>
    simp only[List.zip_cons_cons,List.cons.injEq,Prod.mk.injEq]at hz
    obtain⟨⟨rfl,rfl⟩,rfl⟩:=hz
    refine wpAny_bind (K.eqBool (x:=k1) (y:=k2) hu h1 h2 ?_)
    by_cases hk:k1=k2
    ·subst hk
     rw[decide_eq_true rfl];simp only[Bool.not_true,Bool.false_eq_true,if_false]
     refine wpAny_pure ⟨rfl,rfl,x'',y'',xs'',ys'',rfl,hx'',hy'',?_,by simpa using hlen⟩
     rw[← hdec]
     by_cases hxy:x''=y'' <;> simp[hxy]
    ·rw[decide_eq_false hk]
     simp only[Bool.not_false,if_true]
     have hf:decide (x=y)=false:=by rw[← hdec]; simp[hk]
     rw[hf]at h
     exact wpAny_bind (wpAny_pure (wpAny_pure (wpAny_pure h)))
 ·rintro⟨r1,r2⟩ s' ⟨hr,rfl,x',y',xs',ys',hz,hx',hy',hdec,hlen⟩
  simp only at hr
  subst hr;refine wpAny_pure ?_
  have hfin:(xs.size == ys.size)=decide (x=y):=by
   rw[← hdec,← hlen]
   cases hx' with
   | nil=>cases hy' <;> simp
   | cons _ _=>
    cases hy' with
    | nil=>simp
    | cons _ _=>simp at hz
  show P (.done (.ret (.bool (xs.size == ys.size)))) s'
  rw[hfin]; exact h
theorem mO{A:Around}{E:Value→Shared→Prop}{s:Shared}{x y:List κ}{u v:Value}{Q:Bool→Shared→Prop}(hu:A.units+(K.deep+1)<cLine)(hx:IsTupK K s.heap x u)(hy:IsTupK K s.heap y v)(h:Q (decide (x=y)) s) :
  wpAny (model prog w) A (PySem.eqBool u v) Q E s:=by
 have hx0:=hx;have hy0:=hy;obtain⟨a,oa,xs,na,rfl,hoa,ca,hda,hia⟩:=hx
 obtain⟨b,ob,ys,nb,rfl,hob,cb,hdb,hib⟩:=hy
 unfold PySem.eqBool
 try with_reducible refine wpAny_holding ?_
 show wpAny _ _ (if (Value.ref a == Value.ref b)=true then _ else _) Q E s
 by_cases hab:(Value.ref a == Value.ref b)=true
 ·rw[if_pos hab]
  have e:a=b:=by have:=eq_of_beq hab; injection this
  subst e;rw[hoa]at hob
  cases hob;rw[hda]at hdb
  injection hdb with e1 _
  subst e1;rw[decide_eq_true (hia.inj hib)]at h
  exact wpAny_bind (wpAny_rule (wpAny_pure h))
 ·rw[if_neg hab]
  have ta:s.TypeIs (.ref a) "tuple" := ⟨oa,hoa,ca⟩
  have tb:s.TypeIs (.ref b) "tuple" := ⟨ob,hob,cb⟩
  refine wpAny_bind (wpAny_richCompare_same_room (op:=.Eq) ta tb PySem.F.slot_tuple_eq (wpAny_call_entry PySem.F.slot_tuple_eq ta PySem.F.entry_tuple_eq ?_ (PySem.F.args_tuple_eq_2 _ _)) (by omega))
  refine r_ (K:=K) ?_ hx0 hy0 ⟨_,rfl,(fun e=>nomatch e),wpAny_truthy_bool h⟩
  show A.units+1+K.deep<cLine
  omega
theorem iY{A:Around}{E:Value→Shared→Prop}{s:Shared}{ks:List κ}{v:Value}{n:Nat}{Q:Bool→Shared→Prop}(hk:IsTupK K s.heap ks v)(h:Q true s):wpAny (model prog w) A (eqIsQuiet (n+(K.deep+1)) v) Q E s:=by
 obtain⟨a,o,items,m,rfl,ho,hc,hd,hi⟩:=hk
 have hT:s.TypeIs (.ref a) "tuple" := ⟨o,ho,hc⟩
 rw[show n+(K.deep+1)=(n+K.deep)+1 from rfl];unfold eqIsQuiet;refine wpAny_bind (wpAny_specialOf hT PySem.F.slot_tuple_eq.lookup ?_)
 show wpAny _ _ (isInstance (.ref a) (.type "tuple") >>= _) _ _ s
 refine wpAny_bind (wpAny_isInstance hT isSubtype_tuple_tuple ?_)
 simp only[Bool.not_true,Bool.false_eq_true,if_false]
 refine wpAny_bind (wpAny_seqItems ho hd (wpAny_bind ?_))
 show wpAny _ _ (forIn items _ _) _ _ s
 rw[← Array.forIn_toList];refine wpAny_forIn_list _ (fun rest r s'=>r.1=none∧s'=s∧∃ ks',IsItems K s.heap ks' rest) _ ?_ ?_ _ _ ⟨rfl,rfl,ks,hi⟩
 ·rintro v rest r s' ⟨hr,rfl,ks',hall⟩
  cases hall with
  | cons h1 h2=>
   refine wpAny_bind (K.quiet h1 ?_)
   simp only[Bool.not_true,Bool.false_eq_true,if_false]
   exact wpAny_pure ⟨rfl,rfl,_,h2⟩
 ·rintro⟨r1,r2⟩ s' ⟨hr,rfl,_⟩
  simp only at hr
  subst hr;exact wpAny_pure h
def sg(K:IK prog w κ):IK prog w (List κ) where
 is:=IsTupK K
 hash:=pZ K
 draws:=fun ks=>im K ks+1
 deep:=K.deep+1
 inj:=by
  rintro h v x y ⟨a,oa,xs,na,rfl,hoa,ca,hda,hia⟩ ⟨b,ob,ys,nb,e,hob,cb,hdb,hib⟩
  cases e;rw[hoa]at hob
  cases hob;rw[hda]at hdb
  injection hdb with e1 _
  subst e1;exact hia.inj hib
 keeps:=by
  rintro h h' k v d o es ep ⟨a,oa,xs,na,rfl,hoa,ca,hda,hia⟩ ho hd hs
  have hne:a≠d:=by
   rintro rfl
   rw[hoa]at ho
   cases ho;rw[hd]at hda; cases hda
  exact⟨a,oa,xs,na,rfl,(hs.2 a hne).trans hoa,ca,hda,hia.keeps ho hd hs⟩
 pyHash:=fun hu hk h=>jJ hu hk h
 eqBool:=fun hu hx hy h=>mO hu hx hy h
 quiet:=fun hk h=>iY hk h
def zD(K:IK prog w κ)(hd:K.deep≤7):HeapKind prog w (List κ) where
 is:=fun h k a=>IsTupK K h k (.ref a)
 hash:=pZ K
 draws:=fun ks=>im K ks+1
 room:=fun A=>A.units+(K.deep+1)<cLine
 inj:=(sg K).inj
 keeps:=(sg K).keeps
 pyHash:=fun hu hk h=>jJ hu hk h
 eqBool:=fun hu hx hy h=>mO hu hx hy h
 quiet:=fun {A E s k a Q} hk h=>by
  have q:=iY (n:=7 - K.deep) (A:=A) (E:=E) hk h
  rwa [show 7 - K.deep+(K.deep+1)=8 by omega]at q
end
end L2
namespace L2
open PySem PySem.Spec PyProof.Rows
def i_:Option Int→V
 | none=>.non
 | some i=>.int i
theorem ym{x y:Option Int}{v:Value}(a:RelV (i_ x) v)(b:RelV (i_ y) v):x=y:=by
 have e:=a.inj b
 cases x <;> cases y <;> simp_all [i_]
theorem m6(x:Option Int):cA (i_ x)=true:=by cases x <;> rfl
theorem Bh(x y:Option Int):fg (i_ x) (i_ y)=decide (x=y):=by
 cases x with
 | none=>cases y <;> rfl
 | some i=>
  cases y with
  | none=>rfl
  | some j=>
   show (i == j)=_
   by_cases h:i=j <;> simp[h]
theorem wc{prog:Program}{w:World}{A:Around}{E:Value→Shared→Prop}{s:Shared}{Q:Int→Shared→Prop}(h:Q 0xFCA86420 { s with toks:=s.toks+1 }):wpAny (model prog w) A (PySem.pyHash .none) Q E s:=by
 have hT:s.TypeIs .none "NoneType" := rfl
 unfold PySem.pyHash
 first | unfold pyHashByItsType | skip
 refine wpAny_bind ?_
 rw[cRoomFor,if_neg (by decide)]
 refine wpAny_pure (wpAny_bind (wpAny_specialOf hT PySem.F.slot_NoneType_hash.lookup ?_))
 rw[if_neg (by rw[beq_builtin_none]; exact Bool.false_ne_true)]
 refine wpAny_bind (wpAny_specialOf hT PySem.F.slot_NoneType_hash.lookup ?_)
 show wpAny _ _ (callSpecialIfBoundUnlessNone? .none "__hash__" _ >>= _) Q E s
 refine wpAny_bind (wpAny_callSpecialIfBoundUnlessNone?_slot hT PySem.F.slot_NoneType_hash (wpAny_call_entry PySem.F.slot_NoneType_hash hT
  PySem.F.entry_NoneType_hash ?_ (PySem.F.args_NoneType_hash_1 _)))
 show wpAny _ _ (retInt 0xFCA86420) _ _ s
 refine wpAny_ret_mkInt ?_
 exact wpAny_pure h
def eQ(prog:Program)(w:World):IK prog w (Option Int) where
 is:=fun _ k v=>RelV (i_ k) v
 hash:=fun k=>match k with
  | none=>0xFCA86420
  | some i=>hashInt i
 draws:=fun _=>1
 deep:=0
 inj:=fun a b=>ym a b
 keeps:=fun a _ _ _=>a
 pyHash:=fun {A E s k v Q} _ hk h=>by
  cases k with
  | none=>
   obtain rfl:v=Value.none:=hk
   exact wc h
  | some i=>
   obtain⟨t,rfl⟩:=(show ∃ t,v=Value.int i t from hk)
   exact wpAny_pyHash_int h
 eqBool:=fun {A E s x y u v Q} _ hx hy h=>by
  have q:=jO (A:=A) (s:=s) hx hy (m6 x) (m6 y);rw[Bh]at q
  exact q prog w E Q h
 quiet:=fun {A E s k v n Q} hk h=>by
  have e:carriedByValue v=true:=by
   cases k with
   | none=>obtain rfl:v=Value.none:=hk; rfl
   | some i=>obtain⟨t,rfl⟩:=(show ∃ t,v=Value.int i t from hk); rfl
  rw[eqIsQuiet_byValue _ e];exact wpAny_pure h
abbrev NI:=Sum Int (List (Option Int))
theorem IsTupK.tup{prog:Program}{w:World}{κ : Type}[DecidableEq κ]{K:IK prog w κ}{h:Heap}{l:List κ}{v:Value}(x:IsTupK K h l v):∃ a its,v = .ref a∧h.IsTuple a its:=by
 obtain⟨a,o,items,n,rfl,ho,hc,hd,hi⟩:=x
 exact⟨a,items,rfl,o,ho,hc,n,hd⟩
theorem rn{A:Around}{prog:Program}{w:World}(hu:A.units+1<cLine):A.units+((eQ prog w).deep+1)<cLine:=hu
end L2
namespace L2
open PySem PySem.Spec PyProof.Rows
abbrev yW:=Int × List (Option Int)
def nk(k:yW):List NI:=[.inl k.1,.inr k.2]
section
variable{P:Program}{w:World}{H:Hp}
end
section
variable{X:Cx}{pins:List (Addr × Obj)}{σ : St}{H:Hp}{s:Shared}{a b:Addr}{k:yW}{kvs:List (yW × V)}
theorem Paired.snoc{α β : Type}{F:α→β→Prop}{x:α}{y:β}(h:F x y):∀ {l:List α} {m:List β},Paired F l m→Paired F (l++[x]) (m++[y])
 | _,_,.nil=>.cons h .nil
 | _,_,.cons r t=>.cons r (Paired.snoc h t)
end
end L2
namespace L2
open PySem PySem.Spec PyProof.Rows PySem.SeqAt
section
variable{X:Cx}
def G9(K:PySem.W.Frag):R2:=fun x y H Q=>ik K x y H Q∨∃ a kvs k v,x = .ref a∧y=kV k∧H a=some (.dK kvs)∧aN kvs k=some v∧Q v H
theorem qh(K:PySem.W.Frag)(hK:X.K=K:=by rfl):IxR X (G9 K):=by
 intro value slice pins s σ H x y v u Q I rx ry h hs
 rcases h with h | ⟨a,kvs,k,z,rfl,rfl,e,l,q⟩
 ·exact aK K hK value slice pins s σ H x y v u Q I rx ry h hs
 ·cases rx
  obtain⟨_,hd,vs,rel,dd⟩:=iS I.hok (.inl e)
  obtain⟨w',hw,rw'⟩:=RelO.some_of (v:=z) (o:=valueAt vs k) (by rw[← l]; exact rel.val k)
  have hl:typeLookup (.type "dict") "__getitem__" = pure (some (.builtin "dict.__getitem__")):=PySem.F.slot_dict_getitem.lookup
  exact subscriptTail_builtinR (x:=w') dd.typeIs hl (wpAny_getItem_of (i6 ry) dd.mapOf hw ⟨rfl,z,H,I.tok _,rw',q⟩) hs
def tW:lZ:=fun o i v H Q=>∃ a kvs k,o = .ref a∧i=kV k∧H a=some (.dK kvs)∧kvs.length<sizeLine∧Q (upd H a (.dK (bC kvs k v)))
theorem lO{n:Nat}(hr:Room n X.A):PSet X tW:=by
 intro pins s σ H o i v ov iv u Q I ro ri rv h
 obtain⟨a,kvs,k,rfl,rfl,e,hl,q⟩:=h
 cases ro;exact mV (by have:=hr.un; omega) I (DPut.k e hl) ri rv fun s' I'=>⟨_,I',q⟩
end
section
variable{K:PySem.W.Frag}{H:Hp}{Q:VK}
theorem EqN.ints{n:Nat}{a c:Addr}{ss ts:List Int}(h1:SqL K H a (ss.map V.int))(h2:SqL K H c (ts.map V.int)):EqN K H (n+1) (.ref a) (.ref c) (decide (ss=ts)):=by
 refine .inr ⟨a,c,_,_,rfl,rfl,.inl ⟨h1,h2⟩,?_⟩
 by_cases hl:ss.length=ts.length
 ·refine .inl ⟨fun i=>ss.getD i 0 == ts.getD i 0,by simp[hl],fun i x y e1 e2=>?_,?_⟩
  ·rw[List.getElem?_map]at e1 e2
   cases q1:ss[i]? with
   | none=>rw[q1]at e1; cases e1
   | some u=>
    cases q2:ts[i]? with
    | none=>rw[q2]at e2; cases e2
    | some v=>
     rw[q1]at e1; rw[q2]at e2
     cases e1; cases e2
     dsimp only
     rw[List.getD_eq_getElem?_getD,List.getD_eq_getElem?_getD,q1,q2];exact EqN.flat rfl rfl
  ·rw[List.length_map]
   by_cases e:ss=ts
   ·subst e
    rw[decide_eq_true rfl]
    symm
    rw[List.all_eq_true];intro i _
    simp
   ·rw[decide_eq_false e]
    symm
    rw[List.all_eq_false]
    have:∃ i:Nat,ss[i]? ≠ ts[i]?:=by
     refine Classical.byContradiction fun hn=>e (List.ext_getElem? fun i=>?_)
     exact Classical.byContradiction fun h=>hn ⟨i,h⟩
    obtain⟨i,hi⟩:=this
    have hlt:i<ss.length:=by
     refine Classical.byContradiction fun hn=>hi ?_
     rw[List.getElem?_eq_none (by omega),List.getElem?_eq_none (by omega)]
    refine⟨i,List.mem_range.mpr hlt,?_⟩
    rw[List.getD_eq_getElem?_getD,List.getD_eq_getElem?_getD,List.getElem?_eq_getElem hlt,List.getElem?_eq_getElem (by omega)]
    rw[List.getElem?_eq_getElem hlt,List.getElem?_eq_getElem (by omega)]at hi
    simpa using hi
 ·have e:ss≠ts:=fun e=>hl (by rw[e])
  rw[decide_eq_false e];exact .inr ⟨h1,h2,by simpa using hl,rfl⟩
end
section
variable{X:Cx}
end
end L2
namespace L2
open PySem PySem.Spec PyProof.Rows PySem.SeqAt
theorem rA{X:Cx}:MtR X "list.pop" zk:=Cj
section
variable{K:PySem.W.Frag}{H:Hp}{Q:VK}
theorem AK(p:Addr):zk (.ref p) [] H Q=∃ xs y,H p=some (.lst xs)∧xs[xs.length - 1]? = some y∧Q y (upd H p (.lst xs.dropLast)):=
 propext ⟨fun ⟨_,xs,y,e1,_,q⟩=>by cases e1; exact⟨xs,y,q⟩,fun ⟨xs,y,q⟩=>⟨p,xs,y,rfl,rfl,q⟩⟩
end
theorem rk{X:Cx}(K:PySem.W.Frag){o:Expr}{to:TE}{name:Str}{apos cpos:Pos}{T id:String}{r:V→List V→Hp→VK→Prop}(pa:PlainAttrs T)(slot:Slot T name id)(hty:typeOf (.builtin id)=pure (.type "method_descriptor")) (hm:MtR X id r) (ho:PE X o to)
  (hbase:attributeBase o name X.env (eval o X.env)=eval o X.env:=by rfl) (hline:(apos.endLine == cpos.line)=true:=by rfl) (hK:X.K=K:=by rfl):PE X (.Call (.Attribute o name apos) [] [] cpos) (wZ K T r to):=hK ▸ DE pa slot hty hm ho hbase hline
end L2
namespace L2
open PySem PySem.Spec PyProof.Rows PySem.SeqAt
theorem rE:∀ (xs:List V) (us:List Value),xs.length=us.length→(∀ (j:Nat) x u,xs[j]? = some x→us[j]? = some u→RelV x u)→Vals xs us
 | [],[],_,_=>.nil
 | [],u::us,hl,_=>by simp at hl
 | x::xs,[],hl,_=>by simp at hl
 | x::xs,u::us,hl,h=>.cons (h 0 x u rfl rfl) (rE xs us (by simpa using hl) fun j a b e1 e2=>h (j+1) a b e1 e2)
section
variable{X:Cx}
end
section
variable{X:Cx}
end
section
variable{prog:Program}{w:World}{K:Type}[DecidableEq K]{knd:KeyKind prog w K}{A:Around}{E:Value→Shared→Prop}{s:Shared}
end
section
variable{X:Cx}
theorem i7{α β : Type}{F:α→β→Prop}:∀ {l:List α} {m:List β} {j:Nat} {a:α} {b:β},Paired F l m→l[j]? = some a→m[j]? = some b→F a b
 | _,_,0,_,_,.cons h _,e1,e2=>by
  cases e1; cases e2; exact h
 | _,_,j+1,_,_,.cons _ t,e1,e2=>i7 (j:=j) t e1 e2
 | _,_,0,_,_,.nil,e1,_=>by cases e1
 | _,_,_+1,_,_,.nil,e1,_=>by cases e1
end
end L2
namespace L2
open PySem PySem.Spec PyProof.Rows PySem.SeqAt
end L2
namespace L2
open PySem PySem.Spec PyProof.Rows PySem.SeqAt
section
variable{prog:Program}{w:World}{K:Type}[DecidableEq K]{knd:KeyKind prog w K}{A:Around}{E:Value→Shared→Prop}{s:Shared}{G:SetTable→Prop}
def Fo(knd:KeyKind prog w K)(l:List (Int × Value)):Prop:=l.Pairwise fun e e'=>∀ k,knd.is k e.2=true→knd.is k e'.2=false
structure C6 (knd:KeyKind prog w K) (G:SetTable→Prop) (o:Obj) (es:Array (Int × Value)) (ep:Nat) (t:SetTable) (S:K→Bool) (n:Nat):Prop where
 ex:o.ExactSet
 dat:o.data = .set es ep t
 el:ElemsOf knd es.toList
 mem:∀ k,S k=true ↔ ∃ e∈es.toList,knd.is k e.2=true
 few:es.size<scanBound
 fit:t.fits es.size=true
 num:es.size=n
 good:G t
 apart:Fo knd es.toList
theorem stored{h:Heap}{a:Addr}{o:Obj}{es:Array (Int × Value)}{ep:Nat}{t:SetTable}{S:K→Bool}{n:Nat}{es':Array (Int × Value)}{t':SetTable}{S':K→Bool}{n':Nat}(ho:h.get? a=some o)(T:C6 knd G o es ep t S n)
  (T':∀ o',o'.ExactSet→o'.data = .set es' (ep+1) t'→C6 knd G o' es' (ep+1) t' S' n'):∃ o',(h.update a (Obj.putSet es' t')).get? a=some o'∧C6 knd G o' es' (ep+1) t' S' n':=by
 have hp:=putSet_of es' t' T.dat;have hg:=Heap.get?_update_self (Obj.putSet es' t') ho (by rw[hp]; rfl)
 rw[hp]at hg
 exact⟨_,hg,T' _ T.ex rfl⟩
end
end L2
namespace L2
open PySem PySem.Spec PyProof.Rows PySem.SeqAt
section
variable{prog:Program}{w:World}{A:Around}{R:Result→Shared→Prop}{I:Addr}{fp wr:List Addr}{Gm:Array GenState→Array GenState→Prop}{n:Nat}{P:Nat→Value→Prop}{St:Nat→Shared→Prop}{L:Bool}
end
section
variable{prog:Program}{w:World}{A:Around}{E:Value→Shared→Prop}{s:Shared}
end
end L2
namespace L2
open PySem PySem.Spec PyProof.Rows PySem.SeqAt
section
variable{X:Cx}
end
end L2
namespace L2
open PySem PySem.Spec PyProof.Rows PySem.SeqAt
section
variable{M:Model}{A:Around}{E:Value→Shared→Prop}
end
end L2
namespace L2
open PySem PySem.Spec PyProof.Rows PySem.SeqAt
section
variable{prog:Program}{w:World}{A:Around}{E:Value→Shared→Prop}{s:Shared}
end
end L2
namespace L2
open PySem PySem.Spec PyProof.Rows PySem.SeqAt
section
variable{prog:Program}{w:World}{A:Around}{E:Value→Shared→Prop}{s:Shared}
end
end L2
namespace L2
open PySem PySem.Spec PyProof.Rows PySem.SeqAt
section
variable{prog:Program}{w:World}{A:Around}{E:Value→Shared→Prop}{s:Shared}
end
end L2
namespace L2
open PySem PySem.Spec PyProof.Rows PySem.SeqAt
section
variable{prog:Program}{w:World}{A:Around}{E:Value→Shared→Prop}{s:Shared}
end
end L2
namespace L2
open PySem PySem.Spec PyProof.Rows PySem.SeqAt
section
variable{prog:Program}{w:World}{A:Around}{E:Value→Shared→Prop}{s:Shared}
end
end L2
namespace L2
open PySem PySem.Spec PyProof.Rows PySem.SeqAt
section
variable{prog:Program}{w:World}{A:Around}{E:Value→Shared→Prop}{s:Shared}
end
section
variable{X:Cx}
end
end L2
namespace L2
open PySem PySem.Spec PyProof PyProof.Rows
section
variable{X:Cx}
end
end L2
namespace L2
open PySem PySem.Spec PyProof PyProof.Rows
inductive Ents (w:World):List DictEntry→List (Str × V)→Prop
 | nil:Ents w [] []
 | cons {x:Str} {t:Tok} {y:V} {v:Value} {es:List DictEntry} {kvs:List (Str × V)}:RelV y v→Ents w es kvs→Ents w (⟨PyData.keyHash w.params x,.str x t,v⟩::es) ((x,y)::kvs)
theorem Ents.vs{P:Program}{w:World}{es:List DictEntry}{kvs:List (Str × V)}(h:Ents w es kvs):∃ vs:List (Str × Value),KV kvs vs∧PySem.Pairs (PySem.strKind P w) es vs∧vs.map (·.1)=kvs.map (·.1)∧∀ e∈es,∃ k,(PySem.strKind P w).is k e.key=true∧e.hash=(PySem.strKind P w).hash k:=by
 induction h with
 | nil=>exact⟨[],.nil,.nil,rfl,fun _ h=>nomatch h⟩
 | @cons x t y v es kvs r _ ih=>
  obtain⟨vs,h1,h2,h3,h4⟩:=ih
  have hx:(PySem.strKind P w).is x (.str x t)=true:=by show Value.isStrOf x (.str x t)=true; simp[Value.isStrOf]
  refine⟨(x,v)::vs,.cons ⟨rfl,r⟩ h1,.cons hx rfl h2,by rw[List.map_cons,List.map_cons,h3],fun e he=>?_⟩
  rcases List.mem_cons.mp he with rfl | he
  ·exact⟨x,hx,rfl⟩
  ·exact h4 e he
structure ModD (w:World) (K:PySem.W.Frag) (d:Addr) (kvs:List (Str × V)):Prop where
 low:(d == sysModules)=false
 nd:(kvs.map (·.1)).Nodup
 at':∃ (o:Obj) (es:List DictEntry) (ep:Nat),K.lookup d=some o∧o.ExactDict∧o.data = .dict es.toArray ep∧Ents w es kvs
section
variable{X:Cx}{pins:List (Addr × Obj)}{σ : St}{H:Hp}{s:Shared}{d:Addr}{kvs:List (Str × V)}
theorem ModD.dict(h:ModD X.w X.K d kvs)(I:Inv X pins σ H s):∃ vs:List (Str × Value),KV kvs vs∧s.heap.DictOf (PySem.strKind X.prog X.w) d vs∧∃ ob,s.heap.get? d=some ob∧ob.dict=none:=by
 obtain⟨o,es,ep,h1,h2,h3,h4⟩:=h.at'
 obtain⟨vs,r1,r2,r3,r4⟩:=h4.vs (P:=X.prog)
 have e:=I.kIn d o h1;exact⟨vs,r1,⟨o,es.toArray,ep,e,h2,h3,fun x hx=>r4 x (by simpa using hx),by simpa using r2,by rw[r3]; exact h.nd⟩,o,e,h2.2.1⟩
theorem wG{P:Program}{w:World}{k:Str}{u:Value}(r:RelV (.str k) u):(PySem.strKind P w).is k u=true:=by
 obtain⟨t,rfl⟩:=r
 show Value.isStrOf k (.str k t)=true
 simp[Value.isStrOf]
end
section
variable{X:Cx}
def Jj(w:World)(K:PySem.W.Frag):R2:=fun x y H Q=>∃ d kvs k z,x = .ref d∧y = .str k∧ModD w K d kvs∧aN kvs k=some z∧Q z H
theorem GR(w:World)(K:PySem.W.Frag)(hw:X.w=w:=by rfl)(hK:X.K=K:=by rfl):IxR X (Jj w K):=by
 subst hw hK;intro value slice pins s σ H x y v u Q I rx ry h hs
 obtain⟨d,kvs,k,z,rfl,rfl,m,l,q⟩:=h
 cases rx;obtain⟨vs,rel,dd,_⟩:=m.dict I
 obtain⟨w',hw,rw'⟩:=RelO.some_of (v:=z) (o:=valueAt vs k) (by rw[← l]; exact rel.val k)
 have hl:typeLookup (.type "dict") "__getitem__" = pure (some (.builtin "dict.__getitem__")):=PySem.F.slot_dict_getitem.lookup
 exact subscriptTail_builtinR (x:=w') dd.typeIs hl (wpAny_getItem_of (wG ry) dd.mapOf hw ⟨rfl,z,H,I.tok _,rw',q⟩) hs
def EY(w:World)(K:PySem.W.Frag):V→List V→Hp→VK→Prop:=fun x xs H Q=>∃ d kvs k z,x = .ref d∧xs=[.str k,z]∧ModD w K d kvs∧Q ((aN kvs k).getD z) H
theorem AY(w:World)(K:PySem.W.Frag)(hw:X.w=w:=by rfl)(hK:X.K=K:=by rfl):MtR X "dict.get" (EY w K):=by
 subst hw hK;intro pins s σ H x vs v us Q I rx rv h
 obtain⟨d,kvs,k,z,rfl,rfl,m,q⟩:=h
 cases rx;obtain⟨u,r,rfl,ru,rr⟩:=j0 rv
 obtain⟨vs,rel,dd,_⟩:=m.dict I
 refine call_meetsIn PySem.F.slot_dict_get dd.typeIs PySem.F.entry_dict_get (PySem.F.args_dict_get_3 _ _ _) (meets_dict_get_default (PySem.strKind X.prog X.w) d (wG ru) m.low r) ⟨_,dd.mapOf,_,H,I.tok _,?_,q⟩
 exact(rel.val k).getD rr
def CB(w:World)(K:PySem.W.Frag)(r:V→List V→Hp→VK→Prop)(to:TE)(t:TA):TE:=fun σ H Q=>to σ H fun x H1=>(∃ d kvs,x = .ref d∧ModD w K d kvs)∧t σ H1 fun xs H2=>r x xs H2 Q
theorem Df{o e:Expr}{es:List Expr}{to:TE}{t:TA}{name:Str}{apos cpos:Pos}{id:String}{r:V→List V→Hp→VK→Prop}(w:World)(K:PySem.W.Frag)(pa:PlainAttrs "dict") (slot:Slot "dict" name id) (hty:typeOf (.builtin id)=pure (.type "method_descriptor")) (hm:MtR X id r) (ho:PE X o to) (ha:PA X (e::es) t)
  (hbase:attributeBase o name X.env (eval o X.env)=eval o X.env:=by rfl)
  (hfew:((backTo cpos (starEach (e::es) X.env)).all (fun x=>!x.1)&&(backToKw cpos (keywordEach [] X.env)).all (fun x=>x.1.isSome)&&decide ((e::es).length+([]:List Keyword).length+(if ([]:List Keyword).isEmpty then 0 else 1)<30))=true:=by rfl)
  (hline:(apos.endLine == cpos.line)=true:=by rfl) (hs:starEach (e::es) X.env=(false,eval e X.env)::starEach es X.env:=by rfl) (hplain:(backTo cpos (starEach es X.env)).any (·.1)=false:=by rfl) (hw:X.w=w:=by rfl) (hK:X.K=K:=by rfl) :
  PE X (.Call (.Attribute o name apos) (e::es) [] cpos) (CB w K r to t):=by
 subst hw hK;intro pins s σ H Q I h
 refine wpAny_Call_method_late hbase hfew hline rfl (bj (ho pins s σ H _ I h) fun v s1 ⟨x,H1,I1,r1,ty,q1⟩=>?_)
 obtain⟨d,kvs,rfl,m⟩:=ty
 have e1:v = .ref d:=r1
 subst e1;obtain⟨vs,rel,dd,ob,eo,en⟩:=m.dict I1
 refine⟨"dict", id,pa,slot,hty,dd.typeIs,fun a ea=>⟨ob,by cases ea; exact eo,en⟩,?_⟩
 have hA:=ha cpos pins s1 σ H1 _ I1 q1;rw[hs]at hA ⊢
 refine Calls.callWith_builtin (by show (false||(backTo cpos (starEach es X.env)).any (·.1))=false; rw[hplain] <;> rfl) (Calls.evalArgs_plain ?_)
 exact bj hA fun us s2 ⟨vs,H2,I2,r2,q2⟩=>hm pins s2 σ H2 _ vs _ us Q I2 r1 r2 q2
end
theorem AO{w:World}{K:PySem.W.Frag}{r:V→List V→Hp→VK→Prop}{to:TE}{t:TA}{σ : St}{H:Hp}{Q:VK}:CB w K r to t σ H Q=to σ H fun x H1=>(∃ d kvs,x = .ref d∧ModD w K d kvs)∧t σ H1 fun xs H2=>r x xs H2 Q:=rfl
end L2
namespace L2
open PySem PySem.Spec PyProof PyProof.Rows
section
variable{prog:Program}{w:World}{A:Around}{E:Value→Shared→Prop}{s:Shared}
def TSt(i t:Addr)(zs:Array Value)(k:Nat)(h:Heap):Prop:=h.IsTupleIter i t k∧h.IsTuple t zs
theorem TSt.ext{i t b:Addr}{zs:Array Value}{k:Nat}{h h':Heap}(x:TSt i t zs k h)(hs:Heap.ExtBut b h h')(n1:i≠b)(n2:t≠b):TSt i t zs k h':=⟨x.1.extBut hs n1,x.2.extBut hs n2⟩
theorem kO{i t:Addr}{k:Nat}{zs:Array Value}{v:Value}{Q:Value→Shared→Prop}(st:TSt i t zs k s.heap)(nit:t≠i)(hv:zs[k]? = some v)
  (q:∀ h',TSt i t zs (k+1) h'→Heap.SameBut i s.heap h'→Q v { s with heap:=h' }):wpAny (model prog w) A (Builtin.SmallTypes.nextOf (.ref i)) Q E s:=by
 obtain⟨hi,ht⟩:=id st
 obtain⟨ob,e1,e2,e3⟩:=id hi
 obtain⟨ot,f1,_,m,f2⟩:=id ht
 unfold Builtin.SmallTypes.nextOf;refine wpAny_bind (wpAny_callSpecial?_slot (name:=Str.ofString "__next__") hi.typeIs PySem.F.slot_tuple_iterator_next (wpAny_call_entry PySem.F.slot_tuple_iterator_next hi.typeIs PySem.F.entry_tuple_iterator_next ?_ (PySem.F.args_tuple_iterator_next_1 _)))
 show wpAny _ _ (field (.ref i) 0 >>= _) _ _ s
 refine wpAny_bind (wpAny_field e1 e3 (x:=.ref t) rfl ?_)
 show wpAny _ _ (if (Value.ref t == Value.none)=true then _ else _) _ _ s
 have hno:¬ ((Value.ref t == Value.none)=true):=Bool.false_ne_true
 rw[if_neg hno];show wpAny _ _ (field (.ref i) 1 >>= _) _ _ s
 refine wpAny_bind (wpAny_field e1 e3 (x:=.int k 0) rfl ?_)
 show wpAny _ _ (seqItems? (.ref t) >>= _) _ _ s
 refine wpAny_bind (wpAny_seqItems f1 f2 ?_)
 simp only[Int.toNat_natCast,hv]
 refine wpAny_bind (wpAny_setField e1 e3 (by simp) (wpAny_pure ⟨v,rfl,wpAny_pure (q _ ⟨?_,?_⟩ (Heap.SameBut.update ..))⟩))
 ·exact⟨_,Heap.get?_update_self _ e1 (Obj.isFreed_of_fields (Obj.data_mapFields e3 _)),(Obj.cls_mapFields ..).trans e2,by rw[Obj.data_mapFields e3]; simp[rawInt]⟩
 ·exact ht.extBut (Heap.SameBut.update ..).extBut nit
theorem qZ{i t:Addr}{k:Nat}{zs:Array Value}{Q:Value→Shared→Prop}(hh:A.handled=none)(st:TSt i t zs k s.heap)(hv:zs[k]? = none)
  (q:∀ h' e,Heap.ExtBut i s.heap h'→(∃ o,h'.get? e=some o∧o.cls = .type "StopIteration")→E (.ref e) { s with heap:=h' }):wpAny (model prog w) A (Builtin.SmallTypes.nextOf (.ref i)) Q E s:=by
 obtain⟨hi,ht⟩:=id st
 obtain⟨ob,e1,e2,e3⟩:=id hi
 obtain⟨ot,f1,_,m,f2⟩:=id ht
 unfold Builtin.SmallTypes.nextOf;refine wpAny_bind (wpAny_callSpecial?_slot (name:=Str.ofString "__next__") hi.typeIs PySem.F.slot_tuple_iterator_next (wpAny_call_entry PySem.F.slot_tuple_iterator_next hi.typeIs PySem.F.entry_tuple_iterator_next ?_ (PySem.F.args_tuple_iterator_next_1 _)))
 show wpAny _ _ (field (.ref i) 0 >>= _) _ _ s
 refine wpAny_bind (wpAny_field e1 e3 (x:=.ref t) rfl ?_)
 show wpAny _ _ (if (Value.ref t == Value.none)=true then _ else _) _ _ s
 have hno:¬ ((Value.ref t == Value.none)=true):=Bool.false_ne_true
 rw[if_neg hno];show wpAny _ _ (field (.ref i) 1 >>= _) _ _ s
 refine wpAny_bind (wpAny_field e1 e3 (x:=.int k 0) rfl ?_)
 show wpAny _ _ (seqItems? (.ref t) >>= _) _ _ s
 refine wpAny_bind (wpAny_seqItems f1 f2 ?_)
 simp only[Int.toNat_natCast,hv]
 refine wpAny_bind (wpAny_rule (wpAny_bind (wpAny_setField e1 e3 (by simp) ?_)))
 show wpAny _ _ (newExc (.type "StopIteration") [] >>= fun z=>_) _ _ _
 refine wpAny_bind ?_
 simp only[newTuple,newExc]
 refine wpAny_bind (wpAny_newObj_type (hd:=by size_fits) ?_)
 refine wpAny_bind (m:=firstArgMember _ _) (wpAny_of_eq (a:=Value.none) (by first | (simp only[firstArgMember]; rfl) | rfl) ?_)
 refine wpAny_newObj_type (hd:=by size_fits) ?_
 simp only[raiseNew]
 refine wpAny_bind (wpAny_handled ?_)
 have hn:A.in1.handled=none:=hh
 first | rw[hn] | rw[hh]
 refine wpAny_bind (wpAny_pure (wpAny_throw (q _ _ (((Heap.SameBut.update ..).extBut.push _).push _) ⟨_,Heap.get?_push_size _ rfl,rfl⟩)))
variable{z TI TO i1 i2 t1 t2:Addr}{xs ys:Array Value}{k1 k2:Nat}{a b:Value}
theorem vC{x y:Value}{Q:Value→Shared→Prop}(D:ZipApart z TI TO i1 i2 t1 t2)(gz:IsZip s.heap z TI TO .none)(gI:IsPair s.heap TI (.ref i1) (.ref i2))(gO:IsPair s.heap TO a b)
  (g1:TSt i1 t1 xs k1 s.heap) (g2:TSt i2 t2 ys k2 s.heap) (hx:xs[k1]? = some x) (hy:ys[k2]? = some y)
  (q:∀ h',IsZip h' z TI TO (rawInt s.heap.objs.size)→IsPair h' TO x y→TSt i1 t1 xs (k1+1) h'→TSt i2 t2 ys (k2+1) h'→IsPair h' s.heap.objs.size x y→h'.objs.size=s.heap.objs.size+1→
   (∀ c o,c≠z→c≠TO→c≠i1→c≠i2→s.heap.get? c=some o→h'.get? c=some o)→Q (.ref s.heap.objs.size) { s with heap:=h' }) :
  wpAny (model prog w) A (Builtin.«zip.__next__» ⟨[.ref z],[]⟩) (fun fin s'=>∃ v,fin = .done (.ret v)∧Q v s') E s:=by
 show wpAny _ _ (field (.ref z) 2 >>= fun _=>_) _ _ _
 refine wpAny_bind (wpAny_field gz rfl (x:=.bool false) rfl ?_)
 show wpAny _ _ (field (.ref z) 3 >>= fun _=>_) _ _ _
 refine wpAny_bind (wpAny_field gz rfl (x:=.ref TI) rfl (wpAny_bind (wpAny_seqItems gI rfl ?_)))
 show wpAny _ _ (Builtin.SmallTypes.ownedTupleIsFree (.ref z) >>= fun _=>_) _ _ _
 refine wpAny_bind ?_
 unfold Builtin.SmallTypes.ownedTupleIsFree;refine wpAny_bind (wpAny_field gz rfl (x:=.none) rfl (wpAny_pure ?_))
 simp only[if_true]
 refine wpAny_bind (wpAny_rule (wpAny_bind (wpAny_field gz rfl (x:=.ref TO) rfl (wpAny_bind (wpAny_setField_rec gz (by simp) fun ha z1 m1=>?_)))))
 replace z1:IsZip ha z TI TO .ellipsis:=z1
 refine wpAny_bind ?_
 simp only[List.zipIdx_nil,List.zipIdx_cons,List.forIn_nil,List.forIn_cons]
 refine wpAny_bind (wpAny_bind (wpAny_onRaise ?_))
 show wpAny _ _ (Builtin.SmallTypes.nextOf (.ref i1) >>= fun _=>_) _ _ _
 refine wpAny_bind (kO (g1.ext m1.extBut D.i1z D.l1z) D.l1i1 hx fun hb r1 m2=>wpAny_pure ?_)
 have o2:IsPair hb TO a b:=m2.extBut _ _ D.TOi1 (m1.extBut _ _ D.TOz gO)
 refine wpAny_bind (wpAny_seqItems o2 rfl (wpAny_bind (wpAny_updateSeq_pair o2 fun hc o3 m3=>wpAny_bind (wpAny_letGo (wpAny_pure ?_)))))
 replace o3:IsPair hc TO x b:=o3
 refine wpAny_bind (wpAny_bind (wpAny_onRaise ?_))
 show wpAny _ _ (Builtin.SmallTypes.nextOf (.ref i2) >>= fun _=>_) _ _ _
 refine wpAny_bind (kO (((g2.ext m1.extBut D.i2z D.l2z).ext m2.extBut D.i12.symm D.l2i1).ext m3.extBut D.TOi2.symm D.l2TO) D.l2i2 hy fun hd r2 m4=>wpAny_pure ?_)
 have o4:IsPair hd TO x b:=m4.extBut _ _ D.TOi2 o3
 refine wpAny_bind (wpAny_seqItems o4 rfl (wpAny_bind (wpAny_updateSeq_pair o4 fun he o5 m5=>wpAny_bind (wpAny_letGo (wpAny_pure (wpAny_pure ?_))))))
 replace o5:IsPair he TO x y:=o5
 refine wpAny_bind (wpAny_seqItems o5 rfl (wpAny_bind (wpAny_newTuple ?_)))
 have hsz:he.objs.size=s.heap.objs.size:=by rw[m5.1,m4.1,m3.1,m2.1,m1.1]
 have z5:IsZip he z TI TO .ellipsis:=m5.extBut _ _ D.TOz.symm (m4.extBut _ _ D.i2z.symm (m3.extBut _ _ D.TOz.symm (m2.extBut _ _ D.i1z.symm z1)))
 have kp:∀ c o,c≠z→c≠TO→c≠i1→c≠i2→s.heap.get? c=some o→he.get? c=some o:=fun c o c1 c2 c3 c4 e=>m5.extBut _ _ c2 (m4.extBut _ _ c4 (m3.extBut _ _ c2 (m2.extBut _ _ c3 (m1.extBut _ _ c1 e))))
 have r1':TSt i1 t1 xs (k1+1) he:=((r1.ext m3.extBut D.TOi1.symm D.l1TO).ext m4.extBut D.i12 D.l1i2).ext m5.extBut D.TOi1.symm D.l1TO
 have r2':TSt i2 t2 ys (k2+1) he:=r2.ext m5.extBut D.TOi2.symm D.l2TO
 have zlt:z<he.objs.size:=Heap.lt_size z5
 show wpAny _ _ (Builtin.SmallTypes.ownedTupleHandOut (.ref z) (.ref he.objs.size) >>= fun _=>_) _ _ _
 refine wpAny_bind ?_
 unfold Builtin.SmallTypes.ownedTupleHandOut;have z6:IsZip (he.push { cls:=.type "tuple", data:=.seq #[x,y] }) z TI TO .ellipsis:=Heap.get?_push_of_some _ z5
 refine wpAny_bind (wpAny_setField_rec z6 (by simp) fun hf z7 m7=>?_)
 replace z7:IsZip hf z TI TO (rawInt he.objs.size):=z7
 refine wpAny_setField_rec z7 (by simp) fun hg z8 m8=>?_
 replace z8:IsZip hg z TI TO (rawInt he.objs.size):=z8
 have up:∀ c o,c≠z→he.get? c=some o→hg.get? c=some o:=fun c o c1 e=>m8.extBut _ _ c1 (m7.extBut _ _ c1 (Heap.get?_push_of_some _ e))
 have t8:IsPair hg he.objs.size x y:=m8.extBut _ _ (Nat.ne_of_gt zlt) (m7.extBut _ _ (Nat.ne_of_gt zlt) (Heap.get?_push_size _ rfl))
 have s8:hg.objs.size=he.objs.size+1:=by rw[m8.1,m7.1,Heap.size_push]
 rw[hsz]at z8 t8 s8
 refine wpAny_pure ⟨_,rfl,?_⟩
 show Q (.ref he.objs.size) _
 rw[hsz];have ex:Heap.ExtBut z he hg:=fun c o c1 e=>up c o c1 e
 exact q hg z8 (up _ _ D.TOz o5) (r1'.ext ex D.i1z D.l1z) (r2'.ext ex D.i2z D.l2z) t8 s8 fun c o c1 c2 c3 c4 e=>up c o c1 (kp c o c1 c2 c3 c4 e)
theorem yg{Q:Fin→Shared→Prop}(hh:A.handled=none)(D:ZipApart z TI TO i1 i2 t1 t2)(gz:IsZip s.heap z TI TO .none)(gI:IsPair s.heap TI (.ref i1) (.ref i2))(gO:IsPair s.heap TO a b)
  (g1:TSt i1 t1 xs k1 s.heap) (g2:TSt i2 t2 ys k2 s.heap) (hend:xs[k1]? = none∨ys[k2]? = none)
  (q:∀ h' e,(∀ c o,c≠z→c≠TO→c≠i1→c≠i2→s.heap.get? c=some o→h'.get? c=some o)→(∃ o,h'.get? e=some o∧o.cls = .type "StopIteration")→E (.ref e) { s with heap:=h' }) :
  wpAny (model prog w) A (Builtin.«zip.__next__» ⟨[.ref z],[]⟩) Q E s:=by
 show wpAny _ _ (field (.ref z) 2 >>= fun _=>_) _ _ _
 refine wpAny_bind (wpAny_field gz rfl (x:=.bool false) rfl ?_)
 show wpAny _ _ (field (.ref z) 3 >>= fun _=>_) _ _ _
 refine wpAny_bind (wpAny_field gz rfl (x:=.ref TI) rfl (wpAny_bind (wpAny_seqItems gI rfl ?_)))
 show wpAny _ _ (Builtin.SmallTypes.ownedTupleIsFree (.ref z) >>= fun _=>_) _ _ _
 refine wpAny_bind ?_
 unfold Builtin.SmallTypes.ownedTupleIsFree;refine wpAny_bind (wpAny_field gz rfl (x:=.none) rfl (wpAny_pure ?_))
 simp only[if_true]
 refine wpAny_bind (wpAny_rule (wpAny_bind (wpAny_field gz rfl (x:=.ref TO) rfl (wpAny_bind (wpAny_setField_rec gz (by simp) fun ha z1 m1=>?_)))))
 replace z1:IsZip ha z TI TO .ellipsis:=z1
 refine wpAny_bind ?_
 simp only[List.zipIdx_nil,List.zipIdx_cons,List.forIn_nil,List.forIn_cons]
 refine wpAny_bind (wpAny_bind (wpAny_onRaise ?_))
 show wpAny _ _ (Builtin.SmallTypes.nextOf (.ref i1) >>= fun _=>_) _ _ _
 have stop:∀ {h':Heap} {e:Addr},IsZip h' z TI TO .ellipsis→(∃ o,h'.get? e=some o∧o.cls = .type "StopIteration")→e≠z:=fun {h' e} hz ⟨o,ho,hc⟩ n=>by
  subst n; rw[hz]at ho; cases ho; simp at hc
 rcases hx:xs[k1]? with _ | x
 ·refine wpAny_bind (qZ hh (g1.ext m1.extBut D.i1z D.l1z) hx fun hb e m2 he=>?_)
  have z2:IsZip hb z TI TO .ellipsis:=m2 _ _ D.i1z.symm z1
  have nz:=stop z2 he;obtain⟨oe,p1,p2⟩:=he
  exact wpAny_setField_rec z2 (by simp) fun hc _ m3=>q hc e (fun c o c1 _ c3 _ x=>m3.extBut _ _ c1 (m2 _ _ c3 (m1.extBut _ _ c1 x))) ⟨oe,m3.extBut _ _ nz p1,p2⟩
 ·have hy:ys[k2]? = none:=by
   rcases hend with h | h
   ·rw[hx]at h; cases h
   ·exact h
  refine wpAny_bind (kO (g1.ext m1.extBut D.i1z D.l1z) D.l1i1 hx fun hb r1 m2=>wpAny_pure ?_)
  have o2:IsPair hb TO a b:=m2.extBut _ _ D.TOi1 (m1.extBut _ _ D.TOz gO)
  refine wpAny_bind (wpAny_seqItems o2 rfl (wpAny_bind (wpAny_updateSeq_pair o2 fun hc o3 m3=>wpAny_bind (wpAny_letGo (wpAny_pure ?_)))))
  refine wpAny_bind (wpAny_bind (wpAny_onRaise ?_))
  show wpAny _ _ (Builtin.SmallTypes.nextOf (.ref i2) >>= fun _=>_) _ _ _
  refine wpAny_bind (qZ hh (((g2.ext m1.extBut D.i2z D.l2z).ext m2.extBut D.i12.symm D.l2i1).ext m3.extBut D.TOi2.symm D.l2TO) hy fun hd e m4 he=>?_)
  have z4:IsZip hd z TI TO .ellipsis:=m4 _ _ D.i2z.symm (m3.extBut _ _ D.TOz.symm (m2.extBut _ _ D.i1z.symm z1))
  have nz:=stop z4 he;obtain⟨oe,p1,p2⟩:=he
  exact wpAny_setField_rec z4 (by simp) fun hg _ m5=>q hg e (fun c o c1 c2 c3 c4 x=>m5.extBut _ _ c1 (m4 _ _ c4 (m3.extBut _ _ c2 (m2.extBut _ _ c3 (m1.extBut _ _ c1 x))))) ⟨oe,m5.extBut _ _ nz p1,p2⟩
end
end L2
namespace L2
open PySem PySem.Spec PyProof PyProof.Rows
section
variable{prog:Program}{w:World}{A:Around}{E:Value→Shared→Prop}{s:Shared}{z TI TO i1 i2 t1 t2:Addr}{xs ys:Array Value}{k1 k2:Nat}{a b:Value}
theorem sj{x y:Value}{Q:Option Value→Shared→Prop}(D:ZipApart z TI TO i1 i2 t1 t2)(gz:IsZip s.heap z TI TO .none)(gI:IsPair s.heap TI (.ref i1) (.ref i2))(gO:IsPair s.heap TO a b)
  (g1:TSt i1 t1 xs k1 s.heap) (g2:TSt i2 t2 ys k2 s.heap) (hx:xs[k1]? = some x) (hy:ys[k2]? = some y)
  (q:∀ h',IsZip h' z TI TO (rawInt s.heap.objs.size)→IsPair h' TO x y→TSt i1 t1 xs (k1+1) h'→TSt i2 t2 ys (k2+1) h'→IsPair h' s.heap.objs.size x y→h'.objs.size=s.heap.objs.size+1→
   (∀ c o,c≠z→c≠TO→c≠i1→c≠i2→s.heap.get? c=some o→h'.get? c=some o)→Q (some (.ref s.heap.objs.size)) { s with heap:=h' }):wpAny (model prog w) A (pyNext (.ref z)) Q E s:=by
 have ty:s.TypeIs (.ref z) "zip" := ⟨_,gz,rfl⟩
 unfold pyNext
 exact wpAny_bind (wpAny_attempt (wpAny_callSpecial?_slot (name:=Str.ofString "__next__") ty PySem.F.slot_zip_next (wpAny_call_entry PySem.F.slot_zip_next ty PySem.F.entry_zip_next
  (vC D gz gI gO g1 g2 hx hy fun h' a1 a2 a3 a4 a5 a6 a7=>wpAny_pure (q h' a1 a2 a3 a4 a5 a6 a7)) (PySem.F.args_zip_next_1 _))))
theorem vn{Q:Option Value→Shared→Prop}(hh:A.handled=none)(D:ZipApart z TI TO i1 i2 t1 t2)(gz:IsZip s.heap z TI TO .none)(gI:IsPair s.heap TI (.ref i1) (.ref i2))(gO:IsPair s.heap TO a b)
  (g1:TSt i1 t1 xs k1 s.heap) (g2:TSt i2 t2 ys k2 s.heap) (hend:xs[k1]? = none∨ys[k2]? = none)
  (q:∀ h',(∀ c o,c≠z→c≠TO→c≠i1→c≠i2→s.heap.get? c=some o→h'.get? c=some o)→Q none { s with heap:=h' }):wpAny (model prog w) A (pyNext (.ref z)) Q E s:=by
 have ty:s.TypeIs (.ref z) "zip" := ⟨_,gz,rfl⟩
 unfold pyNext
 refine wpAny_bind (wpAny_attempt (wpAny_callSpecial?_slot (name:=Str.ofString "__next__") ty PySem.F.slot_zip_next (wpAny_call_entry PySem.F.slot_zip_next ty PySem.F.entry_zip_next
  (yg hh D gz gI gO g1 g2 hend fun h' e kk he=>?_) (PySem.F.args_zip_next_1 _))))
 obtain⟨o,ho,hc⟩:=he
 exact wpAny_bind (wpAny_isInstance (T := "StopIteration") (b:=true) ⟨o,ho,hc⟩ isSubtype_stop (wpAny_pure (q _ kk)))
abbrev Ae (h:Heap) (t1:Addr):Heap:=h.push { cls:=.type "tuple_iterator", data:=.fields #[.ref t1,.int 0 0] }
abbrev zV (h:Heap) (t1 t2:Addr):Heap:=(Ae h t1).push { cls:=.type "tuple_iterator", data:=.fields #[.ref t2,.int 0 0] }
abbrev Aj (h:Heap) (t1 t2:Addr):Heap:=(zV h t1 t2).push { cls:=.type "tuple", data:=.seq #[.ref h.objs.size,.ref (Ae h t1).objs.size] }
abbrev Ab (h:Heap) (t1 t2:Addr):Heap:=(Aj h t1 t2).push { cls:=.type "tuple", data:=.seq #[.none,.none] }
abbrev nB (h:Heap) (t1 t2:Addr):Heap:=(Ab h t1 t2).push { cls:=.type "zip", data:=.fields #[.none,.bool false,.bool false,.ref (zV h t1 t2).objs.size,.ref (Aj h t1 t2).objs.size] }
theorem rW(t1 t2:Addr)(xs ys:Array Value):Meets (Builtin.«zip.__new__» ⟨[.type "zip", .ref t1,.ref t2],[]⟩) (fun _ R s=>s.heap.IsTuple t1 xs∧s.heap.IsTuple t2 ys∧
   R (.ok (.ret (.ref (Ab s.heap t1 t2).objs.size))) { s with heap:=nB s.heap t1 t2 }):=
 .of_wp fun prog w A R s q=>by
  obtain⟨hp,g,d,tk,os⟩:=s
  obtain⟨e1,e2,q⟩:=q
  have hsub:=sub_zip;have f1:Heap.IsTuple (Shared.heap ⟨hp,g,d,tk,os⟩) t1 xs:=e1
  have f2:Heap.IsTuple (Shared.heap ⟨hp.push { cls:=.type "tuple_iterator", data:=.fields #[.ref t1,.int 0 0] },g,d,tk,os⟩) t2 ys:=Heap.IsTuple.push e2 _
  wp_walk using wpAny_pyIter_tuple f1,wpAny_pyIter_tuple f2
  exact⟨_,rfl,q⟩
theorem uW{Q:Value→Shared→Prop}(e1:s.heap.IsTuple t1 xs)(e2:s.heap.IsTuple t2 ys)
  (q:∀ h',IsZip h' (s.heap.objs.size+4) (s.heap.objs.size+2) (s.heap.objs.size+3) .none→IsPair h' (s.heap.objs.size+2) (.ref s.heap.objs.size) (.ref (s.heap.objs.size+1))→
   IsPair h' (s.heap.objs.size+3) .none .none→TSt s.heap.objs.size t1 xs 0 h'→TSt (s.heap.objs.size+1) t2 ys 0 h'→
   (∀ c o,s.heap.get? c=some o→h'.get? c=some o)→Q (.ref (s.heap.objs.size+4)) { s with heap:=h' }):wpAny (model prog w) A (call (.type "zip") [.ref t1,.ref t2]) Q E s:=by
 refine callType_new PySem.F.called_zip (by decide) (PySem.F.typeCall_zip_2 _ _) (PySem.F.newCall_zip_2 _ _) (fun obj=>PySem.F.args_object_init_3 obj _ _) PySem.F.entry_zip_new (rW t1 t2 xs ys) ⟨e1,e2,?_⟩
 have z1:(Ae s.heap t1).objs.size=s.heap.objs.size+1:=Heap.size_push ..
 have z2:(zV s.heap t1 t2).objs.size=s.heap.objs.size+2:=by rw[Heap.size_push,z1]
 have z3:(Aj s.heap t1 t2).objs.size=s.heap.objs.size+3:=by rw[Heap.size_push,z2]
 have z4:(Ab s.heap t1 t2).objs.size=s.heap.objs.size+4:=by rw[Heap.size_push,z3]
 have p:∀ {h:Heap} {o:Obj} {c:Addr} {u:Obj},h.get? c=some u→(h.push o).get? c=some u:=fun e=>Heap.get?_push_of_some _ e
 have kk:∀ c o,s.heap.get? c=some o→(nB s.heap t1 t2).get? c=some o:=fun c o e=>p (p (p (p (p e))))
 have g5:(nB s.heap t1 t2).get? (Ab s.heap t1 t2).objs.size=some _:=Heap.get?_push_size _ rfl
 have g4:(nB s.heap t1 t2).get? (Aj s.heap t1 t2).objs.size=some _:=p (Heap.get?_push_size _ rfl)
 have g3:(nB s.heap t1 t2).get? (zV s.heap t1 t2).objs.size=some _:=p (p (Heap.get?_push_size _ rfl))
 have g2:(nB s.heap t1 t2).get? (Ae s.heap t1).objs.size=some _:=p (p (p (Heap.get?_push_size _ rfl)))
 have g1:(nB s.heap t1 t2).get? s.heap.objs.size=some _:=p (p (p (p (Heap.get?_push_size _ rfl))))
 show _∧_
 rw[z2,z3,z4]at g5
 rw[z1,z2]at g3
 rw[z3]at g4
 rw[z1]at g2
 rw[z4];have tt:∀ {t zs},s.heap.IsTuple t zs→(nB s.heap t1 t2).IsTuple t zs:=fun ⟨o,e,r⟩=>⟨o,kk _ _ e,r⟩
 exact⟨⟨_,g5,rfl⟩,q _ g5 g3 g4 ⟨⟨_,g1,rfl,rfl⟩,tt e1⟩ ⟨⟨_,g2,rfl,rfl⟩,tt e2⟩ kk⟩
end
def Ak(K:PySem.W.Frag)(a b:Addr):It:=
  ⟨fun i H=>∃ xs ys x y,SqT K H a xs∧SqT K H b ys∧xs[i]? = some x∧ys[i]? = some y,
   fun i H v H'=>∃ t x y,H t=none∧v = .ref t∧H'=upd H t (.tup [x,y])∧(∀ xs,SqT K H a xs→xs[i]? = some x)∧∀ ys,SqT K H b ys→ys[i]? = some y,
   fun i H=>∃ xs ys,SqT K H a xs∧SqT K H b ys∧(xs.length≤i∨ys.length≤i)⟩
def UZ(z TI TO i1 i2 l1 l2:Addr)(i:Nat)(h:Heap):Prop:=
 IsZip h z TI TO .none∧IsPair h TI (.ref i1) (.ref i2)∧(∃ a b,IsPair h TO a b)∧h.IsTupleIter i1 l1 i∧h.IsTupleIter i2 l2 i
end L2
namespace L2
open PySem PySem.Spec PyProof PyProof.Rows
theorem SqT.apart{X:Cx}{pins:List (Addr × Obj)}{σ : St}{H:Hp}{s:Shared}{a c:Addr}{xs:List V}(I:Inv X pins σ H s)(hf:gZ X pins H c)(h:SqT X.K H a xs):a≠c:=by
 rintro rfl
 rcases h with h | ⟨o,its,n,hk,_⟩
 ·rcases h with e | ⟨o,e⟩ <;> (rw[hf.1]at e; cases e)
 ·have e:=I.ok.mod.kin a o hk
  rcases hf.2.2.2.1 with z | z
  ·exact I.ok.noex a o e z
  ·exact absurd (Nat.lt_of_lt_of_le (Heap.lt_size (I.ok.bs a o e).1) z) (Nat.lt_irrefl _)
theorem uV{P:Program}{w:World}{K:PySem.W.Frag}{elts:List Expr}{k:Nat}{pos:Pos}{z TI TO i1 i2 l1 l2:Addr}(D:lJ z TI TO i1 i2):jB P w K (.Tuple elts k pos) (Ak K l1 l2) [z,TI,TO,i1,i2] z (UZ z TI TO i1 i2 l1 l2) where
 mem:=by simp
 obj:=fun i h st b hb=>by
  obtain⟨s1,s2,⟨_,_,s3⟩,⟨o4,s4,c4,d4⟩,⟨o5,s5,c5,d5⟩⟩:=st
  simp only[List.mem_cons,List.mem_nil_iff,or_false]at hb
  rcases hb with rfl | rfl | rfl | rfl | rfl
  ·exact⟨_,s1,fun v e=>by cases e⟩
  ·exact⟨_,s2,fun v e=>by cases e⟩
  ·exact⟨_,s3,fun v e=>by cases e⟩
  ·exact⟨_,s4,fun v e=>by rw[d4]at e; cases e⟩
  ·exact⟨_,s5,fun v e=>by rw[d5]at e; cases e⟩
 keep:=fun i h h' st kk=>by
  obtain⟨s1,s2,⟨a,b,s3⟩,s4,s5⟩:=st
  exact⟨kk z (by simp) _ s1,kk TI (by simp) _ s2,⟨a,b,kk TO (by simp) _ s3⟩,s4.at fun o e=>kk i1 (by simp) o e,s5.at fun o e=>kk i2 (by simp) o e⟩
 item:=by
  intro X hP hw hK hc i pins s σ H E I hf st hg
  subst hP hw hK;obtain⟨xs,ys,x,y,q1,q2,hx,hy⟩:=hg
  obtain⟨is1,rv1,p1,_⟩:=I.tuple q1
  obtain⟨is2,rv2,p2,_⟩:=I.tuple q2
  obtain⟨u1,hu1,ru1⟩:=rv1.get hx
  obtain⟨u2,hu2,ru2⟩:=rv2.get hy
  have n1:∀ c∈[z,TI,TO,i1,i2],l1≠c:=fun c hc'=>SqT.apart I (hf c hc') q1
  have n2:∀ c∈[z,TI,TO,i1,i2],l2≠c:=fun c hc'=>SqT.apart I (hf c hc') q2
  have D':ZipApart z TI TO i1 i2 l1 l2:=⟨D.TIz,D.TOz,D.i1z,D.i2z,D.TITO,D.TIi1,D.TIi2,D.TOi1,D.TOi2,D.i12,n1 _ (by simp),n1 _ (by simp),n1 _ (by simp),n1 _ (by simp),n2 _ (by simp),n2 _ (by simp),n2 _ (by simp),n2 _ (by simp)⟩
  obtain⟨s1,s2,⟨a,b,s3⟩,s4,s5⟩:=st
  have e1:s.heap.IsTuple l1 is1.toArray:=p1
  have e2:s.heap.IsTuple l2 is2.toArray:=p2
  refine sj D' s1 s2 s3 ⟨s4,e1⟩ ⟨s5,e2⟩ (x:=u1) (y:=u2) (by simpa using hu1) (by simpa using hu2) fun h' a1 a2 a3 a4 a5 a6 kk=>?_
  refine⟨_,rfl,wpAny_letOwnedTupleGo_zip a1 fun h'' hz' hs'=>?_⟩
  have lt:∀ {c o},s.heap.get? c=some o→s.heap.objs.size≠c:=fun e=>Nat.ne_of_gt (Heap.lt_size e)
  have zne:s.heap.objs.size≠z:=lt s1
  have keep2:∀ b o,b∉[z,TI,TO,i1,i2]→s.heap.get? b=some o→h''.get? b=some o:=fun b o hb e=>by
   simp only[List.mem_cons,List.mem_nil_iff,or_false,not_or]at hb
   exact hs'.extBut _ _ hb.1 (kk b o hb.1 hb.2.2.1 hb.2.2.2.1 hb.2.2.2.2 e)
  have hsz:H s.heap.objs.size=none:=I.hok.fresh (Nat.le_refl _)
  have tupN:IsPair h'' s.heap.objs.size u1 u2:=hs'.extBut _ _ zne a5
  have nlt:∀ c∈[z,TI,TO,i1,i2],c≠s.heap.objs.size:=fun c hc'=>by
   obtain⟨o4,e4,_⟩:=id s4
   obtain⟨o5,e5,_⟩:=id s5
   simp only[List.mem_cons,List.mem_nil_iff,or_false]at hc'
   rcases hc' with rfl | rfl | rfl | rfl | rfl
   ·exact(lt s1).symm
   ·exact(lt s2).symm
   ·exact(lt s3).symm
   ·exact(lt e4).symm
   ·exact(lt e5).symm
  refine⟨.ref s.heap.objs.size,upd H s.heap.objs.size (.tup [x,y]),I.turnedLaid (t':=s.toks) keep2 hf (Nat.le_refl _) ⟨bt (by show 2≤1000000; decide),[u1,u2],.cons ru1 (.cons ru2 .nil),⟨_,tupN,rfl,rfl,0,rfl⟩⟩,rfl,⟨_,x,y,hsz,rfl,rfl,fun xs' q'=>?_,fun ys' q'=>?_⟩,
   ⟨hz',hs'.extBut _ _ D.TIz (kk _ _ D.TIz D.TITO D.TIi1 D.TIi2 s2),⟨_,_,hs'.extBut _ _ D.TOz a2⟩,a3.1.extBut hs'.extBut D.i1z,a4.1.extBut hs'.extBut D.i2z⟩,fun c hc'=>?_⟩
  ·rw[I.tuple_inj q' q1]; exact hx
  ·rw[I.tuple_inj q' q2]; exact hy
  ·rw[am (nlt c hc')]; exact(hf c hc').1
 done:=by
  intro X hP hw hK hc i pins s σ H E I hf st hg
  subst hP hw hK;obtain⟨xs,ys,q1,q2,hlen⟩:=hg
  obtain⟨is1,rv1,p1,_⟩:=I.tuple q1
  obtain⟨is2,rv2,p2,_⟩:=I.tuple q2
  have l1:=rv1.length;have l2:=rv2.length;have n1:∀ c∈[z,TI,TO,i1,i2],_≠c:=fun c hc'=>SqT.apart I (hf c hc') q1
  have n2:∀ c∈[z,TI,TO,i1,i2],_≠c:=fun c hc'=>SqT.apart I (hf c hc') q2
  have D':ZipApart z TI TO i1 i2 _ _:=⟨D.TIz,D.TOz,D.i1z,D.i2z,D.TITO,D.TIi1,D.TIi2,D.TOi1,D.TOi2,D.i12,n1 _ (by simp),n1 _ (by simp),n1 _ (by simp),n1 _ (by simp),n2 _ (by simp),n2 _ (by simp),n2 _ (by simp),n2 _ (by simp)⟩
  obtain⟨s1,s2,⟨a,b,s3⟩,s4,s5⟩:=st
  have e1:s.heap.IsTuple _ is1.toArray:=p1
  have e2:s.heap.IsTuple _ is2.toArray:=p2
  refine vn (I.ok.hd hc) D' s1 s2 s3 ⟨s4,e1⟩ ⟨s5,e2⟩ ?_ fun h' kk=>⟨rfl,I.turnedL (t':=s.toks) (fun b o hb e=>?_) hf⟩
  ·rcases hlen with z | z
   ·exact .inl (by simp; omega)
   ·exact .inr (by simp; omega)
  ·simp only[List.mem_cons,List.mem_nil_iff,or_false,not_or]at hb
   exact kk b o hb.1 hb.2.2.1 hb.2.2.2.1 hb.2.2.2.2 e
 self:=fun A i s Q E st h=>wpAny_pyIter_zip st.1 h
def zF(K:PySem.W.Frag)(ta:TA):TI:=fun σ H R=>ta σ H fun vs H1=>∃ a b:Addr,vs=[.ref a,.ref b]∧(∃ xs,SqT K H1 a xs)∧(∃ ys,SqT K H1 b ys)∧R (Ak K a b) H1
theorem xw(K:PySem.W.Frag)(ta:TA){σ : St}{H:Hp}{R:It→Hp→Prop}:zF K ta σ H R=ta σ H fun vs H1=>∃ a b:Addr,vs=[.ref a,.ref b]∧(∃ xs,SqT K H1 a xs)∧(∃ ys,SqT K H1 b ys)∧R (Ak K a b) H1:=rfl
theorem qD(K:PySem.W.Frag){X:Cx}{elts:List Expr}{k:Nat}{tpos:Pos}{a b:Expr}{ta:TA}{p pos:Pos}(hg:Gl X "zip") (hm:X.mg "zip" = none) (ha:PA X [a,b] ta) (hs:starEach [a,b] X.env=[(false,eval a X.env),(false,eval b X.env)]:=by rfl) (hs2:starEach [b] X.env=[(false,eval b X.env)]:=by rfl) (hK:X.K=K:=by rfl) :
  PI X (.Tuple elts k tpos) (.Call (.Name "zip" p) [a,b] [] pos) (zF K ta):=by
 subst hK;intro pins s σ H R I h
 refine Call_ (gX I hg hm oV (PyProof.Rows.callWith_type1 (bj (ha pos pins s σ H _ I h) fun us s1 ⟨vs,H1,I1,r1,q1⟩=>?_) (by rw[hs,hs2]) (by rw[hs2]; rfl)))
 obtain⟨l1,l2,e,⟨xs,h1⟩,⟨ys,h2⟩,q⟩:=q1
 subst e;obtain⟨u1,u2,rfl,r1,r2⟩:=j0 r1
 cases r1
 cases r2;obtain⟨is1,_,p1,_⟩:=I1.tuple h1
 obtain⟨is2,_,p2,_⟩:=I1.tuple h2
 refine uW (show s1.heap.IsTuple l1 is1.toArray from p1) (show s1.heap.IsTuple l2 is2.toArray from p2) fun h' a1 a2 a3 a4 a5 kk=>?_
 refine wpAny_pyIter_zip a1 ⟨_,[s1.heap.objs.size+4,s1.heap.objs.size+2,s1.heap.objs.size+3,s1.heap.objs.size,s1.heap.objs.size+1],_,_,H1,rfl,I1.kept (t':=s1.toks) kk,
  uV (z:=s1.heap.objs.size+4) (TI:=s1.heap.objs.size+2) (TO:=s1.heap.objs.size+3) (i1:=s1.heap.objs.size) (i2:=s1.heap.objs.size+1) (Fx _),⟨a1,a2,⟨_,_,a3⟩,a4.1,a5.1⟩,fun b hb=>?_,q⟩
 have hb':s1.heap.objs.size≤b:=by
  simp only[List.mem_cons,List.mem_nil_iff,or_false]at hb
  rcases hb with rfl | rfl | rfl | rfl | rfl <;> first | exact Nat.le_refl _ | exact Nat.le_add_right _ _
 exact I1.fpOk hb' (I1.hok.fresh hb')
end L2
namespace L2
open PySem PySem.Spec PyProof PyProof.Rows
section
variable{prog:Program}{w:World}{A:Around}{E:Value→Shared→Prop}{s:Shared}
theorem n6{t sl:Addr}{items:Array Value}{vl vu:Value}{lo hi:Option Int}{Q:Value→Shared→Prop}(ht:IsTup s.heap t items)(hs:s.heap.IsSliceOf sl vl vu .none)(pl:PySem.IsPart vl lo)(pu:PySem.IsPart vu hi)
  (hw:HT.sIx items.size 0 lo=0∧HT.sIx items.size items.size hi=items.size) (q:Q (.ref t) s):wpAny (model prog w) A (getItem (.ref t) (.ref sl)) Q E s:=by
 obtain⟨os,g1,g2,g3⟩:=id hs
 have ty:s.TypeIs (.ref sl) "slice" := ⟨os,g1,g2⟩
 unfold getItem
 try with_reducible refine wpAny_holding ?_
 first | refine wpAny_bind (wpAny_pure ?_) | skip
 refine wpAny_bind (wpAny_sequenceKey ht.typeIs (by decide) (wpAny_bind (wpAny_callSpecial?_slot (name:=Str.ofString "__getitem__") ht.typeIs PyProof.Rows.slot_tuple_getitem (wpAny_call_entry PyProof.Rows.slot_tuple_getitem ht.typeIs entry_tuple_getitem ?_ (args_tuple_getitem _ _)))))
 show wpAny _ _ (Builtin.Tuple.tupleItemsOf (.ref t) >>= fun _=>_) _ _ s
 refine wpAny_bind (tupleItemsOf_ ht (wpAny_bind (wpAny_typeOf ty ?_)))
 rw[if_pos (by decide)]
 refine wpAny_bind (HT.sliceApplied_gen hs pl pu ?_)
 have hyes:((((HT.sIx items.size 0 lo:Nat):Int) == 0&&(1:Int) == 1&&(HT.sIx items.size items.size hi - HT.sIx items.size 0 lo) == items.size)=true):=by
  rw[hw.1,hw.2]; simp
 show wpAny _ _ (if (((HT.sIx items.size 0 lo:Nat):Int) == 0&&(1:Int) == 1&&(HT.sIx items.size items.size hi - HT.sIx items.size 0 lo) == items.size)=true then _ else _) _ _ s
 rw[if_pos hyes];refine wpAny_bind (m:=Builtin.Tuple.tupleIsExact _) (wpAny_bind (wpAny_typeOf ht.typeIs (wpAny_pure ?_)))
 have hb:(Value.type "tuple" == Value.type "tuple")=true:=by decide
 rw[hb,if_pos rfl];exact wpAny_bind (wpAny_rule (wpAny_pure ⟨_,rfl,wpAny_pure q⟩))
end
section
variable{X:Cx}
def zL(K:PySem.W.Frag):V→Option Int→Option Int→Hp→VK→Prop:=fun x lo hi H Q=>∃ a xs,x = .ref a∧SqT K H a xs∧
 (HT.sIx xs.length 0 lo=0∧HT.sIx xs.length xs.length hi=xs.length→Q (.ref a) H)∧(¬ (HT.sIx xs.length 0 lo=0∧HT.sIx xs.length xs.length hi=xs.length)→∀ p,H p=none→Q (.ref p) (upd H p (.tup (dk xs lo hi))))
theorem j8(K:PySem.W.Frag)(hK:X.K=K:=by rfl):SlR X (zL K):=by
 subst hK;intro pins s σ H x v vl vu lo hi sl Q I rx hs pl pu h
 obtain⟨a,xs,rfl,hx,q1,q2⟩:=h
 by_cases hw:HT.sIx xs.length 0 lo=0∧HT.sIx xs.length xs.length hi=xs.length
 ·have rx':=rx
  cases rx;obtain⟨its,r,ht,hz⟩:=I.tuple hx
  have hlen:its.toArray.size=xs.length:=by rw[List.size_toArray]; exact r.length.symm
  exact⟨"tuple", _,PyProof.Rows.slot_tuple_getitem.lookup,ht.typeIs,n6 ht hs pl pu (by rw[hlen]; exact hw) ⟨.ref a,H,I,rx',q1 hw⟩⟩
 ·exact Ed pins s σ H _ v vl vu lo hi sl Q I rx hs pl pu ⟨a,xs,rfl,hx,hw,q2 hw⟩
theorem i5{K:PySem.W.Frag}{H:Hp}{Q:VK}{a:Addr}{lo hi:Option Int}{xs:List V}(h:SqT K H a xs)(q:∀ p H',Same H H'→SqT K H' p (dk xs lo hi)→Q (.ref p) H'):zL K (.ref a) lo hi H Q:=by
 refine⟨a,xs,rfl,h,fun hw=>?_,fun _ p hp=>q p _ (ak hp _) (SqT.of ae)⟩
 have e:dk xs lo hi=xs:=by unfold dk; rw[hw.1,hw.2]; simp
 exact q a H (fun _ _ e=>e) (by rw[e]; exact h)
theorem mj(xs:List V)(k:Nat):dk xs none (some (k:Int))=xs.take k:=by
 unfold dk;rw[HT.sIx_none,HT.sIx_nat,List.drop_zero,Nat.sub_zero];exact List.take_eq_take_min.symm
theorem jz(xs:List V)(k:Nat):dk xs (some (k:Int)) none=xs.drop k:=by
 unfold dk;rw[HT.sIx_none,HT.sIx_nat];rcases Nat.le_total k xs.length with h | h
 ·rw[Nat.min_eq_left h,List.take_of_length_le (by rw[List.length_drop]; omega)]
 ·rw[Nat.min_eq_right h,Nat.sub_self,List.take_zero,List.drop_eq_nil_of_le h]
def uv:List V→Hp→VK→Prop:=fun xs H Q=>(∃ i,xs=[.int i]∧i.natAbs.log2<1920∧Q (.str (toString i)) H)∨∃ y,xs=[.str y]∧Q (.str y) H
theorem u_:CallR X (.type "str") uv:=by
 intro pins s σ H xs us Q I r h
 rcases h with h | ⟨y,rfl,q⟩
 ·exact pO pins s σ H xs us Q I r h
 ·obtain⟨u,rfl,t,rfl⟩:=fB r
  exact PySem.P.str_of_str ⟨.str y,H,I,⟨t,rfl⟩,q⟩
theorem wA{H:Hp}{Q:VK}(i:Int):uv [.int i] H Q=(i.natAbs.log2<1920∧Q (.str (toString i)) H):=
 propext ⟨fun h=>by rcases h with ⟨_,e,h⟩ | ⟨_,e,_⟩ <;> cases e; exact h,fun h=>.inl ⟨i,rfl,h⟩⟩
theorem uS{H:Hp}{Q:VK}(y:Str):uv [.str y] H Q=Q (.str y) H:=
 propext ⟨fun h=>by rcases h with ⟨_,e,h⟩ | ⟨_,e,h⟩ <;> cases e; exact h,fun h=>.inr ⟨y,rfl,h⟩⟩
theorem rB{x:Str}{d:Addr}{pos:Pos}(h:X.mg x=some (.ref d))(hg:Gl X x:=by first | exact vGg (by decide +kernel) | rfl)(hd:(x == ("__debug__" : Str))=false:=by decide):PE X (.Name x pos) (tC (.ref d)):=Bv hg h rfl hd
theorem fb:MtR X "list.extend" mP:=wy
theorem fN{H:Hp}{Q:VK}(l b:Addr):mP (.ref l) [.ref b] H Q=∃ xs zs,H l=some (.lst xs)∧H b=some (.lst zs)∧xs.length+zs.length≤sizeLine∧Q .non (upd H l (.lst (xs++zs))):=
 propext ⟨fun ⟨_,_,xs,zs,e1,e2,q⟩=>by cases e1; cases e2; exact⟨xs,zs,q⟩,fun ⟨xs,zs,q⟩=>⟨l,b,xs,zs,rfl,rfl,q⟩⟩
theorem iF(K:PySem.W.Frag){tg l:Expr}{tl:TE}(hl:PE X l tl)(hK:X.K=K:=by rfl):PI X tg l (xo K tl):=hK ▸ EO hl
theorem q_(K:PySem.W.Frag)(tl:TE){σ : St}{H:Hp}{R:It→Hp→Prop}:xo K tl σ H R=tl σ H fun x H1=>∃ a,x = .ref a∧(∃ xs,SqT K H1 a xs)∧R (uN K a) H1:=rfl
end
section
variable{K:PySem.W.Frag}{a b:Addr}{xs ys:List V}{g:TG}{te:TE}{nT:Nat}{σ : St}{D:Addr}{Q:VK}{H:Hp}
theorem kH{tb:TS}{D:dj}(Pv:Nat→St→Hp→Prop)(h0:Pv 0 σ H)(hl:∀ i σ H,i≤xs.length→Pv i σ H→SqT K H a xs)
  (hs:∀ i x σ H,xs[i]? = some x→Pv i σ H→g x σ H fun σ2 H2=>tb { D with nx:=Pv (i+1),ct:=Pv (i+1),bk:=D.nx } σ2 H2) (hd:∀ σ H,Pv xs.length σ H→D.nx σ H):iL (uN K a) g tb D σ H:=by
 refine j5 xs.length Pv h0 (fun i σ H hi p=>⟨xs,xs[i],hl i σ H (Nat.le_of_lt hi) p,by simp[hi]⟩) (fun σ H p=>⟨xs,hl _ σ H (Nat.le_refl _) p,Nat.le_refl _⟩) (fun i σ H x H' hi p yl=>?_) hd
 obtain⟨rfl,y⟩:=yl
 exact hs i x σ _ (y xs (hl i σ _ (Nat.le_of_lt hi) p)) p
theorem ny(Pv:Nat→List V→Hp→Prop)(h0:Pv 0 [] H)(hl:∀ i ys H,i≤xs.length→Pv i ys H→SqT K H a xs)
  (hs:∀ i ys H x,xs[i]? = some x→i<xs.length→Pv i ys H→g x (σ++List.replicate nT none) H (kf xs.length i Pv D ys te))
  (hd:∀ ys H,Pv xs.length ys H→Q (.ref D) H):gg (uN K a) g iX te nT σ D Q H:=by
 refine kW xs.length Pv h0 (fun i ys H hi p=>⟨xs,xs[i],hl i ys H (Nat.le_of_lt hi) p,by simp[hi]⟩) (fun ys H p=>⟨xs,hl _ ys H (Nat.le_refl _) p,Nat.le_refl _⟩) (fun i ys H x H' hi p yl=>?_) hd
 obtain⟨rfl,y⟩:=yl
 exact hs i ys _ x (y xs (hl i ys _ (Nat.le_of_lt hi) p)) hi p
theorem nG{tb:TS}{D:dj}(Pv:Nat→St→Hp→Prop)(hn:xs.length=ys.length)(h0:Pv 0 σ H)(hl:∀ i σ H,i≤xs.length→Pv i σ H→SqT K H a xs∧SqT K H b ys)
  (hs:∀ i x y t σ H,xs[i]? = some x→ys[i]? = some y→Pv i σ H→H t=none→g (.ref t) σ (upd H t (.tup [x,y])) fun σ2 H2=>tb { D with nx:=Pv (i+1),ct:=Pv (i+1),bk:=D.nx } σ2 H2) (hd:∀ σ H,Pv xs.length σ H→D.nx σ H):iL (Ak K a b) g tb D σ H:=by
 refine j5 xs.length Pv h0 (fun i σ H hi p=>⟨xs,ys,xs[i],ys[i],(hl i σ H (Nat.le_of_lt hi) p).1,(hl i σ H (Nat.le_of_lt hi) p).2,by simp[hi],by simp[hn ▸ hi]⟩) (fun σ H p=>⟨xs,ys,(hl _ σ H (Nat.le_refl _) p).1,(hl _ σ H (Nat.le_refl _) p).2,.inl (Nat.le_refl _)⟩) (fun i σ H v H' hi p yl=>?_) hd
 obtain⟨t,x,y,ht,rfl,rfl,y1,y2⟩:=yl
 exact hs i x y t σ H (y1 xs (hl i σ H (Nat.le_of_lt hi) p).1) (y2 ys (hl i σ H (Nat.le_of_lt hi) p).2) p ht
end
theorem SqT.same{K:PySem.W.Frag}{H H':Hp}{a:Addr}{xs:List V}(h:SqT K H a xs)(sm:Same H H'):SqT K H' a xs:=by
 rcases h with (h | ⟨o,h⟩) | h
 ·exact .inl (.inl (sm _ _ h))
 ·exact .inl (.inr ⟨o,sm _ _ h⟩)
 ·exact .inr h
theorem cZ{α : Type}{x:α}{xs:List α}:ej (x::xs) 0=some x:=aW (j:=0) rfl
theorem SqT.updL{K:PySem.W.Frag}{H:Hp}{a l:Addr}{xs ys:List V}{o:HO}(h:SqT K H a xs)(hl:H l=some (.lst ys)):SqT K (upd H l o) a xs:=by
 rcases h with (h | ⟨o',h⟩) | h
 ·exact .inl (.inl (by rw[am (bv h hl (fun z=>nomatch z))]; exact h))
 ·exact .inl (.inr ⟨o',by rw[am (bv h hl (fun z=>nomatch z))]; exact h⟩)
 ·exact .inr h
end L2
namespace L2
open PySem PySem.Spec PyProof PyProof.Rows
section
variable{X:Cx}
end
end L2
namespace L2
open PySem PySem.Spec PyProof PyProof.Rows
section
variable{K:PySem.W.Frag}{a:Addr}{xs:List V}{g:TG}{σ : St}{H:Hp}
end
end L2
namespace L2
open PySem PySem.Spec PyProof PyProof.Rows
theorem Fd{P:Program}{w:World}{k:aw}{u:Value}(h:(cy P w).is k u=true):RelV (kV k) u:=by
 cases k with
 | inl i=>
  obtain⟨t,rfl⟩:=Value.isInt_shape (show Value.isInt i u=true from h)
  exact⟨t,rfl⟩
 | inr x=>
  obtain⟨t,rfl⟩:=Value.isStrOf_shape (show Value.isStrOf x u=true from h)
  exact⟨t,rfl⟩
section
variable{X:Cx}
def v4:List V→Hp→VK→Prop:=fun xs H Q=>∃ d kvs,xs=[.ref d]∧H d=some (.dK kvs)∧kvs.length≤60000∧∀ l,H l=none→Q (.ref l) (upd H l (.lst (kvs.map fun kv=>kV kv.1)))
theorem wj{H:Hp}{Q:VK}(d:Addr):v4 [.ref d] H Q=∃ kvs,H d=some (.dK kvs)∧kvs.length≤60000∧∀ l,H l=none→Q (.ref l) (upd H l (.lst (kvs.map fun kv=>kV kv.1))):=
 propext ⟨fun ⟨_,kvs,e,q⟩=>by cases e; exact⟨kvs,q⟩,fun ⟨kvs,q⟩=>⟨d,kvs,rfl,q⟩⟩
theorem tf{m:Nat}(hr:Room m X.A):CallR X (.type "list") v4:=by
 intro pins s σ H xs us Q I r h
 obtain⟨d,kvs,rfl,ed,hn,q⟩:=h
 obtain⟨u,rfl,ru⟩:=fB r
 cases ru;obtain⟨_,hd,vs,rel,dd⟩:=iS I.hok (.inl ed)
 obtain⟨ep,hm⟩:=dd.dictAt
 have hs:sizeLine=16777216:=sizeLine_eq
 have hl:kvs.length=vs.length:=Paired.length rel
 refine PySem.W.kdl_call (PySem.W.kdl_dict (knd:=cy X.prog X.w) (kvs:=vs) (ep:=ep) hd) hr.hd hm (by omega) fun h' tk acc' c' hk hS hacc=>?_
 refine⟨.ref s.heap.objs.size,_,I.laid hk (Nat.le_refl _) (show ObjOk X.prog X.w _ h' _ (.lst (kvs.map fun kv=>kV kv.1)) from ⟨by simp; omega,acc'.toList,c',?_,by simpa using hS⟩),rfl,q _ (I.hok.fresh (Nat.le_refl _))⟩
 refine rE _ _ (by simp[hacc.1,hl]) fun j x w' e1 e2=>?_
 obtain⟨k,y,hk',his⟩:=hacc.2 j w' (by rw[← Array.getElem?_toList]; exact e2)
 rw[List.getElem?_map]at e1
 cases hkv:kvs[j]? with
 | none=>rw[hkv]at e1; cases e1
 | some kv=>
  rw[hkv]at e1
  cases e1;have:=(i7 rel hkv hk').1
  show RelV (kV kv.1) w'
  rw[this];exact Fd his
end
end L2
namespace L2
open PySem PySem.Spec PyProof PyProof.Rows PySem.SeqAt
section
variable{X:Cx}
end
end L2
namespace L2
open PySem PySem.Spec PyProof.Rows PySem.SeqAt
structure Fl (K:PySem.W.Frag) (C:Addr) (f:Str):Prop where
 c:Cls K C
 n:NoAttr K C f
structure MethAt (K:PySem.W.Frag) (C:Addr) (m qual:Str) (st:Stmt):Prop where
 ex:∃ f fd,Fun K m qual st f fd∧zh K C m f
 cl:Cls K C
structure MakeAt (K:PySem.W.Frag) (mg:Str→Option Value) (x:Str) (C:Addr) (qual:Str) (st:Stmt):Prop where
 ex:∃ f fd,Fun K "__init__" qual st f fd∧Mk K C f∧mg x=some (.ref C)
structure cE (P:Program) (w:World) (K:PySem.W.Frag) (mg:Str→Option Value) (base:Heap) (k:Nat) (C:Addr) (m:Str) (ps:List Str) (sp:Sp):Prop where
 ex:∃ f fd,FnOk P w K mg base iB k f fd ps sp∧Binds K fd ps []∧zh K C m f
 cl:Cls K C
structure iq (P:Program) (w:World) (K:PySem.W.Frag) (mg:Str→Option Value) (base:Heap) (k:Nat) (x:Str) (C:Addr) (ps:List Str) (sp:Sp):Prop where
 ex:∃ f fd,FnOk P w K mg base iB k f fd ps sp∧Binds K fd ps []∧Mk K C f∧mg x=some (.ref C)
section
variable{P:Program}{w:World}{K:PySem.W.Frag}{mg:Str→Option Value}{base:Heap}
theorem MethAt.mcal{C:Addr}{m qual:Str}{st:Stmt}{N ps:List Str}{k:Nat}{sp:Sp}(D:MethAt K C m qual st)(S:ar N ps (defScope st))
  (hb:∀ (kV doc pm:Value) (an:Option Addr) (cdv ct:Value) (us:List Value),us.length=ps.length→bindArgs (PySem.W.fnOf m qual (defArgs st) (defBody st) (defScope st) .none kV doc pm an cdv ct) ⟨us,[]⟩=pure (ps.zip us))
  (len:∀ vs H Q E,sp vs H Q E→vs.length=ps.length)
  (hbody:∀ (f:Addr) (cdv:Value) (A:Around) (outer:List Env) (s:Shared) (H:Hp) (vs:List V) (Q:VK) (E:XK),Room k (A.deeper (envOfC qual (defScope st) s.heap.objs.size f cdv))→sp vs H Q E→
   ∃ t,PSs (iO iB P w K mg base N qual (defScope st) f cdv A outer s H E).nox (defBody st) t∧t { nx:=fun _ H'=>Q .non H',rt:=Q } (start N vs) H):cE P w K mg base (k+1) C m ps sp:=by
 obtain⟨f,fd,F,m⟩:=D.ex
 exact⟨⟨f,fd,F.ok S len fun cdv A outer s H vs Q E hr h=>hbody f cdv A outer s H vs Q E hr h,F.binds hb,m⟩,D.cl⟩
theorem MakeAt.mkal{x:Str}{C:Addr}{qual:Str}{st:Stmt}{N ps:List Str}{k:Nat}{sp:Sp}(D:MakeAt K mg x C qual st)(S:ar N ps (defScope st))
  (hb:∀ (kV doc pm:Value) (an:Option Addr) (cdv ct:Value) (us:List Value),us.length=ps.length→bindArgs (PySem.W.fnOf "__init__" qual (defArgs st) (defBody st) (defScope st) .none kV doc pm an cdv ct) ⟨us,[]⟩=pure (ps.zip us))
  (len:∀ vs H Q E,sp vs H Q E→vs.length=ps.length)
  (hbody:∀ (f:Addr) (cdv:Value) (A:Around) (outer:List Env) (s:Shared) (H:Hp) (vs:List V) (Q:VK) (E:XK),Room k (A.deeper (envOfC qual (defScope st) s.heap.objs.size f cdv))→sp vs H Q E→
   ∃ t,PSs (iO iB P w K mg base N qual (defScope st) f cdv A outer s H E).nox (defBody st) t∧t { nx:=fun _ H'=>Q .non H',rt:=Q } (start N vs) H):iq P w K mg base (k+1) x C ps sp:=by
 obtain⟨f,fd,F,m,g⟩:=D.ex
 exact⟨f,fd,F.ok S len fun cdv A outer s H vs Q E hr h=>hbody f cdv A outer s H vs Q E hr h,F.binds hb,m,g⟩
end
def lz(C:Addr)(f:Str)(ta:TE):TE:=fun σ H Q=>ta σ H fun x H1=>∃ a,x = .ref a∧∃ dx fs v,H1 a=some (.ins C dx fs)∧fs.lookup f=some v∧Q v H1
def i3(C:Addr)(f:Str)(ta tv:TE):TS:=fun D σ H=>tv σ H fun y H1=>ta σ H1 fun x H2=>∃ a,x = .ref a∧∃ dx fs,H2 a=some (.ins C dx fs)∧fs.length<1000∧D.nx σ (upd H2 a (.ins C dx (cL f y fs)))
def wo(C:Addr)(m:Str)(sp:Sp)(ta:TE)(t:TA):TE:=fun σ H Q=>ta σ H fun x H1=>∃ a,x = .ref a∧(∃ dx fs,H1 a=some (.ins C dx fs)∧fs.lookup m=none)∧t σ H1 fun vs H2=>sp (.ref a::vs) H2 Q E0
def vL(C:Addr)(sp:Sp)(t:TA):TE:=fun σ H Q=>t σ H fun vs H1=>∀ x dx,H1 x=none→H1 dx=none→dx≠x→sp (.ref x::vs) (upd (upd H1 dx (.own x)) x (.ins C dx [])) (fun v H2=>v = .non∧Q (.ref x) H2) E0
section
variable{X:Cx}{o e value:Expr}{es:List Expr}{f m:Str}{pos pos' apos p:Pos}{ta tv:TE}{t:TA}{C:Addr}{x:Str}{ps:List Str}{sp:Sp}{j k:Nat}
theorem au(g:Fl X.K C f)(he:PE X e ta)(hb:attributeBase e f X.env (eval e X.env)=eval e X.env:=by rfl):PE X (.Attribute e f pos) (lz C f ta):=by
 intro pins s σ H Q I h
 refine A4 hb (bj (he pins s σ H _ I h) fun u s1 ⟨x,H1,I1,rx,a,ex,dx,fs,v,ea,l,q⟩=>?_)
 subst ex;obtain rfl:u=Value.ref a:=rx
 exact t0 I1 ea g.c g.n l fun u' s2 I2 ru=>⟨v,H1,I2,ru,q⟩
theorem b8(g:Fl X.K C f)(ha:PE X o ta)(hv:PE X value tv)(hs:swapsWith value (some (.Attribute o f pos')) pos.line X.env=pure false:=by rfl):PS X (.Assign [.Attribute o f pos'] value pos) (i3 C f ta tv):=by
 intro pins s σ H D I h
 refine plainObj_wpAny_Assign_Attribute (bj (hv pins s σ H _ I h) fun u s1 ⟨y,H1,I1,ry,q⟩=>bj (ha pins s1 σ H1 _ I1 q) fun ov s2 ⟨x,H2,I2,rx,a,ex,dx,fs,ea,l,q2⟩=>?_) hs
 subst ex;obtain rfl:ov=Value.ref a:=rx
 exact uq I2 ea g.c g.n l ry fun s3 I3=>⟨σ,_,I3,q2⟩
theorem b7(c:cE X.prog X.w X.K X.mg X.base j C m ps sp)(hr:Room k X.A)(he:PE X o ta)(ha:PA X (e::es) t)(hle:j≤k:=by decide){pl:Sem Bool}
  (hst:starEach (e::es) X.env=(false,eval e X.env)::starEach es X.env:=by rfl) (hpl:(backTo pos (starEach es X.env)).any (·.1)=false:=by rfl)
  (ht:eval (.Call (.Attribute o m apos) (e::es) [] pos) X.env=(do
   let ov ← eval o X.env
   standAt apos.atName
   let (f,first) ← holding [ov] (getMethod ov m pl)
   callWith pos f first (backTo pos (starEach (e::es) X.env)) (backToKw pos (keywordEach [] X.env))):=by rfl) :
  PE X (.Call (.Attribute o m apos) (e::es) [] pos) (wo C m sp ta t):=by
 obtain⟨f,fd,F,b,hm⟩:=c.ex
 intro pins s σ H Q I h
 refine PySem.W.methodCall_KW (pl:=pl) (bj (he pins s σ H _ I h) fun u s1 ⟨x,H1,I1,rx,a,ex,⟨dx,fs,ea,l⟩,q⟩=>?_) ht
 subst ex;obtain rfl:u=Value.ref a:=rx
 refine sY I1 ea c.cl hm l ?_
 refine PySem.W.callWith_K (first:=[.ref a]) (h₀:=X.base) I.ok.mod.kin hm.kp (bj (ha pos pins s1 σ H1 _ I1 q) fun us s2 ⟨vs,H2,I2,r,q2⟩=>⟨I2.kIn,?_⟩) hst hpl
 exact wR (us:=.ref a::us) (vs:=.ref a::vs) F (hr.mono hle) b .nil rX I2 (.cons rfl r) (by rw[List.append_nil]; exact q2)
theorem ol(c:iq X.prog X.w X.K X.mg X.base j x C ps sp)(hr:Room k X.A)(ha:PA X (e::es) t)(hle:j+1≤k:=by decide)(hg:Gl X x:=by first | exact vGg (by decide +kernel) | rfl)(hdb:(x == ("__debug__" : Str))=false:=by decide)
  (he:starEach (e::es) X.env=(false,eval e X.env)::starEach es X.env:=by rfl) (hpl:(backTo pos (starEach es X.env)).any (·.1)=false:=by rfl) :
  PE X (.Call (.Name x p) (e::es) [] pos) (vL C sp t):=by
 obtain⟨f,fd,F,b,M,hm⟩:=c.ex
 intro pins s σ H Q I h
 refine wpAny_Call_Name_kw (mx I hg hm ?_ hdb)
 refine PySem.W.callWith_K (h₀:=X.base) I.ok.mod.kin M.kp (bj (ha pos pins s σ H _ I h) fun us s1 ⟨vs,H1,I1,r,q⟩=>⟨I1.kIn,?_⟩) he hpl
 exact yJ M F (hr.mono hle) b .nil rX I1 r (by simpa only[List.append_nil] using q)
end
section
variable{C:Addr}{f m:Str}{sp:Sp}{ta tv:TE}{t:TA}{σ : St}{H:Hp}{Q:VK}
theorem xg:lz C f ta σ H Q=ta σ H fun x H1=>∃ a,x = .ref a∧∃ dx fs v,H1 a=some (.ins C dx fs)∧fs.lookup f=some v∧Q v H1:=rfl
theorem yM{D:dj}:i3 C f ta tv D σ H=tv σ H fun y H1=>ta σ H1 fun x H2=>∃ a,x = .ref a∧∃ dx fs,H2 a=some (.ins C dx fs)∧fs.length<1000∧D.nx σ (upd H2 a (.ins C dx (cL f y fs))):=rfl
theorem vk:wo C m sp ta t σ H Q=ta σ H fun x H1=>∃ a,x = .ref a∧(∃ dx fs,H1 a=some (.ins C dx fs)∧fs.lookup m=none)∧t σ H1 fun vs H2=>sp (.ref a::vs) H2 Q E0:=rfl
theorem ve:vL C sp t σ H Q=t σ H fun vs H1=>∀ x dx,H1 x=none→H1 dx=none→dx≠x→sp (.ref x::vs) (upd (upd H1 dx (.own x)) x (.ins C dx [])) (fun v H2=>v = .non∧Q (.ref x) H2) E0:=rfl
theorem uT{td ty:TE}:wm td ty σ H Q=td σ H fun x H1=>∃ a,x = .ref a∧zC H1 a∧ty σ H1 fun y H2=>∃ o,DGet H2 a y o∧Q (o.getD .non) H2:=rfl
theorem EQ{a:Addr}{kvs:List (aw × V)}(h:H a=some (.dK kvs)):zC H a:=.inl ⟨kvs,.inl h⟩
end
theorem Cp{f:Str}{v:V}{fs:List (Str × V)}:List.lookup f ((f,v)::fs)=some v:=by simp[List.lookup]
theorem cS{f g:Str}{v:V}{fs:List (Str × V)}(h:(f == g)=false):List.lookup f ((g,v)::fs)=List.lookup f fs:=by simp[List.lookup,h]
theorem Ca{f:Str}:List.lookup f ([]:List (Str × V))=none:=rfl
theorem zu{f:Str}{v x:V}{r:List (Str × V)}:cL f v ((f,x)::r)=(f,v)::r:=by simp[cL]
theorem wa{f g:Str}{v x:V}{r:List (Str × V)}(h:¬ g=f):cL f v ((g,x)::r)=(g,x)::cL f v r:=by simp[cL,h]
theorem yU{f:Str}{v:V}:cL f v []=[(f,v)]:=rfl
end L2
namespace L2
open PySem PySem.Spec PyProof.Rows PySem.SeqAt
section
variable{X:Cx}
end
theorem BF{x y:Str}(h:x.cps.toList=y.cps.toList):x=y:=by
 cases x; cases y
 exact congrArg _ (Array.toList_inj.mp h)
theorem gK(x y:Str):(x++y).cps.toList=x.cps.toList++y.cps.toList:=Array.toList_append
end L2
namespace L2
open PySem PySem.Spec PyProof.Rows
section
variable{X:Cx}{tg e:Expr}
def CT:TG:=fun _ _ _ _=>False
theorem oB:PG X tg CT:=fun _ _ _ _ _ _ _ _ _ h=>h.elim
theorem BS{K:PySem.W.Frag}{a:Addr}{g:TG}{tb:TS}{D:dj}{σ : St}{H:Hp}(h:SqL K H a [])(q:D.nx σ H):iL (kE K a) g tb D σ H:=
 c6 (xs:=[]) (fun _ σ' H'=>σ'=σ∧H'=H) ⟨rfl,rfl⟩ (fun i σ' H' _ z=>by rw[z.2]; exact h) (fun i x σ' H' z=>by simp at z) fun σ' H' z=>by rw[z.1,z.2]; exact q
end
end L2
namespace L2
open PySem PySem.Spec PyProof.Rows PySem.SeqAt
section
variable{prog:Program}{w:World}{A:Around}{R:Result→Shared→Prop}{I:Addr}{fp wr:List Addr}{Gm:Array GenState→Array GenState→Prop}{n:Nat}{P:Nat→Value→Prop}{St:Nat→Shared→Prop}{L:Bool}
end
section
variable{prog:Program}{w:World}{A:Around}{E:Value→Shared→Prop}{s:Shared}
end
section
variable{X:Cx}
end
section
variable{prog:Program}{w:World}{A:Around}{E:Value→Shared→Prop}{s:Shared}
end
section
variable{X:Cx}
end
section
variable{X:Cx}{c a b:Expr}{tA tB1 tB2:TT}{pos:Pos}
end
end L2
namespace L2
open PySem PySem.Spec PyProof.Rows PySem.SeqAt PySem.Builtin PySem.Builtin.Str PySem.StrLaws
section
variable{X:Cx}
end
end L2
namespace L2
open PySem PySem.Spec PyProof.Rows PySem.SeqAt PySem.Builtin PySem.Builtin.Str PySem.StrLaws
def qc:V→List V→Hp→VK→Prop:=fun x xs H Q=>∃ s y,x = .str s∧xs=[.str y]∧Q (.bl (decide (0+y.length≤s.length)&&subAt s y 0)) H
theorem qu{H:Hp}{Q:VK}(s y:Str):qc (.str s) [.str y] H Q=Q (.bl (decide (0+y.length≤s.length)&&subAt s y 0)) H:=
 propext ⟨fun ⟨_,_,e1,e2,q⟩=>by cases e1; cases e2; exact q,fun q=>⟨s,y,rfl,rfl,q⟩⟩
theorem n8{X:Cx}:MtR X "str.startswith" qc:=by
 intro pins s σ H x xs v us Q I rx r h
 obtain⟨z,y,rfl,rfl,q⟩:=h
 obtain⟨t,rfl⟩:=rx
 obtain⟨u,rfl,ru⟩:=fB r
 obtain⟨u,rfl⟩:=ru
 exact call_gives F.slot_str_startswith (typeIs_str _ _ _) F.entry_str_startswith (F.args_str_startswith_2 _ _) (gives_str_startswith z y t u) ⟨.bl _,H,I,rfl,q⟩
theorem kS{X:Cx}(K:PySem.W.Frag)(hK:X.K=K:=by rfl):OpR X (binaryOp .Add) (ut K):=hK ▸ BH
theorem xO{K:PySem.W.Frag}{H:Hp}{Q:VK}(a b:Addr):ut K (.ref a) (.ref b) H Q=∃ xs ys,SqT K H a xs∧SqT K H b ys∧xs≠[]∧xs.length+ys.length≤sizeLine∧(ys=[]→Q (.ref a) H)∧(ys≠[]→∀ p,H p=none→Q (.ref p) (upd H p (.tup (xs++ys)))):=
 propext ⟨fun ⟨_,_,xs,ys,e1,e2,q⟩=>by cases e1; cases e2; exact⟨xs,ys,q⟩,fun ⟨xs,ys,q⟩=>⟨a,b,xs,ys,rfl,rfl,q⟩⟩
end L2
namespace L2
open PySem PySem.Spec PyProof.Rows
section
variable{X:Cx}
end
end L2
namespace L2
open PySem PySem.Spec PyProof.Rows
abbrev jq:=List (Option Int)
def MO(P:Program)(w:World):HeapKind P w (jq):=zD (eQ P w) (show 0≤7 by decide)
def Fk(P:Program)(w:World)(a:Addr)(xs:List (jq × Addr × Value)):HO:=
 .ext fun h=>∃ o es ep,h.get? a=some o∧o.ExactDict∧o.data = .dict es ep∧es.toList=xs.map (entryOfKey (MO P w))∧(xs.map (·.1)).Nodup
def IT(H:Hp)(k:jq)(b:Addr):Prop:=H b=some (.tup (k.map i_))
def Jb(H:Hp)(p:jq × V)(q:jq × Addr × Value):Prop:=q.1=p.1∧IT H p.1 q.2.1∧RelV p.2 q.2.2
def DO(P:Program)(w:World)(H:Hp)(a:Addr)(kvs:List (jq × V)):Prop:=
 ∃ xs,H a=some (Fk P w a xs)∧(a == sysModules)=false∧xs.length≤sizeLine∧Paired (Jb H) kvs xs
section
variable{P:Program}{w:World}{H:Hp}
end
section
variable{X:Cx}{pins:List (Addr × Obj)}{σ : St}{H:Hp}{s:Shared}{a b:Addr}{k:jq}{kvs:List (jq × V)}
end
end L2
namespace L2
open PySem PySem.Spec PyProof PyProof.Rows
section
variable{K:PySem.W.Frag}{a b:Addr}{xs ys:List V}{g:TG}{te:TE}{nT:Nat}{σ : St}{D:Addr}{Q:VK}{H:Hp}
theorem tP{tc:TT}(Pv:Nat→List V→Hp→Prop)(h0:Pv 0 [] H)(hl:∀ i zs H,i≤xs.length→Pv i zs H→SqL K H a xs)
  (hs:∀ i zs H x t,xs[i]? = some x→i<xs.length→Pv i zs H→H t=none→g (.ref t) (σ++List.replicate nT none) (upd H t (.tup [.int i,x])) (tO xs.length i Pv D zs tc te))
  (hd:∀ zs H,Pv xs.length zs H→Q (.ref D) H):gg (rf K a) g tc te nT σ D Q H:=by
 refine yS xs.length Pv h0 (fun i zs H hi p=>⟨xs,xs[i],hl i zs H (Nat.le_of_lt hi) p,by simp[hi]⟩) (fun zs H p=>⟨xs,hl _ zs H (Nat.le_refl _) p,Nat.le_refl _⟩) (fun i zs H v H' hi p yl=>?_) hd
 obtain⟨t,x,ht,rfl,rfl,y1⟩:=yl
 exact hs i zs H x t (y1 xs (hl i zs H (Nat.le_of_lt hi) p)) hi p ht
end
theorem qL{α : Type}{xs:List α}{v:α}(h:xs[xs.length - 1]? = some v):ej xs (-1)=some v:=by
 have hl:0<xs.length:=by
  refine Classical.byContradiction fun hn=>?_
  rw[List.getElem?_eq_none (by omega)]at h; cases h
 unfold ej jv;rw[if_neg (by decide),if_pos (by omega)]
 show xs[(-1+(xs.length:Int)).toNat]? = some v
 rw[show (-1+(xs.length:Int)).toNat=xs.length - 1 by omega]; exact h
section
variable{prog:Program}{w:World}{A:Around}{E:Value→Shared→Prop}{s:Shared}
end
end L2
namespace L2
open PySem PySem.Spec PyProof PyProof.Rows
section
variable{X:Cx}
end
section
variable{X:Cx}
end
section
variable{d:Addr}{o:Obj}{kvs:List (aw × V)}{g:TG}{σ : St}{H:Hp}
end
end L2
namespace PySem.SeqAt
open AutoSeq1 (wpAny_loadPart')
open MeetsSeq MeetsSeq2 MeetsSeq3
end PySem.SeqAt
namespace L2
open PySem PySem.Spec PyProof PyProof.Rows
section
variable{X:Cx}
end
end L2
namespace L2
open PySem PySem.Spec PyProof PyProof.Rows
section
variable{X:Cx}
end
end L2
namespace L2
open PySem PySem.Spec PyProof.Rows
section
variable{X:Cx}{pins:List (Addr × Obj)}{σ : St}{H:Hp}{s:Shared}{a:Addr}{kvs:List (Option Int × V)}
end
section
variable{X:Cx}(P:Program)(w:World)
end
end L2
namespace L2
open PySem PySem.Spec PyProof PyProof.Rows
section
variable{prog:Program}{w:World}{A:Around}{E:Value→Shared→Prop}{s:Shared}
variable{z TI TO i1 i2 t1 t2:Addr}{xs ys:Array Value}{k1 k2:Nat}{a b:Value}
end
section
variable{K:PySem.W.Frag}{a b:Addr}{xs ys:List V}{g:TG}{te:TE}{nT:Nat}{σ : St}{D:Addr}{Q:VK}{H:Hp}
end
end L2
namespace L2
open PySem PySem.Spec PyProof PyProof.Rows PySem.SeqAt
section
variable{X:Cx}
end
section
variable{X:Cx}
end
section
variable{X:Cx}
def Jy:R2:=fun x y H Q=>∃ a kvs k,y = .ref a∧x=kV k∧H a=some (.dK kvs)∧Q (.bl (aN kvs k).isSome) H
theorem Dw{n:Nat}(hr:Room n X.A):OpR X (compareOp .In) Jy:=by
 intro pins s σ H x y v u Q I rx ry h
 obtain⟨a,kvs,k,rfl,rfl,e,q⟩:=h
 cases ry;exact FW (by have:=hr.un; omega) I (DGet.k e) rx fun s' I'=>⟨.bl _,H,I',rfl,q⟩
end
end L2
namespace L2
open PySem PySem.Spec PyProof PyProof.Rows
section
variable{X:Cx}
def oO:V→List V→Hp→VK→Prop:=fun x xs H Q=>∃ a kvs k v,x = .ref a∧xs=[kV k,v]∧H a=some (.dK kvs)∧kvs.length<sizeLine∧(∀ z,aN kvs k=some z→Q z H)∧(aN kvs k=none→Q v (upd H a (.dK (bC kvs k v))))
theorem ud:MtR X "dict.setdefault" oO:=by
 intro pins s σ H x vs v us Q I rx rv h
 obtain⟨a,kvs,k,y,rfl,rfl,e,hl,q1,q2⟩:=h
 cases rx;obtain⟨u,r,rfl,ru,rr⟩:=j0 rv
 obtain⟨z,hd,vs,rel,dd⟩:=zQ I.hok e
 have hz:vs.length≤sizeLine:=by rw[← rel.length]; exact z
 have hl':(bC kvs k y).length≤sizeLine:=by have:=cW kvs k y; omega
 have rv:=rel.val k;refine call_meetsIn PySem.F.slot_dict_setdefault dd.typeIs PySem.F.entry_dict_setdefault (PySem.F.args_dict_setdefault_3 _ _ _) (kt_meets_setdefault (cy X.prog X.w) a (i6 ru) hd r) ⟨vs,dd,hz,fun z' hz'=>?_,fun hn h' dd' hs=>?_⟩
 ·cases ho:aN kvs k with
  | none=>rw[ho,hz']at rv; exact rv.elim
  | some w'=>
   rw[ho,hz']at rv
   exact⟨w',H,I.tok _,rv,q1 w' ho⟩
 ·have ho:aN kvs k=none:=by
   cases ho:aN kvs k with
   | none=>rfl
   | some w'=>rw[ho,hn]at rv; exact rv.elim
  have he:∃ q,h'.get? a=some q:=let ⟨q,_,_,hq,_⟩:=dd'; ⟨q,hq⟩
  exact⟨y,_,j7 I (by rw[e]; exact True.intro) hs he (vm hl' hd (rel.put k rr) dd'),rr,q2 ho⟩
end
section
variable{prog:Program}{w:World}{κ : Type}[DecidableEq κ]{knd:HeapKind prog w κ}{A:Around}{E:Value→Shared→Prop}{s:Shared}
theorem qt{d a:Addr}{xs:List (κ × Addr × Value)}{k:κ}{dflt:Value}{Q:Value→Shared→Prop}(hu:knd.room A)(hkey:knd.is s.heap k a)(hm:s.heap.DictOfH knd d xs)(hsz:xs.length≤sizeLine)
  (h1:∀ v,(atKey xs k).map (·.2)=some v→Q v { s with toks:=s.toks+knd.draws k })
  (h2:atKey xs k=none→∀ h',h'.DictOfH knd d (storedH xs k a dflt)→Heap.SameBut d s.heap h'→Q dflt { s with heap:=h',toks:=s.toks+knd.draws k }) :
  wpAny (model prog w) A (dictSetDefault d (.ref a) dflt) Q E s:=by
 obtain⟨o,es,ep,ho,hc,hd,he,his,hn⟩:=hm
 unfold dictSetDefault
 try with_reducible refine wpAny_holding ?_
 refine wpAny_bind (knd.pyHash hu hkey ?_)
 refine wpAny_bind (wpAny_dictFind_heap (s:={ s with toks:=s.toks+knd.draws k }) hu hkey ho hd he his hn ?_ ?_)
 ·intro hno
  have hnot:k∉xs.map (·.1):=not_mem_keys_of_get hno
  refine wpAny_bind (wpAny_rule (wpAny_bind (wpAny_updateDictKeys (hz:=by have e:=size_of_entries he; omega) (s:={ s with toks:=s.toks+knd.draws k }) ho hd (wpAny_pure (h2 (atKey_none_of_get hno) _ ⟨_,_,ep+1,Heap.get?_update_self _ ho (Obj.isFreed_of_dict (Obj.data_mapDictKeys hd _)),
   hc.mapDictKeys _,Obj.data_mapDictKeys hd _,?_,?_,?_⟩ (Heap.SameBut.update ..))))))
  ·rw[storedH_new (atKey_none_of_get hno)]
   simp[he,entryOfKey]
  ·rw[storedH_new (atKey_none_of_get hno)]
   intro x hx
   rcases List.mem_append.mp hx with hx | hx
   ·exact knd.keeps (his x hx) ho hd (Heap.SameBut.update ..)
   ·simp only[List.mem_singleton]at hx
    subst hx;exact knd.keeps hkey ho hd (Heap.SameBut.update ..)
  ·rw[storedH_new (atKey_none_of_get hno)]
   rw[List.map_append,List.nodup_append];refine⟨hn,by simp,?_⟩
   intro x hx y hy
   simp only[List.map_cons,List.map_nil,List.mem_singleton]at hy
   subst hy;exact fun e=>hnot (e ▸ hx)
 ·intro j p hj
  refine wpAny_bind (wpAny_dictEntries (s:={ s with toks:=s.toks+knd.draws k }) ho hd ?_)
  rw[entry_at he j,hj];exact wpAny_bind (wpAny_rule (wpAny_pure (h1 _ (by rw[atKey_of_get hn hj]; rfl))))
theorem nQ(knd:HeapKind prog w κ)(d a:Addr)(hd:(d == sysModules)=false)(dflt:Value) :
  MeetsIn prog w (Builtin.«dict.setdefault» ⟨[.ref d,.ref a,dflt],[]⟩) (fun A R s=>knd.room A.in1∧∃ k xs,knd.is s.heap k a∧s.heap.DictOfH knd d xs∧xs.length≤sizeLine∧
   (∀ v,(atKey xs k).map (·.2)=some v→R (.ok (.ret v)) { s with toks:=s.toks+knd.draws k })∧
   (atKey xs k=none→∀ h',h'.DictOfH knd d (storedH xs k a dflt)→Heap.SameBut d s.heap h'→R (.ok (.ret dflt)) { s with heap:=h',toks:=s.toks+knd.draws k })):=
 .of_wp fun A R s ⟨hu,k,xs,hkey,hm,hz,h1,h2⟩=>by
  unfold Builtin.«dict.setdefault»
  refine wpAny_bind ?_
  unfold Builtin.Dict.keyAndDefault;refine wpAny_bind (wpAny_notOrdered_dict hm.typeIs ?_)
  show wpAny _ _ (pure (d,Value.ref a,some dflt)) _ _ s
  refine wpAny_pure ?_
  show wpAny _ _ (if (d == sysModules)=true then _ else (dictSetDefault d (.ref a) dflt >>= _)) _ _ s
  rw[if_neg (by rw[hd]; exact Bool.false_ne_true)]
  exact wpAny_bind (qt hu hkey hm hz (fun v hv=>wpAny_pure ⟨v,rfl,h1 v hv⟩) fun hn h' hm' hs'=>wpAny_pure ⟨dflt,rfl,h2 hn h' hm' hs'⟩)
end
section
variable{X:Cx}
def oY:V→List V→Hp→VK→Prop:=fun x xs H Q=>∃ a b ks kvs v,x = .ref a∧xs=[.ref b,v]∧H a=some (.dT kvs)∧H b=some (.tup (ks.map kV))∧kvs.length<sizeLine∧(∀ z,aN kvs ks=some z→Q z H)∧(aN kvs ks=none→Q v (upd H a (.dT (bC kvs ks v))))
theorem lF{n:Nat}(hr:Room n X.A):MtR X "dict.setdefault" oY:=by
 intro pins s σ H x vs v us Q I rx rv h
 obtain⟨a,b,k,kvs,y,rfl,rfl,e,eb,hl,q1,q2⟩:=h
 cases rx;obtain⟨u,r,rfl,ru,rr⟩:=j0 rv
 cases (show u=Value.ref b from ru)
 obtain⟨z,hd,xs,rel,dd⟩:=rO I.hok e
 have hz:xs.length≤sizeLine:=by rw[← Paired.length rel]; exact z
 have hl':(bC kvs k y).length≤sizeLine:=by have:=cW kvs k y; omega
 have rv:=rel.val k;refine call_meetsIn PySem.F.slot_dict_setdefault dd.typeIs PySem.F.entry_dict_setdefault (PySem.F.args_dict_setdefault_3 _ _ _) (nQ (tupleKind (cy X.prog X.w)) a b hd r) ⟨tupleKind_room_in1 (by have:=hr.un; omega),k,xs,h9 I.hok eb,dd,hz,fun z' hz'=>?_,fun hn h' dd' hs=>?_⟩
 ·cases ho:aN kvs k with
  | none=>rw[ho,hz']at rv; exact rv.elim
  | some w'=>
   rw[ho,hz']at rv
   exact⟨w',H,I.tok _,rv,q1 w' ho⟩
 ·have ho:aN kvs k=none:=by
   cases ho:aN kvs k with
   | none=>rfl
   | some w'=>rw[ho,hn]at rv; exact rv.elim
  obtain⟨q,es,ep,hq,h2,h3,h4,_,h5⟩:=dd'
  refine⟨y,upd H a (.dT (bC kvs k y)),j7 I (by rw[e]; exact True.intro) hs ⟨q,hq⟩ ⟨hl',hd,_,(rel.put k eb rr).keeps fun c ys ec=>?_,q,es,ep,hq,h2,h3,h4,h5⟩,rr,q2 ho⟩
  rw[am (bv ec e (fun z=>nomatch z))]
  exact ec
end
end L2
namespace L2
open PySem PySem.Spec PyProof PyProof.Rows
section
variable{X:Cx}{pins:List (Addr × Obj)}{σ : List (Option V)}{H:Hp}{s:Shared}
end
section
variable{X:Cx}
def AG:R2:=fun x y H Q=>∃ a b kvs k,y = .ref a∧x = .ref b∧H a=some (.dT kvs)∧H b=some (.tup (k.map kV))∧Q (.bl (!(aN kvs k).isSome)) H
theorem vb{n:Nat}(hr:Room n X.A):OpR X (compareOp .NotIn) AG:=by
 intro pins s σ H x y v u Q I rx ry h
 obtain⟨a,b,kvs,k,rfl,rfl,e,eb,q⟩:=h
 cases ry;exact By (by have:=hr.un; omega) I (DGet.t e eb) rx fun s' I'=>⟨.bl _,H,I',rfl,q⟩
def Ew:lZ:=fun o i v H Q=>∃ a b kvs k,o = .ref a∧i = .ref b∧H a=some (.dT kvs)∧H b=some (.tup (k.map kV))∧kvs.length<sizeLine∧Q (upd H a (.dT (bC kvs k v)))
theorem CZ{n:Nat}(hr:Room n X.A):PSet X Ew:=by
 intro pins s σ H o i v ov iv u Q I ro ri rv h
 obtain⟨a,b,kvs,k,rfl,rfl,e,eb,hl,q⟩:=h
 cases ro;exact mV (by have:=hr.un; omega) I (DPut.t e eb hl) ri rv fun s' I'=>⟨_,I',q⟩
def zP:R2:=fun x y H Q=>∃ a b kvs k v,x = .ref a∧y = .ref b∧H a=some (.dT kvs)∧H b=some (.tup (k.map kV))∧aN kvs k=some v∧Q v H
theorem Fb{n:Nat}(hr:Room n X.A):IxR X zP:=by
 intro value slice pins s σ H x y v u Q I rx ry h hs
 obtain⟨a,b,kvs,k,z,rfl,rfl,e,eb,l,q⟩:=h
 cases rx
 cases (show u=Value.ref b from ry)
 obtain⟨_,hd,xs,rel,dd⟩:=rO I.hok e
 obtain⟨w',hw,rw'⟩:=RelO.some_of (v:=z) (o:=(atKey xs k).map (·.2)) (by rw[← l]; exact rel.val k)
 obtain⟨p,hp,hp2⟩:=Option.map_eq_some_iff.mp hw
 have hl:typeLookup (.type "dict") "__getitem__" = pure (some (.builtin "dict.__getitem__")):=PySem.F.slot_dict_getitem.lookup
 refine subscriptTail_builtinR (x:=w') dd.typeIs hl ?_ hs
 refine wpAny_getItem_heap (tupleKind_room_in1 (by have:=hr.un; omega)) (h9 I.hok eb) dd hp ?_
 rw[hp2];exact⟨rfl,z,H,I.tok _,rw',q⟩
end
open PySem.SeqAt
section
variable{X:Cx}
def E6(K:PySem.W.Frag):R2:=fun x y H Q=>∃ (a c:Addr) (xs ys:List Int),x = .ref a∧y = .ref c∧SqT K H a (xs.map V.int)∧SqT K H c (ys.map V.int)∧Q (.bl (decide (xs=ys))) H
theorem BD(K:PySem.W.Frag){k:Nat}(hr:Room k X.A)(hK:X.K=K:=by rfl):OpR X (compareOp .Eq) (E6 K):=by
 subst hK;intro pins s σ H x y v u Q I rx ry h
 obtain⟨a,c,xs,ys,rfl,rfl,q1,q2,q⟩:=h
 cases rx
 cases ry;obtain⟨i1,r1,p1,z1⟩:=I.tuple q1
 obtain⟨i2,r2,p2,z2⟩:=I.tuple q2
 have l1:=r1.length;have l2:=r2.length;rw[List.length_map]at l1 l2
 have hit:∀ j (h1:j<i1.toArray.size) (h2:j<i2.toArray.size),EqAt X.A.in1 s i1.toArray[j] i2.toArray[j] (decide (xs.getD j 0=ys.getD j 0)):=fun j h1 h2=>by
  obtain⟨x,hx,rx⟩:=r1.of (i:=j) (u:=i1.toArray[j]) (by simp at h1 ⊢)
  obtain⟨y,hy,ry⟩:=r2.of (i:=j) (u:=i2.toArray[j]) (by simp at h2 ⊢)
  rw[List.getElem?_map]at hx hy
  cases e1:xs[j]? with
  | none=>rw[e1]at hx; cases hx
  | some x'=>
   cases e2:ys[j]? with
   | none=>rw[e2]at hy; cases hy
   | some y'=>
    rw[e1]at hx; rw[e2]at hy
    cases hx; cases hy
    have e3:decide (xs.getD j 0=ys.getD j 0)=fg (.int x') (.int y'):=by
     rw[List.getD_eq_getElem?_getD,List.getD_eq_getElem?_getD,e1,e2];show decide (x'=y')=(x' == y')
     rfl
    rw[e3];exact jO rx ry rfl rfl
 have ez:decide (xs=ys)=((List.range (min i1.toArray.size i2.toArray.size)).all (fun j=>decide (xs.getD j 0=ys.getD j 0))&&i1.toArray.size == i2.toArray.size):=by
  have e1:i1.toArray.size=xs.length:=by simp; omega
  have e2:i2.toArray.size=ys.length:=by simp; omega
  rw[e1,e2,Bool.eq_iff_iff,Bool.and_eq_true,decide_eq_true_eq,List.all_eq_true,beq_iff_eq]
  constructor
  ·rintro rfl; exact⟨fun j _=>by simp,rfl⟩
  ·rintro⟨hj,hl⟩
   refine List.ext_getElem hl fun j h1 h2=>?_
   have:=hj j (List.mem_range.mpr (by omega))
   rw[decide_eq_true_eq,List.getD_eq_getElem?_getD,List.getD_eq_getElem?_getD,List.getElem?_eq_getElem h1,List.getElem?_eq_getElem h2]at this
   exact this
 rw[ez]at q
 exact(RcAt.tuples (show s.heap.IsTuple a i1.toArray from p1) (show s.heap.IsTuple c i2.toArray from p2) (by have:=hr.un; omega) hit) _ _ _ _ ⟨.bl _,H,I,rfl,q⟩
end
end L2
namespace PySem.SeqAt
open AutoSeq1 (wpAny_loadPart')
open MeetsSeq MeetsSeq2 MeetsSeq3
open SeqRoads2
section
variable{A:Around}{s:Shared}
end
end PySem.SeqAt
namespace L2
open PySem PySem.Spec PyProof PyProof.Rows PySem.SeqAt
section
variable{X:Cx}{pins:List (Addr × Obj)}{σ : St}{H:Hp}{s:Shared}
end
end L2
namespace PySem
section
variable{M:Program}{w:World}{A:Around}{R:Result→Shared→Prop}{I:Addr}{fp wr:List Addr}{n:Nat}{Pv:Nat→Value→Prop}{St:Nat→Heap→Prop}
end
end PySem
namespace PySem
section
variable{M:Program}{w:World}{A:Around}{E:Value→Shared→Prop}{s:Shared}
end
end PySem
namespace L2
open PySem PySem.Spec PyProof PyProof.Rows PySem.SeqAt
section
variable{X:Cx}
end
end L2
namespace L2
open PySem PySem.Spec PyProof PyProof.Rows
section
variable{X:Cx}
end
end L2
namespace L2
open PySem PySem.Spec PyProof.Rows
abbrev iI:=Sum Str (List (Option Int))
def tJ(prog:Program)(w:World)(h:Heap):iI→Value→Prop
 | .inl u,v=>∃ t,v=Value.str u t
 | .inr l,v=>IsTupK (eQ prog w) h l v
theorem Fu(i j:Str):decide (i=j)=decide ((Sum.inl i:iI)=Sum.inl j):=by
 by_cases z:i=j
 ·subst z; simp
 ·have z':¬ ((Sum.inl i:iI)=Sum.inl j):=fun q=>z (Sum.inl.inj q)
  rw[decide_eq_false z',decide_eq_false z]
theorem Fp(l l':List (Option Int)):decide (l=l')=decide ((Sum.inr l:iI)=Sum.inr l'):=by
 by_cases z:l=l'
 ·subst z; simp
 ·have z':¬ ((Sum.inr l:iI)=Sum.inr l'):=fun q=>z (Sum.inr.inj q)
  rw[decide_eq_false z',decide_eq_false z]
theorem Ff(i:Str)(l:List (Option Int)):decide ((Sum.inl i:iI)=Sum.inr l)=false:=decide_eq_false (fun q=>nomatch q)
theorem E_(i:Str)(l:List (Option Int)):decide ((Sum.inr l:iI)=Sum.inl i)=false:=decide_eq_false (fun q=>nomatch q)
theorem EZ{prog:Program}{w:World}{A:Around}{E:Value→Shared→Prop}{s:Shared}{u v:Value}{Q:Bool→Shared→Prop}(hu:A.units+1<cLine):∀ (x y:iI),tJ prog w s.heap x u→tJ prog w s.heap y v→Q (decide (x=y)) s→
  wpAny (model prog w) A (PySem.eqBool u v) Q E s
 | .inl i,.inl j,⟨t,e1⟩,⟨t',e2⟩,h=>by
  subst e1 e2;rw[← Fu]at h
  exact wpAny_eqBool_str h
 | .inl i,.inr l,⟨t,e1⟩,hy,h=>by
  subst e1;obtain⟨b,its,rfl,ht⟩:=IsTupK.tup (K:=eQ prog w) hy
  rw[Ff]at h
  exact SeqAt.EqAt.str_tuple i t ht (Nat.lt_of_succ_lt hu) prog w E Q h
 | .inr l,.inl j,hx,⟨t,e1⟩,h=>by
  subst e1;obtain⟨b,its,rfl,ht⟩:=IsTupK.tup (K:=eQ prog w) hx
  rw[E_]at h
  exact SeqAt.EqAt.tuple_str j t ht (Nat.lt_of_succ_lt hu) prog w E Q h
 | .inr l,.inr l',hx,hy,h=>by
  rw[← Fp]at h
  exact mO (K:=eQ prog w) (rn hu) hx hy h
def Gg(prog:Program)(w:World):IK prog w iI where
 is:=tJ prog w
 hash:=fun k=>match k with
  | .inl u=>hashStr w u
  | .inr l=>pZ (eQ prog w) l
 draws:=fun k=>match k with
  | .inl _=>1
  | .inr l=>im (eQ prog w) l+1
 deep:=1
 inj:=fun {h v x y} a b=>by
  cases x with
  | inl i=>
   obtain⟨t,rfl⟩:=(show ∃ t,v=Value.str i t from a)
   cases y with
   | inl j=>obtain⟨t',e⟩:=(show ∃ t',Value.str i t=Value.str j t' from b); injection e with e1 _; rw[e1]
   | inr l=>obtain⟨a,_,e,_⟩:=IsTupK.tup (show IsTupK (eQ prog w) h l _ from b); cases e
  | inr l=>
   cases y with
   | inl j=>
    obtain⟨t,rfl⟩:=(show ∃ t,v=Value.str j t from b)
    obtain⟨a,_,e,_⟩:=IsTupK.tup (show IsTupK (eQ prog w) h l _ from a); cases e
   | inr l'=>rw[(sg (eQ prog w)).inj (show IsTupK (eQ prog w) h l v from a) (show IsTupK (eQ prog w) h l' v from b)]
 keeps:=fun {h h' k v d o es ep} a ho hd hs=>by
  cases k with
  | inl i=>exact a
  | inr l=>exact(sg (eQ prog w)).keeps (show IsTupK (eQ prog w) h l v from a) ho hd hs
 pyHash:=fun {A E s k v Q} hu hk h=>by
  cases k with
  | inl i=>
   obtain⟨t,rfl⟩:=(show ∃ t,v=Value.str i t from hk)
   exact wpAny_pyHash_str h
  | inr l=>exact jJ (K:=eQ prog w) (rn hu) hk h
 eqBool:=fun {A E s x y u v Q} hu hx hy h=>EZ hu x y hx hy h
 quiet:=fun {A E s k v n Q} hk h=>by
  cases k with
  | inl i=>
   obtain⟨t,rfl⟩:=(show ∃ t,v=Value.str i t from hk)
   rw[eqIsQuiet_byValue _ rfl];exact wpAny_pure h
  | inr l=>exact iY (K:=eQ prog w) hk h
abbrev lY:=Str × List (Option Int)
def sk(k:lY):List iI:=[.inl k.1,.inr k.2]
def MS(P:Program)(w:World):HeapKind P w (List iI):=zD (Gg P w) (show 1≤7 by decide)
def E7(P:Program)(w:World)(a:Addr)(xs:List (List iI × Addr × Value)):HO:=
 .ext fun h=>∃ o es ep,h.get? a=some o∧o.ExactDict∧o.data = .dict es ep∧es.toList=xs.map (entryOfKey (MS P w))∧(xs.map (·.1)).Nodup
def Ip(H:Hp)(k:lY)(b:Addr):Prop:=∃ t,H b=some (.tup [.str k.1,.ref t])∧H t=some (.tup (k.2.map i_))
def G7(H:Hp)(p:lY × V)(q:List iI × Addr × Value):Prop:=q.1=sk p.1∧Ip H p.1 q.2.1∧RelV p.2 q.2.2
def DS(P:Program)(w:World)(H:Hp)(a:Addr)(kvs:List (lY × V)):Prop:=
 ∃ xs,H a=some (E7 P w a xs)∧(a == sysModules)=false∧xs.length≤sizeLine∧Paired (G7 H) kvs xs
section
variable{P:Program}{w:World}{H:Hp}
end
section
variable{X:Cx}{pins:List (Addr × Obj)}{σ : St}{H:Hp}{s:Shared}{a b:Addr}{k:lY}{kvs:List (lY × V)}
end
end L2
namespace L2
open PySem PySem.Spec PyProof.Rows
section
variable{prog:Program}{w:World}{A:Around}{E:Value→Shared→Prop}{s:Shared}
end
section
variable{X:Cx}{pins:List (Addr × Obj)}{σ : St}{H:Hp}{s:Shared}
end
section
variable{X:Cx}{pins:List (Addr × Obj)}{σ : St}{H H1:Hp}{s s1:Shared}
end
end L2
namespace L2
open PySem PySem.Spec PyProof.Rows
section
variable{prog:Program}{w:World}{A:Around}{E:Value→Shared→Prop}{s:Shared}
end
section
variable{X:Cx}
end
end L2
section
open PySem PySem.Spec PyProof.Rows L2
seal L2.PE L2.PT L2.PW L2.PA L2.PS L2.PSs L2.PG L2.PGs L2.PSet L2.PI L2.PIfs L2.OpR L2.UnR L2.CallR L2.IxR L2.MtR L2.SlR L2.PO L2.PPs
local macro_rules | `(tactic| walk_at "rd1")=>`(tactic| try simp only [Am,rZ,qv,xY,AM,Bj,zw,yG,BE,yf,BB,xr,As,Aw,Ao,Fi,DX,Dp,xW,Fa,Bs,DZ,A1,y7,Do,EF,xi,Bo,Bp,Bn,w5,EA,AV,xg,yM,vk,ve,uT,qu,xO,CM,xH,s_,y6,AH,Be,xq,ya,AJ,yi,A9,xN,yy,vi,yB,zz,xX,xR,Ar,x5,DB,Fn,vM,u9,m_,uP,vg,Bq,yA,yX,sP,vc,A8,Fc,Bc,ze,yQ,yt,yx,uM,wC,x_,xD,yc,iZ,zd,Bw,AO,wA,uS,fN,q_,wj,xw,w_,yK,yD,yd,AK,BJ,Bl,L2.start,List.map_cons,List.map_nil,List.length_cons,List.length_nil,List.replicate,List.cons_append,List.nil_append,List.append_nil,List.getElem?_cons_zero,List.getElem?_cons_succ,List.set_cons_zero,List.set_cons_succ,Nat.reduceAdd,Nat.reduceSub,Option.some.injEq,exists_eq_left',exists_eq_left,V.int.injEq,V.ref.injEq,V.str.injEq,V.bl.injEq,EH,AW,and_true,true_and,decide_eq_true_eq,Bool.not_true,Bool.not_false,if_true,Bool.false_eq_true,if_false,ite_true,ite_false])
local macro_rules | `(tactic| walk_at "nx")=>`(tactic| ((first | rw [qR] | (dsimp only; rw [qR])); walk_at "rd1"))
local macro_rules | `(tactic| walk_at "lk")=>`(tactic| repeat (first | exact Cp | exact Ca | rw [cS (by decide +kernel)]))
local macro_rules | `(tactic| walk_at "pf")=>`(tactic| repeat (first | rw [zu] | rw [yU] | rw [wa (by decide +kernel)]))
namespace K44
open PySem L2
abbrev aY:Stmt:=inClass (top 33) 0
theorem g_:ar ["self", "head", "lines", "blocks"] ["self", "head", "lines", "blocks"] (defScope aY):=mKk
abbrev gLk (s : Stmt) (n : Str) : Prop:=(defScope s).names.lookup n=some .globalImplicit
theorem oIn {a b : Prop} (h : a) : a ∨ b:=.inl h
abbrev ci:Stmt:=inClass (top 14) 0
theorem lC:ar ["self", "inputs", "watches"] ["self", "inputs", "watches"] (defScope ci):=mKk
abbrev bR:Stmt:=inClass (top 14) 2
theorem kg:ar ["self", "bound"] ["self", "bound"] (defScope bR):=mKk
abbrev cr:Stmt:=inClass (top 14) 3
theorem kU:ar ["self", "holder"] ["self", "holder"] (defScope cr):=mKk
abbrev cY:Stmt:=inClass (top 14) 4
theorem qx:ar ["self", "holder", "handle"] ["self", "holder", "handle"] (defScope cY):=mKk
abbrev cF:Stmt:=inClass (top 14) 1
theorem l8:ar ["self", "at"] ["self", "at"] (defScope cF):=mKk
abbrev fF:Stmt:=top 16
theorem sc_do_row:ar ["run", "row", "line"] ["run", "row"] (defScope fF):=mKk
abbrev dD:Stmt:=top 17
theorem nR:ar ["run", "row"] ["run", "row"] (defScope dD):=mKk
abbrev f_:Stmt:=top 18
theorem vY:ar ["code", "run"] ["code", "run"] (defScope f_):=mKk
abbrev dN:Stmt:=top 19
theorem qw:ar ["code", "inputs"] ["code", "inputs"] (defScope dN):=mKk
abbrev cH:Stmt:=top 21
theorem mM:ar ["code", "rules", "inputs"] ["code", "rules", "inputs"] (defScope cH):=mKk
abbrev eT:Stmt:=top 25
theorem nW:ar ["kind"] ["kind"] (defScope eT):=mKk
abbrev fI:Stmt:=top 26
theorem tm:ar ["step"] ["step"] (defScope fI):=mKk
abbrev d0:Stmt:=top 27
theorem pR:ar ["step"] ["step"] (defScope d0):=mKk
abbrev bO:Stmt:=top 28
theorem sc_steps_within:ar ["program", "steps", "step", "block"] ["program"] (defScope bO):=mKk
abbrev b9:Stmt:=top 29
theorem sc_names_in:ar ["steps", "names", "step", "part", "kind"] ["steps"] (defScope b9):=mKk
theorem Lk:gLk b9 "zip":=by decide +kernel
abbrev bo:Stmt:=top 30
theorem sc_lines_of:ar ["program", "lines", "step", "block", "closer"] ["program"] (defScope bo):=mKk
theorem JU:gLk bo "zip":=by decide +kernel
abbrev eY:Stmt:=top 31
theorem qo:ar ["program"] ["program"] (defScope eY):=mKk
abbrev dn:Stmt:=top 34
theorem lX:ar ["steps", "line"] ["steps", "line"] (defScope dn):=mKk
abbrev aS:Stmt:=top 35
theorem sc_numbered_step:ar ["step", "line", "lines", "blocks", "block", "steps"] ["step", "line"] (defScope aS):=mKk
abbrev bK:Stmt:=top 36
theorem sc_numbered_steps:ar ["steps", "line", "numbered", "step"] ["steps", "line"] (defScope bK):=mKk
abbrev bW:Stmt:=top 38
theorem nZ:ar ["program"] ["program"] (defScope bW):=mKk
theorem JZ:gLk bW "enumerate":=by decide +kernel
abbrev cz:Stmt:=top 39
theorem sc_slots_of:ar ["program", "slots", "slot", "holder"] ["program"] (defScope cz):=mKk
theorem Lf:gLk cz "enumerate":=by decide +kernel
abbrev bP:Stmt:=top 40
theorem sc_simple_row:ar ["step", "slots", "line"] ["step", "slots"] (defScope bP):=mKk
theorem Js:ao (defScope bP) "slots" := Or.inr (Or.inl (by decide +kernel))
abbrev aZ:Stmt:=top 41
theorem sc_lend_rows:ar ["step", "at", "slots", "turned", "line", "back", "giver", "taker", "lent", "ahead", "within"] ["step", "at", "slots", "turned"] (defScope aZ):=mKk
abbrev bN:Stmt:=top 42
theorem sc_if_rows:ar ["step", "at", "slots", "turned", "more", "jump", "rest", "behind", "test"] ["step", "at", "slots", "turned"] (defScope bN):=mKk
abbrev cg:Stmt:=top 43
theorem sc_loop_rows:ar ["step", "at", "slots", "within", "behind"] ["step", "at", "slots"] (defScope cg):=mKk
abbrev bw:Stmt:=top 44
theorem sc_while_rows:ar ["step", "at", "slots", "turned", "first", "loop", "behind"] ["step", "at", "slots", "turned"] (defScope bw):=mKk
abbrev bT:Stmt:=top 45
theorem sc_rows_of:ar ["steps", "at", "slots", "turned", "rows", "step", "place"] ["steps", "at", "slots", "turned"] (defScope bT):=mKk
abbrev b4:Stmt:=top 46
theorem sc_rows_and_end:ar ["program", "turned", "steps"] ["program", "turned"] (defScope b4):=mKk
abbrev gA:Stmt:=top 47
theorem uo:ar ["program"] ["program"] (defScope gA):=mKk
abbrev dX:Stmt:=top 48
theorem mE:ar ["program"] ["program"] (defScope dX):=mKk
abbrev dm:Stmt:=top 50
theorem lW:ar ["_law_script", "_law_k"] ["_law_script", "_law_k"] (defScope dm):=mKk
abbrev dA:Stmt:=top 51
theorem sc_law_mixed:ar ["_law_cell", "_law_k", "_law_number"] ["_law_cell", "_law_k"] (defScope dA):=mKk
abbrev a_:Stmt:=top 52
theorem sc_law_words:ar ["_law_cell", "_law_many", "_law_letters", "_law_size", "_law_at", "_law_words_here", "_law_k", "_law_word", "_law_j"] ["_law_cell", "_law_many"] (defScope a_):=mKk
theorem Ds:gLk a_ "range":=by decide +kernel
abbrev cG:Stmt:=top 53
theorem sc_law_step:ar ["_law_cell", "_law_names", "_law_words_here", "_law_x", "_law_y"] ["_law_cell", "_law_names", "_law_words_here"] (defScope cG):=mKk
abbrev cT:Stmt:=top 54
theorem sc_law_shut:ar ["_law_piles", "_law_heads", "_law_body", "_law_head"] ["_law_piles", "_law_heads"] (defScope cT):=mKk
abbrev aH:Stmt:=top 55
theorem sc_law_program:ar ["_law_cells", "_law_names", "_law_words_here", "_law_low", "_law_piles", "_law_heads", "_law_lends", "_law_ties", "_law_cell", "_law_kind", "_law_bound"] ["_law_cells", "_law_names", "_law_words_here", "_law_low"] (defScope aH):=mKk
abbrev fu:Stmt:=top 56
theorem o_:ar ["_law_cell", "_law_low"] ["_law_cell", "_law_low"] (defScope fu):=mKk
abbrev bQ:Stmt:=top 57
theorem sc_law_is_log:ar ["_law_found", "_law_due", "_law_one", "_law_other"] ["_law_found", "_law_due"] (defScope bQ):=mKk
theorem HR:gLk bQ "zip":=by decide +kernel
abbrev bm:Stmt:=top 58
theorem sc_law:ar ["_law_script", "_law_names", "_law_words_here", "_law_low", "_law_program_here", "_law_inputs", "_law_odd", "_law_rules", "_law_code", "_law_handed", "_law_due", "_law_given"] ["_law_script"] (defScope bm):=mKk
theorem Jc:ao (defScope bm) "_law_low" := Or.inr (Or.inl (by decide +kernel))
theorem IS:aT (defScope bm) "_law_low" := Or.inr (by decide +kernel)
theorem Kx:(defScope bm).names.lookup ("_law_inputs" : Str)=some .local:=by decide +kernel
def bi(k:Str):List Str:=if k = "lend" then ["back"] else if k = "if" then ["else", "fi"] else if k = "while" then ["done"] else []
def jy:V→Str→Prop
 | .str y,x=>x=y
 | .int i,x=>i.natAbs.log2<1920∧x=Str.ofString (toString i)
 | _,_=>False
def cf:List (List Str)→List Str→List Str
 | i::is,c::cs=>(i++[c])++cf is cs
 | _,_=>[]
structure Es (LA:Addr→List Str→Prop) (H:Hp) (a:Addr) (kind:Str) (hs:List V) (ws:List Str) (bs:List Addr) (ins:List (List Str)):Prop where
 at':H a=some (.tup (.str kind::hs++bs.map V.ref))
 parts:Paired jy hs ws
 size:((kind::ws).map (·.length)).sum+(kind::ws).length≤10000
 bl:bs.length=(bi kind).length
 inn:Paired LA bs ins
def lI(LA:Addr→List Str→Prop)(H:Hp)(a:Addr)(ls:List Str):Prop:=∃ kind hs ws bs ins,Es LA H a kind hs ws bs ins∧ls=Txt.join " " (kind::ws)::cf ins (bi kind)
def LinesAt:Nat→Hp→Addr→List Str→Prop
 | 0=>fun _ _ _=>False
 | d+1=>fun H p L=>∃ (as:List Addr) (Ls:List (List Str)),H p=some (.lst (as.map V.ref))∧Paired (lI (LinesAt d H) H) as Ls∧L=Ls.flatten
theorem LinesAt.mono:∀ (d:Nat) {H H':Hp} {p:Addr} {L:List Str},LinesAt d H p L→Same H H'→LinesAt d H' p L
 | 0,_,_,_,_,h,_=>h.elim
 | d+1,H,H',p,L,⟨as,Ls,h1,h2,h3⟩,sm=>by
  refine⟨as,Ls,sm _ _ h1,Paired.imp' (fun a ls z=>?_) h2,h3⟩
  obtain⟨kind,hs,ws,bs,ins,z1,z2⟩:=z
  exact⟨kind,hs,ws,bs,ins,⟨sm _ _ z1.at',z1.parts,z1.size,z1.bl,Paired.imp' (fun b i y=>LinesAt.mono d y sm) z1.inn⟩,z2⟩
theorem cv{α β : Type}{R:α→β→Prop}:∀ {xs:List α} {ys:List β} {i:Nat} {x:α},Paired R xs ys→xs[i]? = some x→∃ y,ys[i]? = some y∧R x y
 | _,_,_,_,.nil,e=>by simp at e
 | _,_,0,_,.cons (b:=b) h _,e=>⟨b,rfl,by have:=Option.some.inj e; subst this; exact h⟩
 | _,_,i+1,_,.cons _ t,e=>by
  rw[List.getElem?_cons_succ]at e
  obtain⟨y,h1,h2⟩:=cv t e
  exact⟨y,by rw[List.getElem?_cons_succ]; exact h1,h2⟩
theorem aL{α β : Type}{R:α→β→Prop}:∀ {xs:List α} {ys:List β},Paired R xs ys→xs.length=ys.length
 | _,_,.nil=>rfl
 | _,_,.cons _ t=>by rw[List.length_cons,List.length_cons,aL t]
theorem kq:∀ {ins:List (List Str)} {cs:List Str} {j:Nat} {i:List Str} {c:Str},ins[j]? = some i→cs[j]? = some c→cf (ins.take (j+1)) (cs.take (j+1))=cf (ins.take j) (cs.take j)++(i++[c])
 | [],_,_,_,_,h,_=>by simp at h
 | _::_,[],_,_,_,_,h=>by simp at h
 | a::ins,b::cs,0,i,c,h,h'=>by
  have e1:a=i:=by simpa using h
  have e2:b=c:=by simpa using h'
  subst e1 e2;show (a++[b])++cf [] []=cf [] []++(a++[b])
  simp[cf]
 | a::ins,b::cs,j+1,i,c,h,h'=>by
  have ih:=kq (ins:=ins) (cs:=cs) (j:=j) (i:=i) (c:=c) (by simpa using h) (by simpa using h')
  show (a++[b])++cf (ins.take (j+1)) (cs.take (j+1))=((a++[b])++cf (ins.take j) (cs.take j))++(i++[c])
  rw[ih,List.append_assoc (a++[b])]
theorem lh:∀ {ins:List (List Str)} {cs:List Str} (j:Nat),(cf (ins.take j) (cs.take j)).length≤(cf ins cs).length
 | [],_,j=>by simp[cf]
 | _::_,[],j=>by cases j <;> simp[cf]
 | a::ins,b::cs,0=>by simp[cf]
 | a::ins,b::cs,j+1=>by
  have ih:=lh (ins:=ins) (cs:=cs) j;show ((a++[b])++cf (ins.take j) (cs.take j)).length≤((a++[b])++cf ins cs).length
  simp only[List.length_append]; omega
theorem lU{α : Type}:∀ (Ls:List (List α)) (i:Nat),(Ls.take i).flatten.length≤Ls.flatten.length
 | [],i=>by simp
 | a::Ls,0=>by simp
 | a::Ls,i+1=>by
  have ih:=lU Ls i;rw[List.take_succ_cons,List.flatten_cons,List.flatten_cons,List.length_append,List.length_append]; omega
theorem uK{α : Type}{Ls:List (List α)}{i:Nat}{l:List α}(h:Ls[i]? = some l):(Ls.take (i+1)).flatten=(Ls.take i).flatten++l:=by
 rw[List.take_add_one,h,List.flatten_append]; simp
def jC(K:PySem.W.Frag):Sp:=fun vs H Q _=>∃ k:Str,vs=[.str k]∧∀ (p:Addr) (H':Hp),Same H H'→SqT K H' p ((bi k).map V.str)→Q (.ref p) H'
def jV(K:PySem.W.Frag):Sp:=fun vs H Q _=>∃ (a:Addr) (k:Str) (xs:List V),vs=[.ref a]∧SqT K H a (.str k::xs)∧(bi k).length≤xs.length+1∧
 ∀ (p:Addr) (H':Hp),Same H H'→SqT K H' p ((V.str k::xs).take (xs.length+1 - (bi k).length))→Q (.ref p) H'
def gS(K:PySem.W.Frag):Sp:=fun vs H Q _=>∃ (a:Addr) (k:Str) (xs:List V),vs=[.ref a]∧SqT K H a (.str k::xs)∧(bi k).length≤xs.length+1∧
 ∀ (p:Addr) (H':Hp),Same H H'→SqT K H' p ((V.str k::xs).drop (xs.length+1 - (bi k).length))→Q (.ref p) H'
def q8(d:Nat):Sp:=fun vs H Q _=>∃ (p:Addr) (L:List Str),vs=[.ref p]∧LinesAt d H p L∧L.length≤10000∧∀ (q:Addr) (H':Hp),Same H H'→H q=none→H' q=some (.lst (L.map V.str))→Q (.ref q) H'
section
variable{P:Program}{w:World}{K:PySem.W.Frag}{mg:Str→Option Value}{base:Heap}
theorem sS(D:DefAt K mg "closers_of" eT) {d a0 a1 a2:Addr} (g_CLOSERS:mg "CLOSERS" = some (.ref d)) (m:ModD w K d [("lend", .ref a0),("if", .ref a1),("while", .ref a2)])
  (q0:∀ H:Hp,SqT K H a0 [.str "back"]) (q1:∀ H:Hp,SqT K H a1 [.str "else", .str "fi"]) (q2:∀ H:Hp,SqT K H a2 [.str "done"]):aR P w K mg base 1 "closers_of" ["kind"] (jC K):=by
 refine D.cal nW (fun _ _ _ _ _ _ us hl=>match us,hl with | [_],_=>rfl) (fun vs H Q E h=>by obtain⟨k,rfl,_⟩:=h; rfl) (fun f cdv A outer s H vs Q E hr h=>?_)
 obtain⟨k,rfl,q⟩:=h
 refine⟨_,(aj (aG (Df w K PySem.F.plainAttrs_dict PySem.F.slot_dict_get PySem.F.type_dict_get (AY w K) (rB g_CLOSERS) (aa (pv 0) (aa (aX ac) ac))))),?_⟩
 walk_at "rd1";refine⟨⟨d,_,rfl,m⟩,by decide,fun p hp=>?_⟩
 refine⟨d,_,k,.ref p,rfl,rfl,m,?_⟩
 have sm:=ak hp (.tup []);unfold bi at q
 by_cases h0:k = "lend"
 ·subst h0; exact q _ _ sm (q0 _)
 rw[if_neg h0]at q
 by_cases h1:k = "if"
 ·subst h1; exact q _ _ sm (q1 _)
 rw[if_neg h1]at q
 by_cases h2:k = "while"
 ·subst h2; exact q _ _ sm (q2 _)
 rw[if_neg h2]at q
 have e:aN [(("lend" : Str),V.ref a0),("if", .ref a1),("while", .ref a2)] k=none:=by simp[aN,Ne.symm h0,Ne.symm h1,Ne.symm h2]
 rw[e];exact q _ _ sm (SqT.of ae)
theorem AU(D:DefAt K mg "head_of" fI) (z_len:mg "len" = none) (c_closers_of:aR P w K mg base 1 "closers_of" ["kind"] (jC K)):aR P w K mg base 2 "head_of" ["step"] (jV K):=by
 refine D.cal tm (fun _ _ _ _ _ _ us hl=>match us,hl with | [_],_=>rfl) (fun vs H Q E h=>by obtain⟨a,k,xs,rfl,_⟩:=h; rfl) (fun f cdv A outer s H vs Q E hr h=>?_)
 obtain⟨a,k,xs,rfl,ha,hl,q⟩:=h
 refine⟨_,(aj (aG (eJ (j8 K) (pv 0) gQ (d_ (ap js (bS (bc K) z_len b6 (aa (pv 0) ac)) (bS (bc K) z_len b6 (aa (az c_closers_of hr (aa (aq (aK K) (pv 0) ah (fun _ _=>rfl)) ac)) ac))))))),?_⟩
 walk_at "rd1";refine⟨_,.inr ha,?_⟩
 refine⟨_,_,.inr ha,cZ,?_⟩
 refine⟨k,rfl,fun p H1 sm1 hp=>?_⟩
 walk_at "rd1";refine⟨_,.inr hp,?_⟩
 walk_at "rd1"
 have e:((xs.length+1:Nat):Int) - ((((bi k).map V.str).length:Nat):Int)=((xs.length+1 - (bi k).length:Nat):Int):=by
  rw[List.length_map]; omega
 rw[e];refine i5 (ha.same sm1) fun p2 H2 sm2 h2=>q p2 H2 (sm1.trans sm2) ?_
 rw[mj]at h2
 exact h2
theorem wV(D:DefAt K mg "blocks_of" d0) (z_len:mg "len" = none) (c_head_of:aR P w K mg base 2 "head_of" ["step"] (jV K)):aR P w K mg base 3 "blocks_of" ["step"] (gS K):=by
 refine D.cal pR (fun _ _ _ _ _ _ us hl=>match us,hl with | [_],_=>rfl) (fun vs H Q E h=>by obtain⟨a,k,xs,rfl,_⟩:=h; rfl) (fun f cdv A outer s H vs Q E hr h=>?_)
 obtain⟨a,k,xs,rfl,ha,hl,q⟩:=h
 refine⟨_,(aj (aG (eJ (j8 K) (pv 0) (d_ (bS (bc K) z_len b6 (aa (az c_head_of hr (aa (pv 0) ac)) ac))) gQ))),?_⟩
 walk_at "rd1";refine⟨a,k,xs,rfl,ha,hl,fun p H1 sm1 hp=>?_⟩
 walk_at "rd1";refine⟨_,.inr hp,?_⟩
 have e:(((V.str k::xs).take (xs.length+1 - (bi k).length)).length:Int)=((xs.length+1 - (bi k).length:Nat):Int):=by
  rw[List.length_take,List.length_cons]; omega
 rw[e];refine i5 (ha.same sm1) fun p2 H2 sm2 h2=>q p2 H2 (sm1.trans sm2) ?_
 rw[jz]at h2
 exact h2
theorem pP(D:DefAt K mg "lines_of" bo) (z_str:mg "str" = none) (z_zip:mg "zip" = none) (c_closers_of:aR P w K mg base 1 "closers_of" ["kind"] (jC K)) (c_head_of:aR P w K mg base 2 "head_of" ["step"] (jV K)) (c_blocks_of:aR P w K mg base 3 "blocks_of" ["step"] (gS K)) :
  ∀ d:Nat,aR P w K mg base (d+4) "lines_of" ["program"] (q8 d)
 | 0=>D.cal (k:=3) sc_lines_of (fun _ _ _ _ _ _ us hl=>match us,hl with | [_],_=>rfl) (fun vs H Q E h=>by obtain⟨p,L,rfl,_⟩:=h; rfl) (fun f cdv A outer s H vs Q E hr h=>by obtain⟨p,L,rfl,z,_⟩:=h; exact z.elim)
 | d+1=>by
  have c_lines_of:=pP D z_str z_zip c_closers_of c_head_of c_blocks_of d;refine D.cal (k:=d+4) sc_lines_of (fun _ _ _ _ _ _ us hl=>match us,hl with | [_],_=>rfl) (fun vs H Q E h=>by obtain⟨p,L,rfl,_⟩:=h; rfl) (fun f cdv A outer s H vs Q E hr h=>?_)
  obtain⟨p,L,rfl,⟨as,Ls,h1,h2,rfl⟩,hL,q⟩:=h
  have hlen:=aL h2
  refine⟨_,(af (aA 1 sc_lines_of.nd (aQ ac))
   (af (cu PassesOwn.never rfl (cw K (pv 0)) (bq 2 sc_lines_of.nd) (af (aO (bL K PySem.F.plainAttrs_list PySem.F.slot_list_append PySem.F.type_list_append bx (pv 1) (aa (bL K PySem.F.plainAttrs_str PySem.F.slot_str_join PySem.F.type_str_join (xx K) aJ (aa (fH (CompSc.to (fsc:=(defScope bo)) (N:=["program", "lines", "step", "block", "closer"]) (N0:=["program", "lines", "step", "block", "closer"]) (T:=["part"]) ⟨by decide +kernel,by decide +kernel,by decide +kernel,by decide +kernel,by decide +kernel,by decide +kernel,by decide +kernel⟩ rfl rfl) rfl (iF K (az c_head_of hr (aa (pv 2) ac) (hle:=by omega))) (fun _ _ _ _=>(bq 5 (show (["program", "lines", "step", "block", "closer", "part"]:List Str).Nodup from by decide +kernel) (hx:=(gY (defScope bo) (by decide +kernel))) (hf:=jF (defScope bo) (by decide +kernel)))) (dh (show (["program", "lines", "step", "block", "closer"]:List Str).length≤5 from by decide)) (fun _ _ _ _=>em) (fun _ _ _ _=>(fz u_ z_str Dm (aa (pv 5 (hv:=(fD (defScope bo) (by decide +kernel)))) ac) (hg:=(CC (defScope bo) (by decide +kernel)))))) ac)) ac)))
   (aj (cu PassesOwn.never rfl (qD K JU z_zip (aa (az c_blocks_of hr (aa (pv 2) ac) (hle:=by omega)) (aa (az c_closers_of hr (aa (aq (aK K) (pv 2) ah (fun _ _=>rfl)) ac) (hle:=by omega)) ac))) (gf K (n:=2) (cO (bq 3 sc_lines_of.nd) (cO (bq 4 sc_lines_of.nd) gd))) (af (aO (bL K PySem.F.plainAttrs_list PySem.F.slot_list_extend PySem.F.type_list_extend fb (pv 1) (aa (az c_lines_of hr (aa (pv 3) ac) (hle:=by omega)) ac)))
   (aj (aO (bL K PySem.F.plainAttrs_list PySem.F.slot_list_append PySem.F.type_list_append bx (pv 1) (aa (pv 4) ac)))))))))
   (aj (aG (pv 1))))),?_⟩
  walk_at "rd1";refine⟨by decide,fun lp hlp=>?_⟩
  generalize hH1:upd H lp _=H1
  have sm1:=aV hH1 hlp;have e1:=bB hH1;walk_at "nx";refine⟨⟨_,SqL.of (sm1 _ _ h1)⟩,?_⟩
  refine c6 (xs:=as.map V.ref) (fun i σ H'=>∃ o2 o3 o4:Option V,σ=[some (.ref p),some (.ref lp),o2,o3,o4]∧Same H H'∧H' lp=some (.lst ((Ls.take i).flatten.map V.str)))
   ⟨none,none,none,rfl,sm1,e1⟩ (fun i σ H' _ h=>by obtain⟨_,_,_,_,sm,_⟩:=h; exact SqL.of (sm _ _ h1)) ?_ ?_
  ·rintro i v σ H' hv ⟨o2,o3,o4,rfl,sm,hl⟩
   have hi:i<as.length:=by have:=(List.getElem?_eq_some_iff.mp hv).1; simpa using this
   rw[List.getElem?_map,List.getElem?_eq_getElem hi]at hv
   cases hv;obtain⟨ls,hls,kind,hs,ws,bs,ins,st,rfl⟩:=cv h2 (List.getElem?_eq_getElem hi)
   have hflat:=uK hls;have hfl:=lU Ls (i+1);rw[hflat]at hfl ⊢
   generalize (Ls.take i).flatten=pre at hl hfl hflat ⊢;rw[List.length_append,List.length_cons]at hfl
   have hat:SqT K H' as[i] (.str kind::(hs++bs.map V.ref)):=SqT.of (sm _ _ st.at')
   have hcl:(bi kind).length≤(hs++bs.map V.ref).length+1:=by rw[List.length_append,List.length_map,st.bl]; omega
   have hcut:(hs++bs.map V.ref).length+1 - (bi kind).length=hs.length+1:=by rw[List.length_append,List.length_map,st.bl]; omega
   have hpl:=aL st.parts;have hsz:=st.size;walk_at "rd1";refine⟨⟨_,SqL.of hl⟩,as[i],kind,hs++bs.map V.ref,rfl,hat,hcl,fun hp H2 sm2 hhp=>?_⟩
   rw[hcut]at hhp
   have etk:(V.str kind::(hs++bs.map V.ref)).take (hs.length+1)=V.str kind::hs:=by rw[List.take_succ_cons,List.take_left']; rfl
   rw[etk]at hhp
   walk_at "rd1";refine⟨⟨_,hhp⟩,fun C hC=>?_⟩
   refine ny (xs:=V.str kind::hs) (fun j ys H3=>Same H2 H3∧H3 C=some (.lst ys)∧ys=((kind::ws).take j).map V.str) ⟨ak hC _,ae,rfl⟩ (fun j ys H3 _ h=>hhp.same h.1) ?_ ?_
   ·rintro j ys H3 x hx hj ⟨sm3,hl3,rfl⟩
    obtain⟨y,hy,hr'⟩:=cv (R:=jy) (.cons (show jy (.str kind) kind from rfl) st.parts) hx
    have hjl:j<(kind::ws).length:=(List.getElem?_eq_some_iff.mp hy).1
    have fin:i8 (V.str kind::hs).length j (fun j ys H3=>Same H2 H3∧H3 C=some (.lst ys)∧ys=((kind::ws).take j).map V.str) C (((kind::ws).take j).map V.str) (.str y) H3:=by
     refine iM hj (by rw[List.length_map,List.length_take]; omega) (bt (by simp only[List.length_cons]at hsz hjl ⊢; omega)) hl3 ⟨sm3.upd hC _,ae,?_⟩
     rw[List.take_add_one,hy,List.map_append]; rfl
    match x,hr' with
    | .str z,hr'=>
     have e:y=z:=hr'
     subst e;walk_at "rd1";exact fin
    | .int z,hr'=>
     obtain⟨g1,rfl⟩:=hr'
     walk_at "rd1";exact⟨g1,fin⟩
   rintro ys H3 ⟨sm3,hl3,rfl⟩
   have hl3':H3 C=some (.lst ((kind::ws).map V.str)):=by
    rw[hl3,List.length_cons,hpl,List.take_of_length_le (by simp)]
   have smA:=sm2.trans sm3;have h1l:(Str.ofString " ").length=1:=by decide
   walk_at "rd1";refine⟨kind::ws,SqL.of hl3',by rw[h1l]; omega,?_⟩
   refine⟨_,smA _ _ hl,by rw[List.length_map]; exact bX (by omega),?_⟩
   generalize hH4:upd H3 lp _=H4
   have smH:Same H H4:=fun b o e=>by
    have nb:b≠lp:=fun z=>by subst z; rw[hlp]at e; cases e
    rw[← hH4,am nb]; exact smA _ _ (sm _ _ e)
   have e4:H4 lp=some (.lst ((pre++[Txt.join " " (kind::ws)]).map V.str)):=by rw[← hH4,ae,List.map_append]; rfl
   have hat4:SqT K H4 as[i] (.str kind::(hs++bs.map V.ref)):=SqT.of (smH _ _ st.at')
   walk_at "nx";refine⟨as[i],kind,hs++bs.map V.ref,rfl,hat4,hcl,fun bp H5 sm5 hbp=>?_⟩
   rw[hcut]at hbp
   have edr:(V.str kind::(hs++bs.map V.ref)).drop (hs.length+1)=bs.map V.ref:=by rw[List.drop_succ_cons,List.drop_left']; rfl
   rw[edr]at hbp
   walk_at "rd1";refine⟨_,_,.inr (hat4.same sm5),cZ,kind,rfl,fun cp H6 sm6 hcp=>?_⟩
   walk_at "rd1";refine⟨⟨_,hbp.same sm6⟩,⟨_,hcp⟩,?_⟩
   have sm46:=sm5.trans sm6;have hil:=aL st.inn;have hbl:=st.bl
   refine nG (xs:=bs.map V.ref) (ys:=(bi kind).map V.str) (fun j σ H'=>∃ o3 o4:Option V,σ=[some (.ref p),some (.ref lp),some (.ref as[i]),o3,o4]∧Same H H'∧SqT K H' bp (bs.map V.ref)∧SqT K H' cp ((bi kind).map V.str)∧
     H' lp=some (.lst ((pre++([Txt.join " " (kind::ws)]++cf (ins.take j) ((bi kind).take j))).map V.str)))
    (by rw[List.length_map,List.length_map]; exact hbl) ⟨o3,o4,rfl,smH.trans sm46,hbp.same sm6,hcp,by rw[sm46 _ _ e4]; simp[cf]⟩ (fun j σ H' _ h=>by obtain⟨_,_,_,_,z1,z2,_⟩:=h; exact⟨z1,z2⟩) ?_ ?_
   ·rintro j x y t σ H7 hx hy ⟨o3,o4,rfl,sm7,hb7,hc7,hl7⟩ ht
    have hj:j<bs.length:=by have:=(List.getElem?_eq_some_iff.mp hx).1; simpa using this
    have hjc:j<(bi kind).length:=by omega
    rw[List.getElem?_map,List.getElem?_eq_getElem hj]at hx
    cases hx;rw[List.getElem?_map,List.getElem?_eq_getElem hjc]at hy
    cases hy;obtain⟨il,hil',hla⟩:=cv st.inn (List.getElem?_eq_getElem hj)
    have hsn:=kq hil' (List.getElem?_eq_getElem hjc);have hcl1:=lh (ins:=ins) (cs:=bi kind) (j+1);rw[hsn]at hcl1 ⊢
    rw[List.length_append,List.length_append]at hcl1
    generalize cf (ins.take j) ((bi kind).take j)=mid at hl7 hsn hcl1 ⊢;have st7:=ak ht (.tup [V.ref bs[j],.str (bi kind)[j]]);have et7:upd H7 t (.tup [V.ref bs[j],.str (bi kind)[j]]) t=some (.tup [V.ref bs[j],.str (bi kind)[j]]):=ae
    generalize upd H7 t (.tup [V.ref bs[j],.str (bi kind)[j]])=H8 at st7 et7 ⊢;have hl8:=st7 _ _ hl7;walk_at "rd1";refine⟨t,_,rfl,SqT.of et7,rfl,?_⟩
    walk_at "rd1";refine⟨⟨_,SqL.of hl8⟩,bs[j],il,rfl,LinesAt.mono d hla (sm7.trans st7),by omega,fun r H9 sm9 hr9 hl9=>?_⟩
    walk_at "rd1";refine⟨_,_,sm9 _ _ hl8,hl9,bt (by simp only[List.length_map,List.length_append,List.length_cons,List.length_nil]; omega),?_⟩
    have hb9:=((hb7.same st7).same sm9).updL (sm9 _ _ hl8) (o:=.lst ((pre++([Txt.join " " (kind::ws)]++mid)).map V.str++il.map V.str));have hc9:=((hc7.same st7).same sm9).updL (sm9 _ _ hl8) (o:=.lst ((pre++([Txt.join " " (kind::ws)]++mid)).map V.str++il.map V.str));have sm10:Same H (upd H9 lp (.lst ((pre++([Txt.join " " (kind::ws)]++mid)).map V.str++il.map V.str))):=((sm7.trans st7).trans sm9).upd hlp _
    have e10:upd H9 lp (.lst ((pre++([Txt.join " " (kind::ws)]++mid)).map V.str++il.map V.str)) lp=some (.lst ((pre++([Txt.join " " (kind::ws)]++mid)).map V.str++il.map V.str)):=ae
    generalize upd H9 lp (.lst ((pre++([Txt.join " " (kind::ws)]++mid)).map V.str++il.map V.str))=H10 at hb9 hc9 sm10 e10 ⊢;walk_at "nx";refine⟨⟨_,SqL.of e10⟩,_,e10,bX (by simp only[List.length_map,List.length_append,List.length_cons,List.length_nil]; omega),?_⟩
    refine⟨_,_,rfl,sm10.upd hlp _,hb9.updL e10,hc9.updL e10,?_⟩
    rw[ae];simp only[List.map_append,List.map_cons,List.map_nil,List.append_assoc,List.cons_append,List.nil_append]
   ·rintro σ H7 ⟨o3,o4,rfl,sm7,_,_,hl7⟩
    refine⟨_,_,_,rfl,sm7,?_⟩
    rw[hl7,List.length_map,List.take_of_length_le (by omega),List.take_of_length_le (by omega)]; rfl
  ·rintro σ H' ⟨o2,o3,o4,rfl,sm,hl⟩
   walk_at "nx";rw[List.length_map,List.take_of_length_le (by omega)]at hl
   exact q lp H' sm hlp hl
end
abbrev letters:Str := "abcdefghijklmnopqrstuvwxyz"
def n9(K:PySem.W.Frag):Sp:=fun vs H Q _=>∃ (a:Addr) (ns:List Int),vs=[.ref a]∧SqL K H a (ns.map V.int)∧ns.length≤63∧∀ H',Q (.bl true) H'
def wL(K:PySem.W.Frag):Sp:=fun vs H Q _=>∃ (a:Addr) (ns:List Int) (k:Int),vs=[.ref a,.int k]∧SqL K H a (ns.map V.int)∧0≤k∧Q (.int (ns.getD k.toNat 0)) H
def eS(c k:Int):Int:=((c % 2147483647+7919 * k * k+k) * 48271 % 2147483647) * ((c % 2147483647+7919 * k * k+k) * 48271 % 2147483647) % 1000003
theorem Bg(c k:Int):0≤eS c k∧eS c k<1000003:=by unfold eS; omega
def oi:Sp:=fun vs H Q _=>∃ (c k:Int),vs=[.int c,.int k]∧0≤k∧k≤100000∧Q (.int (eS c k)) H
def ij:Option Nat→V
 | none=>.non
 | some n=>.int n
theorem yV(x:Str)(c:Nat):(x++(⟨#[c]⟩ : Str)).length=x.length+1:=by rw[Str.length_append]; rfl
def ir(z:Int):Nat:=letters.cps.toList.getD (z % 26).toNat 0
theorem vf(z:Int):letters.length≤sizeLine∧ej letters.cps.toList (z % 26)=some (ir z):=by
 have hz:(z % 26).toNat<letters.cps.toList.length:=by
  show (z % 26).toNat<26
  omega
 refine⟨by decide,?_⟩
 have q:=aW (List.getElem?_eq_getElem hz);rw[show (((z % 26).toNat:Nat):Int)=z % 26 by omega]at q
 rw[q];unfold ir;rw[List.getD_eq_getElem?_getD,List.getElem?_eq_getElem hz]; rfl
theorem wY{y z:Int}(h:ir y=ir z):y % 26=z % 26:=by
 have key:∀ i j:Fin 26,letters.cps.toList.getD i.val 0=letters.cps.toList.getD j.val 0→i=j:=by decide +kernel
 have:=key ⟨(y % 26).toNat,by omega⟩ ⟨(z % 26).toNat,by omega⟩ h
 have:=congrArg Fin.val this
 simp only[]at this
 omega
section
variable{P:Program}{w:World}{K:PySem.W.Frag}{mg:Str→Option Value}{base:Heap}
theorem Bm(D:DefAt K mg "_law_cell_at" dm) (z_len:mg "len" = none):aR P w K mg base 1 "_law_cell_at" ["_law_script", "_law_k"] (wL K):=by
 refine D.cal lW (fun _ _ _ _ _ _ us hl=>match us,hl with | [_,_],_=>rfl) (fun vs H Q E h=>by obtain⟨a,ns,k,rfl,_⟩:=h; rfl) (fun f cdv A outer s H vs Q E hr h=>?_)
 obtain⟨a,ns,k,rfl,hS,h0,q⟩:=h
 refine⟨_,(af (bE (aE jA (pv 1) (bS (bc K) z_len b6 (aa (pv 0) ac)) (aP _)) (aj (aG (aq (aK K) (pv 0) (pv 1) (fun _ _=>rfl)))) bH)
   (aj (aG ah))),?_⟩
 walk_at "rd1";refine⟨_,.inl hS,bG (fun c=>?_) (fun c=>?_)⟩
 ·rw[List.length_map]at c
  refine⟨_,.int (ns.getD k.toNat 0),.inl hS,vp h0 ?_,q⟩
  rw[List.getD_eq_getElem?_getD,List.getElem?_eq_getElem (by omega)]; rfl
 ·rw[List.length_map]at c
  have e:ns.getD k.toNat 0=0:=by
   rw[List.getD_eq_getElem?_getD,List.getElem?_eq_none (by omega)]; rfl
  walk_at "nx";rw[e]at q; exact q
theorem Cr(D:DefAt K mg "_law_mixed" dA):aR P w K mg base 1 "_law_mixed" ["_law_cell", "_law_k"] oi:=by
 refine D.cal sc_law_mixed (fun _ _ _ _ _ _ us hl=>match us,hl with | [_,_],_=>rfl) (fun vs H Q E h=>by obtain⟨c,k,rfl,_⟩:=h; rfl) (fun f cdv A outer s H vs Q E hr h=>?_)
 obtain⟨c,k,rfl,k0,k1,q⟩:=h
 refine⟨_,(af (aA 2 sc_law_mixed.nd (ap cB (ap eX (ap aD (ap aD (ap cB (pv 0) ah) (ap eX (ap eX ah (pv 1)) (pv 1))) (pv 1)) ah) ah))
   (aj (aG (ap cB (ap eX (pv 2) (pv 2)) ah)))),?_⟩
 walk_at "rd1";have hk:(0:Int)≤7919 * k∧7919 * k≤791900000:=by omega
 refine⟨by decide,.inl ⟨by decide,by decide⟩,.inl ⟨by omega,by omega⟩,.inr ⟨by decide,by decide⟩,by decide,?_⟩
 unfold eS at q;have b:=Int.emod_nonneg ((c % 2147483647+7919 * k * k+k) * 48271) (show (2147483647:Int)≠0 by decide)
 have b':=Int.emod_lt_of_pos ((c % 2147483647+7919 * k * k+k) * 48271) (show (0:Int)<2147483647 by decide)
 walk_at "nx";exact⟨.inl ⟨by omega,by omega⟩,by decide,q⟩
end
def j9(y:Str):Bool:=decide (1≤y.length∧y.length≤8)&&y.cps.toList.all fun c=>decide (c∈letters.cps.toList)
theorem lb(b:Nat):∀ (ss:List Str),(∀ s∈ss,s.length≤b)→(ss.map (·.length)).sum≤ss.length * b
 | [],_=>by simp
 | s::ss,h=>by
  have h1:=lb b ss fun x hx=>h x (List.mem_cons_of_mem _ hx)
  have h2:=h s List.mem_cons_self;rw[List.map_cons,List.sum_cons,List.length_cons,Nat.succ_mul];omega
def dq:List Str:=["open", "copy", "drop", "tie", "do"]
structure jD (ws:List Str):Prop where
 two:2≤ws.length
 three:ws.length≤3
 kind:ws.headD "" ∈ dq
 len:∀ x∈ws,x.length≤20
def Fv(H:Hp)(a:Addr)(ws:List Str):Prop:=H a=some (.tup (ws.map V.str))∧jD ws
theorem tS{H:Hp}{a:Addr}{ws:List Str}{LA:Addr→List Str→Prop}(h:Fv H a ws):lI LA H a [Txt.join " " ws]:=by
 obtain⟨h1,two,three,kd,len⟩:=h
 cases ws with
 | nil=>simp at two
 | cons k ws=>
  have hk:k∈dq:=kd
  have hc:bi k=[]:=by
   simp only[dq,List.mem_cons,List.mem_nil_iff,or_false]at hk
   rcases hk with rfl | rfl | rfl | rfl | rfl <;> decide
  have hp:∀ ws:List Str,Paired jy (ws.map V.str) ws:=fun ws=>by
   induction ws with
   | nil=>exact .nil
   | cons x ws ih=>exact .cons (show jy (.str x) x from rfl) ih
  refine⟨k,ws.map V.str,ws,[],[],⟨by rw[List.map_nil,List.append_nil]; exact h1,hp ws,?_,by rw[hc]; rfl,.nil⟩,by rw[hc]; rfl⟩
  have:=lb 20 (k::ws) len
  simp only[List.length_cons]at this two three ⊢
  omega
theorem fw{α β : Type}{R:α→β→Prop}{x:α}{y:β}(hxy:R x y):∀ {xs:List α} {ys:List β},Paired R xs ys→Paired R (xs++[x]) (ys++[y])
 | _,_,.nil=>.cons hxy .nil
 | _,_,.cons h t=>.cons h (fw hxy t)
set_option genSizeOf false in
inductive al where
 | plain (ws:List Str)
 | lend (x y:Str) (b:List al)
 | ite (n:Int) (b c:List al)
 | whl (n:Int) (b:List al)
def ju(n:Int):Str:=Str.ofString (toString n)
def dv(f:List al→List Str):al→List Str
 | .plain ws=>[Txt.join " " ws]
 | .lend x y b=>Txt.join " " ["lend", x,y]::(f b++[("back" : Str)])
 | .ite n b c=>Txt.join " " ["if", ju n]::(f b++[("else" : Str)]++(f c++[("fi" : Str)]))
 | .whl n b=>Txt.join " " ["while", ju n]::(f b++[("done" : Str)])
def fm:Nat→List al→List Str
 | 0,_=>[]
 | d+1,T=>T.flatMap (dv (fm d))
def uI(f:List al→Prop):al→Prop
 | .plain ws=>jD ws
 | .lend x y b=>x.length≤20∧y.length≤20∧f b
 | .ite n b c=>n.natAbs.log2<1920∧f b∧f c
 | .whl n b=>n.natAbs.log2<1920∧f b
def jm:Nat→List al→Prop
 | 0,_=>False
 | d+1,T=>∀ s∈T,uI (jm d) s
def stpAt(PA:Addr→List al→Prop)(H:Hp)(a:Addr):al→Prop
 | .plain ws=>H a=some (.tup (ws.map V.str))
 | .lend x y b=>∃ q,H a=some (.tup [.str "lend", .str x,.str y,.ref q])∧PA q b
 | .ite n b c=>∃ q r,H a=some (.tup [.str "if", .int n,.ref q,.ref r])∧PA q b∧PA r c
 | .whl n b=>∃ q,H a=some (.tup [.str "while", .int n,.ref q])∧PA q b
def ProgAt(S:Addr→Prop):Nat→Hp→Addr→List al→Prop
 | 0=>fun _ _ _=>False
 | d+1=>fun H p T=>S p∧∃ as:List Addr,H p=some (.lst (as.map V.ref))∧Paired (stpAt (ProgAt S d H) H) as T
theorem stpAt.imp{PA PA':Addr→List al→Prop}{H H':Hp}{a:Addr}(ht:∀ b xs,H b=some (.tup xs)→H' b=some (.tup xs))(hp:∀ q b,PA q b→PA' q b):∀ {s:al},stpAt PA H a s→stpAt PA' H' a s
 | .plain _,h=>ht _ _ h
 | .lend _ _ _,⟨q,h,z⟩=>⟨q,ht _ _ h,hp _ _ z⟩
 | .ite _ _ _,⟨q,r,h,z,y⟩=>⟨q,r,ht _ _ h,hp _ _ z,hp _ _ y⟩
 | .whl _ _,⟨q,h,z⟩=>⟨q,ht _ _ h,hp _ _ z⟩
theorem ProgAt.imp{S S':Addr→Prop}{H H':Hp}(ht:∀ b xs,H b=some (.tup xs)→H' b=some (.tup xs))(hl:∀ b xs,S b→H b=some (.lst xs)→H' b=some (.lst xs))(hS:∀ b,S b→S' b) :
  ∀ (d:Nat) {p:Addr} {T:List al},ProgAt S d H p T→ProgAt S' d H' p T
 | 0,_,_,h=>h.elim
 | d+1,p,T,⟨h0,as,h1,h2⟩=>⟨hS _ h0,as,hl _ _ h0 h1,Paired.imp' (fun a s z=>z.imp ht fun q b y=>ProgAt.imp ht hl hS d y) h2⟩
theorem ProgAt.mono{S:Addr→Prop}{H H':Hp}{d:Nat}{p:Addr}{T:List al}(h:ProgAt S d H p T)(sm:Same H H'):ProgAt S d H' p T:=h.imp (fun b xs e=>sm _ _ e) (fun b xs _ e=>sm _ _ e) (fun _ z=>z) d
theorem qV{n:Int}(h:n.natAbs.log2<1920):(ju n).length≤1921:=by
 have e:=int_text_length_le (k:=1920) (by decide) h
 unfold ju;rw[PySem.ofString_length]; exact e
theorem tw{PA:Addr→List al→Prop}{LA:Addr→List Str→Prop}{H:Hp}{a:Addr}{f:List al→List Str}{g:List al→Prop}(hp:∀ q b,PA q b→g b→LA q (f b)):∀ {s:al},stpAt PA H a s→uI g s→lI LA H a (dv f s)
 | .plain ws,h,ok=>tS ⟨h,ok⟩
 | .lend x y b,⟨q,h,z⟩,⟨o1,o2,o3⟩=>by
  refine⟨"lend", [.str x,.str y],[x,y],[q],[f b],⟨h,.cons rfl (.cons rfl .nil),?_,by show 1=(bi "lend").length; decide,.cons (hp _ _ z o3) .nil⟩,by show _=_::cf [f b] ["back"]; simp[dv,cf]⟩
  have:(Str.ofString "lend").length=4:=by decide
  simp only[List.map_cons,List.map_nil,List.sum_cons,List.sum_nil,List.length_cons,List.length_nil,this]; omega
 | .ite n b c,⟨q,r,h,z,y⟩,⟨o1,o2,o3⟩=>by
  refine⟨"if", [.int n],[ju n],[q,r],[f b,f c],⟨h,.cons ⟨o1,rfl⟩ .nil,?_,by show 2=(bi "if").length; decide,.cons (hp _ _ z o2) (.cons (hp _ _ y o3) .nil)⟩,?_⟩
  ·have:(Str.ofString "if").length=2:=by decide
   have:=qV o1
   simp only[List.map_cons,List.map_nil,List.sum_cons,List.sum_nil,List.length_cons,List.length_nil]; omega
  ·show _=_::cf [f b,f c] ["else", "fi"]
   simp[dv,cf]
 | .whl n b,⟨q,h,z⟩,⟨o1,o2⟩=>by
  refine⟨"while", [.int n],[ju n],[q],[f b],⟨h,.cons ⟨o1,rfl⟩ .nil,?_,by show 1=(bi "while").length; decide,.cons (hp _ _ z o2) .nil⟩,by show _=_::cf [f b] ["done"]; simp[dv,cf]⟩
  have:(Str.ofString "while").length=5:=by decide
  have:=qV o1
  simp only[List.map_cons,List.map_nil,List.sum_cons,List.sum_nil,List.length_cons,List.length_nil]; omega
theorem ki{PA:Addr→List al→Prop}{LA:Addr→List Str→Prop}{H:Hp}{f:List al→List Str}{g:List al→Prop}(hp:∀ q b,PA q b→g b→LA q (f b)) :
  ∀ {as:List Addr} {T:List al},Paired (stpAt PA H) as T→(∀ s∈T,uI g s)→Paired (lI LA H) as (T.map (dv f))
 | _,_,.nil,_=>.nil
 | _,_,.cons h t,ok=>.cons (tw hp h (ok _ List.mem_cons_self)) (ki hp t fun s hs=>ok s (List.mem_cons_of_mem _ hs))
theorem lT{S:Addr→Prop}{H:Hp}:∀ (d:Nat) {p:Addr} {T:List al},ProgAt S d H p T→jm d T→LinesAt d H p (fm d T)
 | 0,_,_,h,_=>h.elim
 | d+1,p,T,⟨_,as,h1,h2⟩,ok=>⟨as,T.map (dv (fm d)),h1,ki (fun q b z o=>lT d z o) h2 ok,List.flatMap_def⟩
def ba(f:List al→Nat):al→Nat
 | .plain _=>1
 | .lend _ _ b=>f b+2
 | .ite _ b c=>f b+f c+3
 | .whl _ b=>f b+2
def ai:Nat→List al→Nat
 | 0,_=>0
 | d+1,T=>(T.map (ba (ai d))).sum
def dQ(f:al→Nat):Nat→List al→List (Nat × al)
 | _,[]=>[]
 | l,s::T=>(l,s)::dQ f (l+f s) T
theorem jo(f:al→Nat)(s:al):∀ (l:Nat) (T:List al),dQ f l (T++[s])=dQ f l T++[(l+(T.map f).sum,s)]
 | l,[]=>by simp[dQ]
 | l,t::T=>by
  show (l,t)::dQ f (l+f t) (T++[s])=(l,t)::dQ f (l+f t) T++[(l+(f t+(T.map f).sum),s)]
  rw[jo f s (l+f t) T,Nat.add_assoc]; rfl
theorem fZ(f:al→Nat):∀ (l:Nat) (T:List al),(dQ f l T).length=T.length
 | _,[]=>rfl
 | l,s::T=>by show (dQ f (l+f s) T).length+1=T.length+1; rw[fZ f _ T]
theorem qN(f:al→Nat):∀ (l:Nat) (T:List al) (i:Nat) (s:al),T[i]? = some s→(dQ f l T)[i]? = some (l+((T.take i).map f).sum,s)
 | _,[],_,_,h=>by simp at h
 | l,t::T,0,s,h=>by
  have e:t=s:=by simpa using h
  subst e; simp[dQ]
 | l,t::T,i+1,s,h=>by
  have h':T[i]? = some s:=by simpa using h
  have ih:=qN f (l+f t) T i s h';show (dQ f (l+f t) T)[i]? = _
  rw[ih,List.take_succ_cons,List.map_cons,List.sum_cons,Nat.add_assoc]
def kindOf:al→Str
 | .plain ws=>ws.headD ""
 | .lend _ _ _ => "lend"
 | .ite _ _ _ => "if"
 | .whl _ _ => "while"
def dI:al→List V
 | .plain ws=>(ws.drop 1).map V.str
 | .lend x y _=>[.str x,.str y]
 | .ite n _ _=>[.int n]
 | .whl n _=>[.int n]
def cP(f:List al→Nat)(l:Nat):al→List (Nat × List al)
 | .plain _=>[]
 | .lend _ _ b=>[(l+1,b)]
 | .ite _ b c=>[(l+1,b),(l+1+f b+1,c)]
 | .whl _ b=>[(l+1,b)]
def cQ(f:List al→Nat)(l:Nat)(s:al):List Nat:=l::(cP f l s).map fun z=>z.1+f z.2
theorem x6{f:List al→Nat}{l:Nat}:∀ {s:al} {j:Nat} {z:Nat × List al},(cP f l s)[j]? = some z→∃ y,(cQ f l s)[j]? = some y∧z.1=y+1
 | .plain _,j,z,h=>by simp[cP]at h
 | .lend _ _ b,0,z,h=>by cases h; exact⟨l,rfl,rfl⟩
 | .lend _ _ b,j+1,z,h=>by simp[cP]at h
 | .ite _ b c,0,z,h=>by cases h; exact⟨l,rfl,rfl⟩
 | .ite _ b c,1,z,h=>by cases h; exact⟨l+1+f b,rfl,rfl⟩
 | .ite _ b c,j+2,z,h=>by simp[cP]at h
 | .whl _ b,0,z,h=>by cases h; exact⟨l,rfl,rfl⟩
 | .whl _ b,j+1,z,h=>by simp[cP]at h
theorem iP{f:List al→Nat}{l:Nat}:∀ {s:al},(cQ f l s).getLast? = some (l+ba f s - 1)∧1≤ba f s
 | .plain _=>by simp[cQ,cP,ba]
 | .lend _ _ b=>by simp[cQ,cP,ba]; omega
 | .ite _ b c=>by simp[cQ,cP,ba]; omega
 | .whl _ b=>by simp[cQ,cP,ba]; omega
def hV:Option Nat→V
 | none=>.non
 | some n=>.int n
set_option genInjectivity false in
set_option genSizeOf false in
structure RS where
 taken:Nat
 last:Int
 opened:Nat
 held:List (aw × V)
 log:List (List V)
 pc:Nat
def RS.sz(st:RS):Nat:=st.log.length+st.held.length+st.opened
def bD(st:RS)(k:aw):Option Nat:=match aN st.held k with
 | some (.int n)=>some n.toNat
 | _=>none
def bn(k:aw)(h:Option Nat)(st:RS):RS:={ st with held:=bC st.held k (hV h) }
def bI(l:Nat)(h:Option Nat)(w:Str)(st:RS):RS:=match h with
 | none=>st
 | some n=>{ st with log:=st.log++[[.int l,.int n,.str w,.int st.last]] }
def gB(l:Nat)(k:aw)(st:RS):RS:=bn k (some st.opened) (bI l (some st.opened) "open" { st with opened:=st.opened+1 })
def eP(l:Nat)(a b:Option Nat)(st:RS):RS:=match a,b with
 | some n,some m=>if n=m then st else { st with log:=st.log++[[.int l,.int n,.int m]] }
 | _,_=>st
def aC(xs:List Int)(n:Int)(st:RS):Bool × RS:=match xs[st.taken]? with
 | none=>(false,st)
 | some v=>(decide (n<v),{ st with taken:=st.taken+1,last:=v })
def jw(l:Nat)(st:RS):RS:={ st with log:=st.log++(List.range st.opened).map fun (h:Nat)=>([.int l,.int h,.str "end", .int st.last]:List V) }
def gr(l:Nat)(ws:List Str)(st:RS):RS:=match ws with
 | [k,x]=>if k = "open" then gB l (.inr x) st else bn (.inr x) none st
 | [k,x,y]=>if k = "do" then bI l (bD st (.inr y)) x st else if k = "copy" then bn (.inr x) (bD st (.inr y)) st else eP l (bD st (.inr x)) (bD st (.inr y)) st
 | _=>st
inductive eV:List Str→Prop
 | op (x:Str):eV ["open", x]
 | dr (x:Str):eV ["drop", x]
 | dd (u x:Str):eV ["do", u,x]
 | cp (x y:Str):eV ["copy", x,y]
 | ti (x y:Str):eV ["tie", x,y]
def rK(f:List al→Prop):al→Prop
 | .plain ws=>eV ws
 | .lend _ _ b=>f b
 | .ite _ b c=>f b∧f c
 | .whl _ b=>f b
def kG:Nat→List al→Prop
 | 0,_=>False
 | d+1,T=>∀ s∈T,rK (kG d) s
def ei(f:RS→RS)(xs:List Int)(n:Int):Nat→RS→RS
 | 0,st=>st
 | m+1,st=>if (aC xs n st).1=true then ei f xs n m (f (aC xs n st).2) else (aC xs n st).2
def j1(f:List al→Nat)(g:Nat→List al→RS→RS)(xs:List Int)(l:Nat):al→RS→RS
 | .plain ws,st=>gr l ws st
 | .lend x y b,st=>bn (.inr y) none (bI (l+1+f b) (bD st (.inr x)) "back" (g (l+1) b (bn (.inr y) (bD st (.inr x)) (bI l (bD st (.inr x)) "lend" st))))
 | .ite n b c,st=>if (aC xs n st).1=true then g (l+1) b (aC xs n st).2 else g (l+1+f b+1) c (aC xs n st).2
 | .whl n b,st=>ei (g (l+1) b) xs n xs.length st
def cM(xs:List Int):Nat→Nat→List al→RS→RS
 | 0,_,_,st=>st
 | d+1,l,T,st=>(dQ (ba (ai d)) l T).foldl (fun st z=>j1 (ai d) (cM xs d) xs z.1 z.2 st) st
def rs0:RS:=⟨0,0,0,[],[],0⟩
def GoodR(st:RS):Prop:=∀ k v,aN st.held k=some v→∃ h,v=hV h
theorem GoodR.get{st:RS}(g:GoodR st)(k:aw):(aN st.held k).getD .non=hV (bD st k):=by
 unfold bD
 cases e:aN st.held k with
 | none=>rfl
 | some v=>
  obtain⟨h,rfl⟩:=g k v e
  cases h with
  | none=>rfl
  | some n=>show V.int n=V.int ((Int.toNat (n:Int):Nat):Int); rw[Int.toNat_natCast]
theorem fK(k j:aw)(h:Option Nat)(st:RS):bD (bn k h st) j=if j=k then h else bD st j:=by
 unfold bD bn;rw[db]
 by_cases e:j=k
 ·rw[if_pos e,if_pos e]
  cases h with
  | none=>rfl
  | some n=>show some (Int.toNat (n:Int))=some n; rw[Int.toNat_natCast]
 ·rw[if_neg e,if_neg e]
theorem GoodR.hold{st:RS}(g:GoodR st)(k:aw)(h:Option Nat):GoodR (bn k h st):=fun j v e=>by
 have e':(if j=k then some (hV h) else aN st.held j)=some v:=by rw[← db]; exact e
 by_cases hj:j=k
 ·rw[if_pos hj]at e'; exact⟨h,(Option.some.inj e').symm⟩
 ·rw[if_neg hj]at e'; exact g j v e'
theorem fP(l:Nat)(h:Option Nat)(w:Str)(st:RS):(bI l h w st).held=st.held:=by cases h <;> rfl
theorem uG(l:Nat)(a b:Option Nat)(st:RS):(eP l a b st).held=st.held:=by
 unfold eP; split
 ·split <;> rfl
 ·rfl
theorem e_(xs:List Int)(n:Int)(st:RS):(aC xs n st).2.held=st.held:=by unfold aC; split <;> rfl
theorem GoodR.of{st st':RS}(g:GoodR st)(e:st'.held=st.held):GoodR st':=fun k v h=>g k v (by rw[← e]; exact h)
theorem yq(kvs:List (aw × V))(k:aw)(v:V):kvs.length≤(bC kvs k v).length:=by
 unfold bC; split
 ·rw[List.length_map]; exact Nat.le_refl _
 ·rw[List.length_append]; omega
def UpR(a b:RS):Prop:=a.taken≤b.taken∧a.sz≤b.sz
theorem UpR.refl(a:RS):UpR a a:=⟨Nat.le_refl _,Nat.le_refl _⟩
theorem AF(k:aw)(h:Option Nat)(st:RS):UpR st (bn k h st):=⟨Nat.le_refl _,by have:=yq st.held k (hV h); simp only[RS.sz,bn]; omega⟩
theorem AL(l:Nat)(h:Option Nat)(w:Str)(st:RS):UpR st (bI l h w st):=by
 cases h with
 | none=>exact UpR.refl _
 | some n=>exact⟨Nat.le_refl _,by simp only[RS.sz,bI,List.length_append]; omega⟩
def mr(xs:List Int)(d:Nat)(T:List al):RS:=jw (ai d T) (cM xs d 0 T rs0)
structure ClosedR (xs:List Int) (P:RS→Prop):Prop where
 hold:∀ k h st,P st→P (bn k h st)
 deed:∀ l h w st,P st→P (bI l h w st)
 tie:∀ l a b st,P st→P (eP l a b st)
 opn:∀ l k st,P st→P (gB l k st)
 take:∀ n st,P st→P (aC xs n st).2
theorem ClosedR.plain{xs:List Int}{P:RS→Prop}(c:ClosedR xs P)(l:Nat)(ws:List Str)(st:RS)(h:P st):P (gr l ws st):=by
 unfold gr; split
 ·split
  ·exact c.opn _ _ _ h
  ·exact c.hold _ _ _ h
 ·split
  ·exact c.deed _ _ _ _ h
  ·split
   ·exact c.hold _ _ _ h
   ·exact c.tie _ _ _ _ h
 ·exact h
theorem ClosedR.loop{xs:List Int}{P:RS→Prop}(c:ClosedR xs P){f:RS→RS}(hf:∀ st,P st→P (f st))(n:Int):∀ (m:Nat) (st:RS),P st→P (ei f xs n m st)
 | 0,_,h=>h
 | m+1,st,h=>by
  unfold ei; split
  ·exact c.loop hf n m _ (hf _ (c.take n st h))
  ·exact c.take n st h
theorem ClosedR.step{xs:List Int}{P:RS→Prop}(c:ClosedR xs P){f:List al→Nat}{g:Nat→List al→RS→RS}(hg:∀ l T st,P st→P (g l T st))(l:Nat):∀ (s:al) (st:RS),P st→P (j1 f g xs l s st)
 | .plain ws,st,h=>c.plain l ws st h
 | .lend x y b,st,h=>c.hold _ _ _ (c.deed _ _ _ _ (hg _ _ _ (c.hold _ _ _ (c.deed _ _ _ _ h))))
 | .ite n b e,st,h=>by
  show P (if (aC xs n st).1=true then _ else _)
  split
  ·exact hg _ _ _ (c.take n st h)
  ·exact hg _ _ _ (c.take n st h)
 | .whl n b,st,h=>c.loop (hg _ _) n _ _ h
theorem pq{α : Type}{P:RS→Prop}{h:RS→α→RS}(hh:∀ st z,P st→P (h st z)):∀ (zs:List α) (st:RS),P st→P (zs.foldl h st)
 | [],_,g=>g
 | z::zs,st,g=>pq hh zs _ (hh st z g)
theorem ClosedR.run{xs:List Int}{P:RS→Prop}(c:ClosedR xs P):∀ (d l:Nat) (T:List al) (st:RS),P st→P (cM xs d l T st)
 | 0,_,_,_,h=>h
 | d+1,l,T,st,h=>pq (fun st (z:Nat × al) k=>c.step (f:=ai d) (c.run d) z.1 z.2 st k) _ _ h
inductive iU:List V→Prop
 | deed (l h:Nat) (w:Str) (n:Int):iU [.int l,.int h,.str w,.int n]
 | tie (l a b:Nat):iU [.int l,.int a,.int b]
def LogOk(st:RS):Prop:=∀ e∈st.log,iU e
theorem LogOk.add{st:RS}(h:LogOk st){e:List V}(he:iU e):LogOk { st with log:=st.log++[e] }:=fun x hx=>by
 rcases List.mem_append.mp hx with z | z
 ·exact h x z
 ·rw[List.mem_singleton.mp z]; exact he
theorem uu(xs:List Int):ClosedR xs LogOk where
 hold:=fun k h st z=>z
 deed:=fun l h w st z=>by
  cases h with
  | none=>exact z
  | some n=>exact LogOk.add z (.deed l n w st.last)
 tie:=fun l a b st z=>by
  unfold eP; split
  ·split
   ·exact z
   ·exact LogOk.add z (.tie l _ _)
  ·exact z
 opn:=fun l k st z=>LogOk.add (st:={ st with opened:=st.opened+1 }) z (.deed l st.opened "open" st.last)
 take:=fun n st z=>by unfold aC; split <;> exact z
theorem BN{l:Nat}{st:RS}(h:LogOk st):LogOk (jw l st):=fun x hx=>by
 rcases List.mem_append.mp hx with z | z
 ·exact h x z
 ·obtain⟨n,_,rfl⟩:=List.mem_map.mp z; exact .deed l n "end" st.last
theorem Bf(xs:List Int)(d:Nat)(T:List al):LogOk (mr xs d T):=BN ((uu xs).run d 0 T rs0 (fun x hx=>by cases hx))
def nF(k:Str)(pp lp bp:Addr):List (Str × V):=[("kind", .str k),("parts", .ref pp),("lines", .ref lp),("blocks", .ref bp)]
theorem fG(k:Str)(pp lp bp:Addr):(nF k pp lp bp).lookup ("kind" : Str)=some (.str k):=by unfold nF; walk_at "lk"
theorem eO(k:Str)(pp lp bp:Addr):(nF k pp lp bp).lookup ("parts" : Str)=some (.ref pp):=by unfold nF; walk_at "lk"
theorem dU(k:Str)(pp lp bp:Addr):(nF k pp lp bp).lookup ("lines" : Str)=some (.ref lp):=by unfold nF; walk_at "lk"
theorem gq(k:Str)(pp lp bp:Addr):(nF k pp lp bp).lookup ("blocks" : Str)=some (.ref bp):=by unfold nF; walk_at "lk"
def fC(ns:List Nat):List V:=ns.map fun (n:Nat)=>V.int (n:Int)
def nstpAt(K:PySem.W.Frag)(C:Addr)(f:List al→Nat)(S:Addr→Prop)(PA:Addr→Nat→List al→Prop)(H:Hp)(a:Addr)(l:Nat)(s:al):Prop:=
 ∃ (dx pp lp bp:Addr) (bs:List Addr),H a=some (.ins C dx (nF (kindOf s) pp lp bp))∧SqT K H pp (dI s)∧S lp∧H lp=some (.lst (fC (cQ f l s)))∧S bp∧H bp=some (.lst (bs.map V.ref))∧Paired (fun q (z:Nat × List al)=>PA q z.1 z.2) bs (cP f l s)
def NumAt(K:PySem.W.Frag)(C:Addr)(S:Addr→Prop):Nat→Hp→Addr→Nat→List al→Prop
 | 0=>fun _ _ _ _=>False
 | d+1=>fun H p l T=>S p∧∃ as:List Addr,H p=some (.lst (as.map V.ref))∧Paired (fun a (z:Nat × al)=>nstpAt K C (ai d) S (NumAt K C S d H) H a z.1 z.2) as (dQ (ba (ai d)) l T)
structure Stays (S:Addr→Prop) (H H':Hp):Prop where
 t:∀ b xs,H b=some (.tup xs)→H' b=some (.tup xs)
 z:∀ b o u,H b=some (.frz o u)→H' b=some (.frz o u)
 i:∀ b C dx fs,H b=some (.ins C dx fs)→H' b=some (.ins C dx fs)
 l:∀ b xs,S b→H b=some (.lst xs)→H' b=some (.lst xs)
theorem Stays.of{S:Addr→Prop}{H H':Hp}(sm:Same H H'):Stays S H H':=⟨fun b xs h=>sm _ _ h,fun b o u h=>sm _ _ h,fun b C dx fs h=>sm _ _ h,fun b xs _ h=>sm _ _ h⟩
theorem Stays.upd{S:Addr→Prop}{H:Hp}{p:Addr}{xs:List V}{o:HO}(h:H p=some (.lst xs))(hS:¬ S p):Stays S H (upd H p o):=
  ⟨fun b xs e=>by rw[am (bv e h (fun z=>nomatch z))]; exact e,fun b o u e=>by rw[am (bv e h (fun z=>nomatch z))]; exact e,fun b C dx fs e=>by rw[am (bv e h (fun z=>nomatch z))]; exact e,
   fun b xs hb e=>by rw[am (show b≠p from fun z=>hS (z ▸ hb))]; exact e⟩
theorem SqT.stays{K:PySem.W.Frag}{S:Addr→Prop}{H H':Hp}{a:Addr}{xs:List V}(h:SqT K H a xs)(st:Stays S H H'):SqT K H' a xs:=by
 rcases h with (h | ⟨o,h⟩) | h
 ·exact .inl (.inl (st.t _ _ h))
 ·exact .inl (.inr ⟨o,st.z _ _ _ h⟩)
 ·exact .inr h
theorem SqT.updI{K:PySem.W.Frag}{H:Hp}{a x C dx:Addr}{xs:List V}{fs:List (Str × V)}{o:HO}(h:SqT K H a xs)(hx:H x=some (.ins C dx fs)):SqT K (upd H x o) a xs:=by
 rcases h with (h | ⟨o',h⟩) | h
 ·exact .inl (.inl (by rw[am (bv h hx (fun z=>nomatch z))]; exact h))
 ·exact .inl (.inr ⟨o',by rw[am (bv h hx (fun z=>nomatch z))]; exact h⟩)
 ·exact .inr h
theorem nstpAt.imp{K:PySem.W.Frag}{C:Addr}{f:List al→Nat}{S S':Addr→Prop}{PA PA':Addr→Nat→List al→Prop}{H H':Hp}{a:Addr}{l:Nat}{s:al}(h:nstpAt K C f S PA H a l s)(st:Stays S H H')(hS:∀ b,S b→S' b)(hp:∀ q l b,PA q l b→PA' q l b):nstpAt K C f S' PA' H' a l s:=by
 obtain⟨dx,pp,lp,bp,bs,h1,h2,h3,h4,h5,h6,h7⟩:=h
 exact⟨dx,pp,lp,bp,bs,st.i _ _ _ _ h1,SqT.stays h2 st,hS _ h3,st.l _ _ h3 h4,hS _ h5,st.l _ _ h5 h6,Paired.imp' (fun q z y=>hp _ _ _ y) h7⟩
theorem NumAt.imp{K:PySem.W.Frag}{C:Addr}{S S':Addr→Prop}{H H':Hp}(st:Stays S H H')(hS:∀ b,S b→S' b):∀ (d:Nat) {p:Addr} {l:Nat} {T:List al},NumAt K C S d H p l T→NumAt K C S' d H' p l T
 | 0,_,_,_,h=>h.elim
 | d+1,p,l,T,⟨h0,as,h1,h2⟩=>⟨hS _ h0,as,st.l _ _ h0 h1,Paired.imp' (fun a z y=>y.imp st hS fun q l b y'=>NumAt.imp st hS d y') h2⟩
theorem NumAt.mono{K:PySem.W.Frag}{C:Addr}{S:Addr→Prop}{H H':Hp}{d:Nat}{p:Addr}{l:Nat}{T:List al}(h:NumAt K C S d H p l T)(sm:Same H H'):NumAt K C S d H' p l T:=h.imp (Stays.of sm) (fun _ z=>z) d
theorem nstpAt.mono{K:PySem.W.Frag}{C:Addr}{S:Addr→Prop}{H H':Hp}{d:Nat}{a:Addr}{l:Nat}{s:al}(h:nstpAt K C (ai d) S (NumAt K C S d H) H a l s)(sm:Same H H'):nstpAt K C (ai d) S (NumAt K C S d H') H' a l s:=
 h.imp (Stays.of sm) (fun _ z=>z) fun q l b y=>y.mono sm
theorem qT{α : Type}{xs:List α}{x:α}(h:xs.getLast? = some x):ej xs (-1)=some x:=by
 rcases List.eq_nil_or_concat xs with rfl | ⟨ys,y,rfl⟩
 ·simp at h
 ·have e:y=x:=by simpa using h
  subst e
  have e:jv (ys++[y]).length (-1)=some ys.length:=by
   unfold jv;simp only[List.length_append,List.length_cons,List.length_nil]
   split <;> simp_all <;> omega
  unfold ej;rw[List.concat_eq_append,e];simp
theorem jh{ns:List Nat}{n:Nat}(h:ns.getLast? = some n):ej (fC ns) (-1)=some (.int n):=qT (by unfold fC; rw[List.getLast?_map,h]; rfl)
theorem eU{ns:List Nat}{i n:Nat}(h:ns[i]? = some n):ej (fC ns) i=some (.int n):=aW (by unfold fC; rw[List.getElem?_map,h]; rfl)
theorem rG(d:Nat):∀ T:List al,T.length≤ai (d+1) T
 | []=>Nat.zero_le _
 | s::T=>by
  have:=rG d T
  have h1:=(iP (f:=ai d) (l:=0) (s:=s)).2;show T.length+1≤ba (ai d) s+ai (d+1) T
  omega
theorem ma{d:Nat}:∀ {T:List al} {s:al},s∈T→ba (ai d) s≤ai (d+1) T
 | [],_,h=>by cases h
 | t::T,s,h=>by
  show ba (ai d) s≤ba (ai d) t+ai (d+1) T
  rcases List.mem_cons.mp h with rfl | h
  ·omega
  ·have:=ma (d:=d) h; omega
theorem pQ{d i:Nat}{T:List al}:ai (d+1) (T.take i)≤ai (d+1) T:=by
 have e:ai (d+1) T=ai (d+1) (T.take i)+ai (d+1) (T.drop i):=by
  show (T.map _).sum=((T.take i).map _).sum+((T.drop i).map _).sum
  rw[← List.sum_append,← List.map_append,List.take_append_drop]
 omega
theorem Az{f:List al→Nat}{l:Nat}:∀ {s:al} {z:Nat × List al},z∈cP f l s→f z.2≤ba f s
 | .plain _,z,h=>by cases h
 | .lend _ _ b,z,h=>by simp[cP]at h; subst h; simp[ba]
 | .ite _ b c,z,h=>by
  simp[cP]at h
  rcases h with rfl | rfl <;> simp[ba] <;> omega
 | .whl _ b,z,h=>by simp[cP]at h; subst h; simp[ba]
theorem xf(f:List al→Nat)(l:Nat)(s:al):(cP f l s).length≤2:=by cases s <;> simp[cP]
theorem AR{PA:Addr→List al→Prop}{H:Hp}{a:Addr}{f:List al→Nat}{g:List al→Prop}{l:Nat}:∀ {s:al},stpAt PA H a s→uI g s→∃ bs:List Addr,H a=some (.tup (.str (kindOf s)::(dI s++bs.map V.ref)))∧bs.length=(bi (kindOf s)).length∧Paired (fun q (z:Nat × List al)=>PA q z.2∧g z.2) bs (cP f l s)
 | .plain ws,h,ok=>by
  have hw:ws≠[]:=fun e=>by have:=ok.two; rw[e]at this; simp at this
  obtain⟨k,r,rfl⟩:=List.exists_cons_of_ne_nil hw
  have hk:k∈dq:=ok.kind
  refine⟨[],?_,?_,.nil⟩
  ·show H a=some (.tup (.str k::(r.map V.str++[])))
   rw[List.append_nil]; exact h
  ·show 0=(bi k).length
   revert hk; unfold dq
   intro hk
   simp only[List.mem_cons,List.not_mem_nil,or_false]at hk
   rcases hk with rfl | rfl | rfl | rfl | rfl <;> decide
 | .lend x y b,⟨q,h,z⟩,⟨_,_,o⟩=>⟨[q],h,by show 1=(bi "lend").length; decide,.cons ⟨z,o⟩ .nil⟩
 | .ite n b c,⟨q,r,h,z,y⟩,⟨_,o,o'⟩=>⟨[q,r],h,by show 2=(bi "if").length; decide,.cons ⟨z,o⟩ (.cons ⟨y,o'⟩ .nil)⟩
 | .whl n b,⟨q,h,z⟩,⟨_,o⟩=>⟨[q],h,by show 1=(bi "while").length; decide,.cons ⟨z,o⟩ .nil⟩
def mJ(K:PySem.W.Frag)(C:Addr):Sp:=fun vs H Q _=>∃ (x dx hp:Addr) (k:Str) (ps:List V) (lp bp:Addr),vs=[.ref x,.ref hp,.ref lp,.ref bp]∧H x=some (.ins C dx [])∧SqT K H hp (.str k::ps)∧
 ∀ (pp:Addr) (H':Hp),(∀ b o,H b=some o→b≠x→H' b=some o)→H' x=some (.ins C dx (nF k pp lp bp))→SqT K H' pp ps→Q .non H'
def jc(K:PySem.W.Frag)(C:Addr):Sp:=fun vs H Q _=>∃ (p:Addr) (l d:Nat) (T:List al) (S:Addr→Prop),vs=[.ref p,.int (l:Int)]∧NumAt K C S (d+1) H p l T∧ai (d+1) T≤10000∧Q (.int ((l+ai (d+1) T:Nat):Int)) H
def ES(K:PySem.W.Frag)(C:Addr)(d:Nat):Sp:=fun vs H Q _=>∃ (a:Addr) (l:Nat) (s:al) (S:Addr→Prop),vs=[.ref a,.int (l:Int)]∧stpAt (ProgAt S d H) H a s∧uI (jm d) s∧ba (ai d) s≤10000∧
 ∀ (q:Addr) (H':Hp),Same H H'→nstpAt K C (ai d) (fun b=>H b=none) (NumAt K C (fun b=>H b=none) d H') H' q l s→Q (.ref q) H'
def oT(K:PySem.W.Frag)(C:Addr)(d:Nat):Sp:=fun vs H Q _=>∃ (p:Addr) (l:Nat) (T:List al) (S:Addr→Prop),vs=[.ref p,.int (l:Int)]∧ProgAt S d H p T∧jm d T∧ai d T≤10000∧
 ∀ (q:Addr) (H':Hp),Same H H'→NumAt K C (fun b=>H b=none) d H' q l T→Q (.ref q) H'
section
variable{P:Program}{w:World}{K:PySem.W.Frag}{mg:Str→Option Value}{base:Heap}{CN:Addr}
theorem y8(D:MakeAt K mg "NumberedStep" CN "NumberedStep.__init__" aY) (a_kind:Fl K CN "kind") (a_parts:Fl K CN "parts") (a_lines:Fl K CN "lines") (a_blocks:Fl K CN "blocks") :
  iq P w K mg base 1 "NumberedStep" CN ["self", "head", "lines", "blocks"] (mJ K CN):=by
 refine D.mkal (k:=0) g_ (fun _ _ _ _ _ _ us hl=>match us,hl with | [_,_,_,_],_=>rfl) (fun vs H Q E h=>by obtain⟨x,dx,hp,k,ps,lp,bp,rfl,_⟩:=h; rfl) (fun f cdv A outer s H vs Q E hr h=>?_)
 obtain⟨x,dx,hp,k,ps,lp,bp,rfl,hx,hh,q⟩:=h
 refine⟨_,(af (b8 a_kind (pv 0) (aq (aK K) (pv 1) ah (fun _ _=>rfl)))
   (af (b8 a_parts (pv 0) (eJ (j8 K) (pv 1) (d_ ah) gQ))
   (af (b8 a_lines (pv 0) (pv 2))
   (aj (b8 a_blocks (pv 0) (pv 3)))))),?_⟩
 walk_at "rd1";refine⟨_,_,.inr hh,cZ,dx,_,hx,by decide,?_⟩
 generalize hH1:upd H x _=H1
 have e1:H1 x=some (.ins CN dx [("kind", .str k)]):=by rw[← hH1,ae]; walk_at "pf"
 have k1:∀ b o,H b=some o→b≠x→H1 b=some o:=fun b o e n=>by rw[← hH1,am n]; exact e
 have hh1:SqT K H1 hp (.str k::ps):=by rw[← hH1]; exact SqT.updI hh hx
 walk_at "nx";refine i5 hh1 fun pp H2 sm2 hpp=>?_
 have ec:dk (V.str k::ps) (some 1) none=ps:=jz _ 1
 rw[ec]at hpp
 refine⟨dx,_,sm2 _ _ e1,by simp,?_⟩
 generalize hH3:upd H2 x _=H3
 have e3:H3 x=some (.ins CN dx [("kind", .str k),("parts", .ref pp)]):=by rw[← hH3,ae]; walk_at "pf"
 have k3:∀ b o,H2 b=some o→b≠x→H3 b=some o:=fun b o e n=>by rw[← hH3,am n]; exact e
 have hp3:SqT K H3 pp ps:=by rw[← hH3]; exact SqT.updI hpp (sm2 _ _ e1)
 walk_at "nx";refine⟨dx,_,e3,by simp,?_⟩
 generalize hH4:upd H3 x _=H4
 have e4:H4 x=some (.ins CN dx [("kind", .str k),("parts", .ref pp),("lines", .ref lp)]):=by rw[← hH4,ae]; walk_at "pf"
 have k4:∀ b o,H3 b=some o→b≠x→H4 b=some o:=fun b o e n=>by rw[← hH4,am n]; exact e
 have hp4:SqT K H4 pp ps:=by rw[← hH4]; exact SqT.updI hp3 e3
 walk_at "nx";refine⟨dx,_,e4,by simp,?_⟩
 refine q pp _ (fun b o e n=>?_) ?_ (SqT.updI hp4 e4)
 ·rw[am n]; exact k4 _ _ (k3 _ _ (sm2 _ _ (k1 _ _ e n)) n) n
 ·rw[ae]; unfold nF; walk_at "pf"
theorem vJ(D:DefAt K mg "line_behind" dn) (z_len:mg "len" = none) (a_lines:Fl K CN "lines"):aR P w K mg base 1 "line_behind" ["steps", "line"] (jc K CN):=by
 refine D.cal (k:=0) lX (fun _ _ _ _ _ _ us hl=>match us,hl with | [_,_],_=>rfl) (fun vs H Q E h=>by obtain⟨p,l,d,T,S,rfl,_⟩:=h; rfl) (fun f cdv A outer s H vs Q E hr h=>?_)
 obtain⟨p,l,d,T,S,rfl,⟨h0,as,h1,h2⟩,hz,q⟩:=h
 have hlen:=aL h2;rw[fZ]at hlen
 refine⟨_,(aj (aG (hZ (aE bY (bS (bc K) z_len b6 (aa (pv 0) ac)) ah (aP _)) (pv 1) (ap aD (aq (aK K) (au a_lines (aq (aK K) (pv 0) (j3 iu ah) (fun _ _=>rfl))) (j3 iu ah) (fun _ _=>rfl)) ah)))),?_⟩
 walk_at "rd1";refine⟨_,.inl (SqL.of h1),?_⟩
 rw[List.length_map,hlen];rcases List.eq_nil_or_concat T with rfl | ⟨T',t,rfl⟩
 ·refine bG (fun c=>?_) (fun c=>absurd rfl c)
  exact q
 ·rw[List.concat_eq_append]at *
  refine bG (fun c=>absurd c (by rw[List.length_append]; simp; omega)) (fun c=>?_)
  rw[jo]at h2
  rcases List.eq_nil_or_concat as with rfl | ⟨as',a,rfl⟩
  ·have:=aL h2; simp at this
  rw[List.concat_eq_append]at *
  have hl':as'.length=T'.length:=by simpa using hlen
  have h3:nstpAt K CN (ai d) S (NumAt K CN S d H) H a (l+(T'.map (ba (ai d))).sum) t:=by
   obtain⟨z,hz1,hz2⟩:=cv h2 (i:=as'.length) (x:=a) (by simp)
   rw[List.getElem?_append_right (by rw[fZ]; omega),fZ,hl']at hz1
   simp at hz1
   subst hz1; exact hz2
  obtain⟨dx,pp,lp,bp,bs,g1,g2,g3,g4,g5,g6,g7⟩:=h3
  obtain⟨g8,g9⟩:=iP (f:=ai d) (l:=l+(T'.map (ba (ai d))).sum) (s:=t)
  walk_at "rd1";refine⟨_,_,.inl (SqL.of h1),qT (x:=V.ref a) (by simp),?_⟩
  refine⟨a,rfl,dx,_,_,g1,dU _ _ _ _,?_⟩
  walk_at "rd1";refine⟨_,_,.inl (SqL.of g4),jh g8,?_⟩
  walk_at "rd1"
  have e:((l+(T'.map (ba (ai d))).sum+ba (ai d) t - 1:Nat):Int)+1=((l+ai (d+1) (T'++[t]):Nat):Int):=by
   have:ai (d+1) (T'++[t])=(T'.map (ba (ai d))).sum+ba (ai d) t:=by show ((T'++[t]).map _).sum=_; simp
   omega
  rw[e]; exact q
theorem DM(D:DefAt K mg "numbered_step" aS) (c_head_of:aR P w K mg base 2 "head_of" ["step"] (jV K)) (c_blocks_of:aR P w K mg base 3 "blocks_of" ["step"] (gS K)) (c_line_behind:aR P w K mg base 1 "line_behind" ["steps", "line"] (jc K CN))
  (k_NumberedStep:iq P w K mg base 1 "NumberedStep" CN ["self", "head", "lines", "blocks"] (mJ K CN)) {d:Nat} (c_numbered_steps:aR P w K mg base (2 * d+4) "numbered_steps" ["steps", "line"] (oT K CN d)) :
  aR P w K mg base (2 * d+5) "numbered_step" ["step", "line"] (ES K CN d):=by
 refine D.cal (k:=2 * d+4) sc_numbered_step (fun _ _ _ _ _ _ us hl=>match us,hl with | [_,_],_=>rfl) (fun vs H Q E h=>by obtain⟨a,l,s,S,rfl,_⟩:=h; rfl) (fun f cdv A outer sh H vs Q E hr h=>?_)
 obtain⟨a,l,s,S,rfl,h1,ok,hz,q⟩:=h
 obtain⟨bs,b1,b2,b3⟩:=AR (f:=ai d) (l:=l) h1 ok
 refine⟨_,(af (aA 2 sc_numbered_step.nd (aQ (aa (pv 1) ac)))
   (af (aA 3 sc_numbered_step.nd (aQ ac))
   (af (cu PassesOwn.never rfl (iF K (az c_blocks_of hr (aa (pv 0) ac) (hle:=by omega))) (bq 4 sc_numbered_step.nd) (af (aA 5 sc_numbered_step.nd (az c_numbered_steps hr (aa (pv 4) (aa (ap aD (aq (aK K) (pv 2) (j3 iu ah) (fun _ _=>rfl)) ah) ac)) (hle:=by omega)))
   (af (aO (bL K PySem.F.plainAttrs_list PySem.F.slot_list_append PySem.F.type_list_append bx (pv 3) (aa (pv 5) ac)))
   (aj (aO (bL K PySem.F.plainAttrs_list PySem.F.slot_list_append PySem.F.type_list_append bx (pv 2) (aa (az c_line_behind hr (aa (pv 5) (aa (ap aD (aq (aK K) (pv 2) (j3 iu ah) (fun _ _=>rfl)) ah) ac)) (hle:=by omega)) ac)))))))
   (aj (aG (ol k_NumberedStep hr (aa (az c_head_of hr (aa (pv 0) ac) (hle:=by omega)) (aa (pv 2) (aa (pv 3) ac))) (hle:=by omega))))))),?_⟩
 walk_at "rd1";refine⟨by decide,fun lp hlp=>?_⟩
 generalize hA:upd H lp _=HA
 have sA:=aV hA hlp;have eA:=bB hA;walk_at "nx";refine⟨by decide,fun bp hbp=>?_⟩
 generalize hB:upd HA bp _=HB
 have sB:=aV hB hbp;have eB:=bB hB;have sAB:=sA.trans sB;have hcl:(bi (kindOf s)).length≤(dI s++bs.map V.ref).length+1:=by rw[List.length_append,List.length_map,b2]; omega
 have hcut:(dI s++bs.map V.ref).length+1 - (bi (kindOf s)).length=(dI s).length+1:=by rw[List.length_append,List.length_map,b2]; omega
 walk_at "nx";refine⟨a,kindOf s,_,rfl,SqT.of (sAB _ _ b1),hcl,fun tp HC sC htp=>?_⟩
 rw[hcut]at htp
 have etk:(V.str (kindOf s)::(dI s++bs.map V.ref)).drop ((dI s).length+1)=bs.map V.ref:=by rw[List.drop_succ_cons,List.drop_left']; rfl
 rw[etk]at htp
 walk_at "rd1";refine⟨⟨_,htp⟩,?_⟩
 have hbl:=aL b3;have hb2:=xf (ai d) l s;have nlb:lp≠bp:=fun z=>by rw[← z]at hbp; rw[hbp]at eA; cases eA
 refine kH (xs:=bs.map V.ref) (fun j σ H'=>∃ (o4 o5:Option V) (qs:List Addr),σ=[some (.ref a),some (.int (l:Int)),some (.ref lp),some (.ref bp),o4,o5]∧Same H H'∧SqT K H' tp (bs.map V.ref)∧H' lp=some (.lst (fC ((cQ (ai d) l s).take (j+1))))∧H' bp=some (.lst (qs.map V.ref))∧
   (∀ b,H' b=none→HC b=none)∧Paired (fun q (z:Nat × List al)=>NumAt K CN (fun b=>HC b=none) d H' q z.1 z.2) qs ((cP (ai d) l s).take j))
  ⟨none,none,[],rfl,sAB.trans sC,htp,by rw[sC _ _ (sB _ _ eA)]; simp[fC,cQ],by rw[sC _ _ eB]; rfl,fun b h=>h,.nil⟩ (fun j σ H' _ h=>by obtain⟨_,_,_,_,_,z,_⟩:=h; exact z) ?_ ?_
 ·rintro j v σ H' hv ⟨o4,o5,qs,rfl,sm,ht',hl',hb',hfr,hp'⟩
  have hj:j<bs.length:=by have:=(List.getElem?_eq_some_iff.mp hv).1; simpa using this
  rw[List.getElem?_map,List.getElem?_eq_getElem hj]at hv
  cases hv;obtain⟨z,hz1,hz2,hz3⟩:=cv b3 (List.getElem?_eq_getElem hj)
  obtain⟨y,hy1,hy2⟩:=x6 hz1
  have hylast:((cQ (ai d) l s).take (j+1)).getLast? = some y:=by
   rw[List.take_add_one,hy1]; simp
  have hcnt:=Az (List.mem_of_getElem? hz1);walk_at "rd1";refine⟨_,_,.inl (SqL.of hl'),jh hylast,?_⟩
  walk_at "rd1";have ey:(y:Int)+1=((z.1:Nat):Int):=by omega
  rw[ey];refine⟨bs[j],z.1,z.2,S,rfl,hz2.mono sm,hz3,by omega,fun q' HD sD hq'=>?_⟩
  have qlen:=aL hp';rw[List.length_take]at qlen
  walk_at "nx";refine⟨⟨_,SqL.of (sD _ _ hb')⟩,_,sD _ _ hb',bX (by rw[List.length_map]; omega),?_⟩
  generalize hE:upd HD bp _=HE
  have stE:Stays (fun b=>H' b=none) HD HE:=by rw[← hE]; exact Stays.upd (sD _ _ hb') (fun z=>by rw[hb']at z; cases z)
  have hqE:=NumAt.imp (S':=fun b=>H' b=none) stE (fun _ z=>z) d hq'
  have eE:HE bp=some (.lst (qs.map V.ref++[V.ref q'])):=by rw[← hE,ae]
  have lE:HE lp=some (.lst (fC ((cQ (ai d) l s).take (j+1)))):=by rw[← hE,am nlb]; exact sD _ _ hl'
  walk_at "nx";refine⟨⟨_,SqL.of lE⟩,_,_,.inl (SqL.of lE),jh hylast,?_⟩
  walk_at "rd1";rw[ey];have hC1:∀ b,H' b=none→HC b=none:=hfr
  have hqC:=NumAt.imp (S':=fun b=>HC b=none) (Stays.of (Same.refl HE)) hC1 d hqE
  cases d with
  | zero=>exact hqE.elim
  | succ d=>
  refine⟨q',z.1,d,z.2,_,rfl,hqE,by omega,?_⟩
  refine⟨_,lE,bX (by unfold fC; rw[List.length_map,List.length_take]; omega),?_⟩
  generalize hF:upd HE lp _=HF
  have lpC:HC lp=some (.lst (fC [l])):=by rw[sC _ _ (sB _ _ eA)]; simp[fC]
  have bpC:HC bp=some (.lst []):=sC _ _ eB
  have stF:Stays (fun b=>HC b=none) HE HF:=by rw[← hF]; exact Stays.upd lE (fun z=>by rw[lpC]at z; cases z)
  have stE':Stays (fun b=>HC b=none) HD HE:=by rw[← hE]; exact Stays.upd (sD _ _ hb') (fun z=>by rw[bpC]at z; cases z)
  have up:∀ {p:Addr} {l:Nat} {T:List al},NumAt K CN (fun b=>HC b=none) (d+1) H' p l T→NumAt K CN (fun b=>HC b=none) (d+1) HF p l T:=fun z=>NumAt.imp stF (fun _ y=>y) _ (NumAt.imp stE' (fun _ y=>y) _ (z.mono sD))
  refine⟨_,_,qs++[q'],rfl,?_,?_,?_,?_,?_,?_⟩
  ·rw[← hF,← hE]; exact((sm.trans sD).upd (sA.free hbp) _).upd hlp _
  ·exact SqT.stays (SqT.stays (ht'.same sD) stE') stF
  ·rw[← hF,ae]
   have:(cQ (ai (d+1)) l s)[j+1]? = some (z.1+ai (d+1) z.2):=by
    unfold cQ;rw[List.getElem?_cons_succ,List.getElem?_map,hz1]; rfl
   unfold fC;rw[List.take_add_one (i:=j+1),this,List.map_append]; rfl
  ·rw[← hF,am nlb.symm,eE,List.map_append]; rfl
  ·intro b hb
   refine hfr b (sD.free ?_)
   rw[← hF,← hE]at hb
   by_cases e1:b=lp
   ·rw[e1,ae]at hb; cases hb
   ·rw[am e1]at hb
    by_cases e2:b=bp
    ·rw[e2,ae]at hb; cases hb
    ·rw[am e2]at hb; exact hb
  ·rw[List.take_add_one,hz1]
   exact fw (R:=fun q (z:Nat × List al)=>NumAt K CN (fun b=>HC b=none) (d+1) HF q z.1 z.2) (NumAt.imp stF (fun _ y=>y) _ hqC) (Paired.imp' (fun q z y=>up y) hp')
 ·rintro σ H' ⟨o4,o5,qs,rfl,sm,ht',hl',hb',hfr,hp'⟩
  rw[List.length_map,hbl,List.take_length]at hp'
  have hll:(cQ (ai d) l s).take ((bs.map V.ref).length+1)=cQ (ai d) l s:=by
   rw[List.take_of_length_le]; unfold cQ; rw[List.length_cons,List.length_map,List.length_map,hbl]; exact Nat.le_refl _
  rw[hll]at hl'
  walk_at "nx";refine⟨a,kindOf s,_,rfl,SqT.of (sm _ _ b1),hcl,fun hp HD sD hhp=>?_⟩
  rw[hcut]at hhp
  have etk2:(V.str (kindOf s)::(dI s++bs.map V.ref)).take ((dI s).length+1)=V.str (kindOf s)::dI s:=by rw[List.take_succ_cons,List.take_left']; rfl
  rw[etk2]at hhp
  walk_at "rd1";intro x dx hx hdx ndx
  generalize hM:upd (upd HD dx (.own x)) x (.ins CN dx [])=HM
  have sM:Same HD HM:=by rw[← hM]; exact(ak hdx (.own x)).upd hx _
  have eM:HM x=some (.ins CN dx []):=by rw[← hM,ae]
  refine⟨x,dx,hp,kindOf s,dI s,lp,bp,rfl,eM,hhp.same sM,fun pp HN kN eN hpp=>⟨rfl,?_⟩⟩
  have sN:Same HD HN:=fun b o e=>kN b o (sM _ _ e) (aM e hx)
  have sHN:Same H HN:=(sm.trans sD).trans sN
  have hCH:∀ b,HC b=none→H b=none:=fun b z=>(sAB.trans sC).free z
  refine q x HN sHN ⟨dx,pp,lp,bp,qs,eN,hpp,hlp,sN _ _ (sD _ _ hl'),sA.free hbp,sN _ _ (sD _ _ hb'),?_⟩
  exact Paired.imp' (fun q z y=>NumAt.imp (Stays.of (sD.trans sN)) hCH d y) hp'
theorem qz(D0:DefAt K mg "numbered_step" aS) (D:DefAt K mg "numbered_steps" bK) (c_head_of:aR P w K mg base 2 "head_of" ["step"] (jV K)) (c_blocks_of:aR P w K mg base 3 "blocks_of" ["step"] (gS K)) (c_line_behind:aR P w K mg base 1 "line_behind" ["steps", "line"] (jc K CN))
  (k_NumberedStep:iq P w K mg base 1 "NumberedStep" CN ["self", "head", "lines", "blocks"] (mJ K CN)):∀ d:Nat,aR P w K mg base (2 * d+4) "numbered_steps" ["steps", "line"] (oT K CN d)
 | 0=>D.cal (k:=3) sc_numbered_steps (fun _ _ _ _ _ _ us hl=>match us,hl with | [_,_],_=>rfl) (fun vs H Q E h=>by obtain⟨p,l,T,S,rfl,_⟩:=h; rfl) (fun f cdv A outer s H vs Q E hr h=>by obtain⟨p,l,T,S,rfl,z,_⟩:=h; exact z.elim)
 | d+1=>by
  have c_numbered_step:=DM D0 c_head_of c_blocks_of c_line_behind k_NumberedStep (qz D0 D c_head_of c_blocks_of c_line_behind k_NumberedStep d);refine D.cal (k:=2 * d+5) sc_numbered_steps (fun _ _ _ _ _ _ us hl=>match us,hl with | [_,_],_=>rfl) (fun vs H Q E h=>by obtain⟨p,l,T,S,rfl,_⟩:=h; rfl) (fun f cdv A outer s H vs Q E hr h=>?_)
  obtain⟨p,l,T,S,rfl,⟨h0,as,h1,h2⟩,ok,hz,q⟩:=h
  have hlen:=aL h2;have hTl:=rG d T
  refine⟨_,(af (aA 2 sc_numbered_steps.nd (aQ ac))
   (af (cu PassesOwn.never rfl (cw K (pv 0)) (bq 3 sc_numbered_steps.nd) (aj (aO (bL K PySem.F.plainAttrs_list PySem.F.slot_list_append PySem.F.type_list_append bx (pv 2) (aa (az c_numbered_step hr (aa (pv 3) (aa (az c_line_behind hr (aa (pv 2) (aa (pv 1) ac)) (hle:=by omega)) ac)) (hle:=by omega)) ac)))))
   (aj (aG (pv 2))))),?_⟩
  walk_at "rd1";refine⟨by decide,fun lp hlp=>?_⟩
  generalize hA:upd H lp _=HA
  have sA:=aV hA hlp;have eA:=bB hA;walk_at "nx";refine⟨⟨_,SqL.of (sA _ _ h1)⟩,?_⟩
  have lpA:¬ HA lp=none:=fun z=>by rw[eA]at z; cases z
  refine c6 (xs:=as.map V.ref) (fun i σ H'=>∃ (o3:Option V) (ns:List Addr),σ=[some (.ref p),some (.int (l:Int)),some (.ref lp),o3]∧Same H H'∧H' lp=some (.lst (ns.map V.ref))∧(∀ b,H' b=none→HA b=none)∧
    Paired (fun a (z:Nat × al)=>nstpAt K CN (ai d) (fun b=>HA b=none) (NumAt K CN (fun b=>HA b=none) d H') H' a z.1 z.2) ns (dQ (ba (ai d)) l (T.take i)))
   ⟨none,[],rfl,sA,eA,fun _ z=>z,.nil⟩ (fun i σ H' _ h=>by obtain⟨_,_,_,sm,_⟩:=h; exact SqL.of (sm _ _ h1)) ?_ ?_
  ·rintro i v σ H' hv ⟨o3,ns,rfl,sm,n1,nf,n2⟩
   have hi:i<as.length:=by have:=(List.getElem?_eq_some_iff.mp hv).1; simpa using this
   rw[List.getElem?_map,List.getElem?_eq_getElem hi]at hv
   cases hv;obtain⟨s,hs,hsa⟩:=cv h2 (List.getElem?_eq_getElem hi)
   have hmem:=List.mem_of_getElem? hs;have hct:=ma (d:=d) hmem;have hctk:=pQ (d:=d) (i:=i) (T:=T);have nlen:=aL n2;rw[fZ,List.length_take]at nlen
   walk_at "rd1";refine⟨⟨_,SqL.of n1⟩,?_⟩
   refine⟨lp,l,d,T.take i,fun _=>True,rfl,⟨trivial,ns,n1,Paired.imp' (fun a z y=>y.imp (Stays.of (Same.refl H')) (fun _ _=>trivial) fun q l b y'=>NumAt.imp (Stays.of (Same.refl H')) (fun _ _=>trivial) d y') n2⟩,by omega,?_⟩
   refine⟨as[i],l+ai (d+1) (T.take i),s,S,rfl,?_,ok s hmem,by omega,fun q' HD sD hq'=>?_⟩
   ·exact stpAt.imp (fun b xs e=>sm _ _ e) (fun q b y=>y.mono sm) hsa
   refine⟨_,sD _ _ n1,bX (by rw[List.length_map]; omega),?_⟩
   generalize hE:upd HD lp _=HE
   have eE:HE lp=some (.lst ((ns++[q']).map V.ref)):=by rw[← hE,ae,List.map_append]; rfl
   have stE:Stays (fun b=>HA b=none) HD HE:=by rw[← hE]; exact Stays.upd (sD _ _ n1) lpA
   have hq2:nstpAt K CN (ai d) (fun b=>HA b=none) (NumAt K CN (fun b=>HA b=none) d HD) HD q' (l+ai (d+1) (T.take i)) s:=hq'.imp (Stays.of (Same.refl HD)) nf fun q l b y'=>NumAt.imp (Stays.of (Same.refl HD)) nf d y'
   have up:∀ {a:Addr} {l:Nat} {s:al},nstpAt K CN (ai d) (fun b=>HA b=none) (NumAt K CN (fun b=>HA b=none) d HD) HD a l s→nstpAt K CN (ai d) (fun b=>HA b=none) (NumAt K CN (fun b=>HA b=none) d HE) HE a l s:=fun z=>z.imp stE (fun _ y=>y) fun q l b y'=>NumAt.imp stE (fun _ y=>y) d y'
   refine⟨_,ns++[q'],rfl,?_,eE,?_,?_⟩
   ·rw[← hE]; exact(sm.trans sD).upd hlp _
   ·intro b hb
    refine nf b (sD.free ?_)
    rw[← hE]at hb
    by_cases e1:b=lp
    ·rw[e1,ae]at hb; cases hb
    ·rw[am e1]at hb; exact hb
   ·have et:T.take (i+1)=T.take i++[s]:=by rw[List.take_add_one,hs]; rfl
    rw[et,jo];exact fw (R:=fun a (z:Nat × al)=>nstpAt K CN (ai d) (fun b=>HA b=none) (NumAt K CN (fun b=>HA b=none) d HE) HE a z.1 z.2) (up hq2) (Paired.imp' (fun a z y=>up (nstpAt.mono y sD)) n2)
  ·rintro σ H' ⟨o3,ns,rfl,sm,n1,nf,n2⟩
   rw[List.length_map,hlen,List.take_length]at n2
   walk_at "nx";have hAH:∀ b,HA b=none→H b=none:=fun b z=>sA.free z
   exact q lp H' sm ⟨hlp,ns,n1,Paired.imp' (fun a z y=>y.imp (Stays.of (Same.refl H')) hAH fun q l b y'=>NumAt.imp (Stays.of (Same.refl H')) hAH d y') n2⟩
end
section
variable{P:Program}{w:World}{K:PySem.W.Frag}{mg:Str→Option Value}{base:Heap}
abbrev br:=List V
def bJ(kv:List (aw × V))(k:aw):V:=(aN kv k).getD .non
def iN(n:Nat):V:=.int (n:Int)
def c_(kv:List (aw × V))(l:Nat)(ws:List Str):br:=
 if ws.headD "" = "do" then [.str "do", iN l,bJ kv (.inr (ws.getD 2 "")),.str (ws.getD 1 "")] else .str (ws.headD "")::iN l::(ws.drop 1).map fun n=>bJ kv (.inr n)
section
variable(kv:List (aw × V))(f:Bool→Nat→Nat→List al→List br)(cnt:List al→Nat)
def fA(t:Bool)(a l:Nat)(x y:Str)(b:List al):List br:=
 [[.str "copy", iN l,bJ kv (.inl l),bJ kv (.inr x)],[.str "do", iN l,bJ kv (.inl l),.str "lend"],[.str "copy", iN l,bJ kv (.inr y),bJ kv (.inl l)]]++f t (a+3) (l+1) b ++
 [[.str "do", iN (l+1+cnt b),bJ kv (.inl l),.str "back"],[.str "drop", iN (l+1+cnt b),bJ kv (.inr y)],[.str "drop", iN (l+1+cnt b),bJ kv (.inl l)]]
def jM(t:Bool)(a l:Nat)(n:Int)(b c:List al):List br:=
 [[.str "test", iN l,.int n,iN (a+1+(f t (a+1) (l+1) b).length+1)]]++f t (a+1) (l+1) b ++
 [[.str "jump", iN (l+1+cnt b),iN (a+1+(f t (a+1) (l+1) b).length+1+(f t (a+1+(f t (a+1) (l+1) b).length+1) (l+1+cnt b+1) c).length)]]++f t (a+1+(f t (a+1) (l+1) b).length+1) (l+1+cnt b+1) c
def cU(a l:Nat)(n:Int)(b:List al):List br:=
 [[.str "test", iN l,.int n,iN (a+1+(f false (a+1) (l+1) b).length+1)]]++f false (a+1) (l+1) b++[[.str "jump", iN (l+1+cnt b),iN a]]
def de(t:Bool)(a l:Nat)(n:Int)(b:List al):List br:=
 if t=true then [[.str "test", iN l,.int n,iN (a+1+(f true (a+1) (l+1) b).length+(cU f cnt (a+1+(f true (a+1) (l+1) b).length) l n b).length)]]++f true (a+1) (l+1) b++cU f cnt (a+1+(f true (a+1) (l+1) b).length) l n b
 else cU f cnt a l n b
def dy(t:Bool)(a l:Nat):al→List br
 | .plain ws=>[c_ kv l ws]
 | .lend x y b=>fA kv f cnt t a l x y b
 | .ite n b c=>jM f cnt t a l n b c
 | .whl n b=>de f cnt t a l n b
end
def c8(g:Nat→Nat→al→List br)(c:al→Nat):Nat→Nat→List al→List br
 | _,_,[]=>[]
 | a,l,s::T=>g a l s++c8 g c (a+(g a l s).length) (l+c s) T
theorem kz(g:Nat→Nat→al→List br)(c:al→Nat)(s:al):∀ (T:List al) (a l:Nat),c8 g c a l (T++[s])=c8 g c a l T++g (a+(c8 g c a l T).length) (l+(T.map c).sum) s
 | [],a,l=>by simp[c8]
 | t::T,a,l=>by
  show g a l t++c8 g c _ _ (T++[s])=(g a l t++c8 g c _ _ T)++_
  have e:(c8 g c a l (t::T)).length=(g a l t).length+(c8 g c (a+(g a l t).length) (l+c t) T).length:=List.length_append
  rw[kz g c s T,List.append_assoc,e,List.map_cons,List.sum_cons,Nat.add_assoc,Nat.add_assoc]
def aF(kv:List (aw × V)):Nat→Bool→Nat→Nat→List al→List br
 | 0,_,_,_,_=>[]
 | d+1,t,a,l,T=>c8 (dy kv (aF kv d) (ai d) t) (ba (ai d)) a l T
theorem iR{f:Bool→Nat→Nat→List al→List br}{cnt:List al→Nat}{a l:Nat}{n:Int}{b:List al}:(cU f cnt a l n b).length=(f false (a+1) (l+1) b).length+2:=by
 unfold cU; simp
theorem xv{kv:List (aw × V)}{f:Bool→Nat→Nat→List al→List br}{cnt:List al→Nat}{m:Nat}(h0:∀ a l T,(f false a l T).length≤6 * cnt T)(h1:∀ a l T,(f true a l T).length≤6 * m * cnt T)(hm:1≤m):∀ (s:al) (t:Bool) (a l:Nat),(dy kv f cnt t a l s).length≤(if t=true then 6 * (m+1) else 6) * ba cnt s
 | .plain ws,t,a,l=>by
  show 1≤_ * 1
  split <;> omega
 | .lend x y b,t,a,l=>by
  cases t with
  | false=>
   have:=h0 (a+3) (l+1) b
   show (fA kv f cnt false a l x y b).length≤6 * (cnt b+2)
   unfold fA;simp only[List.length_append,List.length_cons,List.length_nil]
   omega
  | true=>
   have:=h1 (a+3) (l+1) b
   show (fA kv f cnt true a l x y b).length≤6 * (m+1) * (cnt b+2)
   unfold fA;simp only[List.length_append,List.length_cons,List.length_nil]
   have e:6 * (m+1) * (cnt b+2)=6 * m * cnt b+6 * cnt b+12 * m+12:=by rw[Nat.mul_add 6 m 1,Nat.add_mul,Nat.mul_add,Nat.mul_add]; omega
   omega
 | .ite n b c,t,a,l=>by
  cases t with
  | false=>
   have:=h0 (a+1) (l+1) b
   have:=h0 (a+1+(f false (a+1) (l+1) b).length+1) (l+1+cnt b+1) c
   show (jM f cnt false a l n b c).length≤6 * (cnt b+cnt c+3)
   unfold jM;simp only[List.length_append,List.length_cons,List.length_nil]
   omega
  | true=>
   have:=h1 (a+1) (l+1) b
   have:=h1 (a+1+(f true (a+1) (l+1) b).length+1) (l+1+cnt b+1) c
   show (jM f cnt true a l n b c).length≤6 * (m+1) * (cnt b+cnt c+3)
   unfold jM;simp only[List.length_append,List.length_cons,List.length_nil]
   have e:6 * (m+1) * (cnt b+cnt c+3)=6 * m * cnt b+6 * m * cnt c+18 * m+6 * cnt b+6 * cnt c+18:=by rw[Nat.mul_add 6 m 1,Nat.add_mul,Nat.mul_add,Nat.mul_add,Nat.mul_add,Nat.mul_add]; omega
   omega
 | .whl n b,t,a,l=>by
  cases t with
  | false=>
   have:=h0 (a+1) (l+1) b
   show (de f cnt false a l n b).length≤6 * (cnt b+2)
   unfold de;rw[if_neg (by decide),iR]
   omega
  | true=>
   have:=h1 (a+1) (l+1) b
   have:=h0 (a+1+(f true (a+1) (l+1) b).length+1) (l+1) b
   show (de f cnt true a l n b).length≤6 * (m+1) * (cnt b+2)
   unfold de;rw[if_pos rfl];simp only[List.length_append,List.length_cons,List.length_nil,iR]
   have e:6 * (m+1) * (cnt b+2)=6 * m * cnt b+6 * cnt b+12 * m+12:=by rw[Nat.mul_add 6 m 1,Nat.add_mul,Nat.mul_add,Nat.mul_add]; omega
   omega
theorem oH{g:Nat→Nat→al→List br}{c:al→Nat}{k:Nat}(h:∀ s a l,(g a l s).length≤k * c s):∀ (T:List al) (a l:Nat),(c8 g c a l T).length≤k * (T.map c).sum
 | [],_,_=>Nat.zero_le _
 | s::T,a,l=>by
  have:=h s a l
  have:=oH h T (a+(g a l s).length) (l+c s)
  show (g a l s++c8 g c (a+(g a l s).length) (l+c s) T).length≤k * (c s+(T.map c).sum)
  rw[List.length_append,Nat.mul_add]; omega
theorem ow(kv:List (aw × V)):∀ (d:Nat) (a l:Nat) (T:List al),(aF kv d false a l T).length≤6 * ai d T∧(aF kv d true a l T).length≤6 * (d+1) * ai d T
 | 0,_,_,_=>⟨Nat.zero_le _,Nat.zero_le _⟩
 | d+1,a,l,T=>by
  have ih:=ow kv d;have st:=xv (kv:=kv) (f:=aF kv d) (cnt:=ai d) (m:=d+1) (fun a l T=>(ih a l T).1) (fun a l T=>(ih a l T).2) (by omega)
  exact⟨oH (k:=6) (fun s a l=>by have:=st s false a l; simpa using this) T a l,oH (k:=6 * (d+1+1)) (fun s a l=>by have:=st s true a l; simpa using this) T a l⟩
def b5(H:Hp)(c:Addr)(r:br):Prop:=H c=some (.tup r)
def dY(ws:List Str):List Str:=if ws.headD "" = "do" then [ws.getD 2 ""] else ws.drop 1
def dH(kv:List (aw × V))(k:aw):Prop:=aN kv k=some (bJ kv k)
def jN(kv:List (aw × V))(f:Nat→List al→Prop)(cnt:List al→Nat)(l:Nat):al→Prop
 | .plain ws=>(ws.headD "" = "do" → ws.length=3)∧∀ n∈dY ws,dH kv (.inr n)
 | .lend x y b=>dH kv (.inr x)∧dH kv (.inr y)∧dH kv (.inl (l:Int))∧f (l+1) b
 | .ite _ b c=>f (l+1) b∧f (l+1+cnt b+1) c
 | .whl _ b=>f (l+1) b
def dz(kv:List (aw × V)):Nat→Nat→List al→Prop
 | 0,_,_=>False
 | d+1,l,T=>∀ z∈dQ (ba (ai d)) l T,jN kv (dz kv d) (ai d) z.1 z.2
section
variable{CN:Addr}
def w4(K:PySem.W.Frag)(C:Addr):Sp:=fun vs H Q _=>∃ (a sp:Addr) (l:Nat) (ws:List Str) (kv:List (aw × V)) (S:Addr→Prop) (PA:Addr→Nat→List al→Prop) (g:List al→Nat) (f:Nat→List al→Prop),vs=[.ref a,.ref sp]∧nstpAt K C g S PA H a l (.plain ws)∧jD ws∧H sp=some (.dK kv)∧jN kv f g l (.plain ws)∧
 ∀ (t:Addr) (H':Hp),Same H H'→b5 H' t (c_ kv l ws)→Q (.ref t) H'
theorem vv(D:DefAt K mg "simple_row" bP) (z_tuple:mg "tuple" = none) (a_kind:Fl K CN "kind") (a_parts:Fl K CN "parts") (a_lines:Fl K CN "lines"):aR P w K mg base 1 "simple_row" ["step", "slots"] (w4 K CN):=by
 refine D.cal (k:=0) sc_simple_row (fun _ _ _ _ _ _ us hl=>match us,hl with | [_,_],_=>rfl) (fun vs H Q E h=>by obtain⟨_,_,_,_,_,_,_,_,_,rfl,_⟩:=h; rfl) (fun f cdv A outer s H vs Q E hr h=>?_)
 obtain⟨a,sp,l,ws,kv,S,PA,g,ff,rfl,⟨dx,pp,lp,bp,bs,g1,g2,g3,g4,g5,g6,g7⟩,ok,esp,⟨hk3,hks⟩,q⟩:=h
 refine⟨_,(af (aA 2 sc_simple_row.nd (aq (aK K) (au a_lines (pv 0)) ah (fun _ _=>rfl)))
   (af (bE (aE bY (au a_kind (pv 0)) aJ (aP _)) (aj (aG (aX (aa aJ (aa (pv 2) (aa (aq (qh K) (pv 1 (hv:=Js)) (aq (aK K) (au a_parts (pv 0)) ah (fun _ _=>rfl)) (fun _ _=>rfl)) (aa (aq (aK K) (au a_parts (pv 0)) ah (fun _ _=>rfl)) ac))))))) bH)
   (aj (aG (ap (kS K) (aX (aa (au a_kind (pv 0)) (aa (pv 2) ac))) (fz (wB K) z_tuple pB (aa (fH (CompSc.to (fsc:=(defScope bP)) (N:=["step", "slots", "line"]) (N0:=["step", "slots", "line"]) (T:=["name"]) ⟨by decide +kernel,by decide +kernel,by decide +kernel,by decide +kernel,by decide +kernel,by decide +kernel,by decide +kernel⟩ rfl rfl) rfl ((iF K) (au a_parts (pv 0))) (fun _ _ _ _=>(bq 3 (show (["step", "slots", "line", "name"]:List Str).Nodup from by decide +kernel) (hx:=(gY (defScope bP) (by decide +kernel))) (hf:=jF (defScope bP) (by decide +kernel)))) (dh (show (["step", "slots", "line"]:List Str).length≤3 from by decide)) (fun _ _ _ _=>em) (fun _ _ _ _=>(aq (qh K) (pv 1 (hv:=(fD (defScope bP) (by decide +kernel)))) (pv 3 (hv:=(fD (defScope bP) (by decide +kernel)))) (fun _ _=>rfl)))) ac))))))),?_⟩
 walk_at "rd1";refine⟨dx,_,_,g1,dU _ _ _ _,?_⟩
 walk_at "rd1";refine⟨_,_,.inl (SqL.of g4),eU (i:=0) (n:=l) rfl,?_⟩
 walk_at "nx";refine⟨dx,_,_,g1,fG _ _ _ _,?_⟩
 walk_at "rd1";unfold c_ at q;unfold dY at hks;refine bG (fun c=>?_) (fun c=>?_)
 ·have hdo:ws.headD "" = "do" := c
  rw[if_pos hdo]at q hks
  obtain⟨k0,w0,x0,rfl⟩ : ∃ k w x,ws=[k,w,x]:=by
   have:=hk3 hdo
   match ws,this with
   | [k,w,x],_=>exact⟨k,w,x,rfl⟩
  have hx:=hks x0 (by simp)
  refine⟨dx,_,_,g1,eO _ _ _ _,?_⟩
  walk_at "rd1";refine⟨_,_,.inr g2,aW (j:=1) (v:=.str x0) rfl,?_⟩
  refine .inr ⟨sp,kv,.inr x0,_,rfl,rfl,esp,hx,?_⟩
  refine⟨dx,_,_,g1,eO _ _ _ _,?_⟩
  walk_at "rd1";refine⟨_,_,.inr g2,aW (j:=0) (v:=.str w0) rfl,by decide,fun t ht=>?_⟩
  exact q t _ (ak ht _) ae
 ·have hdo:¬ ws.headD "" = "do" := c
  rw[if_neg hdo]at q hks
  walk_at "nx";refine⟨dx,_,_,g1,fG _ _ _ _,by decide,fun t1 ht1=>?_⟩
  generalize hH1:upd H t1 _=H1
  have s1:Same H H1:=by rw[← hH1]; exact ak ht1 _
  have et1:H1 t1=some (.tup [.str (kindOf (.plain ws)),iN l]):=by rw[← hH1]; exact ae
  refine⟨dx,_,_,s1 _ _ g1,eO _ _ _ _,?_⟩
  refine⟨pp,rfl,⟨_,g2.same s1⟩,fun L hL=>?_⟩
  have g2':SqT K H1 pp ((ws.drop 1).map V.str):=g2.same s1
  have esp1:=s1 _ _ esp;refine ny (xs:=(ws.drop 1).map V.str) (fun i ys H'=>Same H1 H'∧H' L=some (.lst ys)∧ys=((ws.drop 1).take i).map fun n=>bJ kv (.inr n)) ⟨ak hL _,ae,rfl⟩ (fun i ys H' _ hh=>g2'.same hh.1) ?_ ?_
  ·rintro i ys H' v hv hi ⟨sm,hl,rfl⟩
   rw[List.length_map]at hi
   rw[List.getElem?_map,List.getElem?_eq_getElem hi]at hv
   cases hv;have hn:=hks _ (List.getElem_mem hi);have h3:=ok.three;have hdl:(ws.drop 1).length≤3:=by rw[List.length_drop]; omega
   walk_at "rd1";refine .inr ⟨sp,kv,.inr (ws.drop 1)[i],_,rfl,rfl,sm _ _ esp1,hn,?_⟩
   refine iM (by rw[List.length_map]; exact hi) (by rw[List.length_map,List.length_take]; omega) (by rw[List.length_map]; exact bt (by omega)) hl ⟨sm.upd hL _,ae,?_⟩
   rw[List.take_add_one,List.getElem?_eq_getElem hi,List.map_append]; rfl
  ·rintro ys H2 ⟨s2,e2,rfl⟩
   rw[List.length_map,List.take_length]at e2
   have h2:=ok.two;have h3:=ok.three;have hdl:(ws.drop 1).length≤3∧1≤(ws.drop 1).length:=by rw[List.length_drop]; omega
   walk_at "rd1";refine⟨_,.inl ⟨SqL.of e2,fun t2 ht2=>?_⟩⟩
   have s3:=ak ht2 (.tup ((ws.drop 1).map fun n=>bJ kv (.inr n)))
   have et2:upd H2 t2 (.tup ((ws.drop 1).map fun n=>bJ kv (.inr n))) t2=some (.tup ((ws.drop 1).map fun n=>bJ kv (.inr n))):=ae
   generalize upd H2 t2 (.tup ((ws.drop 1).map fun n=>bJ kv (.inr n)))=H3 at s3 et2 ⊢
   refine⟨_,_,SqT.of (s3 _ _ (s2 _ _ et1)),SqT.of et2,by simp,by rw[List.length_map]; exact bt (by simp only[List.length_cons,List.length_nil]; omega),fun hz=>?_,fun _ t3 ht3=>?_⟩
   ·have:=congrArg List.length hz
    rw[List.length_map]at this
    simp only[List.length_nil]at this
    omega
   ·exact q t3 _ (((s1.trans s2).trans s3).trans (ak ht3 _)) ae
end
def ListR(H:Hp)(q:Addr)(rows:List br):Prop:=∃ as:List Addr,H q=some (.lst (as.map V.ref))∧Paired (b5 H) as rows
theorem ListR.mono{H H':Hp}{q:Addr}{rows:List br}(h:ListR H q rows)(s:Same H H'):ListR H' q rows:=let ⟨as,h1,h2⟩:=h; ⟨as,s _ _ h1,Paired.imp' (fun _ _ z=>s _ _ z) h2⟩
theorem gm{α β : Type}{R:α→β→Prop}:∀ {xs zs:List α} {ys us:List β},Paired R xs ys→Paired R zs us→Paired R (xs++zs) (ys++us)
 | _,_,_,_,.nil,h=>h
 | _,_,_,_,.cons a t,h=>.cons a (gm t h)
theorem fo{H:Hp}{x:Addr}{as bs:List Addr}{r1 r2:List br}(a2:Paired (b5 H) as r1)(b2:Paired (b5 H) bs r2)(hx:H x=none):ListR (upd H x (.lst (as.map V.ref++bs.map V.ref))) x (r1++r2):=by
 have s:=ak hx (.lst (as.map V.ref++bs.map V.ref));exact⟨as++bs,by rw[ae,List.map_append],gm (Paired.imp' (fun _ _ z=>s _ _ z) a2) (Paired.imp' (fun _ _ z=>s _ _ z) b2)⟩
theorem ef{H:Hp}{as bs:List Addr}{r1 r2:List br}(a2:Paired (b5 H) as r1)(b2:Paired (b5 H) bs r2)(hl:r1.length+r2.length≤1000000):(as.map V.ref).length+(bs.map V.ref).length≤sizeLine:=by
 rw[List.length_map,List.length_map,aL a2,aL b2]; exact bt hl
theorem gN{H:Hp}{c x:Addr}{r:br}(hc:b5 H c r)(hx:H x=none):ListR (upd H x (.lst [.ref c])) x [r]:=⟨[c],ae,.cons (ak hx _ _ _ hc) .nil⟩
section
variable{CN:Addr}
def gP(K:PySem.W.Frag)(C:Addr)(d:Nat):Sp:=fun vs H Q _=>∃ (p sp:Addr) (a l:Nat) (t:Bool) (T:List al) (kv:List (aw × V)) (S:Addr→Prop),vs=[.ref p,.int (a:Int),.ref sp,.bl t]∧NumAt K C S d H p l T∧jm d T∧H sp=some (.dK kv)∧dz kv d l T∧ai d T≤200∧d≤20∧
 ∀ (q:Addr) (H':Hp),Same H H'→H q=none→ListR H' q (aF kv d t a l T)→Q (.ref q) H'
def uF(K:PySem.W.Frag)(C:Addr)(d:Nat):Sp:=fun vs H Q _=>∃ (x sp:Addr) (a l:Nat) (n:Int) (b:List al) (kv:List (aw × V)) (S:Addr→Prop),vs=[.ref x,.int (a:Int),.ref sp]∧nstpAt K C (ai d) S (NumAt K C S d H) H x l (.whl n b)∧jm d b∧H sp=some (.dK kv)∧dz kv d (l+1) b∧ai d b≤200∧d≤20∧
 ∀ (q:Addr) (H':Hp),Same H H'→H q=none→ListR H' q (cU (aF kv d) (ai d) a l n b)→Q (.ref q) H'
theorem dR{kv:List (aw × V)}{d a l:Nat}{t:Bool}{T:List al}(h:ai d T≤200)(hd:d≤20):(aF kv d t a l T).length≤30000:=by
 have h1:=ow kv d a l T;have h2:6 * (d+1) * ai d T≤6 * 21 * 200:=Nat.mul_le_mul (by omega) h
 cases t with
 | false=>omega
 | true=>omega
theorem A2(D:DefAt K mg "loop_rows" cg) (z_len:mg "len" = none) (a_parts:Fl K CN "parts") (a_lines:Fl K CN "lines") (a_blocks:Fl K CN "blocks") {d:Nat} (c_rows_of:aR P w K mg base (3 * d+2) "rows_of" ["steps", "at", "slots", "turned"] (gP K CN d)):aR P w K mg base (3 * d+3) "loop_rows" ["step", "at", "slots"] (uF K CN d):=by
 refine D.cal (k:=3 * d+2) sc_loop_rows (fun _ _ _ _ _ _ us hl=>match us,hl with | [_,_,_],_=>rfl) (fun vs H Q E h=>by obtain⟨_,_,_,_,_,_,_,_,rfl,_⟩:=h; rfl) (fun f cdv A outer s H vs Q E hr h=>?_)
 obtain⟨x,sp,a,l,n,b,kv,S,rfl,⟨dx,pp,lp,bp,bs,g1,g2,g3,g4,g5,g6,g7⟩,ok,esp,hk,hc,hd,q⟩:=h
 obtain⟨q0,rfl⟩ : ∃ q0,bs=[q0]:=by
  cases g7 with
  | cons _ t=>cases t; exact⟨_,rfl⟩
 have hb:NumAt K CN S d H q0 (l+1) b:=by
  cases g7 with
  | cons h _=>exact h
 refine⟨_,(af (aA 3 sc_loop_rows.nd (az c_rows_of hr (aa (aq (aK K) (au a_blocks (pv 0)) ah (fun _ _=>rfl)) (aa (ap aD (pv 1) ah) (aa (pv 2) (aa eZ ac)))) (hle:=by omega)))
   (af (aA 4 sc_loop_rows.nd (ap aD (ap aD (ap aD (pv 1) ah) (bS (bc K) z_len b6 (aa (pv 3) ac))) ah))
   (aj (aG (ap aD (ap aD (aQ (aa (aX (aa aJ (aa (aq (aK K) (au a_lines (pv 0)) ah (fun _ _=>rfl)) (aa (aq (aK K) (au a_parts (pv 0)) ah (fun _ _=>rfl)) (aa (pv 4) ac))))) ac)) (pv 3)) (aQ (aa (aX (aa aJ (aa (aq (aK K) (au a_lines (pv 0)) ah (fun _ _=>rfl)) (aa (pv 1) ac)))) ac))))))),?_⟩
 walk_at "rd1";refine⟨dx,_,_,g1,gq _ _ _ _,?_⟩
 walk_at "rd1";refine⟨_,_,.inl (SqL.of g6),aW (j:=0) (v:=V.ref q0) rfl,?_⟩
 refine⟨q0,sp,a+1,l+1,false,b,kv,S,by simp,hb,ok,esp,hk,hc,hd,fun wq H1 s1 hwq hW=>?_⟩
 have hWl:=dR (kv:=kv) (a:=a+1) (l:=l+1) (t:=false) hc hd;generalize hWW:aF kv d false (a+1) (l+1) b=W at hW hWl;obtain⟨was,w1,w2⟩:=id hW
 have wl:=aL w2;walk_at "nx";refine⟨_,.inl (SqL.of w1),?_⟩
 rw[List.length_map,wl];walk_at "nx";refine⟨dx,_,_,s1 _ _ g1,dU _ _ _ _,?_⟩
 walk_at "rd1";refine⟨_,_,.inl (SqL.of (s1 _ _ g4)),eU (i:=0) (n:=l) rfl,?_⟩
 refine⟨dx,_,_,s1 _ _ g1,eO _ _ _ _,?_⟩
 walk_at "rd1";refine⟨_,_,.inr (g2.same s1),aW (j:=0) (v:=V.int n) rfl,by decide,fun t1 ht1=>?_⟩
 generalize hH2:upd H1 t1 _=H2
 have s2:Same H1 H2:=by rw[← hH2]; exact ak ht1 _
 have et1:b5 H2 t1 [.str "test", iN l,.int n,iN (a+1+W.length+1)]:=by
  show H2 t1=_
  rw[← hH2,ae];simp[iN]
 refine⟨by decide,fun l1 hl1=>?_⟩
 have s3:=ak hl1 (.lst [.ref t1]);have L1:=gN et1 hl1;generalize upd H2 l1 (.lst [.ref t1])=H3 at s3 L1 ⊢;have s13:=s2.trans s3;obtain⟨as1,a1,a2⟩:=L1
 obtain⟨bs1,b1,b2⟩:=hW.mono s13
 refine⟨_,_,a1,b1,ef a2 b2 (by simp only[List.length_cons,List.length_nil]; omega),fun l2 hl2=>?_⟩
 have s4:=ak hl2 (.lst (as1.map V.ref++bs1.map V.ref));have L2:=fo a2 b2 hl2;generalize upd H3 l2 (.lst (as1.map V.ref++bs1.map V.ref))=H4 at s4 L2 ⊢;have s04:=(s1.trans s13).trans s4;refine⟨dx,_,_,s04 _ _ g1,dU _ _ _ _,?_⟩
 walk_at "rd1";refine⟨_,_,.inl (SqL.of (s04 _ _ g4)),eU (i:=1) (n:=l+1+ai d b) rfl,by decide,fun t2 ht2=>?_⟩
 generalize hH5:upd H4 t2 _=H5
 have s5:Same H4 H5:=by rw[← hH5]; exact ak ht2 _
 have et2:b5 H5 t2 [.str "jump", iN (l+1+ai d b),iN a]:=by
  show H5 t2=_
  rw[← hH5,ae];simp[iN]
 refine⟨by decide,fun l3 hl3=>?_⟩
 have s6:=ak hl3 (.lst [.ref t2]);have L3:=gN et2 hl3;generalize upd H5 l3 (.lst [.ref t2])=H6 at s6 L3 ⊢;obtain⟨as2,c1,c2⟩:=L2.mono (s5.trans s6)
 obtain⟨bs2,d1,d2⟩:=L3
 refine⟨_,_,c1,d1,ef c2 d2 (by simp only[List.length_append,List.length_cons,List.length_nil]; omega),fun l4 hl4=>?_⟩
 have s7:=ak hl4 (.lst (as2.map V.ref++bs2.map V.ref));have L4:=fo c2 d2 hl4;generalize upd H6 l4 (.lst (as2.map V.ref++bs2.map V.ref))=H7 at s7 L4 ⊢;refine q l4 H7 (((s04.trans s5).trans s6).trans s7) (((s04.trans s5).trans s6).free hl4) ?_
 unfold cU;rw[hWW];exact L4
end
section
variable{CN:Addr}
def zy(K:PySem.W.Frag)(C:Addr)(d:Nat):Sp:=fun vs H Q _=>∃ (x sp:Addr) (a l:Nat) (t:Bool) (n:Int) (b:List al) (kv:List (aw × V)) (S:Addr→Prop),vs=[.ref x,.int (a:Int),.ref sp,.bl t]∧nstpAt K C (ai d) S (NumAt K C S d H) H x l (.whl n b)∧jm d b∧H sp=some (.dK kv)∧dz kv d (l+1) b∧ai d b≤200∧d≤20∧
 ∀ (q:Addr) (H':Hp),Same H H'→H q=none→ListR H' q (de (aF kv d) (ai d) t a l n b)→Q (.ref q) H'
theorem x9(D:DefAt K mg "while_rows" bw) (z_len:mg "len" = none) (a_parts:Fl K CN "parts") (a_lines:Fl K CN "lines") (a_blocks:Fl K CN "blocks") {d:Nat} (c_rows_of:aR P w K mg base (3 * d+2) "rows_of" ["steps", "at", "slots", "turned"] (gP K CN d)) (c_loop_rows:aR P w K mg base (3 * d+3) "loop_rows" ["step", "at", "slots"] (uF K CN d)):aR P w K mg base (3 * d+4) "while_rows" ["step", "at", "slots", "turned"] (zy K CN d):=by
 refine D.cal (k:=3 * d+3) sc_while_rows (fun _ _ _ _ _ _ us hl=>match us,hl with | [_,_,_,_],_=>rfl) (fun vs H Q E h=>by obtain⟨_,_,_,_,_,_,_,_,_,rfl,_⟩:=h; rfl) (fun f cdv A outer s H vs Q E hr h=>?_)
 obtain⟨x,sp,a,l,t,n,b,kv,S,rfl,hN,ok,esp,hk,hc,hd,q⟩:=h
 obtain⟨dx,pp,lp,bp,bs,g1,g2,g3,g4,g5,g6,g7⟩:=id hN
 obtain⟨q0,rfl⟩ : ∃ q0,bs=[q0]:=by
  cases g7 with
  | cons _ t=>cases t; exact⟨_,rfl⟩
 have hb:NumAt K CN S d H q0 (l+1) b:=by
  cases g7 with
  | cons h _=>exact h
 refine⟨_,(af (bE (iJ (gn (pv 3))) (aj (aG (az c_loop_rows hr (aa (pv 0) (aa (pv 1) (aa (pv 2) ac))) (hle:=by omega)))) bH)
   (af (aA 4 sc_while_rows.nd (az c_rows_of hr (aa (aq (aK K) (au a_blocks (pv 0)) ah (fun _ _=>rfl)) (aa (ap aD (pv 1) ah) (aa (pv 2) (aa eZ ac)))) (hle:=by omega)))
   (af (aA 5 sc_while_rows.nd (az c_loop_rows hr (aa (pv 0) (aa (ap aD (ap aD (pv 1) ah) (bS (bc K) z_len b6 (aa (pv 4) ac))) (aa (pv 2) ac))) (hle:=by omega)))
   (af (aA 6 sc_while_rows.nd (ap aD (ap aD (ap aD (pv 1) ah) (bS (bc K) z_len b6 (aa (pv 4) ac))) (bS (bc K) z_len b6 (aa (pv 5) ac))))
   (aj (aG (ap aD (ap aD (aQ (aa (aX (aa aJ (aa (aq (aK K) (au a_lines (pv 0)) ah (fun _ _=>rfl)) (aa (aq (aK K) (au a_parts (pv 0)) ah (fun _ _=>rfl)) (aa (pv 6) ac))))) ac)) (pv 4)) (pv 5)))))))),?_⟩
 walk_at "rd1"
 cases t with
 | false=>
  refine bG (fun _=>?_) (fun c=>absurd rfl c)
  exact⟨x,sp,a,l,n,b,kv,S,rfl,hN,ok,esp,hk,hc,hd,fun q' H' s' hq' L'=>q q' H' s' hq' (by unfold de; rw[if_neg (by decide)]; exact L')⟩
 | true=>
  refine bG (fun c=>absurd c (by decide)) (fun _=>?_)
  walk_at "nx";refine⟨dx,_,_,g1,gq _ _ _ _,?_⟩
  walk_at "rd1";refine⟨_,_,.inl (SqL.of g6),aW (j:=0) (v:=V.ref q0) rfl,?_⟩
  refine⟨q0,sp,a+1,l+1,true,b,kv,S,by simp,hb,ok,esp,hk,hc,hd,fun wq H1 s1 hwq hW=>?_⟩
  have hWl:=dR (kv:=kv) (a:=a+1) (l:=l+1) (t:=true) hc hd;generalize hWW:aF kv d true (a+1) (l+1) b=W at hW hWl;obtain⟨was,w1,w2⟩:=id hW
  have wl:=aL w2;walk_at "nx";refine⟨_,.inl (SqL.of w1),?_⟩
  rw[List.length_map,wl];walk_at "rd1";refine⟨x,sp,a+1+W.length,l,n,b,kv,S,by simp,hN.mono s1,ok,s1 _ _ esp,hk,hc,hd,fun lq H2 s2 hlq hLp=>?_⟩
  have hLl:(cU (aF kv d) (ai d) (a+1+W.length) l n b).length≤30002:=by
   rw[iR];have:=dR (kv:=kv) (a:=a+1+W.length+1) (l:=l+1) (t:=false) hc hd
   omega
  generalize hLL:cU (aF kv d) (ai d) (a+1+W.length) l n b=LP at hLp hLl;obtain⟨las,l1,l2⟩:=id hLp
  have ll:=aL l2;have s12:=s1.trans s2;walk_at "nx";refine⟨_,.inl (SqL.of (s2 _ _ w1)),?_⟩
  rw[List.length_map,wl];walk_at "rd1";refine⟨_,.inl (SqL.of l1),?_⟩
  rw[List.length_map,ll];walk_at "nx";refine⟨dx,_,_,s12 _ _ g1,dU _ _ _ _,?_⟩
  walk_at "rd1";refine⟨_,_,.inl (SqL.of (s12 _ _ g4)),eU (i:=0) (n:=l) rfl,?_⟩
  refine⟨dx,_,_,s12 _ _ g1,eO _ _ _ _,?_⟩
  walk_at "rd1";refine⟨_,_,.inr (g2.same s12),aW (j:=0) (v:=V.int n) rfl,by decide,fun t1 ht1=>?_⟩
  generalize hH3:upd H2 t1 _=H3
  have s3:Same H2 H3:=by rw[← hH3]; exact ak ht1 _
  have et1:b5 H3 t1 [.str "test", iN l,.int n,iN (a+1+W.length+LP.length)]:=by
   show H3 t1=_
   rw[← hH3,ae];simp[iN]
  refine⟨by decide,fun m1 hm1=>?_⟩
  have s4:=ak hm1 (.lst [.ref t1]);have L1:=gN et1 hm1;generalize upd H3 m1 (.lst [.ref t1])=H4 at s4 L1 ⊢;obtain⟨as1,a1,a2⟩:=L1
  obtain⟨bs1,b1,b2⟩:=hW.mono ((s2.trans s3).trans s4)
  refine⟨_,_,a1,b1,ef a2 b2 (by simp only[List.length_cons,List.length_nil]; omega),fun m2 hm2=>?_⟩
  have s5:=ak hm2 (.lst (as1.map V.ref++bs1.map V.ref));have L2:=fo a2 b2 hm2;generalize upd H4 m2 (.lst (as1.map V.ref++bs1.map V.ref))=H5 at s5 L2 ⊢;obtain⟨as2,c1,c2⟩:=L2
  obtain⟨bs2,d1,d2⟩:=hLp.mono ((s3.trans s4).trans s5)
  refine⟨_,_,c1,d1,ef c2 d2 (by simp only[List.length_append,List.length_cons,List.length_nil]; omega),fun m3 hm3=>?_⟩
  have s6:=ak hm3 (.lst (as2.map V.ref++bs2.map V.ref));have L4:=fo c2 d2 hm3;generalize upd H5 m3 (.lst (as2.map V.ref++bs2.map V.ref))=H6 at s6 L4 ⊢;have s05:=((s12.trans s3).trans s4).trans s5;refine q m3 H6 (s05.trans s6) (s05.free hm3) ?_
  unfold de;rw[if_pos rfl,hWW,hLL];exact L4
def Fe(K:PySem.W.Frag)(C:Addr)(d:Nat):Sp:=fun vs H Q _=>∃ (x sp:Addr) (a l:Nat) (t:Bool) (n:Int) (b c:List al) (kv:List (aw × V)) (S:Addr→Prop),vs=[.ref x,.int (a:Int),.ref sp,.bl t]∧nstpAt K C (ai d) S (NumAt K C S d H) H x l (.ite n b c)∧jm d b∧jm d c∧H sp=some (.dK kv)∧dz kv d (l+1) b∧dz kv d (l+1+ai d b+1) c∧ai d b≤200∧ai d c≤200∧d≤20∧
 ∀ (q:Addr) (H':Hp),Same H H'→H q=none→ListR H' q (jM (aF kv d) (ai d) t a l n b c)→Q (.ref q) H'
theorem Fq(D:DefAt K mg "if_rows" bN) (z_len:mg "len" = none) (a_parts:Fl K CN "parts") (a_lines:Fl K CN "lines") (a_blocks:Fl K CN "blocks") {d:Nat} (c_rows_of:aR P w K mg base (3 * d+2) "rows_of" ["steps", "at", "slots", "turned"] (gP K CN d)):aR P w K mg base (3 * d+3) "if_rows" ["step", "at", "slots", "turned"] (Fe K CN d):=by
 refine D.cal (k:=3 * d+2) sc_if_rows (fun _ _ _ _ _ _ us hl=>match us,hl with | [_,_,_,_],_=>rfl) (fun vs H Q E h=>by obtain⟨_,_,_,_,_,_,_,_,_,_,rfl,_⟩:=h; rfl) (fun f cdv A outer s H vs Q E hr h=>?_)
 obtain⟨x,sp,a,l,t,n,b,c,kv,S,rfl,hN,ok,ok',esp,hk,hk',hc,hc',hd,q⟩:=h
 obtain⟨dx,pp,lp,bp,bs,g1,g2,g3,g4,g5,g6,g7⟩:=id hN
 obtain⟨q0,q1,rfl⟩ : ∃ q0 q1,bs=[q0,q1]:=by
  cases g7 with
  | cons _ t=>cases t with
   | cons _ t=>cases t; exact⟨_,_,rfl⟩
 have hb:NumAt K CN S d H q0 (l+1) b∧NumAt K CN S d H q1 (l+1+ai d b+1) c:=by
  cases g7 with
  | cons h t=>cases t with
   | cons h' _=>exact⟨h,h'⟩
 refine⟨_,(af (aA 4 sc_if_rows.nd (az c_rows_of hr (aa (aq (aK K) (au a_blocks (pv 0)) ah (fun _ _=>rfl)) (aa (ap aD (pv 1) ah) (aa (pv 2) (aa (pv 3) ac)))) (hle:=by omega)))
   (af (aA 5 sc_if_rows.nd (ap aD (ap aD (pv 1) ah) (bS (bc K) z_len b6 (aa (pv 4) ac))))
   (af (aA 6 sc_if_rows.nd (az c_rows_of hr (aa (aq (aK K) (au a_blocks (pv 0)) ah (fun _ _=>rfl)) (aa (ap aD (pv 5) ah) (aa (pv 2) (aa (pv 3) ac)))) (hle:=by omega)))
   (af (aA 7 sc_if_rows.nd (ap aD (ap aD (pv 5) ah) (bS (bc K) z_len b6 (aa (pv 6) ac))))
   (af (aA 8 sc_if_rows.nd (aX (aa aJ (aa (aq (aK K) (au a_lines (pv 0)) ah (fun _ _=>rfl)) (aa (aq (aK K) (au a_parts (pv 0)) ah (fun _ _=>rfl)) (aa (ap aD (pv 5) ah) ac))))))
   (aj (aG (ap aD (ap aD (ap aD (aQ (aa (pv 8) ac)) (pv 4)) (aQ (aa (aX (aa aJ (aa (aq (aK K) (au a_lines (pv 0)) ah (fun _ _=>rfl)) (aa (pv 7) ac)))) ac))) (pv 6))))))))),?_⟩
 walk_at "rd1";refine⟨dx,_,_,g1,gq _ _ _ _,?_⟩
 walk_at "rd1";refine⟨_,_,.inl (SqL.of g6),aW (j:=0) (v:=V.ref q0) rfl,?_⟩
 refine⟨q0,sp,a+1,l+1,t,b,kv,S,by simp,hb.1,ok,esp,hk,hc,hd,fun wq H1 s1 hwq hW=>?_⟩
 have hWl:=dR (kv:=kv) (a:=a+1) (l:=l+1) (t:=t) hc hd;generalize hWW:aF kv d t (a+1) (l+1) b=W at hW hWl;obtain⟨was,w1,w2⟩:=id hW
 have wl:=aL w2;walk_at "nx";refine⟨_,.inl (SqL.of w1),?_⟩
 rw[List.length_map,wl];walk_at "nx";refine⟨dx,_,_,s1 _ _ g1,gq _ _ _ _,?_⟩
 walk_at "rd1";refine⟨_,_,.inl (SqL.of (s1 _ _ g6)),aW (j:=1) (v:=V.ref q1) rfl,?_⟩
 refine⟨q1,sp,a+1+W.length+1,l+1+ai d b+1,t,c,kv,S,by simp,hb.2.mono s1,ok',s1 _ _ esp,hk',hc',hd,fun rq H2 s2 hrq hR=>?_⟩
 have hRl:=dR (kv:=kv) (a:=a+1+W.length+1) (l:=l+1+ai d b+1) (t:=t) hc' hd;generalize hRR:aF kv d t (a+1+W.length+1) (l+1+ai d b+1) c=R at hR hRl;obtain⟨ras,r1,r2⟩:=id hR
 have rl:=aL r2;have s12:=s1.trans s2;walk_at "nx";refine⟨_,.inl (SqL.of r1),?_⟩
 rw[List.length_map,rl];walk_at "nx";refine⟨dx,_,_,s12 _ _ g1,dU _ _ _ _,?_⟩
 walk_at "rd1";refine⟨_,_,.inl (SqL.of (s12 _ _ g4)),eU (i:=0) (n:=l) rfl,?_⟩
 refine⟨dx,_,_,s12 _ _ g1,eO _ _ _ _,?_⟩
 walk_at "rd1";refine⟨_,_,.inr (g2.same s12),aW (j:=0) (v:=V.int n) rfl,by decide,fun t1 ht1=>?_⟩
 generalize hH3:upd H2 t1 _=H3
 have s3:Same H2 H3:=by rw[← hH3]; exact ak ht1 _
 have et1:b5 H3 t1 [.str "test", iN l,.int n,iN (a+1+W.length+1)]:=by
  show H3 t1=_
  rw[← hH3,ae];simp[iN]
 walk_at "nx";refine⟨by decide,fun m1 hm1=>?_⟩
 have s4:=ak hm1 (.lst [.ref t1]);have L1:=gN et1 hm1;generalize upd H3 m1 (.lst [.ref t1])=H4 at s4 L1 ⊢;obtain⟨as1,a1,a2⟩:=L1
 obtain⟨bs1,b1,b2⟩:=hW.mono ((s2.trans s3).trans s4)
 refine⟨_,_,a1,b1,ef a2 b2 (by simp only[List.length_cons,List.length_nil]; omega),fun m2 hm2=>?_⟩
 have s5:=ak hm2 (.lst (as1.map V.ref++bs1.map V.ref));have L2:=fo a2 b2 hm2;generalize upd H4 m2 (.lst (as1.map V.ref++bs1.map V.ref))=H5 at s5 L2 ⊢;have s05:=((s12.trans s3).trans s4).trans s5;refine⟨dx,_,_,s05 _ _ g1,dU _ _ _ _,?_⟩
 walk_at "rd1";refine⟨_,_,.inl (SqL.of (s05 _ _ g4)),eU (i:=1) (n:=l+1+ai d b) rfl,by decide,fun t2 ht2=>?_⟩
 generalize hH6:upd H5 t2 _=H6
 have s6:Same H5 H6:=by rw[← hH6]; exact ak ht2 _
 have et2:b5 H6 t2 [.str "jump", iN (l+1+ai d b),iN (a+1+W.length+1+R.length)]:=by
  show H6 t2=_
  rw[← hH6,ae];simp[iN]
 refine⟨by decide,fun m3 hm3=>?_⟩
 have s7:=ak hm3 (.lst [.ref t2]);have L3:=gN et2 hm3;generalize upd H6 m3 (.lst [.ref t2])=H7 at s7 L3 ⊢;obtain⟨as2,c1,c2⟩:=L2.mono (s6.trans s7)
 obtain⟨bs2,d1,d2⟩:=L3
 refine⟨_,_,c1,d1,ef c2 d2 (by simp only[List.length_append,List.length_cons,List.length_nil]; omega),fun m4 hm4=>?_⟩
 have s8:=ak hm4 (.lst (as2.map V.ref++bs2.map V.ref));have L4:=fo c2 d2 hm4;generalize upd H7 m4 (.lst (as2.map V.ref++bs2.map V.ref))=H8 at s8 L4 ⊢;obtain⟨as3,e1,e2⟩:=L4
 obtain⟨bs3,f1,f2⟩:=hR.mono (((((s3.trans s4).trans s5).trans s6).trans s7).trans s8)
 refine⟨_,_,e1,f1,ef e2 f2 (by simp only[List.length_append,List.length_cons,List.length_nil]; omega),fun m5 hm5=>?_⟩
 have s9:=ak hm5 (.lst (as3.map V.ref++bs3.map V.ref));have L5:=fo e2 f2 hm5;generalize upd H8 m5 (.lst (as3.map V.ref++bs3.map V.ref))=H9 at s9 L5 ⊢;have s08:=((s05.trans s6).trans s7).trans s8;refine q m5 H9 (s08.trans s9) (s08.free hm5) ?_
 unfold jM;rw[hWW,hRR];exact L5
end
section
variable{CN:Addr}
def BA(K:PySem.W.Frag)(C:Addr)(d:Nat):Sp:=fun vs H Q _=>∃ (z sp:Addr) (a l:Nat) (t:Bool) (x y:Str) (b:List al) (kv:List (aw × V)) (S:Addr→Prop),vs=[.ref z,.int (a:Int),.ref sp,.bl t]∧nstpAt K C (ai d) S (NumAt K C S d H) H z l (.lend x y b)∧jm d b∧H sp=some (.dK kv)∧dH kv (.inr x)∧dH kv (.inr y)∧dH kv (.inl (l:Int))∧dz kv d (l+1) b∧ai d b≤200∧d≤20∧
 ∀ (q:Addr) (H':Hp),Same H H'→H q=none→ListR H' q (fA kv (aF kv d) (ai d) t a l x y b)→Q (.ref q) H'
theorem lA{H:Hp}{c1 c2 c3 x:Addr}{r1 r2 r3:br}(h1:b5 H c1 r1)(h2:b5 H c2 r2)(h3:b5 H c3 r3)(hx:H x=none):ListR (upd H x (.lst [.ref c1,.ref c2,.ref c3])) x [r1,r2,r3]:=⟨[c1,c2,c3],ae,.cons (ak hx _ _ _ h1) (.cons (ak hx _ _ _ h2) (.cons (ak hx _ _ _ h3) .nil))⟩
theorem Ax(D:DefAt K mg "lend_rows" aZ) (z_len:mg "len" = none) (a_parts:Fl K CN "parts") (a_lines:Fl K CN "lines") (a_blocks:Fl K CN "blocks") {d:Nat} (c_rows_of:aR P w K mg base (3 * d+2) "rows_of" ["steps", "at", "slots", "turned"] (gP K CN d)):aR P w K mg base (3 * d+3) "lend_rows" ["step", "at", "slots", "turned"] (BA K CN d):=by
 refine D.cal (k:=3 * d+2) sc_lend_rows (fun _ _ _ _ _ _ us hl=>match us,hl with | [_,_,_,_],_=>rfl) (fun vs H Q E h=>by obtain⟨_,_,_,_,_,_,_,_,_,_,rfl,_⟩:=h; rfl) (fun f cdv A outer s H vs Q E hr h=>?_)
 obtain⟨z,sp,a,l,t,x,y,b,kv,S,rfl,hN,ok,esp,kx,ky,kl,hk,hc,hd,q⟩:=h
 obtain⟨dx,pp,lp,bp,bs,g1,g2,g3,g4,g5,g6,g7⟩:=id hN
 obtain⟨q0,rfl⟩ : ∃ q0,bs=[q0]:=by
  cases g7 with
  | cons _ t=>cases t; exact⟨_,rfl⟩
 have hb:NumAt K CN S d H q0 (l+1) b:=by
  cases g7 with
  | cons h _=>exact h
 refine⟨_,(af (aA 4 sc_lend_rows.nd (aq (aK K) (au a_lines (pv 0)) ah (fun _ _=>rfl)))
   (af (aA 5 sc_lend_rows.nd (aq (aK K) (au a_lines (pv 0)) ah (fun _ _=>rfl)))
   (af (aA 6 sc_lend_rows.nd (aq (qh K) (pv 2) (aq (aK K) (au a_parts (pv 0)) ah (fun _ _=>rfl)) (fun _ _=>rfl)))
   (af (aA 7 sc_lend_rows.nd (aq (qh K) (pv 2) (aq (aK K) (au a_parts (pv 0)) ah (fun _ _=>rfl)) (fun _ _=>rfl)))
   (af (aA 8 sc_lend_rows.nd (aq (qh K) (pv 2) (pv 4) (fun _ _=>rfl)))
   (af (aA 9 sc_lend_rows.nd (aQ (aa (aX (aa aJ (aa (pv 4) (aa (pv 8) (aa (pv 6) ac))))) (aa (aX (aa aJ (aa (pv 4) (aa (pv 8) (aa aJ ac))))) (aa (aX (aa aJ (aa (pv 4) (aa (pv 7) (aa (pv 8) ac))))) ac)))))
   (af (aA 10 sc_lend_rows.nd (az c_rows_of hr (aa (aq (aK K) (au a_blocks (pv 0)) ah (fun _ _=>rfl)) (aa (ap aD (pv 1) (bS (bc K) z_len b6 (aa (pv 9) ac))) (aa (pv 2) (aa (pv 3) ac)))) (hle:=by omega)))
   (aj (aG (ap aD (ap aD (pv 9) (pv 10)) (aQ (aa (aX (aa aJ (aa (pv 5) (aa (pv 8) (aa aJ ac))))) (aa (aX (aa aJ (aa (pv 5) (aa (pv 7) ac)))) (aa (aX (aa aJ (aa (pv 5) (aa (pv 8) ac)))) ac)))))))))))))),?_⟩
 walk_at "rd1";refine⟨dx,_,_,g1,dU _ _ _ _,?_⟩
 walk_at "rd1";refine⟨_,_,.inl (SqL.of g4),eU (i:=0) (n:=l) rfl,?_⟩
 walk_at "nx";refine⟨dx,_,_,g1,dU _ _ _ _,?_⟩
 walk_at "rd1";refine⟨_,_,.inl (SqL.of g4),eU (i:=1) (n:=l+1+ai d b) rfl,?_⟩
 walk_at "nx";refine⟨dx,_,_,g1,eO _ _ _ _,?_⟩
 walk_at "rd1";refine⟨_,_,.inr g2,aW (j:=0) (v:=V.str x) rfl,.inr ⟨sp,kv,.inr x,_,rfl,rfl,esp,kx,?_⟩⟩
 walk_at "nx";refine⟨dx,_,_,g1,eO _ _ _ _,?_⟩
 walk_at "rd1";refine⟨_,_,.inr g2,aW (j:=1) (v:=V.str y) rfl,.inr ⟨sp,kv,.inr y,_,rfl,rfl,esp,ky,?_⟩⟩
 walk_at "nx";refine .inr ⟨sp,kv,.inl (l:Int),_,rfl,rfl,esp,kl,?_⟩
 generalize hgx:bJ kv (.inr x)=gx
 generalize hgy:bJ kv (.inr y)=gy
 generalize hgl:bJ kv (.inl (l:Int))=gl
 walk_at "nx";refine⟨by decide,fun t1 ht1=>?_⟩
 generalize hH1:upd H t1 _=H1
 have s1:Same H H1:=by rw[← hH1]; exact ak ht1 _
 have r1:b5 H1 t1 [.str "copy", iN l,gl,gx]:=by show H1 t1=_; rw[← hH1]; exact ae
 refine⟨by decide,fun t2 ht2=>?_⟩
 generalize hH2:upd H1 t2 _=H2
 have s2:Same H1 H2:=by rw[← hH2]; exact ak ht2 _
 have r2:b5 H2 t2 [.str "do", iN l,gl,.str "lend"]:=by show H2 t2=_; rw[← hH2]; exact ae
 refine⟨by decide,fun t3 ht3=>?_⟩
 generalize hH3:upd H2 t3 _=H3
 have s3:Same H2 H3:=by rw[← hH3]; exact ak ht3 _
 have r3:b5 H3 t3 [.str "copy", iN l,gy,gl]:=by show H3 t3=_; rw[← hH3]; exact ae
 refine⟨by decide,fun m1 hm1=>?_⟩
 have s4:=ak hm1 (.lst [.ref t1,.ref t2,.ref t3]);have L1:=lA (s3 _ _ (s2 _ _ r1)) (s3 _ _ r2) r3 hm1;have em1:upd H3 m1 (.lst [.ref t1,.ref t2,.ref t3]) m1=some (.lst [.ref t1,.ref t2,.ref t3]):=ae
 generalize upd H3 m1 (.lst [.ref t1,.ref t2,.ref t3])=H4 at s4 L1 em1 ⊢;have s04:=((s1.trans s2).trans s3).trans s4;walk_at "nx";refine⟨dx,_,_,s04 _ _ g1,gq _ _ _ _,?_⟩
 walk_at "rd1";refine⟨_,_,.inl (SqL.of (s04 _ _ g6)),aW (j:=0) (v:=V.ref q0) rfl,?_⟩
 walk_at "rd1";refine⟨_,.inl (SqL.of em1),?_⟩
 refine⟨q0,sp,a+3,l+1,t,b,kv,S,by simp,hb.mono s04,ok,s04 _ _ esp,hk,hc,hd,fun wq H5 s5 hwq hW=>?_⟩
 have hWl:=dR (kv:=kv) (a:=a+3) (l:=l+1) (t:=t) hc hd;generalize hWW:aF kv d t (a+3) (l+1) b=W at hW hWl;have s05:=s04.trans s5;walk_at "nx";obtain⟨as1,a1,a2⟩:=L1.mono s5
 obtain⟨bs1,b1,b2⟩:=id hW
 refine⟨_,_,a1,b1,ef a2 b2 (by simp only[List.length_cons,List.length_nil]; omega),fun m2 hm2=>?_⟩
 have s6:=ak hm2 (.lst (as1.map V.ref++bs1.map V.ref));have L2:=fo a2 b2 hm2;generalize upd H5 m2 (.lst (as1.map V.ref++bs1.map V.ref))=H6 at s6 L2 ⊢;refine⟨by decide,fun t4 ht4=>?_⟩
 generalize hH7:upd H6 t4 _=H7
 have s7:Same H6 H7:=by rw[← hH7]; exact ak ht4 _
 have r4:b5 H7 t4 [.str "do", iN (l+1+ai d b),gl,.str "back"]:=by show H7 t4=_; rw[← hH7]; exact ae
 refine⟨by decide,fun t5 ht5=>?_⟩
 generalize hH8:upd H7 t5 _=H8
 have s8:Same H7 H8:=by rw[← hH8]; exact ak ht5 _
 have r5:b5 H8 t5 [.str "drop", iN (l+1+ai d b),gy]:=by show H8 t5=_; rw[← hH8]; exact ae
 refine⟨by decide,fun t6 ht6=>?_⟩
 generalize hH9:upd H8 t6 _=H9
 have s9:Same H8 H9:=by rw[← hH9]; exact ak ht6 _
 have r6:b5 H9 t6 [.str "drop", iN (l+1+ai d b),gl]:=by show H9 t6=_; rw[← hH9]; exact ae
 refine⟨by decide,fun m3 hm3=>?_⟩
 have s10:=ak hm3 (.lst [.ref t4,.ref t5,.ref t6]);have L3:=lA (s9 _ _ (s8 _ _ r4)) (s9 _ _ r5) r6 hm3;generalize upd H9 m3 (.lst [.ref t4,.ref t5,.ref t6])=H10 at s10 L3 ⊢;obtain⟨as2,c1,c2⟩:=L2.mono (((s7.trans s8).trans s9).trans s10)
 obtain⟨bs2,d1,d2⟩:=L3
 refine⟨_,_,c1,d1,ef c2 d2 (by simp only[List.length_append,List.length_cons,List.length_nil]; omega),fun m4 hm4=>?_⟩
 have s11:=ak hm4 (.lst (as2.map V.ref++bs2.map V.ref));have L4:=fo c2 d2 hm4;generalize upd H10 m4 (.lst (as2.map V.ref++bs2.map V.ref))=H11 at s11 L4 ⊢;have s010:=((((s05.trans s6).trans s7).trans s8).trans s9).trans s10;refine q m4 H11 (s010.trans s11) (s010.free hm4) ?_
 unfold fA;rw[hWW,hgx,hgy,hgl];exact L4
theorem qU(D:DefAt K mg "rows_of" bT) (DL:DefAt K mg "lend_rows" aZ) (DI:DefAt K mg "if_rows" bN) (DO:DefAt K mg "loop_rows" cg) (DW:DefAt K mg "while_rows" bw) (DS:DefAt K mg "simple_row" bP) (z_len:mg "len" = none) (z_tuple:mg "tuple" = none) (a_kind:Fl K CN "kind") (a_parts:Fl K CN "parts") (a_lines:Fl K CN "lines") (a_blocks:Fl K CN "blocks"):∀ d:Nat,aR P w K mg base (3 * d+2) "rows_of" ["steps", "at", "slots", "turned"] (gP K CN d)
 | 0=>D.cal (k:=1) sc_rows_of (fun _ _ _ _ _ _ us hl=>match us,hl with | [_,_,_,_],_=>rfl) (fun vs H Q E h=>by obtain⟨_,_,_,_,_,_,_,_,rfl,_⟩:=h; rfl) (fun f cdv A outer s H vs Q E hr h=>by obtain⟨_,_,_,_,_,_,_,_,rfl,z,_⟩:=h; exact z.elim)
 | d+1=>by
  have ih:=qU D DL DI DO DW DS z_len z_tuple a_kind a_parts a_lines a_blocks d;have c_lend_rows:=Ax DL z_len a_parts a_lines a_blocks ih;have c_if_rows:=Fq DI z_len a_parts a_lines a_blocks ih;have c_while_rows:=x9 DW z_len a_parts a_lines a_blocks ih (A2 DO z_len a_parts a_lines a_blocks ih);have c_simple_row:=vv (P:=P) (w:=w) (base:=base) DS z_tuple a_kind a_parts a_lines;refine D.cal (k:=3 * d+4) sc_rows_of (fun _ _ _ _ _ _ us hl=>match us,hl with | [_,_,_,_],_=>rfl) (fun vs H Q E h=>by obtain⟨_,_,_,_,_,_,_,_,rfl,_⟩:=h; rfl) (fun f cdv A outer s H vs Q E hr h=>?_)
  obtain⟨p,sp,a,l,t,T,kv,S,rfl,⟨h0,as,h1,h2⟩,ok,esp,hk,hc,hd,q⟩:=h
  have hlen:=aL h2;rw[fZ]at hlen
  refine⟨_,(af (aA 4 sc_rows_of.nd (aQ ac))
   (af (cu PassesOwn.never rfl (cw K (pv 0)) (bq 5 sc_rows_of.nd) (af (aA 6 sc_rows_of.nd (ap aD (pv 1) (bS (bc K) z_len b6 (aa (pv 4) ac))))
   (aj (bE (aE bY (au a_kind (pv 5)) aJ (aP _)) (aj (aO (bL K PySem.F.plainAttrs_list PySem.F.slot_list_extend PySem.F.type_list_extend fb (pv 4) (aa (az c_lend_rows hr (aa (pv 5) (aa (pv 6) (aa (pv 2) (aa (pv 3) ac)))) (hle:=by omega)) ac)))) (aj (bE (aE bY (au a_kind (pv 5)) aJ (aP _)) (aj (aO (bL K PySem.F.plainAttrs_list PySem.F.slot_list_extend PySem.F.type_list_extend fb (pv 4) (aa (az c_if_rows hr (aa (pv 5) (aa (pv 6) (aa (pv 2) (aa (pv 3) ac)))) (hle:=by omega)) ac)))) (aj (bE (aE bY (au a_kind (pv 5)) aJ (aP _)) (aj (aO (bL K PySem.F.plainAttrs_list PySem.F.slot_list_extend PySem.F.type_list_extend fb (pv 4) (aa (az c_while_rows hr (aa (pv 5) (aa (pv 6) (aa (pv 2) (aa (pv 3) ac)))) (hle:=by omega)) ac)))) (aj (aO (bL K PySem.F.plainAttrs_list PySem.F.slot_list_append PySem.F.type_list_append bx (pv 4) (aa (az c_simple_row hr (aa (pv 5) (aa (pv 2) ac)) (hle:=by omega)) ac))))))))))))
   (aj (aG (pv 4))))),?_⟩
  walk_at "rd1";refine⟨by decide,fun R hR=>?_⟩
  have s1:=ak hR (.lst []);have eR0:upd H R (.lst []) R=some (.lst (([]:List Addr).map V.ref)):=ae
  generalize upd H R (.lst [])=H1 at s1 eR0 ⊢;walk_at "nx";refine⟨⟨_,SqL.of (s1 _ _ h1)⟩,?_⟩
  have hnR:∀ {z:Addr} {o:HO},H z=some o→z≠R:=fun e=>aM e hR
  refine c6 (xs:=as.map V.ref) (fun i σ H'=>∃ (o5 o6:Option V),σ=[some (.ref p),some (.int (a:Int)),some (.ref sp),some (.bl t),some (.ref R),o5,o6]∧Same H H'∧ListR H' R (aF kv (d+1) t a l (T.take i)))
   ⟨_,_,rfl,s1,[],eR0,.nil⟩ (fun i σ H' _ hh=>by obtain⟨_,_,_,sm,_⟩:=hh; exact SqL.of (sm _ _ h1)) (fun i v σ H2 hv hh=>?_) (fun σ H2 hh=>?_)
  ·obtain⟨o5,o6,rfl,sm,ras,r1,r2⟩:=hh
   rw[List.getElem?_map]at hv
   cases hi:as[i]? with
   | none=>rw[hi]at hv; cases hv
   | some x=>
    rw[hi]at hv; cases hv
    have hiT:i<T.length:=by have:=(List.getElem?_eq_some_iff.mp hi).1; omega
    have hs:=List.getElem?_eq_getElem hiT;have hz:=qN (ba (ai d)) l T i _ hs;obtain⟨z,hz1,hz2⟩:=cv h2 hi
    rw[hz]at hz1
    have hz1:=Option.some.inj hz1;subst hz1;have hkz:=hk _ (List.mem_of_getElem? hz);have hmem:=List.getElem_mem hiT;generalize T[i]=st at hs hz hz2 hkz hmem;have oks:=ok st hmem;have hcs:=ma (d:=d) hmem;generalize hl':l+((T.take i).map (ba (ai d))).sum=l' at hz hz2 hkz;have etk:T.take (i+1)=T.take i++[st]:=by rw[List.take_add_one,hs]; rfl
    have erow:aF kv (d+1) t a l (T.take (i+1))=aF kv (d+1) t a l (T.take i)++dy kv (aF kv d) (ai d) t (a+(aF kv (d+1) t a l (T.take i)).length) l' st:=by
     rw[etk];show c8 _ _ a l (T.take i++[st])=_
     rw[kz,hl']; rfl
    have hcnt:=pQ (d:=d) (i:=i) (T:=T);have hpre:=dR (kv:=kv) (d:=d+1) (a:=a) (l:=l) (t:=t) (T:=T.take i) (by omega) hd
    rw[erow];generalize aF kv (d+1) t a l (T.take i)=pre at r2 hpre;have rl:=aL r2;have hx2:=hz2.mono sm;obtain⟨dx,pp,lp,bp,bs,g1,g2,g3,g4,g5,g6,g7⟩:=id hx2
    have put:∀ {b:Addr} {H3:Hp} {rows:List br},Same H2 H3→ListR H3 b rows→b≠R→rows.length≤100000→∃ xs zs,H3 R=some (.lst xs)∧H3 b=some (.lst zs)∧xs.length+zs.length≤sizeLine∧(Same H (upd H3 R (.lst (xs++zs)))∧ListR (upd H3 R (.lst (xs++zs))) R (pre++rows)):=fun {b H3 rows} s3 hL hne hl3=>by
     obtain⟨bas,e1,e2⟩:=hL
     have bl:=aL e2;have eR3:=s3 _ _ r1
     have tp:∀ {c:Addr} {r:br},b5 H3 c r→b5 (upd H3 R (.lst (ras.map V.ref++bas.map V.ref))) c r:=fun {c r} z=>by
      show upd H3 R _ c=_
      rw[am (bv z eR3 (fun y=>nomatch y))]; exact z
     refine⟨_,_,eR3,e1,by rw[List.length_map,List.length_map,rl,bl]; exact bt (by omega),fun c o y=>?_,ras++bas,by rw[ae,List.map_append],gm (Paired.imp' (fun _ _ y=>tp (s3 _ _ y)) r2) (Paired.imp' (fun _ _ y=>tp y) e2)⟩
     rw[am (hnR y)]; exact s3 _ _ (sm _ _ y)
    walk_at "rd1";refine⟨_,.inl (SqL.of r1),?_⟩
    rw[List.length_map,rl];walk_at "nx";refine⟨dx,_,_,g1,fG _ _ _ _,?_⟩
    walk_at "rd1";have hst200:ba (ai d) st≤200:=by omega
    have hsl:(dy kv (aF kv d) (ai d) t (a+pre.length) l' st).length≤30000:=by
     have:=dR (kv:=kv) (d:=d+1) (a:=a+pre.length) (l:=l') (t:=t) (T:=[st]) (by show ba (ai d) st+0≤200; omega) hd
     have e:aF kv (d+1) t (a+pre.length) l' [st]=dy kv (aF kv d) (ai d) t (a+pre.length) l' st++[]:=rfl
     rw[e,List.append_nil]at this
     exact this
    cases st with
    | lend x0 y0 b0=>
     obtain⟨k1,k2,k3,k4⟩ : dH kv (.inr x0)∧dH kv (.inr y0)∧dH kv (.inl (l':Int))∧dz kv d (l'+1) b0:=hkz
     have hcb:ai d b0+2≤200:=hst200
     refine bG (fun _=>?_) (fun c=>absurd rfl c)
     refine⟨⟨_,SqL.of r1⟩,x,sp,a+pre.length,l',t,x0,y0,b0,kv,S,by simp,hx2,oks.2.2,sm _ _ esp,k1,k2,k3,k4,by omega,by omega,fun q' H3 s3 hq' L3=>?_⟩
     dsimp only
     rw[fN];obtain⟨xs,zs,p1,p2,p3,p4,p5⟩:=put s3 L3 (aM r1 hq').symm (by have:(fA kv (aF kv d) (ai d) t (a+pre.length) l' x0 y0 b0).length≤30000:=hsl; omega)
     exact⟨xs,zs,p1,p2,p3,_,_,rfl,p4,p5⟩
    | ite n0 b0 c0=>
     obtain⟨k1,k2⟩ : dz kv d (l'+1) b0∧dz kv d (l'+1+ai d b0+1) c0:=hkz
     have hcb:ai d b0+ai d c0+3≤200:=hst200
     refine bG (fun c=>absurd c (by show ¬ (Str.ofString "if" = Str.ofString "lend"); decide +kernel)) (fun _=>?_)
     refine⟨dx,_,_,g1,fG _ _ _ _,?_⟩
     walk_at "rd1";refine bG (fun _=>?_) (fun c=>absurd rfl c)
     refine⟨⟨_,SqL.of r1⟩,x,sp,a+pre.length,l',t,n0,b0,c0,kv,S,by simp,hx2,oks.2.1,oks.2.2,sm _ _ esp,k1,k2,by omega,by omega,by omega,fun q' H3 s3 hq' L3=>?_⟩
     dsimp only
     rw[fN];obtain⟨xs,zs,p1,p2,p3,p4,p5⟩:=put s3 L3 (aM r1 hq').symm (by have:(jM (aF kv d) (ai d) t (a+pre.length) l' n0 b0 c0).length≤30000:=hsl; omega)
     exact⟨xs,zs,p1,p2,p3,_,_,rfl,p4,p5⟩
    | whl n0 b0=>
     have k1:dz kv d (l'+1) b0:=hkz
     have hcb:ai d b0+2≤200:=hst200
     refine bG (fun c=>absurd c (by show ¬ (Str.ofString "while" = Str.ofString "lend"); decide +kernel)) (fun _=>?_)
     refine⟨dx,_,_,g1,fG _ _ _ _,?_⟩
     walk_at "rd1";refine bG (fun c=>absurd c (by show ¬ (Str.ofString "while" = Str.ofString "if"); decide +kernel)) (fun _=>?_)
     refine⟨dx,_,_,g1,fG _ _ _ _,?_⟩
     walk_at "rd1";refine bG (fun _=>?_) (fun c=>absurd rfl c)
     refine⟨⟨_,SqL.of r1⟩,x,sp,a+pre.length,l',t,n0,b0,kv,S,by simp,hx2,oks.2,sm _ _ esp,k1,by omega,by omega,fun q' H3 s3 hq' L3=>?_⟩
     dsimp only
     rw[fN];obtain⟨xs,zs,p1,p2,p3,p4,p5⟩:=put s3 L3 (aM r1 hq').symm (by have:(de (aF kv d) (ai d) t (a+pre.length) l' n0 b0).length≤30000:=hsl; omega)
     exact⟨xs,zs,p1,p2,p3,_,_,rfl,p4,p5⟩
    | plain ws=>
     have hkd:ws.headD "" ∈ dq:=oks.kind
     have nk:∀ {u:Str},u∉dq→¬ kindOf (.plain ws)=u:=fun hu c=>hu (by have c':ws.headD "" = _:=c; rw[← c']; exact hkd)
     refine bG (fun c=>absurd c (nk (by decide +kernel))) (fun _=>?_)
     refine⟨dx,_,_,g1,fG _ _ _ _,?_⟩
     walk_at "rd1";refine bG (fun c=>absurd c (nk (by decide +kernel))) (fun _=>?_)
     refine⟨dx,_,_,g1,fG _ _ _ _,?_⟩
     walk_at "rd1";refine bG (fun c=>absurd c (nk (by decide +kernel))) (fun _=>?_)
     refine⟨⟨_,SqL.of r1⟩,x,sp,l',ws,kv,S,_,ai d,dz kv d,rfl,hx2,oks,sm _ _ esp,hkz,fun c H3 s3 hc3=>?_⟩
     have eR3:=s3 _ _ r1
     have tp:∀ {c:Addr} {r:br},b5 H3 c r→∀ zs,b5 (upd H3 R (.lst zs)) c r:=fun {c r} z zs=>by
      show upd H3 R _ c=_
      rw[am (bv z eR3 (fun y=>nomatch y))]; exact z
     walk_at "rd1";refine⟨_,eR3,bX (by rw[List.length_map]; omega),_,_,rfl,fun c' o y=>?_,ras++[c],by rw[ae,List.map_append]; rfl,gm (Paired.imp' (fun _ _ y=>tp (s3 _ _ y) _) r2) (.cons (tp hc3 _) .nil)⟩
     rw[am (hnR y)]; exact s3 _ _ (sm _ _ y)
  ·obtain⟨o5,o6,rfl,sm,hL⟩:=hh
   rw[List.length_map,hlen,List.take_length]at hL
   walk_at "nx";exact q R H2 sm hR hL
end
def iT(s:Str):Bool:=decide (0+("lend " : Str).length≤s.length)&&PySem.Builtin.Str.subAt s "lend " 0
def gv(L:List Str):List Nat:=(List.range L.length).filter fun i=>iT (L.getD i "")
def kB(d:Nat):Sp:=fun vs H Q _=>∃ (p:Addr) (L:List Str),vs=[.ref p]∧LinesAt d H p L∧L.length≤1000∧∀ (q:Addr) (H':Hp),Same H H'→H q=none→H' q=some (.lst ((gv L).map iN))→Q (.ref q) H'
theorem km(f:Nat→Bool)(i:Nat):(List.range (i+1)).filter f=(List.range i).filter f++(if f i=true then [i] else []):=by
 rw[List.range_succ,List.filter_append]
 congr 1
 rw[List.filter_cons];split <;> rfl
theorem pz(D:DefAt K mg "lend_lines" bW) (z_enumerate:mg "enumerate" = none) {d k:Nat} (c_lines_of:aR P w K mg base k "lines_of" ["program"] (q8 d)):aR P w K mg base (k+1) "lend_lines" ["program"] (kB d):=by
 refine D.cal (k:=k) nZ (fun _ _ _ _ _ _ us hl=>match us,hl with | [_],_=>rfl) (fun vs H Q E h=>by obtain⟨_,_,rfl,_⟩:=h; rfl) (fun f cdv A outer s H vs Q E hr h=>?_)
 obtain⟨p,L,rfl,hL,hl,q⟩:=h
 refine⟨_,(aj (aG (fH (CompSc.to (fsc:=(defScope bW)) (N:=["program"]) (N0:=["program"]) (T:=["at", "line"]) ⟨by decide +kernel,by decide +kernel,by decide +kernel,by decide +kernel,by decide +kernel,by decide +kernel,by decide +kernel⟩ rfl rfl) rfl (je K JZ z_enumerate (aa (az c_lines_of hr (aa (pv 0) ac) (hle:=by omega)) ac)) (fun _ _ _ _=>(gf K (n:=2) (cO (bq 1 (show (["program", "at", "line"]:List Str).Nodup from by decide +kernel) (hx:=(gY (defScope bW) (by decide +kernel))) (hf:=jF (defScope bW) (by decide +kernel))) (cO (bq 2 (show (["program", "at", "line"]:List Str).Nodup from by decide +kernel) (hx:=(gY (defScope bW) (by decide +kernel))) (hf:=jF (defScope bW) (by decide +kernel))) gd)))) (rm (ie (dh (show (["program"]:List Str).length≤1 from by decide)) gJ (ie (dh (show (["program"]:List Str).length≤2 from by decide)) gJ p_ kc) (oX gJ kc))) (fun _ _ _ _=>(xQ (gn (bL K PySem.F.plainAttrs_str PySem.F.slot_str_startswith PySem.F.type_str_startswith n8 (pv 2 (hv:=(fD (defScope bW) (by decide +kernel)))) (aa aJ ac))))) (fun _ _ _ _=>(pv 1 (hv:=(fD (defScope bW) (by decide +kernel)))))))),?_⟩
 walk_at "rd1";refine⟨p,L,rfl,hL,by omega,fun lq H1 s1 hlq e1=>?_⟩
 refine⟨lq,rfl,⟨_,e1⟩,fun R hR=>?_⟩
 refine tP (xs:=L.map V.str) (fun i ys H'=>∃ ns:List Nat,Same H1 H'∧H' R=some (.lst ys)∧ys=ns.map iN∧ns.length≤i∧ns=(List.range i).filter fun j=>iT (L.getD j "")) ⟨[],ak hR _,ae,rfl,Nat.le_refl _,rfl⟩ (fun i ys H' _ hh=>by obtain⟨_,sm,_⟩:=hh; exact SqL.of (sm _ _ e1)) ?_ ?_
 ·rintro i ys H' v t hv hi ⟨ns,sm,hl',rfl,hnl,hns⟩ ht
  rw[List.length_map]at hi
  rw[List.getElem?_map,List.getElem?_eq_getElem hi]at hv
  cases hv;have s2:=ak ht (.tup [.int (i:Int),.str L[i]]);have et:upd H' t (.tup [.int (i:Int),.str L[i]]) t=some (.tup [.int (i:Int),.str L[i]]):=ae
  generalize upd H' t (.tup [.int (i:Int),.str L[i]])=H2 at s2 et ⊢;have sm2:=sm.trans s2;have eR2:=s2 _ _ hl'
  have hg:iT (L.getD i "")=(decide (0+("lend " : Str).length≤L[i].length)&&PySem.Builtin.Str.subAt L[i] "lend " 0):=by
   unfold iT;rw[List.getD_eq_getElem?_getD,List.getElem?_eq_getElem hi]; rfl
  walk_at "rd1";refine⟨t,_,rfl,SqT.of et,rfl,?_⟩
  walk_at "rd1";rw[← hg];refine bG (fun c=>?_) (fun c=>?_)
  ·refine Dv (by rw[List.length_map]; exact hi) (by rw[List.length_map]; exact hnl) (by rw[List.length_map]; exact bt (by omega)) eR2 ⟨ns++[i],sm2.upd hR _,ae,k5 _ _,by simp; omega,?_⟩
   rw[km,if_pos c,← hns]
  ·refine Fh (by rw[List.length_map]; exact hi) ⟨ns,sm2,eR2,rfl,by omega,?_⟩
   rw[km,if_neg c,← hns,List.append_nil]
 ·rintro ys H2 ⟨ns,s2,e2,rfl,_,hns⟩
  rw[List.length_map]at hns
  refine q R H2 (s1.trans s2) (s1.free hR) ?_
  rw[hns]at e2
  exact e2
def gu(ks:List aw):List (aw × V):=(List.range ks.length).foldl (fun acc i=>bC acc (ks.getD i (.inl 0)) (iN i)) []
def fj(ks:List aw)(i:Nat):List (aw × V):=(List.range i).foldl (fun acc i=>bC acc (ks.getD i (.inl 0)) (iN i)) []
theorem fL(ks:List aw)(i:Nat):fj ks (i+1)=bC (fj ks i) (ks.getD i (.inl 0)) (iN i):=by
 unfold fj; rw[List.range_succ,List.foldl_append]; rfl
theorem pj(ks:List aw):∀ i,(fj ks i).length≤i
 | 0=>Nat.le_refl _
 | i+1=>by
  have:=pj ks i
  rw[fL];unfold bC;split
  ·rw[List.length_map]; omega
  ·rw[List.length_append]; simp; omega
theorem oW(ks:List aw):∀ (i j:Nat) k,j<i→ks[j]? = some k→(aN (fj ks i) k).isSome=true
 | 0,j,_,h,_=>absurd h (Nat.not_lt_zero _)
 | i+1,j,k,h,hk=>by
  rw[fL,db];split
  ·rfl
  ·rename_i c
   rcases Nat.lt_or_ge j i with z | z
   ·exact oW ks i j k z hk
   ·have:j=i:=by omega
    subst this;exact absurd (by rw[List.getD_eq_getElem?_getD,hk]; rfl) c
theorem ke{ks:List aw}{k:aw}(h:k∈ks):dH (gu ks) k:=by
 obtain⟨j,hj⟩:=List.mem_iff_getElem?.mp h
 have:=oW ks ks.length j k (List.getElem?_eq_some_iff.mp hj).1 hj
 show aN (fj ks ks.length) k=some (bJ (fj ks ks.length) k)
 unfold bJ
 cases e:aN (fj ks ks.length) k with
 | none=>rw[e]at this; cases this
 | some v=>rfl
section
variable{NO:Hp→Addr→List Str→Prop}
def CV(NO:Hp→Addr→List Str→Prop):Sp:=fun vs H Q _=>∃ (p:Addr) (NM:List Str),vs=[.ref p]∧NO H p NM∧∀ (q:Addr) (H':Hp),Same H H'→H q=none→H' q=some (.lst (NM.map V.str))→Q (.ref q) H'
def cX(NM:List Str)(L:List Str):List aw:=NM.map Sum.inr++(gv L).map fun (n:Nat)=>Sum.inl (n:Int)
def rz(NO:Hp→Addr→List Str→Prop)(d:Nat):Sp:=fun vs H Q _=>∃ (p:Addr) (NM L:List Str),vs=[.ref p]∧NO H p NM∧LinesAt d H p L∧L.length≤1000∧NM.length≤1000∧∀ (q:Addr) (H':Hp),Same H H'→H q=none→H' q=some (.dK (gu (cX NM L)))→Q (.ref q) H'
theorem zp(noM:∀ {H H':Hp} {p:Addr} {NM:List Str},NO H p NM→Same H H'→NO H' p NM)(D:DefAt K mg "slots_of" cz) (z_enumerate:mg "enumerate" = none) {d k:Nat} (c_names_of:aR P w K mg base k "names_of" ["program"] (CV NO)) (c_lend_lines:aR P w K mg base k "lend_lines" ["program"] (kB d)):aR P w K mg base (k+1) "slots_of" ["program"] (rz NO d):=by
 refine D.cal (k:=k) sc_slots_of (fun _ _ _ _ _ _ us hl=>match us,hl with | [_],_=>rfl) (fun vs H Q E h=>by obtain⟨_,_,_,rfl,_⟩:=h; rfl) (fun f cdv A outer s H vs Q E hr h=>?_)
 obtain⟨p,NM,L,rfl,hN,hL,hl,hnl,q⟩:=h
 refine⟨_,(af (aA 1 sc_slots_of.nd fW)
   (af (cu PassesOwn.never rfl (je K Lf z_enumerate (aa (ap aD (az c_names_of hr (aa (pv 0) ac) (hle:=by omega)) (az c_lend_lines hr (aa (pv 0) ac) (hle:=by omega))) ac)) (gf K (n:=2) (cO (bq 2 sc_slots_of.nd) (cO (bq 3 sc_slots_of.nd) gd))) (aj (gW (pv 2) (hX (pv 1) (pv 3) (lO hr)))))
   (aj (aG (pv 1))))),?_⟩
 walk_at "rd1";intro RD hRD
 have s1:=ak hRD (.dK []);have eRD:upd H RD (.dK []) RD=some (.dK (fj (cX NM L) 0)):=ae
 generalize upd H RD (.dK [])=H1 at s1 eRD ⊢;walk_at "nx";refine⟨p,NM,rfl,noM hN s1,fun nq H2 s2 hnq e2=>?_⟩
 have s12:=s1.trans s2;refine⟨p,L,rfl,hL.mono _ s12,hl,fun lq H3 s3 hlq e3=>?_⟩
 have hll:(gv L).length≤1000:=by
  unfold gv;refine Nat.le_trans (List.length_filter_le _ _) ?_
  rw[List.length_range]; exact hl
 dsimp only
 rw[m_];refine⟨_,_,s3 _ _ e2,e3,by rw[List.length_map,List.length_map]; exact bt (by omega),fun cq hcq=>?_⟩
 have ecat:NM.map V.str++(gv L).map iN=(cX NM L).map kV:=by
  unfold cX;rw[List.map_append,List.map_map,List.map_map]; rfl
 rw[ecat];have hkl:(cX NM L).length≤2000:=by unfold cX; rw[List.length_append,List.length_map,List.length_map]; omega
 generalize hks:cX NM L=ks at eRD hkl q ⊢;have s4:=ak hcq (.lst (ks.map kV));have ecq:upd H3 cq (.lst (ks.map kV)) cq=some (.lst (ks.map kV)):=ae
 generalize upd H3 cq (.lst (ks.map kV))=H4 at s4 ecq ⊢;have s24:=(s2.trans s3).trans s4;have eRD4:=s24 _ _ eRD;have ncR:cq≠RD:=bv ecq eRD4 (fun z=>nomatch z)
 walk_at "rd1";refine⟨⟨_,ecq⟩,?_⟩
 refine ni (xs:=ks.map kV) (fun i σ H'=>∃ (o2 o3:Option V),σ=[some (.ref p),some (.ref RD),o2,o3]∧(∀ b o,b≠RD→H4 b=some o→H' b=some o)∧H' RD=some (.dK (fj ks i)))
  ⟨_,_,rfl,fun _ _ _ z=>z,eRD4⟩ (fun i σ H' _ hh=>by obtain⟨_,_,_,sb,_⟩:=hh; exact SqL.of (sb _ _ ncR ecq)) (fun i v t σ H5 hv hh ht=>?_) (fun σ H5 hh=>?_)
 ·obtain⟨o2,o3,rfl,sb,e5⟩:=hh
  rw[List.getElem?_map]at hv
  cases hi:ks[i]? with
  | none=>rw[hi]at hv; cases hv
  | some k0=>
   rw[hi]at hv; cases hv
   have hil:=(List.getElem?_eq_some_iff.mp hi).1;have s6:=ak ht (.tup [.int (i:Int),kV k0]);have et:upd H5 t (.tup [.int (i:Int),kV k0]) t=some (.tup [.int (i:Int),kV k0]):=ae
   generalize upd H5 t (.tup [.int (i:Int),kV k0])=H6 at s6 et ⊢;have hkt:=pj ks i;walk_at "rd1";refine⟨t,_,rfl,SqT.of et,rfl,?_⟩
   walk_at "rd1";refine⟨RD,_,k0,rfl,rfl,s6 _ _ e5,bX (by omega),_,_,rfl,fun b o hb z=>by rw[am hb]; exact s6 _ _ (sb b o hb z),?_⟩
   rw[ae,fL,List.getD_eq_getElem?_getD,hi]; rfl
 ·obtain⟨o2,o3,rfl,sb,e5⟩:=hh
  rw[List.length_map]at e5
  walk_at "nx";refine q RD H5 (fun b o z=>sb b o (aM z hRD) (s4 _ _ (s3 _ _ (s12 _ _ z)))) hRD e5
end
theorem oz{f:List al→List Str}{g:List al→Nat}(h:∀ T,(f T).length=g T):∀ s:al,(dv f s).length=ba g s
 | .plain _=>rfl
 | .lend _ _ b=>by simp[dv,ba,h]
 | .ite _ b c=>by simp[dv,ba,h]; omega
 | .whl _ b=>by simp[dv,ba,h]
theorem lK:∀ (d:Nat) (T:List al),(fm d T).length=ai d T
 | 0,_=>rfl
 | d+1,T=>by
  show (T.flatMap (dv (fm d))).length=(T.map (ba (ai d))).sum
  induction T with
  | nil=>rfl
  | cons s T ih=>rw[List.flatMap_cons,List.length_append,List.map_cons,List.sum_cons,ih,oz (lK d)]
def Sub(L:List Str)(l:Nat)(X:List Str):Prop:=∀ (i:Nat) s,X[i]? = some s→L[l+i]? = some s
theorem Sub.left{L X Y:List Str}{l:Nat}(h:Sub L l (X++Y)):Sub L l X:=fun i s e=>h i s (by rw[List.getElem?_append_left (List.getElem?_eq_some_iff.mp e).1]; exact e)
theorem Sub.right{L X Y:List Str}{l:Nat}(h:Sub L l (X++Y)):Sub L (l+X.length) Y:=fun i s e=>by
 have:=h (X.length+i) s (by rw[List.getElem?_append_right (by omega),Nat.add_sub_cancel_left]; exact e)
 rw[← Nat.add_assoc]at this; exact this
def zE(f:List al→Prop)(N:Str→Prop):al→Prop
 | .plain ws=>(ws.headD "" = "do" → ws.length=3)∧∀ n∈dY ws,N n
 | .lend x y b=>N x∧N y∧f b
 | .ite _ b c=>f b∧f c
 | .whl _ b=>f b
def mX(N:Str→Prop):Nat→List al→Prop
 | 0,_=>False
 | d+1,T=>∀ s∈T,zE (mX N d) N s
theorem wH(x y:Str):iT (Txt.join " " ["lend", x,y])=true:=by
 have e:Txt.join " " ["lend", x,y]=("lend " : Str)++(x++((" " : Str)++y)):=by
  apply BF
  have h1:("lend " : Str).cps.toList=("lend" : Str).cps.toList++(" " : Str).cps.toList:=by decide +kernel
  rw[gK,gK,gK,h1];show ((("lend" : Str).cps++(" " : Str).cps++x.cps)++(" " : Str).cps++y.cps).toList=_
  simp only[Array.toList_append,List.append_assoc]
 rw[e];unfold iT;have hl:("lend " : Str).length=5:=by decide +kernel
 rw[Str.length_append,hl,decide_eq_true (by omega),Bool.true_and]
 unfold PySem.Builtin.Str.subAt;rw[hl,beq_iff_eq]
 apply Array.ext'
 rw[Array.toList_extract,gK];have h5:("lend " : Str).cps.toList.length=5:=by decide +kernel
 simp[List.extract_eq_drop_take,List.take_append,h5]
theorem wN{L:List Str}{i:Nat}{s:Str}(h:L[i]? = some s)(hs:iT s=true):i∈gv L:=by
 unfold gv;rw[List.mem_filter];refine⟨List.mem_range.mpr (List.getElem?_eq_some_iff.mp h).1,?_⟩
 rw[List.getD_eq_getElem?_getD,h]; exact hs
section
variable{NM L:List Str}
theorem w6{f:Nat→List al→Prop}{g:List al→Prop}{d l:Nat}(hf:∀ l b,Sub L l (fm d b)→g b→f l b):∀ (s:al),Sub L l (dv (fm d) s)→zE g (fun n=>n∈NM) s→jN (gu (cX NM L)) f (ai d) l s
 | .plain ws,_,⟨h1,h2⟩=>⟨h1,fun n hn=>ke (by unfold cX; exact List.mem_append_left _ (List.mem_map.mpr ⟨n,h2 n hn,rfl⟩))⟩
 | .lend x y b,hS,⟨hx,hy,hb⟩=>by
  have hh:L[l]? = some (Txt.join " " ["lend", x,y]):=hS 0 _ rfl
  refine⟨ke (by unfold cX; exact List.mem_append_left _ (List.mem_map.mpr ⟨x,hx,rfl⟩)),ke (by unfold cX; exact List.mem_append_left _ (List.mem_map.mpr ⟨y,hy,rfl⟩)),ke (by unfold cX; exact List.mem_append_right _ (List.mem_map.mpr ⟨l,wN hh (wH x y),rfl⟩)),hf _ _ ?_ hb⟩
  have:Sub L l ([Txt.join " " ["lend", x,y]]++(fm d b++[("back" : Str)])):=hS
  exact this.right.left
 | .ite n b c,hS,⟨hb,hc⟩=>by
  have:Sub L l ([Txt.join " " ["if", ju n]]++((fm d b++[("else" : Str)])++(fm d c++[("fi" : Str)]))):=hS
  refine⟨hf _ _ this.right.left.left hb,hf _ _ ?_ hc⟩
  have h2:=this.right.right.left;rw[List.length_append,lK,List.length_singleton,List.length_singleton]at h2
  rw[show l+1+ai d b+1=l+1+(ai d b+1) by omega]; exact h2
 | .whl n b,hS,hb=>by
  have:Sub L l ([Txt.join " " ["while", ju n]]++(fm d b++[("done" : Str)])):=hS
  exact hf _ _ this.right.left hb
theorem j2:∀ (d l:Nat) (T:List al),Sub L l (fm d T)→mX (fun n=>n∈NM) d T→dz (gu (cX NM L)) d l T
 | 0,_,_,_,h=>h
 | d+1,l,T,hS,hN=>by
  have go:∀ (T:List al) (l:Nat),Sub L l (T.flatMap (dv (fm d)))→(∀ s∈T,zE (mX (fun n=>n∈NM) d) (fun n=>n∈NM) s)→∀ z∈dQ (ba (ai d)) l T,jN (gu (cX NM L)) (dz (gu (cX NM L)) d) (ai d) z.1 z.2:=fun T=>by
   induction T with
   | nil=>intro l _ _ z hz; cases hz
   | cons s T ih=>
    intro l hS hN z hz
    rw[List.flatMap_cons]at hS
    rcases List.mem_cons.mp hz with rfl | hz
    ·exact w6 (fun l b h1 h2=>j2 d l b h1 h2) s hS.left (hN s List.mem_cons_self)
    ·have h2:=hS.right
     rw[oz (lK d)]at h2
     exact ih (l+ba (ai d) s) h2 (fun s hs=>hN s (List.mem_cons_of_mem _ hs)) z hz
  exact go T l hS hN
end
section
variable{CN:Addr}{NO:Hp→Addr→List Str→Prop}
def di(NM:List Str)(d:Nat)(t:Bool)(T:List al):List br:=aF (gu (cX NM (fm d T))) d t 0 0 T++[[.str "end", iN (ai d T)]]
structure li (NO:Hp→Addr→List Str→Prop) (H:Hp) (p:Addr) (d:Nat) (T:List al) (NM:List Str):Prop where
 prog:∃ S,ProgAt S d H p T
 ok:jm d T
 no:NO H p NM
 ln:LinesAt d H p (fm d T)
 nm:mX (fun n=>n∈NM) d T
 cnt:ai d T≤200
 nl:NM.length≤1000
 d20:d≤20
def mD(NO:Hp→Addr→List Str→Prop)(d:Nat):Sp:=fun vs H Q _=>∃ (p:Addr) (t:Bool) (T:List al) (NM:List Str),vs=[.ref p,.bl t]∧li NO H p d T NM∧∀ (q:Addr) (H':Hp),Same H H'→H q=none→ListR H' q (di NM d t T)→Q (.ref q) H'
theorem uc(noM:∀ {H H':Hp} {p:Addr} {NM:List Str},NO H p NM→Same H H'→NO H' p NM)(D:DefAt K mg "rows_and_end" b4) {d k:Nat} (hk1:1≤k) (c_numbered_steps:aR P w K mg base (2 * d+4) "numbered_steps" ["steps", "line"] (oT K CN d)) (c_rows_of:aR P w K mg base (3 * d+2) "rows_of" ["steps", "at", "slots", "turned"] (gP K CN d)) (c_slots_of:aR P w K mg base k "slots_of" ["program"] (rz NO d)) (c_line_behind:aR P w K mg base 1 "line_behind" ["steps", "line"] (jc K CN)) (h1:2 * d+4≤k) (h2:3 * d+2≤k):aR P w K mg base (k+1) "rows_and_end" ["program", "turned"] (mD NO d):=by
 refine D.cal (k:=k) sc_rows_and_end (fun _ _ _ _ _ _ us hl=>match us,hl with | [_,_],_=>rfl) (fun vs H Q E h=>by obtain⟨_,_,_,_,rfl,_⟩:=h; rfl) (fun f cdv A outer s H vs Q E hr h=>?_)
 obtain⟨p,t,T,NM,rfl,I,q⟩:=h
 obtain⟨S,hP⟩:=I.prog
 have hcnt:=I.cnt
 refine⟨_,(af (aA 2 sc_rows_and_end.nd (az c_numbered_steps hr (aa (pv 0) (aa ah ac)) (hle:=by omega)))
   (aj (aG (ap aD (az c_rows_of hr (aa (pv 2) (aa ah (aa (az c_slots_of hr (aa (pv 0) ac) (hle:=by omega)) (aa (pv 1) ac)))) (hle:=by omega)) (aQ (aa (aX (aa aJ (aa (az c_line_behind hr (aa (pv 2) (aa ah ac)) (hle:=by omega)) ac))) ac)))))),?_⟩
 walk_at "rd1";refine⟨p,0,T,S,rfl,hP,I.ok,by omega,fun nq H1 s1 hN=>?_⟩
 walk_at "nx";refine⟨p,NM,fm d T,rfl,noM I.no s1,I.ln.mono _ s1,by rw[lK]; omega,I.nl,fun sq H2 s2 hsq e2=>?_⟩
 refine⟨nq,sq,0,0,t,T,_,_,rfl,hN.mono s2,I.ok,e2,j2 d 0 T (fun i s e=>by rw[Nat.zero_add]; exact e) I.nm,I.cnt,I.d20,fun rq H3 s3 hrq hR=>?_⟩
 have hRl:=dR (kv:=gu (cX NM (fm d T))) (a:=0) (l:=0) (t:=t) I.cnt I.d20;generalize hRR:aF (gu (cX NM (fm d T))) d t 0 0 T=R at hR hRl;have s23:=s2.trans s3
 cases d with
 | zero=>exact hN.elim
 | succ d=>
  refine⟨nq,0,d,T,_,rfl,hN.mono s23,by omega,?_⟩
  walk_at "rd1";refine⟨by decide,fun t1 ht1=>?_⟩
  generalize hH4:upd H3 t1 _=H4
  have s4:Same H3 H4:=by rw[← hH4]; exact ak ht1 _
  have et1:b5 H4 t1 [.str "end", iN (ai (d+1) T)]:=by
   show H4 t1=_
   rw[← hH4,ae,Nat.zero_add]; rfl
  refine⟨by decide,fun m1 hm1=>?_⟩
  have s5:=ak hm1 (.lst [.ref t1]);have L1:=gN et1 hm1;generalize upd H4 m1 (.lst [.ref t1])=H5 at s5 L1 ⊢;obtain⟨as1,a1,a2⟩:=hR.mono (s4.trans s5)
  obtain⟨bs1,b1,b2⟩:=L1
  refine⟨_,_,a1,b1,ef a2 b2 (by simp only[List.length_cons,List.length_nil]; omega),fun m2 hm2=>?_⟩
  have s6:=ak hm2 (.lst (as1.map V.ref++bs1.map V.ref));have L2:=fo a2 b2 hm2;generalize upd H5 m2 (.lst (as1.map V.ref++bs1.map V.ref))=H6 at s6 L2 ⊢;have s05:=((s1.trans s23).trans s4).trans s5;refine q m2 H6 (s05.trans s6) (s05.free hm2) ?_
  unfold di;rw[hRR];exact L2
def v7(NO:Hp→Addr→List Str→Prop)(d:Nat):Sp:=fun vs H Q _=>∃ (p:Addr) (T:List al) (NM:List Str),vs=[.ref p]∧li NO H p d T NM∧∀ (q:Addr) (H':Hp),Same H H'→H q=none→ListR H' q (di NM d false T)→Q (.ref q) H'
theorem Ba(D:DefAt K mg "code_of" gA) {d k:Nat} (c_rows_and_end:aR P w K mg base k "rows_and_end" ["program", "turned"] (mD NO d)):aR P w K mg base (k+1) "code_of" ["program"] (v7 NO d):=by
 refine D.cal (k:=k) uo (fun _ _ _ _ _ _ us hl=>match us,hl with | [_],_=>rfl) (fun vs H Q E h=>by obtain⟨_,_,_,rfl,_⟩:=h; rfl) (fun f cdv A outer s H vs Q E hr h=>?_)
 obtain⟨p,T,NM,rfl,I,q⟩:=h
 refine⟨_,(aj (aG (az c_rows_and_end hr (aa (pv 0) (aa eZ ac)) (hle:=by omega)))),?_⟩
 walk_at "rd1";exact⟨p,false,T,NM,rfl,I,q⟩
def oZ(NO:Hp→Addr→List Str→Prop)(d:Nat):Sp:=fun vs H Q _=>∃ (p:Addr) (T:List al) (NM:List Str),vs=[.ref p]∧li NO H p d T NM∧∀ (q:Addr) (H':Hp),Same H H'→H q=none→ListR H' q (di NM d true T)→Q (.ref q) H'
theorem vX(D:DefAt K mg "turned_code" dX) {d k:Nat} (c_rows_and_end:aR P w K mg base k "rows_and_end" ["program", "turned"] (mD NO d)):aR P w K mg base (k+1) "turned_code" ["program"] (oZ NO d):=by
 refine D.cal (k:=k) mE (fun _ _ _ _ _ _ us hl=>match us,hl with | [_],_=>rfl) (fun vs H Q E h=>by obtain⟨_,_,_,rfl,_⟩:=h; rfl) (fun f cdv A outer s H vs Q E hr h=>?_)
 obtain⟨p,T,NM,rfl,I,q⟩:=h
 refine⟨_,(aj (aG (az c_rows_and_end hr (aa (pv 0) (aa eZ ac)) (hle:=by omega)))),?_⟩
 walk_at "rd1";exact⟨p,true,T,NM,rfl,I,q⟩
end
end
def dM:al→List (List al)
 | .plain _=>[]
 | .lend _ _ b=>[b]
 | .ite _ b c=>[b,c]
 | .whl _ b=>[b]
def fO(f:List al→List al)(s:al):List al:=s::(dM s).flatMap f
def cD:Nat→List al→List al
 | 0,_=>[]
 | d+1,T=>T.flatMap (fO (cD d))
inductive fR:List Str→Prop
 | opn (x:Str):fR ["open", x]
 | drp (x:Str):fR ["drop", x]
 | cpy (x y:Str):fR ["copy", x,y]
 | tie (x y:Str):fR ["tie", x,y]
 | doo (u x:Str):fR ["do", u,x]
def b_:al→List Str
 | .plain ws=>if ws.headD "" = "do" then ws.drop 2 else ws.drop 1
 | .lend x y _=>[x,y]
 | .ite _ _ _=>[]
 | .whl _ _=>[]
def fM(f:List al→Prop):al→Prop
 | .plain ws=>fR ws
 | .lend _ _ b=>f b
 | .ite _ b c=>f b∧f c
 | .whl _ b=>f b
def jt:Nat→List al→Prop
 | 0,_=>False
 | d+1,T=>∀ s∈T,fM (jt d) s
def headAt(H:Hp)(a:Addr)(s:al):Prop:=stpAt (fun _ _=>True) H a s
theorem headAt.mono{H H':Hp}{a:Addr}{s:al}(h:headAt H a s)(sm:Same H H'):headAt H' a s:=stpAt.imp (fun b xs e=>sm _ _ e) (fun _ _ _=>trivial) h
theorem sO{PA:Addr→List al→Prop}{H:Hp}{a:Addr}{g:List al→Prop}:∀ {s:al},stpAt PA H a s→fM g s→∃ (kind:Str) (hs:List V) (bs:List Addr),H a=some (.tup (.str kind::hs++bs.map V.ref))∧bs.length=(bi kind).length∧Paired PA bs (dM s)∧∀ b∈dM s,g b
 | .plain ws,h,ok=>by
  cases ok with
  | opn x=>exact⟨"open", [.str x],[],h,by show 0=(bi "open").length; decide,.nil,by simp[dM]⟩
  | drp x=>exact⟨"drop", [.str x],[],h,by show 0=(bi "drop").length; decide,.nil,by simp[dM]⟩
  | cpy x y=>exact⟨"copy", [.str x,.str y],[],h,by show 0=(bi "copy").length; decide,.nil,by simp[dM]⟩
  | tie x y=>exact⟨"tie", [.str x,.str y],[],h,by show 0=(bi "tie").length; decide,.nil,by simp[dM]⟩
  | doo u x=>exact⟨"do", [.str u,.str x],[],h,by show 0=(bi "do").length; decide,.nil,by simp[dM]⟩
 | .lend x y b,⟨q,h,z⟩,ok=>⟨"lend", [.str x,.str y],[q],h,by show 1=(bi "lend").length; decide,.cons z .nil,by simpa [dM,fM] using ok⟩
 | .ite n b c,⟨q,r,h,z,y⟩,ok=>⟨"if", [.int n],[q,r],h,by show 2=(bi "if").length; decide,.cons z (.cons y .nil),by simpa [dM,fM] using ok⟩
 | .whl n b,⟨q,h,z⟩,ok=>⟨"while", [.int n],[q],h,by show 1=(bi "while").length; decide,.cons z .nil,by simpa [dM,fM] using ok⟩
def pJ(d:Nat):Sp:=fun vs H Q _=>∃ (p:Addr) (T:List al) (S:Addr→Prop),vs=[.ref p]∧ProgAt S d H p T∧jt d T∧(cD d T).length≤5000∧
 ∀ (q:Addr) (H':Hp) (ads:List Addr),Same H H'→H q=none→H' q=some (.lst (ads.map V.ref))→Paired (headAt H') ads (cD d T)→Q (.ref q) H'
theorem rT{α β : Type}(f:α→List β)(T:List α)(i:Nat):((T.take i).flatMap f).length≤(T.flatMap f).length:=by
 rw[List.flatMap_def,List.flatMap_def,List.map_take]; exact lU _ _
theorem l7{α β : Type}(f:α→List β){T:List α}{i:Nat}{x:α}(h:T[i]? = some x):(T.take (i+1)).flatMap f=(T.take i).flatMap f++f x:=by
 rw[List.take_add_one,h,List.flatMap_append]; simp
theorem lj{α β : Type}{R:α→β→Prop}:∀ {xs zs:List α} {ys us:List β},Paired R xs ys→Paired R zs us→Paired R (xs++zs) (ys++us)
 | _,_,_,_,.nil,h=>h
 | _,_,_,_,.cons h t,h'=>.cons h (lj t h')
section
variable{P:Program}{w:World}{K:PySem.W.Frag}{mg:Str→Option Value}{base:Heap}
theorem nH(D:DefAt K mg "steps_within" bO) (c_blocks_of:aR P w K mg base 3 "blocks_of" ["step"] (gS K)):∀ d:Nat,aR P w K mg base (d+4) "steps_within" ["program"] (pJ d)
 | 0=>D.cal (k:=3) sc_steps_within (fun _ _ _ _ _ _ us hl=>match us,hl with | [_],_=>rfl) (fun vs H Q E h=>by obtain⟨p,T,S,rfl,_⟩:=h; rfl) (fun f cdv A outer s H vs Q E hr h=>by obtain⟨p,T,S,rfl,z,_⟩:=h; exact z.elim)
 | d+1=>by
  have c_steps_within:=nH D c_blocks_of d;refine D.cal (k:=d+4) sc_steps_within (fun _ _ _ _ _ _ us hl=>match us,hl with | [_],_=>rfl) (fun vs H Q E h=>by obtain⟨p,T,S,rfl,_⟩:=h; rfl) (fun f cdv A outer s H vs Q E hr h=>?_)
  obtain⟨p,T,S,rfl,⟨hS,as,h1,h2⟩,ok,hL,q⟩:=h
  have hlen:=aL h2
  refine⟨_,(af (aA 1 sc_steps_within.nd (aQ ac))
   (af (cu PassesOwn.never rfl (cw K (pv 0)) (bq 2 sc_steps_within.nd) (af (aO (bL K PySem.F.plainAttrs_list PySem.F.slot_list_append PySem.F.type_list_append bx (pv 1) (aa (pv 2) ac)))
   (aj (cu PassesOwn.never rfl (iF K (az c_blocks_of hr (aa (pv 2) ac) (hle:=by omega))) (bq 3 sc_steps_within.nd) (aj (aO (bL K PySem.F.plainAttrs_list PySem.F.slot_list_extend PySem.F.type_list_extend fb (pv 1) (aa (az c_steps_within hr (aa (pv 3) ac) (hle:=by omega)) ac))))))))
   (aj (aG (pv 1))))),?_⟩
  walk_at "rd1";refine⟨by decide,fun lp hlp=>?_⟩
  generalize hH1:upd H lp _=H1
  have sm1:=aV hH1 hlp;have e1:=bB hH1;walk_at "nx";refine⟨⟨_,SqL.of (sm1 _ _ h1)⟩,?_⟩
  refine c6 (xs:=as.map V.ref) (fun i σ H'=>∃ (ads:List Addr) (o2 o3:Option V),σ=[some (.ref p),some (.ref lp),o2,o3]∧Same H H'∧H' lp=some (.lst (ads.map V.ref))∧Paired (headAt H') ads ((T.take i).flatMap (fO (cD d))))
   ⟨[],none,none,rfl,sm1,e1,.nil⟩ (fun i σ H' _ h=>by obtain⟨_,_,_,_,sm,_⟩:=h; exact SqL.of (sm _ _ h1)) ?_ ?_
  ·rintro i v σ H' hv ⟨ads,o2,o3,rfl,sm,hl,hp⟩
   have hi:i<as.length:=by have:=(List.getElem?_eq_some_iff.mp hv).1; simpa using this
   rw[List.getElem?_map,List.getElem?_eq_getElem hi]at hv
   cases hv;obtain⟨s,hs,st⟩:=cv h2 (List.getElem?_eq_getElem hi)
   have oks:=ok s (List.mem_of_getElem? hs);obtain⟨kind,hds,bs,ha,hbl,hbp,hbo⟩:=sO st oks
   have hflat:=l7 (fO (cD d)) hs;have hfl:=rT (fO (cD d)) T (i+1);have hL':(T.flatMap (fO (cD d))).length≤5000:=hL
   rw[hflat]at hfl ⊢
   have hpl:=aL hp;generalize (T.take i).flatMap (fO (cD d))=pre at hp hfl hpl ⊢;have hps:(fO (cD d) s).length=1+((dM s).flatMap (cD d)).length:=by show (s::_).length=_; rw[List.length_cons]; omega
   rw[List.length_append,hps]at hfl
   have hhd:headAt H as[i] s:=stpAt.imp (fun b xs e=>e) (fun _ _ _=>trivial) st
   walk_at "rd1";refine⟨⟨_,SqL.of hl⟩,_,hl,by rw[List.length_map]; exact bX (by omega),?_⟩
   have upl:∀ {X:Hp} {o:HO} {l:List Addr} {us:List al} {ys:List V},X lp=some (.lst ys)→Paired (headAt X) l us→Paired (headAt (upd X lp o)) l us:=fun {X o l us ys} e h=>Paired.imp' (fun a s z=>stpAt.imp (fun b xs e'=>by rw[am (bv e' e (fun z=>nomatch z))]; exact e') (fun _ _ _=>trivial) z) h
   have hp2:=upl (o:=.lst (ads.map V.ref++[.ref as[i]])) hl hp;have sm2:Same H (upd H' lp (.lst (ads.map V.ref++[.ref as[i]]))):=sm.upd hlp _
   have e2:upd H' lp (.lst (ads.map V.ref++[.ref as[i]])) lp=some (.lst ((ads++[as[i]]).map V.ref)):=by rw[ae,List.map_append]; rfl
   generalize upd H' lp (.lst (ads.map V.ref++[.ref as[i]]))=H2 at hp2 sm2 e2 ⊢;have hat:SqT K H2 as[i] (.str kind::(hds++bs.map V.ref)):=SqT.of (sm2 _ _ ha)
   have hcl:(bi kind).length≤(hds++bs.map V.ref).length+1:=by rw[List.length_append,List.length_map,hbl]; omega
   have hcut:(hds++bs.map V.ref).length+1 - (bi kind).length=hds.length+1:=by rw[List.length_append,List.length_map,hbl]; omega
   walk_at "nx";refine⟨as[i],kind,hds++bs.map V.ref,rfl,hat,hcl,fun bp H3 sm3 hbp3=>?_⟩
   rw[hcut]at hbp3
   have edr:(V.str kind::(hds++bs.map V.ref)).drop (hds.length+1)=bs.map V.ref:=by rw[List.drop_succ_cons,List.drop_left']; rfl
   rw[edr]at hbp3
   walk_at "rd1";refine⟨⟨_,hbp3⟩,?_⟩
   have hil:=aL hbp
   refine kH (xs:=bs.map V.ref) (fun j σ H'=>∃ (ads':List Addr) (o3:Option V),σ=[some (.ref p),some (.ref lp),some (.ref as[i]),o3]∧Same H H'∧SqT K H' bp (bs.map V.ref)∧H' lp=some (.lst (ads'.map V.ref))∧Paired (headAt H') ads' (pre++(s::((dM s).take j).flatMap (cD d))))
    ⟨ads++[as[i]],o3,rfl,sm2.trans sm3,hbp3,sm3 _ _ e2,?_⟩ (fun j σ H' _ h=>by obtain⟨_,_,_,_,z1,_⟩:=h; exact z1) ?_ ?_
   ·exact fw (R:=headAt H3) (hhd.mono (sm2.trans sm3)) (Paired.imp' (fun a s z=>headAt.mono z sm3) hp2)
   ·rintro j x σ H4 hx ⟨ads',o3,rfl,sm4,hb4,hl4,hp4⟩
    have hj:j<bs.length:=by have:=(List.getElem?_eq_some_iff.mp hx).1; simpa using this
    rw[List.getElem?_map,List.getElem?_eq_getElem hj]at hx
    cases hx;obtain⟨b,hb,hpb⟩:=cv hbp (List.getElem?_eq_getElem hj)
    have hsn:=l7 (cD d) hb;have hle:=rT (cD d) (dM s) (j+1);rw[hsn]at hle ⊢
    rw[List.length_append]at hle
    have hpl4:=aL hp4;rw[List.length_append,List.length_cons]at hpl4
    walk_at "rd1";refine⟨⟨_,SqL.of hl4⟩,bs[j],b,S,rfl,hpb.mono sm4,hbo b (List.mem_of_getElem? hb),by omega,fun r H5 ads5 sm5 hr5 hl5 hp5=>?_⟩
    have hpl5:=aL hp5;walk_at "rd1";refine⟨_,_,sm5 _ _ hl4,hl5,bt (by rw[List.length_map,List.length_map]; omega),?_⟩
    refine⟨ads'++ads5,_,rfl,(sm4.trans sm5).upd hlp _,(hb4.same sm5).updL (sm5 _ _ hl4),by rw[ae,List.map_append],?_⟩
    rw[← List.cons_append,← List.append_assoc];exact lj (upl (sm5 _ _ hl4) (Paired.imp' (fun a s z=>headAt.mono z sm5) hp4)) (upl (sm5 _ _ hl4) hp5)
   ·rintro σ H4 ⟨ads',o3,rfl,sm4,hb4,hl4,hp4⟩
    rw[List.length_map,List.take_of_length_le (by omega)]at hp4
    exact⟨ads',_,_,rfl,sm4,hl4,hp4⟩
  ·rintro σ H' ⟨ads,o2,o3,rfl,sm,hl,hp⟩
   walk_at "nx";rw[List.length_map,List.take_of_length_le (by omega)]at hp
   exact q lp H' ads sm hlp hl hp
def ga(acc:List Str)(x:Str):List Str:=if x∈acc then acc else acc++[x]
def fe(l:List Str):List Str:=l.foldl ga []
def jp(l:List Str):List (aw × V):=l.map fun x=>(Sum.inr x,V.bl true)
theorem AA(acc:List Str)(x:Str):bC (jp acc) (.inr x) (.bl true)=jp (ga acc x):=by
 unfold bC ga
 by_cases h:x∈acc
 ·rw[if_pos h]
  have ha:((jp acc).any fun kv=>decide (kv.1=(Sum.inr x:aw)))=true:=by
   rw[List.any_eq_true];exact⟨(.inr x,.bl true),List.mem_map.mpr ⟨x,h,rfl⟩,by simp⟩
  rw[if_pos ha];unfold jp;rw[List.map_map];refine List.map_congr_left fun y _=>?_
  by_cases e:y=x
  ·subst e; simp
  ·have:¬ ((Sum.inr y:aw)=Sum.inr x):=fun z=>e (Sum.inr.inj z)
   simp[this]
 ·rw[if_neg h]
  have ha:((jp acc).any fun kv=>decide (kv.1=(Sum.inr x:aw)))=false:=by
   rw[List.any_eq_false];intro kv hkv
   obtain⟨y,hy,rfl⟩:=List.mem_map.mp hkv
   have:¬ ((Sum.inr y:aw)=Sum.inr x):=fun z=>h (Sum.inr.inj z ▸ hy)
   simp[this]
  rw[if_neg (by rw[ha]; exact Bool.false_ne_true)]
  unfold jp;rw[List.map_append]; rfl
theorem iG:∀ (l acc:List Str),(l.foldl ga acc).length≤acc.length+l.length
 | [],acc=>by simp
 | x::l,acc=>by
  have:=iG l (ga acc x)
  have h2:(ga acc x).length≤acc.length+1:=by unfold ga; split <;> simp
  rw[List.foldl_cons,List.length_cons]; omega
def cC:List V→List Str→List Str
 | .str x::xs,k::ks=>if k = "name" then x::cC xs ks else cC xs ks
 | _::xs,_::ks=>cC xs ks
 | _,_=>[]
def dW:List (Str × List Str):=[("open", ["name"]),("do", ["word", "name"]),("copy", ["name", "name"]),("drop", ["name"]),("tie", ["name", "name"]),("lend", ["name", "name", "steps"]),("if", ["bound", "steps", "steps"]),("while", ["bound", "steps"])]
structure KJ (H:Hp) (a:Addr) (s:al) (kind:Str) (xs:List V) (ks:List Str):Prop where
 at':H a=some (.tup (.str kind::xs))
 kd:(kind,ks)∈dW
 len:xs.length=ks.length
 txt:∀ (i:Nat) (x:V),xs[i]? = some x→ks[i]? = some "name" → ∃ y,x = .str y
 names:cC xs ks=b_ s
theorem pY{α : Type}{a b x:α}{i:Nat}(h:[a,b][i]? = some x):(i=0∧x=a)∨(i=1∧x=b):=by
 match i,h with
 | 0,h=>exact .inl ⟨rfl,by simpa using h.symm⟩
 | 1,h=>exact .inr ⟨rfl,by simpa using h.symm⟩
 | i+2,h=>simp at h
theorem sw{H:Hp}{a:Addr}{g:List al→Prop}:∀ {s:al},headAt H a s→fM g s→∃ kind xs ks,KJ H a s kind xs ks
 | .plain ws,h,ok=>by
  cases ok with
  | opn x=>exact⟨"open", [.str x],["name"],h,by simp[dW],rfl,fun i y e _=>by match i,e with | 0,e=>exact⟨x,by simpa using e.symm⟩ | i+1,e=>simp at e,by simp[cC,b_]; decide⟩
  | drp x=>exact⟨"drop", [.str x],["name"],h,by simp[dW],rfl,fun i y e _=>by match i,e with | 0,e=>exact⟨x,by simpa using e.symm⟩ | i+1,e=>simp at e,by simp[cC,b_]; decide⟩
  | cpy x y=>exact⟨"copy", [.str x,.str y],["name", "name"],h,by simp[dW],rfl,fun i z e _=>by rcases pY e with ⟨_,rfl⟩ | ⟨_,rfl⟩ <;> exact⟨_,rfl⟩,by simp[cC,b_]; decide⟩
  | tie x y=>exact⟨"tie", [.str x,.str y],["name", "name"],h,by simp[dW],rfl,fun i z e _=>by rcases pY e with ⟨_,rfl⟩ | ⟨_,rfl⟩ <;> exact⟨_,rfl⟩,by simp[cC,b_]; decide⟩
  | doo u x=>exact⟨"do", [.str u,.str x],["word", "name"],h,by simp[dW],rfl,fun i z e _=>by rcases pY e with ⟨_,rfl⟩ | ⟨_,rfl⟩ <;> exact⟨_,rfl⟩,by simp[cC,b_]; decide⟩
 | .lend x y b,⟨q,h,_⟩,ok=>⟨"lend", [.str x,.str y,.ref q],["name", "name", "steps"],h,by simp[dW],rfl,fun i z e e2=>by match i,e,e2 with | 0,e,e2=>exact⟨_,by simpa using e.symm⟩ | 1,e,e2=>exact⟨_,by simpa using e.symm⟩ | 2,e,e2=>exact absurd (by simpa using e2) (show ¬ (("steps" : Str) = "name") from by decide) | i+3,e,e2=>simp at e,by simp[cC,b_]⟩
 | .ite n b c,⟨q,r,h,_,_⟩,ok=>⟨"if", [.int n,.ref q,.ref r],["bound", "steps", "steps"],h,by simp[dW],rfl,fun i z e e2=>by match i,e,e2 with | 0,e,e2=>exact absurd (by simpa using e2) (show ¬ (("bound" : Str) = "name") from by decide) | 1,e,e2=>exact absurd (by simpa using e2) (show ¬ (("steps" : Str) = "name") from by decide) | 2,e,e2=>exact absurd (by simpa using e2) (show ¬ (("steps" : Str) = "name") from by decide) | i+3,e,e2=>simp at e,by simp[cC,b_]⟩
 | .whl n b,⟨q,h,_⟩,ok=>⟨"while", [.int n,.ref q],["bound", "steps"],h,by simp[dW],rfl,fun i z e e2=>by match i,e,e2 with | 0,e,e2=>exact absurd (by simpa using e2) (show ¬ (("bound" : Str) = "name") from by decide) | 1,e,e2=>exact absurd (by simpa using e2) (show ¬ (("steps" : Str) = "name") from by decide) | i+2,e,e2=>simp at e,by simp[cC,b_]⟩
theorem pH:∀ {xs:List V} {ks:List Str} (x:V) (k:Str),xs.length=ks.length→cC (xs++[x]) (ks++[k])=cC xs ks++cC [x] [k]
 | [],[],x,k,_=>rfl
 | [],_::_,_,_,h=>by simp at h
 | _::_,[],_,_,h=>by simp at h
 | y::xs,c::ks,x,k,h=>by
  have ih:=pH (xs:=xs) (ks:=ks) x k (by simpa using h)
  cases y <;> simp only[List.cons_append,cC,ih]
  split <;> simp
theorem nP(xs:List V)(ks:List Str)(j:Nat)(h:xs.length=ks.length):(cC (xs.take j) (ks.take j)).length≤(cC xs ks).length:=by
 induction xs generalizing ks j with
 | nil=>simp[cC]
 | cons y xs ih=>
  cases ks with
  | nil=>simp at h
  | cons c ks=>
   cases j with
   | zero=>simp[cC]
   | succ j=>
    have:=ih ks j (by simpa using h)
    rw[List.take_succ_cons,List.take_succ_cons]
    cases y <;> simp only[cC] <;> (try split) <;> (try simp only[List.length_cons]) <;> omega
theorem zi{K:PySem.W.Frag}{H:Hp}{a l:Addr}{xs:List V}{kvs:List (aw × V)}{o:HO}(h:SqT K H a xs)(hl:H l=some (.dK kvs)):SqT K (upd H l o) a xs:=by
 rcases h with (h | ⟨o',h⟩) | h
 ·exact .inl (.inl (by rw[am (bv h hl (fun z=>nomatch z))]; exact h))
 ·exact .inl (.inr ⟨o',by rw[am (bv h hl (fun z=>nomatch z))]; exact h⟩)
 ·exact .inr h
def nc:Sp:=fun vs H Q _=>∃ (sp:Addr) (ads:List Addr) (Ps:List al) (g:List al→Prop),vs=[.ref sp]∧H sp=some (.lst (ads.map V.ref))∧Paired (headAt H) ads Ps∧(∀ s∈Ps,fM g s)∧(Ps.flatMap b_).length≤5000∧
 ∀ (q:Addr) (H':Hp),Same H H'→H q=none→H' q=some (.lst ((fe (Ps.flatMap b_)).map V.str))→Q (.ref q) H'
theorem ul(D:DefAt K mg "names_in" b9) (z_zip:mg "zip" = none) (z_list:mg "list" = none) {dP:Addr} {kvs:List (Str × V)} (g_PARTS:mg "PARTS" = some (.ref dP)) (m:ModD w K dP kvs)
  (qk:∀ kind ks,(kind,ks)∈dW→∃ a,aN kvs kind=some (.ref a)∧∀ H:Hp,SqT K H a (ks.map V.str)):aR P w K mg base 1 "names_in" ["steps"] nc:=by
 refine D.cal sc_names_in (fun _ _ _ _ _ _ us hl=>match us,hl with | [_],_=>rfl) (fun vs H Q E h=>by obtain⟨_,_,_,_,rfl,_⟩:=h; rfl) (fun f cdv A outer s H vs Q E hr h=>?_)
 obtain⟨sp,ads,Ps,g,rfl,hsp,hp,hok,hL,q⟩:=h
 have hlen:=aL hp
 refine⟨_,(af (aA 1 sc_names_in.nd fW)
   (af (cu PassesOwn.never rfl (cw K (pv 0)) (bq 2 sc_names_in.nd) (aj (cu PassesOwn.never rfl (qD K Lk z_zip (aa (eJ (j8 K) (pv 2) (d_ ah) gQ) (aa (aq (GR w K) (rB g_PARTS) (aq (aK K) (pv 2) ah (fun _ _=>rfl)) (fun _ _=>rfl)) ac))) (gf K (n:=2) (cO (bq 3 sc_names_in.nd) (cO (bq 4 sc_names_in.nd) gd))) (aj (bE (aE bY (pv 4) aJ (aP _)) (aj (gW eZ (hX (pv 1) (pv 3) (lO hr)))) bH)))))
   (aj (aG (fz (tf hr) z_list gH (aa (pv 1) ac)))))),?_⟩
 walk_at "rd1";refine fun dp hdp=>?_
 generalize hH1:upd H dp _=H1
 have sm1:=aV hH1 hdp;have e1:=bB hH1;walk_at "nx";refine⟨⟨_,SqL.of (sm1 _ _ hsp)⟩,?_⟩
 refine c6 (xs:=ads.map V.ref) (fun i σ H'=>∃ o2 o3 o4:Option V,σ=[some (.ref sp),some (.ref dp),o2,o3,o4]∧Same H H'∧H' dp=some (.dK (jp (fe ((Ps.take i).flatMap b_)))))
  ⟨none,none,none,rfl,sm1,e1⟩ (fun i σ H' _ h=>by obtain⟨_,_,_,_,sm,_⟩:=h; exact SqL.of (sm _ _ hsp)) ?_ ?_
 ·rintro i v σ H' hv ⟨o2,o3,o4,rfl,sm,hd⟩
  have hi:i<ads.length:=by have:=(List.getElem?_eq_some_iff.mp hv).1; simpa using this
  rw[List.getElem?_map,List.getElem?_eq_getElem hi]at hv
  cases hv;obtain⟨s,hs,st⟩:=cv hp (List.getElem?_eq_getElem hi)
  obtain⟨kind,xs,ks,hd1,hd2,hd3,hd4,hd5⟩:=sw st (hok s (List.mem_of_getElem? hs))
  obtain⟨ka,hka,hks⟩:=qk kind ks hd2
  have hsn:=l7 b_ hs;have hfl:=rT b_ Ps (i+1);rw[hsn]at hfl ⊢
  have hded:fe ((Ps.take i).flatMap b_++b_ s)=(b_ s).foldl ga (fe ((Ps.take i).flatMap b_)):=by unfold fe; rw[List.foldl_append]
  rw[hded];have hac:=iG ((Ps.take i).flatMap b_) [];rw[List.length_append]at hfl
  rw[List.length_nil]at hac
  have hac':(fe ((Ps.take i).flatMap b_)).length≤((Ps.take i).flatMap b_).length:=by unfold fe; omega
  generalize fe ((Ps.take i).flatMap b_)=acc at hd hac' ⊢;have hat:SqT K H' ads[i] (.str kind::xs):=SqT.of (sm _ _ hd1)
  walk_at "rd1";refine i5 hat fun p2 H2 sm2 h2=>?_
  have e1:dk (V.str kind::xs) (some 1) none=xs:=jz _ 1
  rw[e1]at h2
  walk_at "rd1";refine⟨_,_,.inr (hat.same sm2),cZ,dP,kvs,kind,.ref ka,rfl,rfl,m,hka,?_⟩
  refine⟨p2,ka,rfl,⟨_,h2⟩,⟨_,hks _⟩,?_⟩
  refine nG (xs:=xs) (ys:=ks.map V.str) (fun j σ H'=>∃ o3 o4:Option V,σ=[some (.ref sp),some (.ref dp),some (.ref ads[i]),o3,o4]∧Same H H'∧SqT K H' p2 xs∧H' dp=some (.dK (jp ((cC (xs.take j) (ks.take j)).foldl ga acc))))
   (by rw[List.length_map]; exact hd3) ⟨o3,o4,rfl,sm.trans sm2,h2,sm2 _ _ hd⟩ (fun j σ H' _ h=>by obtain⟨_,_,_,_,z1,_⟩:=h; exact⟨z1,hks _⟩) ?_ ?_
  ·rintro j x y t σ H3 hx hy ⟨o3,o4,rfl,sm3,h3,hd3'⟩ ht
   have hjx:j<xs.length:=(List.getElem?_eq_some_iff.mp hx).1
   have hjk:j<ks.length:=by omega
   have hkj:ks[j]? = some ks[j]:=List.getElem?_eq_getElem hjk
   rw[List.getElem?_map,hkj]at hy
   cases hy;have ht1:xs.take (j+1)=xs.take j++[x]:=by rw[List.take_add_one,hx]; rfl
   have ht2:ks.take (j+1)=ks.take j++[ks[j]]:=by rw[List.take_add_one,hkj]; rfl
   have hpa:=pH (xs:=xs.take j) (ks:=ks.take j) x ks[j] (by rw[List.length_take,List.length_take,hd3])
   have hpl:=nP xs ks j hd3;rw[hd5]at hpl
   have hfl2:=iG (cC (xs.take j) (ks.take j)) acc;rw[ht1,ht2,hpa];have htx:=hd4 j x hx;rw[hkj]at htx
   generalize ks[j]=kj at hpa htx ⊢;generalize cC (xs.take j) (ks.take j)=pk at hd3' hpl hfl2 ⊢;have st:=ak ht (.tup [x,V.str kj]);have et:upd H3 t (.tup [x,V.str kj]) t=some (.tup [x,V.str kj]):=ae
   generalize upd H3 t (.tup [x,V.str kj])=H4 at st et ⊢;walk_at "rd1";refine⟨t,_,rfl,SqT.of et,rfl,?_⟩
   walk_at "rd1";refine bG (fun c=>?_) (fun c=>?_)
   ·subst c
    obtain⟨z,rfl⟩:=htx rfl
    have hd4':=st _ _ hd3';refine⟨dp,_,.inr z,rfl,rfl,hd4',by unfold jp; rw[List.length_map]; exact bX (by omega),?_⟩
    rw[AA];refine⟨_,_,rfl,(sm3.trans st).upd hdp _,zi (h3.same st) hd4',?_⟩
    rw[ae,List.foldl_append]; rfl
   ·have hno:cC [x] [kj]=[]:=by
     cases x <;> simp[cC,c]
    rw[hno,List.append_nil];exact⟨_,_,rfl,sm3.trans st,h3.same st,st _ _ hd3'⟩
  ·rintro σ H3 ⟨o3,o4,rfl,sm3,h3,hd3'⟩
   rw[List.take_length,List.take_of_length_le (by omega),hd5]at hd3'
   exact⟨_,_,_,rfl,sm3,hd3'⟩
 ·rintro σ H' ⟨o2,o3,o4,rfl,sm,hd⟩
  walk_at "nx";rw[List.length_map,List.take_of_length_le (by omega)]at hd
  have hac:=iG (Ps.flatMap b_) [];rw[List.length_nil]at hac
  refine⟨_,hd,by unfold jp fe; rw[List.length_map]; omega,fun l hl=>q l _ (sm.trans (ak hl _)) (sm.free hl) ?_⟩
  rw[ae];unfold jp;rw[List.map_map]; rfl
def mT:Sp:=fun vs H Q _=>∃ (p:Addr) (T:List al) (S:Addr→Prop),vs=[.ref p]∧ProgAt S 10 H p T∧jt 10 T∧(cD 10 T).length≤1000∧((cD 10 T).flatMap b_).length≤5000∧
 ∀ (q:Addr) (H':Hp),Same H H'→H q=none→H' q=some (.lst ((fe ((cD 10 T).flatMap b_)).map V.str))→Q (.ref q) H'
theorem oP:∀ (d:Nat) {T:List al},jt d T→∀ s∈cD d T,∃ g:List al→Prop,fM g s
 | 0,_,h,_,_=>h.elim
 | d+1,T,ok,s,hs=>by
  obtain⟨u,hu,hs⟩:=List.mem_flatMap.mp hs
  have o:=ok u hu;rcases List.mem_cons.mp hs with rfl | hs
  ·exact⟨_,o⟩
  obtain⟨b,hb,hs⟩:=List.mem_flatMap.mp hs
  refine oP d (T:=b) ?_ s hs
  cases u with
  | plain ws=>simp[dM]at hb
  | lend x y c=>
   have:b=c:=by simpa [dM] using hb
   subst this; exact o
  | ite n c e=>
   obtain⟨o1,o2⟩:=o
   have:b=c∨b=e:=by simpa [dM] using hb
   rcases this with rfl | rfl
   ·exact o1
   ·exact o2
  | whl n c=>
   have:b=c:=by simpa [dM] using hb
   subst this; exact o
theorem zB:∀ {s:al} {g:List al→Prop},fM g s→fM (fun _=>True) s
 | .plain _,_,h=>h
 | .lend _ _ _,_,_=>trivial
 | .ite _ _ _,_,_=>⟨trivial,trivial⟩
 | .whl _ _,_,_=>trivial
theorem rS(D:DefAt K mg "names_of" eY) (c_names_in:aR P w K mg base 1 "names_in" ["steps"] nc) (c_steps_within:aR P w K mg base 14 "steps_within" ["program"] (pJ 10)):aR P w K mg base 15 "names_of" ["program"] mT:=by
 refine D.cal qo (fun _ _ _ _ _ _ us hl=>match us,hl with | [_],_=>rfl) (fun vs H Q E h=>by obtain⟨_,_,_,rfl,_⟩:=h; rfl) (fun f cdv A outer s H vs Q E hr h=>?_)
 obtain⟨p,T,S,rfl,hp,ok,h1,h2,q⟩:=h
 refine⟨_,(aj (aG (az c_names_in hr (aa (az c_steps_within hr (aa (pv 0) ac) (hle:=by omega)) ac) (hle:=by omega)))),?_⟩
 walk_at "rd1";refine⟨p,T,S,rfl,hp,ok,by omega,fun sp H1 ads sm1 hsp hl1 hp1=>?_⟩
 walk_at "rd1";refine⟨sp,ads,cD 10 T,fun _=>True,rfl,hl1,hp1,fun s hs=>let ⟨g,z⟩:=oP 10 ok s hs; zB z,h2,fun r H2 sm2 hr2 hl2=>?_⟩
 exact q r H2 (sm1.trans sm2) (sm1.free hr2) hl2
theorem oM{ws:List Str}(h:fR ws):(ws.headD "" = "do" → ws.length=3)∧dY ws=b_ (.plain ws):=by
 cases h with
 | opn x=>exact⟨fun c=>absurd c (by show ¬ (Str.ofString "open" = Str.ofString "do"); decide +kernel),by unfold dY; simp only[b_]; rw[if_neg (by show ¬ (Str.ofString "open" = Str.ofString "do"); decide +kernel),if_neg (by show ¬ (Str.ofString "open" = Str.ofString "do"); decide +kernel)]⟩
 | drp x=>exact⟨fun c=>absurd c (by show ¬ (Str.ofString "drop" = Str.ofString "do"); decide +kernel),by unfold dY; simp only[b_]; rw[if_neg (by show ¬ (Str.ofString "drop" = Str.ofString "do"); decide +kernel),if_neg (by show ¬ (Str.ofString "drop" = Str.ofString "do"); decide +kernel)]⟩
 | cpy x y=>exact⟨fun c=>absurd c (by show ¬ (Str.ofString "copy" = Str.ofString "do"); decide +kernel),by unfold dY; simp only[b_]; rw[if_neg (by show ¬ (Str.ofString "copy" = Str.ofString "do"); decide +kernel),if_neg (by show ¬ (Str.ofString "copy" = Str.ofString "do"); decide +kernel)]⟩
 | tie x y=>exact⟨fun c=>absurd c (by show ¬ (Str.ofString "tie" = Str.ofString "do"); decide +kernel),by unfold dY; simp only[b_]; rw[if_neg (by show ¬ (Str.ofString "tie" = Str.ofString "do"); decide +kernel),if_neg (by show ¬ (Str.ofString "tie" = Str.ofString "do"); decide +kernel)]⟩
 | doo u x=>exact⟨fun _=>rfl,by unfold dY; simp only[b_]; rw[if_pos (by rfl),if_pos (by rfl)]; rfl⟩
theorem Ay{f g:List al→Prop}{N:Str→Prop}{pr:List al→List al}(hf:∀ b,g b→(∀ n∈(pr b).flatMap b_,N n)→f b):∀ (s:al),fM g s→(∀ n∈(fO pr s).flatMap b_,N n)→zE f N s
 | .plain ws,ok,h=>by
  obtain⟨h1,h2⟩:=oM ok
  refine⟨h1,fun n hn=>h n ?_⟩
  rw[h2]at hn
  exact List.mem_flatMap.mpr ⟨.plain ws,List.mem_cons_self,hn⟩
 | .lend x y b,ok,h=>by
  refine⟨h x (List.mem_flatMap.mpr ⟨.lend x y b,List.mem_cons_self,by simp[b_]⟩),h y (List.mem_flatMap.mpr ⟨.lend x y b,List.mem_cons_self,by simp[b_]⟩),hf b ok fun n hn=>h n ?_⟩
  obtain⟨s,hs,hn⟩:=List.mem_flatMap.mp hn
  exact List.mem_flatMap.mpr ⟨s,List.mem_cons_of_mem _ (List.mem_flatMap.mpr ⟨b,by simp[dM],hs⟩),hn⟩
 | .ite m b c,ok,h=>by
  refine⟨hf b ok.1 fun n hn=>h n ?_,hf c ok.2 fun n hn=>h n ?_⟩
  ·obtain⟨s,hs,hn⟩:=List.mem_flatMap.mp hn
   exact List.mem_flatMap.mpr ⟨s,List.mem_cons_of_mem _ (List.mem_flatMap.mpr ⟨b,by simp[dM],hs⟩),hn⟩
  ·obtain⟨s,hs,hn⟩:=List.mem_flatMap.mp hn
   exact List.mem_flatMap.mpr ⟨s,List.mem_cons_of_mem _ (List.mem_flatMap.mpr ⟨c,by simp[dM],hs⟩),hn⟩
 | .whl m b,ok,h=>hf b ok fun n hn=>h n (by
   obtain⟨s,hs,hn⟩:=List.mem_flatMap.mp hn
   exact List.mem_flatMap.mpr ⟨s,List.mem_cons_of_mem _ (List.mem_flatMap.mpr ⟨b,by simp[dM],hs⟩),hn⟩)
theorem oF{N:Str→Prop}:∀ (d:Nat) (T:List al),jt d T→(∀ n∈(cD d T).flatMap b_,N n)→mX N d T
 | 0,_,h,_=>h
 | d+1,T,ok,h=>fun s hs=>Ay (fun b hb hn=>oF d b hb hn) s (ok s hs) fun n hn=>h n (by
   obtain⟨s',hs',hn⟩:=List.mem_flatMap.mp hn
   exact List.mem_flatMap.mpr ⟨s',List.mem_flatMap.mpr ⟨s,hs,hs'⟩,hn⟩)
theorem AT(z:Int):ir z∈letters.cps.toList:=by
 unfold ir
 have hz:(z % 26).toNat<letters.cps.toList.length:=by
  show (z % 26).toNat<26
  omega
 rw[List.getD_eq_getElem?_getD,List.getElem?_eq_getElem hz];exact List.getElem_mem hz
def qj:Sp:=fun vs H Q _=>∃ (c:Int) (n:Nat),vs=[.int c,.int n]∧n≤26∧∀ (p:Addr) (H':Hp) (ss:List Str),Same H H'→H p=none→H' p=some (.lst (ss.map V.str))→ss.length=n→(∀ x∈ss,j9 x=true)→ss.Nodup→Q (.ref p) H'
theorem yk(D:DefAt K mg "_law_words" a_) (z_range:mg "range" = none) (z_int:mg "int" = none) (c_law_mixed:aR P w K mg base 1 "_law_mixed" ["_law_cell", "_law_k"] oi):aR P w K mg base 2 "_law_words" ["_law_cell", "_law_many"] qj:=by
 refine D.cal sc_law_words (fun _ _ _ _ _ _ us hl=>match us,hl with | [_,_],_=>rfl) (fun vs H Q E h=>by obtain⟨c,n,rfl,_⟩:=h; rfl) (fun f cdv A outer s H vs Q E hr h=>?_)
 obtain⟨c,n,rfl,hn,q⟩:=h
 refine⟨_,(af (aA 2 sc_law_words.nd aJ)
   (af (aA 3 sc_law_words.nd (ap aD ah (ap cB (pv 0) ah)))
   (af (aA 4 sc_law_words.nd (ap cB (ap mq (pv 0) ah) (pv 3)))
   (af (aA 5 sc_law_words.nd (aQ ac))
   (af (cu PassesOwn.never rfl (jU Ds z_range (aa (pv 1) ac)) (bq 6 sc_law_words.nd) (af (aA 7 sc_law_words.nd aJ)
   (af (cu PassesOwn.never rfl (jU Ds z_range (aa (pv 3) ac)) (bq 8 sc_law_words.nd) (aj (aA 7 sc_law_words.nd (ap aD (pv 7) (aq (aK K) (pv 2) (ap cB (ap aD (az c_law_mixed hr (aa (pv 0) (aa (pv 8) ac))) (ap eX (ap eX ah (pv 6)) (fz jL z_int qe (aa (iD bY (pv 8) (pv 4) (aP _)) ac)))) ah) (fun _ _=>rfl))))))
   (aj (aO (bL K PySem.F.plainAttrs_list PySem.F.slot_list_append PySem.F.type_list_append bx (pv 5) (aa (pv 7) ac)))))))
   (aj (aG (pv 5)))))))),?_⟩
 walk_at "rd1";walk_at "nx";refine⟨by decide,?_⟩
 have hsz0:∃ z:Nat,1+c % 8=(z:Int)∧1≤z∧z≤8:=⟨(1+c % 8).toNat,by omega,by omega,by omega⟩
 obtain⟨sz,esz,sz0,sz1⟩:=hsz0
 rw[esz];walk_at "nx";refine⟨⟨by decide,by decide⟩,by omega,?_⟩
 have hat0:∃ z:Nat,c / 8 % (sz:Int)=(z:Int)∧z<sz:=⟨(c / 8 % (sz:Int)).toNat,by have:=Int.emod_nonneg (c / 8) (show (sz:Int)≠0 by omega); omega,by have:=Int.emod_lt_of_pos (c / 8) (show (0:Int)<sz by omega); have:=Int.emod_nonneg (c / 8) (show (sz:Int)≠0 by omega); omega⟩
 obtain⟨at',eat,hat⟩:=hat0
 rw[eat];walk_at "nx";refine⟨by decide,fun p hp=>?_⟩
 generalize hH1:upd H p _=H1
 have sm1:=aV hH1 hp;have e1:=bB hH1;walk_at "nx";refine⟨by omega,by omega,?_⟩
 refine iV (fun i σ H'=>∃ (ss:List Str) (o6 o7 o8:Option V),σ=[some (.int c),some (.int n),some (.str letters),some (.int sz),some (.int at'),some (.ref p),o6,o7,o8]∧Same H H'∧H' p=some (.lst (ss.map V.str))∧ss.length=i∧(∀ x∈ss,j9 x=true)∧∀ (k:Nat) x,ss[k]? = some x→x.cps.toList[at']? = some (ir (eS c at'+5 * k * 1)))
  ⟨[],none,none,none,rfl,sm1,e1,rfl,by simp,by simp⟩ ?_ ?_
 ·rintro i σ H' hi ⟨ss,o6,o7,o8,rfl,sm,hl,hsn,hsl,hsk⟩
  rw[Int.toNat_natCast]at hi
  walk_at "rd1";walk_at "nx";refine⟨by omega,by omega,?_⟩
  refine iV (fun j σ H2=>∃ (x:Str) (o8:Option V),σ=[some (.int c),some (.int n),some (.str letters),some (.int sz),some (.int at'),some (.ref p),some (.int (0+(i:Int))),some (.str x),o8]∧H'=H2∧x.length=j∧(∀ d∈x.cps.toList,d∈letters.cps.toList)∧(at'<j→x.cps.toList[at']? = some (ir (eS c at'+5 * i * 1))))
   ⟨_,_,rfl,rfl,rfl,(fun d hd=>by cases hd),fun h=>absurd h (by omega)⟩ ?_ ?_
  ·rintro j σ H2 hj ⟨x,o8,rfl,rfl,hx,hxl',hxa⟩
   rw[Int.toNat_natCast]at hj
   walk_at "rd1";refine⟨c,0+(j:Int),rfl,by omega,by omega,?_⟩
   walk_at "rd1";obtain⟨l1,l2⟩:=vf (eS c (0+(j:Int))+5 * (0+(i:Int)) * if 0+(j:Int)=(at':Int) then 1 else 0)
   refine⟨.inl ⟨by decide,by decide⟩,.inl ⟨by omega,by omega⟩,by decide,_,l1,l2,?_,x++⟨#[ir (eS c (0+(j:Int))+5 * (0+(i:Int)) * if 0+(j:Int)=(at':Int) then 1 else 0)]⟩,_,rfl,?_,fun d hd=>?_,fun hlt=>?_⟩
   ·show x.length+1≤sizeLine
    exact bt (by omega)
   ·rw[yV,hx]
   ·rw[gK]at hd
    rcases List.mem_append.mp hd with g | g
    ·exact hxl' d g
    ·have g':d=ir (eS c (0+(j:Int))+5 * (0+(i:Int)) * if 0+(j:Int)=(at':Int) then 1 else 0):=by simpa using g
     rw[g']; exact AT _
   ·have hxl:x.cps.toList.length=j:=by rw[Array.length_toList]; exact hx
    rw[gK];rcases Nat.lt_or_ge at' j with g | g
    ·rw[List.getElem?_append_left (by omega)]; exact hxa g
    ·have e:at'=j:=by omega
     subst e;rw[List.getElem?_append_right (by omega),hxl,Nat.sub_self,if_pos (by omega),Int.zero_add,Int.zero_add]; rfl
  ·rintro σ H2 ⟨x,o8,rfl,rfl,hx,hxl',hxa⟩
   rw[Int.toNat_natCast]at hx hxa
   walk_at "nx";refine⟨⟨_,SqL.of hl⟩,_,hl,by rw[List.length_map]; exact bX (by omega),?_⟩
   refine⟨ss++[x],_,_,_,rfl,sm.upd hp _,by rw[ae,List.map_append]; rfl,by simp[hsn],fun y hy=>?_,fun k y e=>?_⟩
   ·rcases List.mem_append.mp hy with z | z
    ·exact hsl y z
    ·rw[List.mem_singleton.mp z]
     unfold j9;rw[decide_eq_true ⟨by omega,by omega⟩,Bool.true_and,List.all_eq_true]
     exact fun d hd=>decide_eq_true (hxl' d hd)
   ·rcases Nat.lt_or_ge k ss.length with z | z
    ·rw[List.getElem?_append_left z]at e; exact hsk k y e
    ·rw[List.getElem?_append_right z]at e
     have hk:k - ss.length=0:=by
      have:=(List.getElem?_eq_some_iff.mp e).1
      simp at this; omega
     rw[hk]at e
     have e':x=y:=by simpa using e
     subst e';rw[show k=i by omega]
     exact hxa hat
 ·rintro σ H' ⟨ss,o6,o7,o8,rfl,sm,hl,hsn,hsl,hsk⟩
  rw[Int.toNat_natCast]at hsn
  walk_at "nx";refine q p H' ss sm hp hl hsn hsl ?_
  rw[List.nodup_iff_pairwise_ne,List.pairwise_iff_getElem];intro a b ha hb hab e
  have h1:=hsk a _ (List.getElem?_eq_getElem ha);have h2:=hsk b _ (List.getElem?_eq_getElem hb);rw[e,h2]at h1
  have h3:=wY (Option.some.inj h1);omega
end
def fE(x:Str):Prop:=32∉x.cps.toList
def lL(f:List al→Prop):al→Prop
 | .plain ws=>eV ws∧∀ x∈ws,fE x
 | .lend x y b=>fE x∧fE y∧f b
 | .ite n b c=>n.natAbs<10 ^ 61∧f b∧f c
 | .whl n b=>n.natAbs<10 ^ 61∧f b
def ig:Nat→List al→Prop
 | 0,_=>False
 | d+1,T=>∀ s∈T,lL (ig d) s
theorem wO{f g:List al→Prop}(h:∀ b,f b→g b):∀ {s:al},lL f s→rK g s
 | .plain _,z=>z.1
 | .lend _ _ _,z=>h _ z.2.2
 | .ite _ _ _,z=>⟨h _ z.2.1,h _ z.2.2⟩
 | .whl _ _,z=>h _ z.2
theorem oq:∀ {d:Nat} {T:List al},ig d T→kG d T
 | 0,_,h=>h
 | _+1,_,h=>fun s hs=>wO (fun _ z=>oq z) (h s hs)
section
variable(W:List (List Str))(pt:Nat→Nat)(fs:Nat→Nat)(sl:Str→V)(lent:Nat→V)
end
theorem vF(l:List Str):(fe l).Nodup:=by
 unfold fe
 have go:∀ (l acc:List Str),acc.Nodup→(l.foldl ga acc).Nodup:=fun l=>by
  induction l with
  | nil=>intro acc h; exact h
  | cons x l ih=>
   intro acc h
   refine ih _ ?_
   unfold ga;split
   ·exact h
   ·rename_i c
    rw[List.nodup_append];exact⟨h,by simp,fun a ha b hb=>by rw[List.mem_singleton.mp hb]; exact fun z=>c (z ▸ ha)⟩
 exact go l [] List.nodup_nil
theorem qG{ks:List aw}(hn:ks.Nodup):∀ (i j:Nat) k,j<i→i≤ks.length→ks[j]? = some k→aN (fj ks i) k=some (iN j)
 | 0,j,_,h,_,_=>absurd h (Nat.not_lt_zero _)
 | i+1,j,k,h,hi,hk=>by
  rw[fL,db];have hil:i<ks.length:=by omega
  have e:ks.getD i (.inl 0)=ks[i]:=by rw[List.getD_eq_getElem?_getD,List.getElem?_eq_getElem hil]; rfl
  rw[e];obtain⟨hjl,hk'⟩:=List.getElem?_eq_some_iff.mp hk
  rcases Nat.lt_or_ge j i with z | z
  ·rw[if_neg (fun c=>by rw[← hk']at c; exact List.pairwise_iff_getElem.mp hn j i hjl hil z c)]
   exact qG hn i j k z (by omega) hk
  ·have:j=i:=by omega
   subst this;rw[if_pos hk'.symm]
theorem EL{ks:List aw}(hn:ks.Nodup){j:Nat}{k:aw}(h:ks[j]? = some k):bJ (gu ks) k=iN j:=by
 have:=qG hn ks.length j k (List.getElem?_eq_some_iff.mp h).1 (Nat.le_refl _) h
 show bJ (fj ks ks.length) k=_
 unfold bJ;rw[this]; rfl
theorem qp(L:List Str):(gv L).Nodup:=List.Nodup.sublist List.filter_sublist List.nodup_range
theorem sx{NM L:List Str}(hn:NM.Nodup):(cX NM L).Nodup:=by
 unfold cX;rw[List.nodup_append];refine⟨List.pairwise_map.mpr (List.Pairwise.imp (fun h e=>h (Sum.inr.inj e)) hn),List.pairwise_map.mpr (List.Pairwise.imp (fun h e=>h (by have:=Sum.inl.inj e; omega)) (qp L)),fun a ha b hb=>?_⟩
 obtain⟨x,_,rfl⟩:=List.mem_map.mp ha
 obtain⟨y,_,rfl⟩:=List.mem_map.mp hb
 exact fun z=>nomatch z
theorem vP{f g:List al→Prop}(h:∀ b,f b→g b):∀ {s:al},lL f s→fM g s
 | .plain ws,⟨px,_⟩=>by
  show fR ws
  cases px with
  | op x=>exact .opn x
  | dr x=>exact .drp x
  | dd u x=>exact .doo u x
  | cp x y=>exact .cpy x y
  | ti x y=>exact .tie x y
 | .lend _ _ _,z=>h _ z.2.2
 | .ite _ _ _,z=>⟨h _ z.2.1,h _ z.2.2⟩
 | .whl _ _,z=>h _ z.2
theorem kM:∀ {d:Nat} {T:List al},ig d T→jt d T
 | 0,_,h=>h
 | _+1,_,h=>fun s hs=>vP (fun _ z=>kM z) (h s hs)
theorem rC{l:List Str}{n:Str}(h:n∈l):n∈fe l:=by
 unfold fe
 have go:∀ (l acc:List Str),n∈acc∨n∈l→n∈l.foldl ga acc:=fun l=>by
  induction l with
  | nil=>intro acc h; exact h.elim id (fun z=>by cases z)
  | cons x l ih=>
   intro acc h
   refine ih _ ?_
   unfold ga;rcases h with h | h
   ·left; split
    ·exact h
    ·exact List.mem_append_left _ h
   ·rcases List.mem_cons.mp h with rfl | h
    ·left; split
     ·assumption
     ·exact List.mem_append_right _ List.mem_cons_self
    ·exact .inr h
 exact go l [] (.inr h)
def SitsR{α : Type}(R X:List α)(a:Nat):Prop:=∀ i r,X[i]? = some r→R[a+i]? = some r
theorem SitsR.left{α : Type}{R X Y:List α}{a:Nat}(h:SitsR R (X++Y) a):SitsR R X a:=fun i r e=>h i r (by rw[List.getElem?_append_left (List.getElem?_eq_some_iff.mp e).1]; exact e)
theorem SitsR.right{α : Type}{R X Y:List α}{a:Nat}(h:SitsR R (X++Y) a):SitsR R Y (a+X.length):=fun i r e=>by
 rw[Nat.add_assoc];exact h _ r (by rw[List.getElem?_append_right (by omega),Nat.add_sub_cancel_left]; exact e)
theorem SitsR.c0{α : Type}{R Y:List α}{x:α}{a:Nat}(h:SitsR R (x::Y) a):R[a]? = some x:=h 0 x rfl
theorem SitsR.cs{α : Type}{R Y:List α}{x:α}{a:Nat}(h:SitsR R (x::Y) a):SitsR R Y (a+1):=fun i r e=>by
 rw[show a+1+i=a+(i+1) by omega]
 exact h (i+1) r e
def jS(kv:List (aw × V))(k:aw):Nat:=match bJ kv k with
 | .int n=>n.toNat
 | _=>0
structure jH (kv:List (aw × V)):Prop where
 is:∀ k,dH kv k→bJ kv k=iN (jS kv k)
 inj:∀ k k',dH kv k→dH kv k'→jS kv k=jS kv k'→k=k'
def sK(n:Nat):aw:=.inl (n:Int)
theorem jP{n m:Nat}(h:sK n=sK m):n=m:=by
 have:=Sum.inl.inj h
 omega
def cN(n:Nat)(st:RS):RS:={ st with pc:=n }
inductive gj (st:RS):br→RS→Prop
 | opn (l k:Nat):gj st [.str "open", iN l,iN k] (gB l (sK k) st)
 | deed (l k:Nat) (w:Str):gj st [.str "do", iN l,iN k,.str w] (bI l (bD st (sK k)) w st)
 | copy (l k j:Nat):gj st [.str "copy", iN l,iN k,iN j] (bn (sK k) (bD st (sK j)) st)
 | drop (l k:Nat):gj st [.str "drop", iN l,iN k] (bn (sK k) none st)
 | tie (l k j:Nat):gj st [.str "tie", iN l,iN k,iN j] (eP l (bD st (sK k)) (bD st (sK j)) st)
inductive RowGo (xs:List Int) (st:RS):br→RS→Prop
 | pl {r:br} {s1:RS} (h:gj st r s1):RowGo xs st r (cN (st.pc+1) s1)
 | jump (l j:Nat):RowGo xs st [.str "jump", iN l,iN j] (cN j st)
 | test (l:Nat) (n:Int) (j:Nat):RowGo xs st [.str "test", iN l,.int n,iN j] (cN (if (aC xs n st).1=true then st.pc+1 else j) (aC xs n st).2)
inductive GoC (R:List br) (xs:List Int):Nat→RS→RS→Prop
 | nil (st:RS):GoC R xs 0 st st
 | step {r:br} {st s1 s2:RS} {n:Nat}:R[st.pc]? = some r→RowGo xs st r s1→GoC R xs n s1 s2→GoC R xs (n+1) st s2
theorem GoC.app{R:List br}{xs:List Int}{n m:Nat}{a b c:RS}(h:GoC R xs n a b)(k:GoC R xs m b c):GoC R xs (n+m) a c:=by
 induction h with
 | nil st=>rw[Nat.zero_add]; exact k
 | step e r _ ih=>rw[show ∀ i:Nat,i+1+m=i+m+1 by omega]; exact .step e r (ih k)
theorem GoC.one{R:List br}{xs:List Int}{r:br}{a b:RS}{i:Nat}(hp:a.pc=i)(e:R[i]? = some r)(h:RowGo xs a r b):GoC R xs 1 a b:=.step (by rw[hp]; exact e) h (.nil b)
structure Sm (kv:List (aw × V)) (st u:RS):Prop where
 tk:u.taken=st.taken
 ls:u.last=st.last
 op:u.opened=st.opened
 lg:u.log=st.log
 hd:∀ n:Str,dH kv (.inr n)→bD u (sK (jS kv (.inr n)))=bD st (.inr n)
def Frl(kv:List (aw × V))(lo hi:Nat)(u v:RS):Prop:=∀ l:Nat,dH kv (sK l)→(l<lo∨hi≤l)→bD v (sK (jS kv (sK l)))=bD u (sK (jS kv (sK l)))
section
variable{kv:List (aw × V)}{st u v x:RS}{lo hi:Nat}
theorem Sm.pc(h:Sm kv st u)(n:Nat):Sm kv st (cN n u):=⟨h.tk,h.ls,h.op,h.lg,h.hd⟩
theorem Frl.trans(h:Frl kv lo hi u v)(k:Frl kv lo hi v x):Frl kv lo hi u x:=fun l a b=>(k l a b).trans (h l a b)
theorem Frl.wide{lo' hi':Nat}(h:Frl kv lo hi u v)(h1:lo'≤lo)(h2:hi≤hi'):Frl kv lo' hi' u v:=fun l a b=>h l a (by omega)
theorem Frl.same(h:v.held=u.held):Frl kv lo hi u v:=fun l _ _=>by unfold bD; rw[h]
theorem Sm.hold(ok:jH kv)(h:Sm kv st u){n:Str}(hn:dH kv (.inr n))(o:Option Nat):Sm kv (bn (.inr n) o st) (bn (sK (jS kv (.inr n))) o u):=⟨h.tk,h.ls,h.op,h.lg,fun m hm=>by
 rw[fK,fK]
 by_cases e:m=n
 ·rw[if_pos (by rw[e]),if_pos (by rw[e])]
 ·rw[if_neg (fun z=>e (Sum.inr.inj (ok.inj _ _ hm hn (jP z)))),if_neg (fun z=>e (Sum.inr.inj z))]
  exact h.hd m hm⟩
theorem Sm.holdL(ok:jH kv)(h:Sm kv st u){l:Nat}(hl:dH kv (sK l))(o:Option Nat):Sm kv st (bn (sK (jS kv (sK l))) o u):=⟨h.tk,h.ls,h.op,h.lg,fun m hm=>by
 rw[fK,if_neg (fun z=>by have:=ok.inj _ _ hm hl (jP z); cases this)]
 exact h.hd m hm⟩
theorem Frl.hold(ok:jH kv){n:Str}(hn:dH kv (.inr n))(o:Option Nat):Frl kv lo hi u (bn (sK (jS kv (.inr n))) o u):=fun l hl _=>by
 rw[fK,if_neg (fun z=>by have:=ok.inj _ _ hl hn (jP z); cases this)]
theorem Frl.holdL(ok:jH kv){l:Nat}(hl:dH kv (sK l))(o:Option Nat)(h1:lo≤l)(h2:l<hi):Frl kv lo hi u (bn (sK (jS kv (sK l))) o u):=fun m hm hb=>by
 rw[fK,if_neg (fun z=>by have:=jP (ok.inj _ _ hm hl (jP z)); omega)]
theorem Sm.deed(h:Sm kv st u)(l:Nat)(o:Option Nat)(w:Str):Sm kv (bI l o w st) (bI l o w u):=by
 cases o with
 | none=>exact h
 | some n=>exact⟨h.tk,h.ls,h.op,by show u.log++_=st.log++_; rw[h.lg,h.ls],h.hd⟩
theorem Sm.tie(h:Sm kv st u)(l:Nat)(a b:Option Nat):Sm kv (eP l a b st) (eP l a b u):=by
 unfold eP;split
 ·split
  ·exact h
  ·exact⟨h.tk,h.ls,h.op,by show u.log++_=st.log++_; rw[h.lg],h.hd⟩
 ·exact h
theorem Sm.opn(ok:jH kv)(h:Sm kv st u){n:Str}(hn:dH kv (.inr n))(l:Nat):Sm kv (gB l (.inr n) st) (gB l (sK (jS kv (.inr n))) u):=by
 unfold gB;rw[h.op];exact Sm.hold ok (Sm.deed (st:={ st with opened:=st.opened+1 }) (u:={ u with opened:=st.opened+1 }) ⟨h.tk,h.ls,rfl,h.lg,h.hd⟩ l _ _) hn _
theorem Sm.take(h:Sm kv st u)(xs:List Int)(n:Int):(aC xs n u).1=(aC xs n st).1∧Sm kv (aC xs n st).2 (aC xs n u).2:=by
 unfold aC;rw[h.tk]
 cases xs[st.taken]? with
 | none=>exact⟨rfl,h⟩
 | some v=>exact⟨rfl,rfl,rfl,h.op,h.lg,h.hd⟩
theorem Bb(l:Nat)(o:Option Nat)(w:Str):(bI l o w u).pc=u.pc:=by cases o <;> rfl
theorem BX(l:Nat)(a b:Option Nat):(eP l a b u).pc=u.pc:=by
 unfold eP;split
 ·split <;> rfl
 ·rfl
theorem A3(xs:List Int)(n:Int):(aC xs n u).2.pc=u.pc:=by unfold aC; split <;> rfl
theorem zA(l:Nat)(o:Option Nat)(w:Str)(k:aw):bD (bI l o w u) k=bD u k:=by unfold bD; rw[fP]
end
def vK(f:List al→Nat):al→Nat
 | .plain _=>1
 | .lend _ _ b=>f b+6
 | .ite _ b c=>f b+f c+2
 | .whl _ b=>f b+2
def dL:Nat→List al→Nat
 | 0,_=>0
 | d+1,T=>(T.map (vK (dL d))).sum
theorem Al{f g:List al→Nat}(h:∀ T,f T≤6 * g T):∀ s:al,vK f s≤6 * ba g s
 | .plain _=>by show 1≤6 * 1; omega
 | .lend _ _ b=>by have:=h b; show f b+6≤6 * (g b+2); omega
 | .ite _ b c=>by have:=h b; have:=h c; show f b+f c+2≤6 * (g b+g c+3); omega
 | .whl _ b=>by have:=h b; show f b+2≤6 * (g b+2); omega
theorem vV:∀ (d:Nat) (T:List al),dL d T≤6 * ai d T
 | 0,_=>Nat.zero_le _
 | d+1,T=>by
  show (T.map (vK (dL d))).sum≤6 * (T.map (ba (ai d))).sum
  induction T with
  | nil=>exact Nat.zero_le _
  | cons s T ih=>
   have:=Al (vV d) s
   simp only[List.map_cons,List.sum_cons]
   omega
theorem i4{a b W V t1 t2 t:Nat}(h1:a≤W * (1+t1))(h2:b≤V * (1+t2))(ht:t1+t2≤t):a+b≤(W+V) * (1+t):=by
 have e1:=Nat.mul_le_mul_left W (show 1+t1≤1+t by omega)
 have e2:=Nat.mul_le_mul_left V (show 1+t2≤1+t by omega)
 rw[Nat.add_mul];omega
theorem gR{a W V t:Nat}(h:a≤W * (1+t)):a+V≤(W+V) * (1+t):=by
 have e:=Nat.mul_le_mul_left V (show 1≤1+t by omega)
 rw[Nat.add_mul];omega
theorem xU(l:Nat)(ws:List Str)(st:RS):(gr l ws st).taken=st.taken:=by
 have c:ClosedR [] (fun s=>s.taken=st.taken):=⟨fun _ _ _ z=>z,fun l h w s z=>by cases h <;> exact z,fun l a b s z=>by
  unfold eP; split
  ·split <;> exact z
  ·exact z,fun _ _ _ z=>z,fun n s z=>z⟩
 exact c.plain l ws st rfl
theorem lV(xs:List Int)(n:Int)(st:RS):st.taken≤(aC xs n st).2.taken:=by
 unfold aC;split
 ·exact Nat.le_refl _
 ·exact Nat.le_succ _
theorem qJ{xs:List Int}{n:Int}{st:RS}(h:(aC xs n st).1=true):(aC xs n st).2.taken=st.taken+1∧st.taken<xs.length:=by
 unfold aC at h ⊢
 cases e:xs[st.taken]? with
 | none=>rw[e]at h; cases h
 | some v=>exact⟨rfl,(List.getElem?_eq_some_iff.mp e).1⟩
theorem qf{xs:List Int}{n:Int}{st:RS}(h:xs.length≤st.taken):aC xs n st=(false,st):=by
 unfold aC;rw[List.getElem?_eq_none_iff.mpr h]
def lD(kv:List (aw × V))(R:List br)(xs:List Int)(X:List br)(a lo hi W:Nat)(f:RS→RS):Prop:=
 ∀ st u,Sm kv st u→u.pc=a→∃ n v,GoC R xs n u v∧v.pc=a+X.length∧Sm kv (f st) v∧Frl kv lo hi u v∧st.taken≤(f st).taken∧n≤W * (1+((f st).taken - st.taken))
section
variable{kv:List (aw × V)}{R:List br}{xs:List Int}
theorem oo{f:Bool→Nat→Nat→List al→List br}{cnt:List al→Nat}{a l hi W:Nat}{n:Int}{b:List al}{g:RS→RS}(sit:SitsR R (cU f cnt a l n b) a)(hb:lD kv R xs (f false (a+1) (l+1) b) (a+1) l hi W g) :
  ∀ (m:Nat) (st u:RS),xs.length - st.taken≤m→Sm kv st u→u.pc=a→∃ k v,GoC R xs k u v∧v.pc=a+(cU f cnt a l n b).length∧Sm kv (ei g xs n m st) v∧Frl kv l hi u v∧st.taken≤(ei g xs n m st).taken∧k≤(W+2) * (1+((ei g xs n m st).taken - st.taken)):=by
 have hlen:(cU f cnt a l n b).length=(f false (a+1) (l+1) b).length+2:=iR
 rw[hlen];unfold cU at sit;have e0:=sit.left.left.c0;have e1:=sit.right.c0;rw[List.length_append,List.length_singleton]at e1
 generalize f false (a+1) (l+1) b=B at hb e0 e1
 have out:∀ (st u:RS),Sm kv st u→u.pc=a→(aC xs n st).1=false→∃ k v,GoC R xs k u v∧v.pc=a+(B.length+2)∧Sm kv (aC xs n st).2 v∧Frl kv l hi u v∧st.taken≤(aC xs n st).2.taken∧k≤(W+2) * (1+((aC xs n st).2.taken - st.taken)):=by
  intro st u hS hp hf
  obtain⟨t1,t2⟩:=hS.take xs n
  rw[hf]at t1
  refine⟨1,_,GoC.one hp e0 (.test l n _),?_,t2.pc _,Frl.same (e_ _ _ _),lV _ _ _,?_⟩
  ·show (if (aC xs n u).1=true then _ else _)=_
   rw[if_neg (by rw[t1]; decide)]
   omega
  ·exact Nat.le_trans (by omega) (Nat.mul_le_mul_left (W+2) (show 1≤1+((aC xs n st).2.taken - st.taken) by omega))
 intro m
 induction m with
 | zero=>
  intro st u hm hS hp
  have te:=qf (n:=n) (show xs.length≤st.taken by omega)
  have:=out st u hS hp (by rw[te])
  rw[te]at this
  exact this
 | succ m ih=>
  intro st u hm hS hp
  unfold ei
  cases hf:(aC xs n st).1 with
  | false=>
   rw[if_neg (by decide)]
   exact out st u hS hp hf
  | true=>
   rw[if_pos rfl];obtain⟨t1,t2⟩:=hS.take xs n
   rw[hf]at t1
   obtain⟨k1,k2⟩:=qJ hf
   obtain⟨n1,v1,g1,p1,s1,f1,l1,c1⟩:=hb (aC xs n st).2 (cN (a+1) (aC xs n u).2) (t2.pc _) rfl
   obtain⟨n2,v2,g2,p2,s2,f2,l2,c2⟩:=ih (g (aC xs n st).2) (cN a v1) (by omega) (s1.pc _) rfl
   have r0:RowGo xs u [.str "test", iN l,.int n,iN (a+1+B.length+1)] (cN (a+1) (aC xs n u).2):=by
    have:=RowGo.test (xs:=xs) (st:=u) l n (a+1+B.length+1)
    rw[if_pos t1,hp]at this
    exact this
   refine⟨1+n1+1+n2,v2,(((GoC.one hp e0 r0).app g1).app (GoC.one (by rw[p1]; omega) e1 (.jump _ a))).app g2,p2,s2,?_,by omega,?_⟩
   ·exact((Frl.same (e_ _ _ _)).trans f1).trans f2
   ·generalize (ei g xs n m (g (aC xs n st).2)).taken=z at l2 c2 ⊢
    generalize (g (aC xs n st).2).taken=y at l1 c1 l2 c2;rw[k1]at c1 l1
    have h2:=i4 (gR (V:=2) c1) c2 (t:=y - (st.taken+1)+(z - y)) (Nat.le_refl _)
    have h3:(W+2) * (1+(y - (st.taken+1)))+(W+2) * (1+(z - y))=(W+2) * (1+(z - st.taken)):=by
     rw[← Nat.mul_add]
     congr 1
     omega
    have h4:=gR (V:=2) c1;omega
theorem yI(ok:jH kv){d:Nat}(ih:∀ t a l b,kG d b→dz kv d l b→SitsR R (aF kv d t a l b) a→lD kv R xs (aF kv d t a l b) a l (l+ai d b) (dL d b) (cM xs d l b))(t:Bool)(a l:Nat) :
  ∀ s:al,rK (kG d) s→jN kv (dz kv d) (ai d) l s→SitsR R (dy kv (aF kv d) (ai d) t a l s) a→lD kv R xs (dy kv (aF kv d) (ai d) t a l s) a l (l+ba (ai d) s) (vK (dL d) s) (j1 (ai d) (cM xs d) xs l s)
 | .plain ws,hs,hk,sit=>fun st u hS hp=>by
  have fin:∀ v,RowGo xs u (c_ kv l ws) v→v.pc=u.pc+1→Sm kv (gr l ws st) v→Frl kv l (l+1) u v→∃ n v,GoC R xs n u v∧v.pc=a+[c_ kv l ws].length∧Sm kv (gr l ws st) v∧Frl kv l (l+1) u v∧st.taken≤(gr l ws st).taken∧n≤1 * (1+((gr l ws st).taken - st.taken)):=fun v h1 h2 h3 h4=>
   ⟨1,v,GoC.one hp sit.c0 h1,by rw[h2,hp]; rfl,h3,h4,by rw[xU]; exact Nat.le_refl _,by omega⟩
  have hs':eV ws:=hs
  obtain⟨hk1,hk2⟩:=hk
  cases hs' with
  | op x=>
   have hx:=hk2 x (show x∈[x] from List.mem_cons_self);refine fin _ ?_ ?_ ((hS.opn ok hx l).pc (u.pc+1)) ?_
   ·rw[show c_ kv l ["open", x]=[.str "open", iN l,bJ kv (.inr x)] from rfl,ok.is _ hx]
    exact .pl (.opn l _)
   ·rfl
   ·exact(Frl.same (v:=bI l (some u.opened) "open" { u with opened:=u.opened+1 }) (fP _ _ _ _)).trans (Frl.hold ok hx _)
  | dr x=>
   have hx:=hk2 x (show x∈[x] from List.mem_cons_self);refine fin _ ?_ ?_ ((hS.hold ok hx none).pc (u.pc+1)) ?_
   ·rw[show c_ kv l ["drop", x]=[.str "drop", iN l,bJ kv (.inr x)] from rfl,ok.is _ hx]
    exact .pl (.drop l _)
   ·rfl
   ·exact Frl.hold ok hx _
  | dd w x=>
   have hx:=hk2 x (show x∈[x] from List.mem_cons_self);refine fin _ ?_ ?_ ((hS.deed l (bD st (.inr x)) w).pc (u.pc+1)) ?_
   ·rw[show c_ kv l ["do", w,x]=[.str "do", iN l,bJ kv (.inr x),.str w] from rfl,ok.is _ hx,← hS.hd x hx]
    exact .pl (.deed l _ w)
   ·rfl
   ·exact Frl.same (fP _ _ _ _)
  | cp x y=>
   have hx:=hk2 x (show x∈[x,y] from List.mem_cons_self);have hy:=hk2 y (show y∈[x,y] from List.mem_cons_of_mem _ List.mem_cons_self);refine fin _ ?_ ?_ ((hS.hold ok hx (bD st (.inr y))).pc (u.pc+1)) ?_
   ·rw[show c_ kv l ["copy", x,y]=[.str "copy", iN l,bJ kv (.inr x),bJ kv (.inr y)] from rfl,ok.is _ hx,ok.is _ hy,← hS.hd y hy]
    exact .pl (.copy l _ _)
   ·rfl
   ·exact Frl.hold ok hx _
  | ti x y=>
   have hx:=hk2 x (show x∈[x,y] from List.mem_cons_self);have hy:=hk2 y (show y∈[x,y] from List.mem_cons_of_mem _ List.mem_cons_self);refine fin _ ?_ ?_ ((hS.tie l (bD st (.inr x)) (bD st (.inr y))).pc (u.pc+1)) ?_
   ·rw[show c_ kv l ["tie", x,y]=[.str "tie", iN l,bJ kv (.inr x),bJ kv (.inr y)] from rfl,ok.is _ hx,ok.is _ hy,← hS.hd x hx,← hS.hd y hy]
    exact .pl (.tie l _ _)
   ·rfl
   ·exact Frl.same (uG _ _ _ _)
 | .lend x y b,hs,hk,sit=>fun st u hS hp=>by
  obtain⟨hx,hy,hl,hb⟩:=hk
  have hl':dH kv (sK l):=hl
  have sit':SitsR R (fA kv (aF kv d) (ai d) t a l x y b) a:=sit
  unfold fA at sit';have sb:=sit'.left.right;have se:=sit'.right;simp only[List.length_append,List.length_cons,List.length_nil]at sb se
  have ex:=ok.is _ hx;have ey:=ok.is _ hy;have el:bJ kv (.inl (l:Int))=iN (jS kv (sK l)):=ok.is _ hl'
  rw[ex,ey,el]at sit'
  rw[ey,el]at se
  have q0:=sit'.left.left.c0;have q1:=sit'.left.left.cs.c0;have q2:=sit'.left.left.cs.cs.c0;have q3:=se.c0;have q4:=se.cs.c0;have q5:=se.cs.cs.c0;have hgx:=hS.hd x hx;generalize ho:bD st (.inr x)=o at hgx;have g0:=GoC.one (R:=R) (xs:=xs) hp q0 (.pl (.copy l _ _));rw[hgx,hp]at g0
  have s0:=(hS.holdL ok hl' o).pc (a+1)
  have z0:bD (cN (a+1) (bn (sK (jS kv (sK l))) o u)) (sK (jS kv (sK l)))=o:=by
   show bD (bn _ o u) _=o
   rw[fK,if_pos rfl]
  generalize hu0:cN (a+1) (bn (sK (jS kv (sK l))) o u)=u0 at g0 s0 z0;have f0:Frl kv l (l+(ai d b+2)) u u0:=by rw[← hu0]; exact Frl.holdL ok hl' o (Nat.le_refl _) (by omega)
  have g1:=GoC.one (R:=R) (xs:=xs) (a:=u0) (by rw[← hu0]; rfl) q1 (.pl (.deed l _ "lend"))
  rw[z0,show u0.pc=a+1 by rw[← hu0]; rfl]at g1
  have s1:=(s0.deed l o "lend").pc (a+1+1);have z1:bD (cN (a+1+1) (bI l o "lend" u0)) (sK (jS kv (sK l)))=o:=(zA _ _ _ _).trans z0
  have f1:Frl kv l (l+(ai d b+2)) u0 (cN (a+1+1) (bI l o "lend" u0)):=Frl.same (fP _ _ _ _)
  have p1:(cN (a+1+1) (bI l o "lend" u0)).pc=a+1+1:=rfl
  generalize cN (a+1+1) (bI l o "lend" u0)=u1 at g1 s1 z1 f1 p1;have g2:=GoC.one (R:=R) (xs:=xs) (a:=u1) p1 q2 (.pl (.copy l _ _));rw[z1,p1]at g2
  have s2:=(s1.hold ok hy o).pc (a+1+1+1);have z2:bD (cN (a+1+1+1) (bn (sK (jS kv (.inr y))) o u1)) (sK (jS kv (sK l)))=o:=(Frl.hold (lo:=l+1) (hi:=l+1) ok hy o l hl' (by omega)).trans z1
  have f2:Frl kv l (l+(ai d b+2)) u1 (cN (a+1+1+1) (bn (sK (jS kv (.inr y))) o u1)):=Frl.hold ok hy o
  have p2:(cN (a+1+1+1) (bn (sK (jS kv (.inr y))) o u1)).pc=a+3:=rfl
  generalize cN (a+1+1+1) (bn (sK (jS kv (.inr y))) o u1)=u2 at g2 s2 z2 f2 p2;obtain⟨n3,u3,g3,p3,s3,f3,l3,c3⟩:=ih t (a+3) (l+1) b hs hb sb _ _ s2 p2
  have z3:=(f3 l hl' (by omega)).trans z2
  have f3':=f3.wide (lo':=l) (hi':=l+(ai d b+2)) (by omega) (by omega)
  generalize hst3:cM xs d (l+1) b (bn (.inr y) o (bI l o "lend" st))=st3 at s3 l3 c3;generalize hB:aF kv d t (a+3) (l+1) b=B at p3 sit' se q3 q4 q5;have g4:=GoC.one (R:=R) (xs:=xs) (a:=u3) (i:=a+(3+B.length)) (by rw[p3]; omega) (by simpa using q3) (.pl (.deed _ _ "back"))
  rw[z3,show u3.pc=a+3+B.length from p3]at g4
  have s4:=(s3.deed (l+1+ai d b) o "back").pc (a+3+B.length+1);have f4:Frl kv l (l+(ai d b+2)) u3 (cN (a+3+B.length+1) (bI (l+1+ai d b) o "back" u3)):=Frl.same (fP _ _ _ _)
  have p4:(cN (a+3+B.length+1) (bI (l+1+ai d b) o "back" u3)).pc=a+3+B.length+1:=rfl
  generalize cN (a+3+B.length+1) (bI (l+1+ai d b) o "back" u3)=u4 at g4 s4 f4 p4;have g5:=GoC.one (R:=R) (xs:=xs) (a:=u4) (i:=a+(3+B.length)+1) (by rw[p4]; omega) (by simpa using q4) (.pl (.drop _ _))
  rw[p4]at g5
  have s5:=(s4.hold ok hy none).pc (a+3+B.length+1+1);have f5:Frl kv l (l+(ai d b+2)) u4 (cN (a+3+B.length+1+1) (bn (sK (jS kv (.inr y))) none u4)):=Frl.hold ok hy none
  have p5:(cN (a+3+B.length+1+1) (bn (sK (jS kv (.inr y))) none u4)).pc=a+3+B.length+1+1:=rfl
  generalize cN (a+3+B.length+1+1) (bn (sK (jS kv (.inr y))) none u4)=u5 at g5 s5 f5 p5;have g6:=GoC.one (R:=R) (xs:=xs) (a:=u5) (i:=a+(3+B.length)+1+1) (by rw[p5]; omega) (by simpa using q5) (.pl (.drop _ _))
  have f6:Frl kv l (l+(ai d b+2)) u5 (cN (u5.pc+1) (bn (sK (jS kv (sK l))) none u5)):=Frl.holdL ok hl' none (Nat.le_refl _) (by omega)
  refine⟨_,_,(((((g0.app g1).app g2).app g3).app g4).app g5).app g6,?_,?_,(((((f0.trans f1).trans f2).trans f3').trans f4).trans f5).trans f6,?_,?_⟩
  ·show u5.pc+1=a+(fA kv (aF kv d) (ai d) t a l x y b).length
   rw[p5];unfold fA;simp only[List.length_append,List.length_cons,List.length_nil,hB]
   omega
  ·show Sm kv (bn (.inr y) none (bI (l+1+ai d b) (bD st (.inr x)) "back" (cM xs d (l+1) b (bn (.inr y) (bD st (.inr x)) (bI l (bD st (.inr x)) "lend" st))))) _
   rw[ho,hst3];exact(s5.holdL ok hl' none).pc _
  ·show st.taken≤(bn (.inr y) none (bI (l+1+ai d b) (bD st (.inr x)) "back" (cM xs d (l+1) b (bn (.inr y) (bD st (.inr x)) (bI l (bD st (.inr x)) "lend" st))))).taken
   rw[ho,hst3];have e1:(bn (.inr y) o (bI l o "lend" st)).taken=st.taken:=by cases o <;> rfl
   have e2:(bn (.inr y) none (bI (l+1+ai d b) o "back" st3)).taken=st3.taken:=by cases o <;> rfl
   omega
  ·show _≤(dL d b+6) * (1+((bn (.inr y) none (bI (l+1+ai d b) (bD st (.inr x)) "back" (cM xs d (l+1) b (bn (.inr y) (bD st (.inr x)) (bI l (bD st (.inr x)) "lend" st))))).taken - st.taken))
   rw[ho,hst3];have e1:(bn (.inr y) o (bI l o "lend" st)).taken=st.taken:=by cases o <;> rfl
   have e2:(bn (.inr y) none (bI (l+1+ai d b) o "back" st3)).taken=st3.taken:=by cases o <;> rfl
   rw[e1]at c3
   rw[e2];have:=gR (V:=6) c3
   omega
 | .ite n b c,hs,hk,sit=>fun st u hS hp=>by
  obtain⟨hb,hc⟩:=hk
  obtain⟨sb,sc⟩:=hs
  have sit':SitsR R (jM (aF kv d) (ai d) t a l n b c) a:=sit
  have hlen:(dy kv (aF kv d) (ai d) t a l (.ite n b c)).length=(jM (aF kv d) (ai d) t a l n b c).length:=rfl
  rw[hlen];unfold jM at sit' ⊢
  have ib:=ih t (a+1) (l+1) b sb hb;generalize aF kv d t (a+1) (l+1) b=B at sit' ib ⊢;have ic:=ih t (a+1+B.length+1) (l+1+ai d b+1) c sc hc;generalize aF kv d t (a+1+B.length+1) (l+1+ai d b+1) c=C at sit' ic ⊢;have q0:=sit'.left.left.left.c0;have q1:=sit'.left.left.right;have q2:=sit'.left.right.c0;have q3:=sit'.right;simp only[List.length_append,List.length_cons,List.length_nil]at q1 q2 q3 ⊢
  have ib:=ib (by simpa using q1)
  have ic:=ic (by rw[show a+1+B.length+1=a+(0+1+B.length+(0+1)) by omega]; exact q3)
  obtain⟨t1,t2⟩:=hS.take xs n
  have hle:=lV xs n st;have r0:=RowGo.test (xs:=xs) (st:=u) l n (a+1+B.length+1);show ∃ k v,GoC R xs k u v∧v.pc=_∧Sm kv (if (aC xs n st).1=true then cM xs d (l+1) b (aC xs n st).2 else cM xs d (l+1+ai d b+1) c (aC xs n st).2) v∧Frl kv l (l+(ai d b+ai d c+3)) u v∧st.taken≤(if (aC xs n st).1=true then cM xs d (l+1) b (aC xs n st).2 else cM xs d (l+1+ai d b+1) c (aC xs n st).2).taken∧k≤(dL d b+dL d c+2) * (1+((if (aC xs n st).1=true then cM xs d (l+1) b (aC xs n st).2 else cM xs d (l+1+ai d b+1) c (aC xs n st).2).taken - st.taken))
  cases hf:(aC xs n st).1 with
  | true=>
   rw[if_pos rfl];rw[hf]at t1
   rw[if_pos t1,hp]at r0
   obtain⟨n1,v1,g1,p1,s1,f1,l1,c1⟩:=ib _ _ (t2.pc (a+1)) rfl
   refine⟨1+n1+1,_,((GoC.one hp q0 r0).app g1).app (GoC.one (by rw[p1]; omega) q2 (.jump _ _)),?_,s1.pc _,?_,by omega,?_⟩
   ·show a+1+B.length+1+C.length=_
    omega
   ·exact((Frl.same (e_ _ _ _)).trans f1).wide (by omega) (by omega) |>.trans (Frl.same rfl)
   ·generalize (cM xs d (l+1) b (aC xs n st).2).taken=z at l1 c1 ⊢
    have h2:=i4 (gR (V:=2) c1) (show 0≤dL d c * (1+0) by omega) (t:=z - st.taken) (by omega)
    rw[show dL d b+dL d c+2=dL d b+2+dL d c by omega]
    omega
  | false=>
   rw[if_neg (by decide)]
   rw[hf]at t1
   rw[if_neg (by rw[t1]; decide)]at r0
   obtain⟨n1,v1,g1,p1,s1,f1,l1,c1⟩:=ic _ _ (t2.pc (a+1+B.length+1)) rfl
   refine⟨1+n1,_,(GoC.one hp q0 r0).app g1,?_,s1,?_,by omega,?_⟩
   ·rw[p1]
    omega
   ·exact((Frl.same (e_ _ _ _)).trans f1).wide (by omega) (by omega)
   ·generalize (cM xs d (l+1+ai d b+1) c (aC xs n st).2).taken=z at l1 c1 ⊢
    have h2:=i4 (gR (V:=2) c1) (show 0≤dL d b * (1+0) by omega) (t:=z - st.taken) (by omega)
    rw[show dL d b+dL d c+2=dL d c+2+dL d b by omega]
    omega
 | .whl n b,hs,hk,sit=>by
  cases t with
  | false=>
   have sit':SitsR R (cU (aF kv d) (ai d) a l n b) a:=sit
   refine fun st u hS hp=>?_
   have hb:=ih false (a+1) (l+1) b hs hk (by
    unfold cU at sit'
    simpa using sit'.left.right)
   exact oo sit' (fun st u h1 h2=>by
    obtain⟨n1,v1,g1,p1,s1,f1,r1⟩:=hb st u h1 h2
    exact⟨n1,v1,g1,p1,s1,f1.wide (by omega) (show l+1+ai d b≤l+(ai d b+2) by omega),r1⟩) xs.length st u (by omega) hS hp
  | true=>
   have sit':SitsR R (de (aF kv d) (ai d) true a l n b) a:=sit
   have hlen:(dy kv (aF kv d) (ai d) true a l (.whl n b)).length=(de (aF kv d) (ai d) true a l n b).length:=rfl
   refine fun st u hS hp=>?_
   rw[hlen];unfold de at sit' ⊢
   rw[if_pos rfl]at sit' ⊢
   have q0:=sit'.left.left.c0;have hb:=ih true (a+1) (l+1) b hs hk (by simpa using sit'.left.right)
   have sl:=sit'.right;rw[List.length_append,List.length_singleton,show a+(1+(aF kv d true (a+1) (l+1) b).length)=a+1+(aF kv d true (a+1) (l+1) b).length by omega]at sl
   generalize aF kv d true (a+1) (l+1) b=B at sit' hb sl q0 ⊢
   have hc:=ih false (a+1+B.length+1) (l+1) b hs hk (by
    have:=sl
    unfold cU at this
    simpa using this.left.right)
   obtain⟨t1,t2⟩:=hS.take xs n
   have hle:=lV xs n st;have r0:=RowGo.test (xs:=xs) (st:=u) l n (a+1+B.length+(cU (aF kv d) (ai d) (a+1+B.length) l n b).length);show ∃ k v,GoC R xs k u v∧v.pc=_∧Sm kv (ei (cM xs d (l+1) b) xs n xs.length st) v∧Frl kv l (l+(ai d b+2)) u v∧st.taken≤(ei (cM xs d (l+1) b) xs n xs.length st).taken∧k≤(dL d b+2) * (1+((ei (cM xs d (l+1) b) xs n xs.length st).taken - st.taken))
   have out:(aC xs n st).1=false→∃ k v,GoC R xs k u v∧v.pc=a+([[V.str "test", iN l,V.int n,iN (a+1+B.length+(cU (aF kv d) (ai d) (a+1+B.length) l n b).length)]]++B++cU (aF kv d) (ai d) (a+1+B.length) l n b).length∧Sm kv (aC xs n st).2 v∧Frl kv l (l+(ai d b+2)) u v∧st.taken≤(aC xs n st).2.taken∧k≤(dL d b+2) * (1+((aC xs n st).2.taken - st.taken)):=fun hf=>by
    rw[hf]at t1
    rw[if_neg (by rw[t1]; decide)]at r0
    refine⟨1,_,GoC.one hp q0 r0,?_,t2.pc _,Frl.same (e_ _ _ _),hle,?_⟩
    ·show a+1+B.length+_=_
     simp only[List.length_append,List.length_singleton]
     omega
    ·exact Nat.le_trans (by omega) (Nat.mul_le_mul_left (dL d b+2) (show 1≤1+((aC xs n st).2.taken - st.taken) by omega))
   cases hm:xs.length with
   | zero=>
    have te:=qf (n:=n) (show xs.length≤st.taken by omega)
    have:=out (by rw[te])
    rw[te]at this
    exact this
   | succ m=>
    unfold ei
    cases hf:(aC xs n st).1 with
    | false=>
     rw[if_neg (by decide)]
     exact out hf
    | true=>
     rw[if_pos rfl];rw[hf]at t1
     rw[if_pos t1,hp]at r0
     obtain⟨k1,k2⟩:=qJ hf
     obtain⟨n1,v1,g1,p1,s1,f1,l1,c1⟩:=hb _ _ (t2.pc (a+1)) rfl
     obtain⟨n2,v2,g2,p2,s2,f2,l2,c2⟩:=oo sl (fun st u h1 h2=>by
      obtain⟨n1,v1,g1,p1,s1,f1,r1⟩:=hc st u h1 h2
      exact⟨n1,v1,g1,p1,s1,f1.wide (by omega) (show l+1+ai d b≤l+(ai d b+2) by omega),r1⟩) m (cM xs d (l+1) b (aC xs n st).2) v1 (by omega) s1 p1
     refine⟨1+n1+n2,v2,((GoC.one hp q0 r0).app g1).app g2,?_,s2,?_,by omega,?_⟩
     ·rw[p2]
      simp only[List.length_append,List.length_singleton]
      omega
     ·exact((Frl.same (e_ _ _ _)).trans (f1.wide (by omega) (by omega))).trans f2
     ·generalize (ei (cM xs d (l+1) b) xs n m (cM xs d (l+1) b (aC xs n st).2)).taken=z at l2 c2 ⊢
      generalize (cM xs d (l+1) b (aC xs n st).2).taken=y at l1 c1 l2 c2;rw[k1]at c1 l1
      have h3:(dL d b+2) * (1+(y - (st.taken+1)))+(dL d b+2) * (1+(z - y))=(dL d b+2) * (1+(z - st.taken)):=by
       rw[← Nat.mul_add]
       congr 1
       omega
      have h4:=gR (V:=2) c1;omega
theorem qS(ok:jH kv):∀ (d:Nat) (t:Bool) (a l:Nat) (T:List al),kG d T→dz kv d l T→SitsR R (aF kv d t a l T) a→lD kv R xs (aF kv d t a l T) a l (l+ai d T) (dL d T) (cM xs d l T)
 | 0,_,_,_,_,h,_,_=>h.elim
 | d+1,t,a,l,T,hs,hk,sit=>by
  have st:=yI ok (xs:=xs) (qS ok d) t
  have key:∀ (T:List al) (a l:Nat),(∀ s∈T,rK (kG d) s)→(∀ z∈dQ (ba (ai d)) l T,jN kv (dz kv d) (ai d) z.1 z.2)→SitsR R (c8 (dy kv (aF kv d) (ai d) t) (ba (ai d)) a l T) a→
    lD kv R xs (c8 (dy kv (aF kv d) (ai d) t) (ba (ai d)) a l T) a l (l+(T.map (ba (ai d))).sum) (T.map (vK (dL d))).sum (fun st=>(dQ (ba (ai d)) l T).foldl (fun st z=>j1 (ai d) (cM xs d) xs z.1 z.2 st) st):=by
   intro T
   induction T with
   | nil=>exact fun a l _ _ _ st u hS hp=>⟨0,u,.nil u,hp,hS,fun _ _ _=>rfl,Nat.le_refl _,by omega⟩
   | cons s T ih=>
    intro a l hs hk sit st1 u hS hp
    obtain⟨n1,v1,g1,p1,s1,f1,l1,c1⟩:=st a l s (hs s List.mem_cons_self) (hk (l,s) List.mem_cons_self) sit.left st1 u hS hp
    obtain⟨n2,v2,g2,p2,s2,f2,l2,c2⟩:=ih (a+(dy kv (aF kv d) (ai d) t a l s).length) (l+ba (ai d) s) (fun x hx=>hs x (List.mem_cons_of_mem _ hx)) (fun x hx=>hk x (List.mem_cons_of_mem _ hx)) sit.right _ v1 s1 p1
    dsimp only at l2 c2
    simp only[List.map_cons,List.sum_cons]
    refine⟨n1+n2,v2,g1.app g2,?_,s2,(f1.wide (Nat.le_refl _) (by omega)).trans (f2.wide (by omega) (by omega)),Nat.le_trans l1 l2,i4 c1 c2 ?_⟩
    ·rw[p2]
     show _=a+(dy kv (aF kv d) (ai d) t a l s++_).length
     rw[List.length_append];omega
    ·show _≤(List.foldl (fun st (z:Nat × al)=>j1 (ai d) (cM xs d) xs z.1 z.2 st) (j1 (ai d) (cM xs d) xs l s st1) _).taken - st1.taken
     omega
  exact key T a l hs hk sit
end
theorem pU(ks:List aw):∀ (i:Nat) (k:aw),(aN (fj ks i) k).isSome=true→i≤ks.length→∃ j,j<i∧ks[j]? = some k
 | 0,k,h,_=>by
  have:aN (fj ks 0) k=none:=rfl
  rw[this]at h
  cases h
 | i+1,k,h,hi=>by
  rw[fL,db]at h
  by_cases e:k=ks.getD i (.inl 0)
  ·exact⟨i,Nat.lt_succ_self _,by rw[e,List.getD_eq_getElem?_getD,List.getElem?_eq_getElem (by omega)]; rfl⟩
  ·rw[if_neg e]at h
   obtain⟨j,h1,h2⟩:=pU ks i k h (by omega)
   exact⟨j,by omega,h2⟩
theorem FM{ks:List aw}(hn:ks.Nodup):jH (gu ks):=by
 have key:∀ k,dH (gu ks) k→∃ j:Nat,ks[j]? = some k∧bJ (gu ks) k=iN j∧jS (gu ks) k=j:=fun k h=>by
  obtain⟨j,_,e⟩:=pU ks ks.length k (by
   have h':aN (fj ks ks.length) k=some _:=h
   rw[h']
   rfl) (Nat.le_refl _)
  have es:=EL hn e;refine⟨j,e,es,?_⟩
  unfold jS;rw[es];show Int.toNat ((j:Nat):Int)=j
  rw[Int.toNat_natCast]
 refine⟨fun k h=>?_,fun k k' h h' e=>?_⟩
 ·obtain⟨j,_,e2,e3⟩:=key k h
  rw[e3,e2]
 ·obtain⟨j,e1,_,e3⟩:=key k h
  obtain⟨j',e1',_,e3'⟩:=key k' h'
  rw[e3,e3']at e
  subst e;rw[e1]at e1'
  exact Option.some.inj e1'
theorem uU{NM:List Str}(hn:NM.Nodup){d:Nat}{T:List al}(hs:kG d T)(hm:mX (fun n=>n∈NM) d T)(t:Bool)(xs:List Int) :
  ∃ n v,GoC (di NM d t T) xs n rs0 v∧(di NM d t T)[v.pc]? = some [.str "end", iN (ai d T)]∧n≤6 * ai d T * (1+xs.length)∧(jw (ai d T) v).log=(mr xs d T).log:=by
 have ok:=FM (sx (L:=fm d T) hn);have hk:=j2 (NM:=NM) (L:=fm d T) d 0 T (fun i s e=>by rw[Nat.zero_add]; exact e) hm
 have sit:SitsR (di NM d t T) (aF (gu (cX NM (fm d T))) d t 0 0 T) 0:=by
  have:SitsR (di NM d t T) (di NM d t T) 0:=fun i r e=>by rw[Nat.zero_add]; exact e
  unfold di at this ⊢
  exact this.left
 obtain⟨n,v,g,p,s,_,_,c⟩:=qS ok (xs:=xs) d t 0 0 T hs hk sit rs0 rs0 ⟨rfl,rfl,rfl,rfl,fun _ _=>rfl⟩ rfl
 refine⟨n,v,g,?_,?_,?_⟩
 ·rw[p,Nat.zero_add]
  unfold di;rw[List.getElem?_append_right (Nat.le_refl _),Nat.sub_self]
  rfl
 ·have tk:(cM xs d 0 T rs0).taken≤xs.length:=by
   have c:ClosedR xs (fun s=>s.taken≤xs.length):=⟨fun _ _ _ z=>z,fun l h w s z=>by cases h <;> exact z,fun l a b s z=>by
    unfold eP; split
    ·split <;> exact z
    ·exact z,fun _ _ _ z=>z,fun n s z=>by
    unfold aC;split
    ·exact z
    ·rename_i e
     exact(List.getElem?_eq_some_iff.mp e).1⟩
   exact c.run d 0 T rs0 (Nat.zero_le _)
  have w1:=vV d T;have h1:(cM xs d 0 T rs0).taken - rs0.taken≤xs.length:=Nat.le_trans (Nat.sub_le _ _) tk
  exact Nat.le_trans c (Nat.mul_le_mul w1 (by omega))
 ·unfold mr jw
  rw[s.lg,s.op,s.ls]
section
variable{P:Program}{w:World}{K:PySem.W.Frag}{mg:Str→Option Value}{base:Heap}
def fV:V→Bool
 | .str _=>true
 | .int _=>true
 | _=>false
def nD(r:br):Prop:=(∀ v∈r,fV v=true)∧r.length≤100
theorem qi(ks:List aw):∀ (i:Nat) (k:aw) (v:V),aN (fj ks i) k=some v→∃ n:Nat,v=iN n
 | 0,_,_,h=>by cases h
 | i+1,k,v,h=>by
  rw[fL,db]at h
  split at h
  ·exact⟨i,(Option.some.inj h).symm⟩
  ·exact qi ks i k v h
theorem EI{ks:List aw}{k:aw}(h:dH (gu ks) k):fV (bJ (gu ks) k)=true:=by
 obtain⟨n,e⟩:=qi ks ks.length k _ h
 rw[e]; rfl
theorem zU{h:Str}{x y:V}(hx:fV x=true)(hy:fV y=true):nD [.str h,x,y]:=⟨fun v hv=>by
 simp only[List.mem_cons,List.not_mem_nil,or_false]at hv
 rcases hv with rfl | rfl | rfl
 ·rfl
 ·exact hx
 ·exact hy,by simp⟩
theorem nO{h:Str}{x y z:V}(hx:fV x=true)(hy:fV y=true)(hz:fV z=true):nD [.str h,x,y,z]:=⟨fun v hv=>by
 simp only[List.mem_cons,List.not_mem_nil,or_false]at hv
 rcases hv with rfl | rfl | rfl | rfl
 ·rfl
 ·exact hx
 ·exact hy
 ·exact hz,by simp⟩
section
variable{kv:List (aw × V)}
theorem wx(hk:∀ k,dH kv k→fV (bJ kv k)=true){l:Nat}{ws:List Str}(px:eV ws)(hn:∀ n∈dY ws,dH kv (.inr n)):nD (c_ kv l ws):=by
 unfold c_
 by_cases c:ws.headD "" = "do"
 ·rw[if_pos c]
  unfold dY at hn;rw[if_pos c]at hn
  cases px with
  | dd u x=>exact nO rfl (hk _ (hn x (by simp))) rfl
  | op x=>exact absurd c (show ¬ ("open" : Str) = "do" by decide +kernel)
  | dr x=>exact absurd c (show ¬ ("drop" : Str) = "do" by decide +kernel)
  | cp x y=>exact absurd c (show ¬ ("copy" : Str) = "do" by decide +kernel)
  | ti x y=>exact absurd c (show ¬ ("tie" : Str) = "do" by decide +kernel)
 ·rw[if_neg c]
  unfold dY at hn;rw[if_neg c]at hn
  refine⟨fun v hv=>?_,?_⟩
  ·rcases List.mem_cons.mp hv with rfl | hv
   ·rfl
   rcases List.mem_cons.mp hv with rfl | hv
   ·rfl
   obtain⟨n,h1,rfl⟩:=List.mem_map.mp hv
   exact hk _ (hn n h1)
  ·cases px <;> simp
theorem qM(hk:∀ k,dH kv k→fV (bJ kv k)=true):∀ (d:Nat) (t:Bool) (a l:Nat) (T:List al),ig d T→dz kv d l T→∀ r∈aF kv d t a l T,nD r
 | 0,_,_,_,_,h,_=>h.elim
 | d+1,t,a,l,T,hf,hkl=>by
  have ih:=qM hk d
  have st:∀ (s:al) (a l:Nat),lL (ig d) s→jN kv (dz kv d) (ai d) l s→∀ r∈dy kv (aF kv d) (ai d) t a l s,nD r:=fun s a l hs hk' r hr=>by
   cases s with
   | plain ws=>rw[List.mem_singleton.mp hr]; exact wx hk hs.1 hk'.2
   | lend x y b=>
    obtain⟨k1,k2,k3,k4⟩:=hk'
    have f1:=hk _ k1;have f2:=hk _ k2;have f3:=hk _ k3;rcases List.mem_append.mp hr with hr | hr
    ·rcases List.mem_append.mp hr with hr | hr
     ·simp only[List.mem_cons,List.not_mem_nil,or_false]at hr
      rcases hr with rfl | rfl | rfl
      ·exact nO rfl f3 f1
      ·exact nO rfl f3 rfl
      ·exact nO rfl f2 f3
     ·exact ih t _ _ b hs.2.2 k4 r hr
    ·simp only[List.mem_cons,List.not_mem_nil,or_false]at hr
     rcases hr with rfl | rfl | rfl
     ·exact nO rfl f3 rfl
     ·exact zU rfl f2
     ·exact zU rfl f3
   | ite n b c=>
    rcases List.mem_append.mp hr with hr | hr
    ·rcases List.mem_append.mp hr with hr | hr
     ·rcases List.mem_append.mp hr with hr | hr
      ·rw[List.mem_singleton.mp hr]; exact nO rfl rfl rfl
      ·exact ih t _ _ b hs.2.1 hk'.1 r hr
     ·rw[List.mem_singleton.mp hr]; exact zU rfl rfl
    ·exact ih t _ _ c hs.2.2 hk'.2 r hr
   | whl n b=>
    have lp:∀ a,r∈cU (aF kv d) (ai d) a l n b→nD r:=fun a hr=>by
     rcases List.mem_append.mp hr with hr | hr
     ·rcases List.mem_append.mp hr with hr | hr
      ·rw[List.mem_singleton.mp hr]; exact nO rfl rfl rfl
      ·exact ih false _ _ b hs.2 hk' r hr
     ·rw[List.mem_singleton.mp hr]; exact zU rfl rfl
    have hr':r∈de (aF kv d) (ai d) t a l n b:=hr
    unfold de at hr';split at hr'
    ·rcases List.mem_append.mp hr' with hr | hr
     ·rcases List.mem_append.mp hr with hr | hr
      ·rw[List.mem_singleton.mp hr]; exact nO rfl rfl rfl
      ·exact ih true _ _ b hs.2 hk' r hr
     ·exact lp _ hr
    ·exact lp _ hr'
  have go:∀ (T:List al) (a l:Nat),(∀ s∈T,lL (ig d) s)→(∀ z∈dQ (ba (ai d)) l T,jN kv (dz kv d) (ai d) z.1 z.2)→∀ r∈c8 (dy kv (aF kv d) (ai d) t) (ba (ai d)) a l T,nD r:=fun T=>by
   induction T with
   | nil=>intro a l _ _ r hr; cases hr
   | cons s T ihT=>
    intro a l hf hz r hr
    rcases List.mem_append.mp hr with hr | hr
    ·exact st s a l (hf s List.mem_cons_self) (hz _ List.mem_cons_self) r hr
    ·exact ihT _ _ (fun s hs=>hf s (List.mem_cons_of_mem _ hs)) (fun z h=>hz z (List.mem_cons_of_mem _ h)) r hr
  exact go T a l hf hkl
end
theorem Bz{d:Nat}{t:Bool}{T:List al}(hf:ig d T):∀ r∈di (fe ((cD d T).flatMap b_)) d t T,nD r:=by
 have hnm:mX (fun n=>n∈fe ((cD d T).flatMap b_)) d T:=oF d T (kM hf) fun n hn=>rC hn
 intro r hr
 rcases List.mem_append.mp hr with hr | hr
 ·exact qM (fun k=>EI) d t 0 0 T hf (j2 d 0 T (fun i s e=>by rw[Nat.zero_add]; exact e) hnm) r hr
 ·rw[List.mem_singleton.mp hr]
  refine⟨fun v hv=>?_,by simp⟩
  simp only[List.mem_cons,List.not_mem_nil,or_false]at hv
  rcases hv with rfl | rfl <;> rfl
theorem vw{j k:Nat}{x:Str}{ps:List Str}{sp:Sp}(c:aR P w K mg base j x ps sp)(h:j≤k):aR P w K mg base k x ps sp:=by
 obtain⟨f,fd,F,r⟩:=c.ex
 exact⟨f,fd,F.mono h,r⟩
theorem AX{k:Nat}{x:Str}{ps:List Str}{sp sp':Sp}(c:aR P w K mg base k x ps sp)(h:∀ vs H Q E,sp' vs H Q E→sp vs H Q E):aR P w K mg base k x ps sp':=by
 obtain⟨f,fd,F,r⟩:=c.ex
 exact⟨f,fd,F.imp h,r⟩
def NOt(H:Hp)(p:Addr)(NM:List Str):Prop:=∃ (T:List al) (S:Addr→Prop),ProgAt S 10 H p T∧jt 10 T∧(cD 10 T).length≤1000∧((cD 10 T).flatMap b_).length≤5000∧NM=fe ((cD 10 T).flatMap b_)
theorem NOt.mono{H H':Hp}{p:Addr}{NM:List Str}(h:NOt H p NM)(s:Same H H'):NOt H' p NM:=by
 obtain⟨T,S,h1,h2⟩:=h
 exact⟨T,S,h1.mono s,h2⟩
theorem zb{k:Nat}(c:aR P w K mg base k "names_of" ["program"] mT):aR P w K mg base k "names_of" ["program"] (CV NOt):=AX c fun vs H Q E h=>by
 obtain⟨p,NM,rfl,⟨T,S,h1,h2,h3,h4,rfl⟩,q⟩:=h
 exact⟨p,T,S,rfl,h1,h2,h3,h4,q⟩
theorem xn{f:List al→List al}{g:List al→Nat}(h:∀ b,(f b).length≤g b):∀ s:al,(fO f s).length≤ba g s
 | .plain _=>by simp[fO,dM,ba]
 | .lend _ _ b=>by have:=h b; simp[fO,dM,ba]; omega
 | .ite _ b c=>by have:=h b; have:=h c; simp[fO,dM,ba]; omega
 | .whl _ b=>by have:=h b; simp[fO,dM,ba]; omega
theorem mG:∀ (d:Nat) (T:List al),(cD d T).length≤ai d T
 | 0,_=>Nat.le_refl _
 | d+1,T=>by
  show (T.flatMap (fO (cD d))).length≤(T.map (ba (ai d))).sum
  induction T with
  | nil=>exact Nat.le_refl _
  | cons s T ih=>
   have:=xn (mG d) s
   rw[List.flatMap_cons,List.length_append,List.map_cons,List.sum_cons]; omega
theorem C0{g:List al→Prop}:∀ {s:al},fM g s→(b_ s).length≤2
 | .plain ws,h=>by cases (show fR ws from h) <;> simp[b_] <;> split <;> simp
 | .lend _ _ _,_=>by simp[b_]
 | .ite _ _ _,_=>by simp[b_]
 | .whl _ _,_=>by simp[b_]
theorem uR{d:Nat}{T:List al}(h:jt d T):((cD d T).flatMap b_).length≤2 * ai d T:=by
 have h1:=mG d T;have h2:=oP d h
 have go:∀ X:List al,(∀ s∈X,∃ g:List al→Prop,fM g s)→(X.flatMap b_).length≤2 * X.length:=fun X=>by
  induction X with
  | nil=>intro _; exact Nat.le_refl _
  | cons s X ih=>
   intro hx
   obtain⟨g,hg⟩:=hx s List.mem_cons_self
   have:=C0 hg
   have:=ih fun u hu=>hx u (List.mem_cons_of_mem _ hu)
   rw[List.flatMap_cons,List.length_append,List.length_cons]; omega
 have:=go _ h2
 omega
end
set_option genSizeOf false in
inductive Hd4 where
 | lend (x y:Str)
 | ite (n:Int)
 | els (n:Int) (r:Addr) (b:List al)
 | whl (n:Int)
def dO:Hd4→List V
 | .lend x y=>[.str "lend", .str x,.str y]
 | .ite n=>[.str "if", .int n]
 | .els n r _=>[.str "if", .int n,.ref r]
 | .whl n=>[.str "while", .int n]
def Eh:Hd4→List al→al
 | .lend x y,T=>.lend x y T
 | .ite n,T=>.ite n T []
 | .els n _ b,T=>.ite n b T
 | .whl n,T=>.whl n T
def Hd4At(S:Addr→Prop)(H:Hp)(d:Nat)(a:Addr)(h:Hd4):Prop:=H a=some (.tup (dO h))∧∀ n r b,h = .els n r b→ProgAt S d H r b
abbrev dw:=Addr × List al
def Lv4At(S:Addr→Prop)(H:Hp)(d:Nat)(x:dw):Prop:=∃ as:List Addr,H x.1=some (.lst (as.map V.ref))∧Paired (stpAt (ProgAt S d H) H) as x.2
structure PI4 (H0 H:Hp) (pp hp:Addr) (lv:List dw) (hs:List Hd4) (S:Addr→Prop):Prop where
 sm:Same H0 H
 pile:H pp=some (.lst (lv.map fun x=>V.ref x.1))
 head:∃ has:List Addr,H hp=some (.lst (has.map V.ref))∧has.length=hs.length∧∀ k a h,has[k]? = some a→hs[k]? = some h→Hd4At S H (9 - k) a h
 fr:∀ k x,lv[k]? = some x→Lv4At S H (9 - k) x
 nd:(pp::hp::lv.map (·.1)).Nodup
 ns:∀ b∈pp::hp::lv.map (·.1),¬ S b
 nw:∀ b∈pp::hp::lv.map (·.1),H0 b=none
 sn:∀ b,S b→H0 b=none∧∃ xs,H b=some (.lst xs)
section
variable{H0 H H':Hp}{pp hp:Addr}{lv:List dw}{hs:List Hd4}{S S':Addr→Prop}
theorem J3{b q:Addr}(hb:S b)(hq:¬ S q):b≠q:=fun e=>hq (e ▸ hb)
theorem Fw{L:List Addr}{q p:Addr}(hq:q∈L)(hp:p∉L):p≠q:=fun e=>hp (e ▸ hq)
theorem gC{d:Nat}(ht:∀ b xs,H b=some (.tup xs)→H' b=some (.tup xs))(hl:∀ b xs,S b→H b=some (.lst xs)→H' b=some (.lst xs))(hS:∀ b,S b→S' b){as:List Addr}{T:List al}(h:Paired (stpAt (ProgAt S d H) H) as T):Paired (stpAt (ProgAt S' d H') H') as T:=
 Paired.imp' (fun a s z=>stpAt.imp ht (fun q b y=>ProgAt.imp ht hl hS d y) z) h
theorem Hd4At.imp{d:Nat}{a:Addr}{h:Hd4}(z:Hd4At S H d a h)(ht:∀ b xs,H b=some (.tup xs)→H' b=some (.tup xs))(hl:∀ b xs,S b→H b=some (.lst xs)→H' b=some (.lst xs))(hS:∀ b,S b→S' b):Hd4At S' H' d a h:=⟨ht _ _ z.1,fun n r b e=>ProgAt.imp ht hl hS d (z.2 n r b e)⟩
theorem Lv4At.imp{d:Nat}{x:dw}(z:Lv4At S H d x)(ht:∀ b xs,H b=some (.tup xs)→H' b=some (.tup xs))(hl:∀ b xs,S b→H b=some (.lst xs)→H' b=some (.lst xs))(hS:∀ b,S b→S' b)(ho:∀ xs,H x.1=some (.lst xs)→H' x.1=some (.lst xs)):Lv4At S' H' d x:=by
 obtain⟨as,h1,h2⟩:=z
 exact⟨as,ho _ h1,gC ht hl hS h2⟩
theorem oG{k:Nat}{x:dw}(h:lv[k]? = some x):x.1∈lv.map (·.1):=List.mem_map.mpr ⟨x,List.mem_of_getElem? h,rfl⟩
theorem PI4.alloc(I:PI4 H0 H pp hp lv hs S)(s:Same H H'):PI4 H0 H' pp hp lv hs S:=by
 obtain⟨has,h1,h2,h3⟩:=I.head
 refine⟨I.sm.trans s,s _ _ I.pile,⟨has,s _ _ h1,h2,fun k a h e1 e2=>(h3 k a h e1 e2).imp (fun _ _ z=>s _ _ z) (fun _ _ _ z=>s _ _ z) (fun _ z=>z)⟩,fun k x e=>(I.fr k x e).imp (fun _ _ z=>s _ _ z) (fun _ _ _ z=>s _ _ z) (fun _ z=>z) (fun _ z=>s _ _ z),I.nd,I.ns,I.nw,fun b hb=>⟨(I.sn b hb).1,?_⟩⟩
 obtain⟨xs,z⟩:=(I.sn b hb).2
 exact⟨xs,s _ _ z⟩
theorem PI4.free(I:PI4 H0 H pp hp lv hs S){t:Addr}(h:H t=none):H0 t=none∧¬ S t:=by
 refine⟨I.sm.free h,fun z=>?_⟩
 obtain⟨_,xs,e⟩:=I.sn t z
 rw[h]at e
 cases e
theorem PI4.notop(I:PI4 H0 H pp hp lv hs S){t:Addr}(h:H t=none):t∉pp::hp::lv.map (·.1):=fun z=>by
 obtain⟨has,h1,_⟩:=I.head
 rcases List.mem_cons.mp z with rfl | z
 ·rw[I.pile]at h; cases h
 ·rcases List.mem_cons.mp z with rfl | z
  ·rw[h1]at h; cases h
  ·obtain⟨x,hx,rfl⟩:=List.mem_map.mp z
   obtain⟨k,hk⟩:=List.mem_iff_getElem?.mp hx
   obtain⟨as,e,_⟩:=I.fr k x hk
   rw[h]at e
   cases e
theorem j6{q:Addr}{ys:List V}{o:HO}(hq:H q=some (.lst ys)):∀ b xs,H b=some (.tup xs)→upd H q o b=some (.tup xs):=fun b xs e=>by
 rw[am (bv e hq (fun z=>nomatch z))]
 exact e
theorem oj{q:Addr}{o:HO}(hq:¬ S q):∀ b xs,S b→H b=some (.lst xs)→upd H q o b=some (.lst xs):=fun b xs hb e=>by
 rw[am (J3 hb hq)];exact e
theorem PI4.put{x:dw}{ls:List dw}(I:PI4 H0 H pp hp (ls++[x]) hs S){a:Addr}{s:al}(hs':stpAt (ProgAt S (9 - ls.length) H) H a s){xs:List V}(hx:H x.1=some (.lst xs)):PI4 H0 (upd H x.1 (.lst (xs++[.ref a]))) pp hp (ls++[(x.1,x.2++[s])]) hs S:=by
 have hm:x.1∈(ls++[x]).map (·.1):=List.mem_map.mpr ⟨x,List.mem_append_right _ (List.mem_singleton.mpr rfl),rfl⟩
 have hnS:=I.ns x.1 (List.mem_cons_of_mem _ (List.mem_cons_of_mem _ hm));have nd:=I.nd;have n1:pp≠x.1:=Fw (List.mem_cons_of_mem _ hm) (List.nodup_cons.mp nd).1
 have n2:hp≠x.1:=Fw hm (List.nodup_cons.mp (List.nodup_cons.mp nd).2).1
 have ndl:=(List.nodup_cons.mp (List.nodup_cons.mp nd).2).2;have e1:(ls++[(x.1,x.2++[s])]).map (·.1)=(ls++[x]).map (·.1):=by rw[List.map_append,List.map_append]; rfl
 have t1:=j6 (H:=H) (o:=.lst (xs++[.ref a])) hx;have t2:=oj (H:=H) (S:=S) (o:=.lst (xs++[.ref a])) hnS;obtain⟨has,h1,h2,h3⟩:=I.head
 refine⟨I.sm.upd (I.nw _ (List.mem_cons_of_mem _ (List.mem_cons_of_mem _ hm))) _,?_,⟨has,by rw[am n2]; exact h1,h2,fun k a h f1 f2=>(h3 k a h f1 f2).imp t1 t2 (fun _ z=>z)⟩,fun k y hk=>?_,by rw[e1]; exact nd,by rw[e1]; exact I.ns,by rw[e1]; exact I.nw,fun b hb=>⟨(I.sn b hb).1,?_⟩⟩
 ·rw[am n1,I.pile]
  simp
 ·rcases Nat.lt_or_ge k ls.length with z | z
  ·rw[List.getElem?_append_left z]at hk
   have hk':(ls++[x])[k]? = some y:=by rw[List.getElem?_append_left z]; exact hk
   refine(I.fr k y hk').imp t1 t2 (fun _ z=>z) (fun ys e=>?_)
   have:y.1≠x.1:=fun ee=>by
    rw[List.map_append]at ndl
    have:=(List.nodup_append.mp ndl).2.2 y.1 (List.mem_map.mpr ⟨y,List.mem_of_getElem? hk,rfl⟩) x.1 (by simp)
    exact this ee
   rw[am this];exact e
  ·rw[List.getElem?_append_right z]at hk
   have hz:k - ls.length=0:=by
    have:=(List.getElem?_eq_some_iff.mp hk).1
    simp at this
    omega
   rw[hz]at hk
   cases hk;have hkk:k=ls.length:=by omega
   subst hkk;obtain⟨as,f1,f2⟩:=I.fr ls.length x (by rw[List.getElem?_append_right (Nat.le_refl _),Nat.sub_self]; rfl)
   rw[hx]at f1
   cases f1;refine⟨as++[a],by show upd H x.1 _ x.1=_; rw[ae,List.map_append]; rfl,L2.Paired.snoc (stpAt.imp t1 (fun q b y=>ProgAt.imp t1 t2 (fun _ z=>z) _ y) hs') (gC t1 t2 (fun _ z=>z) f2)⟩
 ·obtain⟨ys,z⟩:=(I.sn b hb).2
  exact⟨ys,t2 b ys hb z⟩
theorem PI4.popP{x:dw}{ls:List dw}(I:PI4 H0 H pp hp (ls++[x]) hs S)(hl:ls.length≤9):PI4 H0 (upd H pp (.lst (ls.map fun x=>V.ref x.1))) pp hp ls hs (fun b=>S b∨b=x.1)∧ProgAt (fun b=>S b∨b=x.1) (10 - ls.length) (upd H pp (.lst (ls.map fun x=>V.ref x.1))) x.1 x.2:=by
 have e0:(ls++[x]).map (·.1)=ls.map (·.1)++[x.1]:=by rw[List.map_append]; rfl
 have nd:=I.nd;have ns:=I.ns;have nw:=I.nw;rw[e0]at nd ns nw
 obtain⟨nd1,nd2⟩:=List.nodup_cons.mp nd
 obtain⟨nd3,nd4⟩:=List.nodup_cons.mp nd2
 obtain⟨nd5,nd6,nd7⟩:=List.nodup_append.mp nd4
 have hxm:x.1∈ls.map (·.1)++[x.1]:=List.mem_append_right _ (List.mem_singleton.mpr rfl)
 have nxp:x.1≠pp:=fun e=>nd1 (e ▸ List.mem_cons_of_mem _ hxm)
 have nxh:x.1≠hp:=fun e=>nd3 (e ▸ hxm)
 have hnS:=ns pp List.mem_cons_self;have t1:=j6 (H:=H) (o:=.lst (ls.map fun x=>V.ref x.1)) I.pile
 have t2:=oj (H:=H) (S:=S) (o:=.lst (ls.map fun x=>V.ref x.1)) hnS
 obtain⟨has,h1,h2,h3⟩:=I.head
 obtain⟨as,f1,f2⟩:=I.fr ls.length x (by rw[List.getElem?_append_right (Nat.le_refl _),Nat.sub_self]; rfl)
 have f1':upd H pp (.lst (ls.map fun x=>V.ref x.1)) x.1=some (.lst (as.map V.ref)):=by rw[am nxp]; exact f1
 refine⟨⟨I.sm.upd (nw pp List.mem_cons_self) _,ae,⟨has,?_,h2,fun k a h e1 e2=>(h3 k a h e1 e2).imp t1 t2 (fun _ z=>.inl z)⟩,fun k y hk=>?_,?_,fun b hb=>?_,fun b hb=>?_,fun b hb=>?_⟩,?_⟩
 ·rw[am (fun e:hp=pp=>nd1 (e ▸ List.mem_cons_self))]
  exact h1
 ·have hk':(ls++[x])[k]? = some y:=by rw[List.getElem?_append_left (List.getElem?_eq_some_iff.mp hk).1]; exact hk
  refine(I.fr k y hk').imp t1 t2 (fun _ z=>.inl z) (fun ys e=>?_)
  rw[am (fun e:y.1=pp=>nd1 (e ▸ List.mem_cons_of_mem _ (List.mem_append_left _ (oG hk))))]
  exact e
 ·exact List.nodup_cons.mpr ⟨fun z=>nd1 (by
   rcases List.mem_cons.mp z with z | z
   ·exact z ▸ List.mem_cons_self
   ·exact List.mem_cons_of_mem _ (List.mem_append_left _ z)),List.nodup_cons.mpr ⟨fun z=>nd3 (List.mem_append_left _ z),nd5⟩⟩
 ·intro z
  have hb':b∈pp::hp::(ls.map (·.1)++[x.1]):=by
   rcases List.mem_cons.mp hb with z | z
   ·exact z ▸ List.mem_cons_self
   ·rcases List.mem_cons.mp z with z | z
    ·exact z ▸ List.mem_cons_of_mem _ List.mem_cons_self
    ·exact List.mem_cons_of_mem _ (List.mem_cons_of_mem _ (List.mem_append_left _ z))
  rcases z with z | z
  ·exact ns b hb' z
  ·rw[z]at hb
   rcases List.mem_cons.mp hb with y | y
   ·exact nxp y
   ·rcases List.mem_cons.mp y with y | y
    ·exact nxh y
    ·exact nd7 x.1 y x.1 (List.mem_singleton.mpr rfl) rfl
 ·refine nw b ?_
  rcases List.mem_cons.mp hb with z | z
  ·exact z ▸ List.mem_cons_self
  ·rcases List.mem_cons.mp z with z | z
   ·exact z ▸ List.mem_cons_of_mem _ List.mem_cons_self
   ·exact List.mem_cons_of_mem _ (List.mem_cons_of_mem _ (List.mem_append_left _ z))
 ·rcases hb with z | z
  ·obtain⟨g1,ys,g2⟩:=I.sn b z
   exact⟨g1,ys,t2 b ys z g2⟩
  ·rw[z]
   exact⟨nw x.1 (List.mem_cons_of_mem _ (List.mem_cons_of_mem _ hxm)),_,f1'⟩
 ·rw[show 10 - ls.length=9 - ls.length+1 by omega]
  exact⟨.inr rfl,as,f1',gC t1 t2 (fun _ z=>.inl z) f2⟩
theorem PI4.heads(I:PI4 H0 H pp hp lv hs S){hs':List Hd4}{has':List Addr}(hl:has'.length=hs'.length)(hh:∀ k a h,has'[k]? = some a→hs'[k]? = some h→Hd4At S H (9 - k) a h):PI4 H0 (upd H hp (.lst (has'.map V.ref))) pp hp lv hs' S∧(∀ d a h,Hd4At S H d a h→Hd4At S (upd H hp (.lst (has'.map V.ref))) d a h)∧∀ d r b,ProgAt S d H r b→ProgAt S d (upd H hp (.lst (has'.map V.ref))) r b:=by
 obtain⟨nd1,nd2⟩:=List.nodup_cons.mp I.nd
 obtain⟨nd3,nd4⟩:=List.nodup_cons.mp nd2
 obtain⟨has,h1,h2,h3⟩:=I.head
 have t1:=j6 (H:=H) (o:=.lst (has'.map V.ref)) h1;have t2:=oj (H:=H) (S:=S) (o:=.lst (has'.map V.ref)) (I.ns hp (List.mem_cons_of_mem _ List.mem_cons_self));refine⟨⟨I.sm.upd (I.nw hp (List.mem_cons_of_mem _ List.mem_cons_self)) _,?_,⟨has',ae,hl,fun k a h e1 e2=>(hh k a h e1 e2).imp t1 t2 (fun _ z=>z)⟩,fun k y hk=>?_,I.nd,I.ns,I.nw,fun b hb=>?_⟩,fun d a h z=>z.imp t1 t2 (fun _ z=>z),fun d r b z=>ProgAt.imp t1 t2 (fun _ z=>z) d z⟩
 ·rw[am (fun e:pp=hp=>nd1 (e ▸ List.mem_cons_self))]
  exact I.pile
 ·refine(I.fr k y hk).imp t1 t2 (fun _ z=>z) (fun ys e=>?_)
  rw[am (fun e:y.1=hp=>nd3 (e ▸ oG hk))]
  exact e
 ·obtain⟨g1,ys,g2⟩:=I.sn b hb
  exact⟨g1,ys,t2 b ys hb g2⟩
theorem PI4.pushP(I:PI4 H0 H pp hp lv hs S){q:Addr}(hq:H q=none):PI4 H0 (upd (upd H q (.lst [])) pp (.lst ((lv.map fun x=>V.ref x.1)++[.ref q]))) pp hp (lv++[(q,[])]) hs S:=by
 have J:=I.alloc (ak hq (.lst []));have e0:(lv++[(q,([]:List al))]).map (·.1)=lv.map (·.1)++[q]:=by rw[List.map_append]; rfl
 have hno:=I.notop hq;obtain⟨hq0,hqS⟩:=I.free hq
 obtain⟨nd1,nd2⟩:=List.nodup_cons.mp I.nd
 obtain⟨nd3,nd4⟩:=List.nodup_cons.mp nd2
 have nqp:q≠pp:=fun e=>hno (e ▸ List.mem_cons_self)
 have nqh:q≠hp:=fun e=>hno (e ▸ List.mem_cons_of_mem _ List.mem_cons_self)
 have eq1:upd H q (.lst []) q=some (.lst (([]:List Addr).map V.ref)):=ae
 generalize upd H q (.lst [])=H1 at J eq1 ⊢;have t1:=j6 (H:=H1) (o:=.lst ((lv.map fun x=>V.ref x.1)++[.ref q])) J.pile
 have t2:=oj (H:=H1) (S:=S) (o:=.lst ((lv.map fun x=>V.ref x.1)++[.ref q])) (I.ns pp List.mem_cons_self)
 obtain⟨has,h1,h2,h3⟩:=J.head
 have mem:∀ b,b∈pp::hp::(lv.map (·.1)++[q])→b∈pp::hp::lv.map (·.1)∨b=q:=fun b hb=>by
  rcases List.mem_cons.mp hb with z | z
  ·exact .inl (z ▸ List.mem_cons_self)
  ·rcases List.mem_cons.mp z with z | z
   ·exact .inl (z ▸ List.mem_cons_of_mem _ List.mem_cons_self)
   ·rcases List.mem_append.mp z with z | z
    ·exact .inl (List.mem_cons_of_mem _ (List.mem_cons_of_mem _ z))
    ·exact .inr (List.mem_singleton.mp z)
 refine⟨J.sm.upd (I.nw pp List.mem_cons_self) _,?_,⟨has,?_,h2,fun k a h e1 e2=>(h3 k a h e1 e2).imp t1 t2 (fun _ z=>z)⟩,fun k y hk=>?_,?_,?_,?_,fun b hb=>?_⟩
 ·rw[ae,List.map_append]
  rfl
 ·rw[am (fun e:hp=pp=>nd1 (e ▸ List.mem_cons_self))]
  exact h1
 ·rcases Nat.lt_or_ge k lv.length with z | z
  ·rw[List.getElem?_append_left z]at hk
   refine(J.fr k y hk).imp t1 t2 (fun _ z=>z) (fun ys e=>?_)
   rw[am (fun e:y.1=pp=>nd1 (e ▸ List.mem_cons_of_mem _ (oG hk)))]
   exact e
  ·rw[List.getElem?_append_right z]at hk
   have hz:k - lv.length=0:=by
    have:=(List.getElem?_eq_some_iff.mp hk).1
    simp at this
    omega
   rw[hz]at hk
   cases hk;exact⟨[],by show upd H1 pp _ q=_; rw[am nqp]; exact eq1,.nil⟩
 ·rw[e0]
  refine List.nodup_cons.mpr ⟨fun z=>?_,List.nodup_cons.mpr ⟨fun z=>?_,?_⟩⟩
  ·rcases List.mem_cons.mp z with z | z
   ·exact nd1 (z ▸ List.mem_cons_self)
   ·rcases List.mem_append.mp z with z | z
    ·exact nd1 (List.mem_cons_of_mem _ z)
    ·exact nqp (List.mem_singleton.mp z).symm
  ·rcases List.mem_append.mp z with z | z
   ·exact nd3 z
   ·exact nqh (List.mem_singleton.mp z).symm
  ·exact List.nodup_append.mpr ⟨nd4,(by simp),fun a ha b hb=>by rw[List.mem_singleton.mp hb]; exact fun e=>hno (List.mem_cons_of_mem _ (List.mem_cons_of_mem _ (e ▸ ha)))⟩
 ·rw[e0]
  intro b hb
  rcases mem b hb with z | z
  ·exact I.ns b z
  ·rw[z]; exact hqS
 ·rw[e0]
  intro b hb
  rcases mem b hb with z | z
  ·exact I.nw b z
  ·rw[z]; exact hq0
 ·obtain⟨g1,ys,g2⟩:=J.sn b hb
  exact⟨g1,ys,t2 b ys hb g2⟩
end
section
variable{P:Program}{w:World}{K:PySem.W.Frag}{mg:Str→Option Value}{base:Heap}
structure Dq (nm ws:List Str):Prop where
 n1:1≤nm.length∧nm.length≤20
 w1:1≤ws.length∧ws.length≤20
 nf:∀ x∈nm,fE x∧x.length≤8
 wf:∀ x∈ws,fE x∧x.length≤8
def z_(nm ws us:List Str):Prop:=eV us∧jD us∧(∀ x∈us,fE x)∧∀ w x,us=[("do" : Str),w,x]→w∈ws
theorem lf{xs:List Str}(h:1≤xs.length)(z:Int):∃ x∈xs,ej (xs.map V.str) (z % (xs.length:Int))=some (.str x):=by
 have h0:0≤z % (xs.length:Int):=Int.emod_nonneg _ (by omega)
 have h1:z % (xs.length:Int)<xs.length:=Int.emod_lt_of_pos _ (by omega)
 have hlt:(z % (xs.length:Int)).toNat<xs.length:=by omega
 exact⟨_,List.getElem_mem hlt,vp (f:=V.str) h0 (List.getElem?_eq_getElem hlt)⟩
theorem mC{us:List Str}(h1:eV us)(h2:∀ x∈us,x.length≤20):jD us:=by
 cases h1 <;> exact⟨by simp,by simp,by simp[dq],h2⟩
def mz(K:PySem.W.Frag):Sp:=fun vs H Q _=>∃ (c:Int) (np wp:Addr) (nm ws:List Str),vs=[.int c,.ref np,.ref wp]∧SqL K H np (nm.map V.str)∧SqL K H wp (ws.map V.str)∧Dq nm ws∧∀ (t:Addr) (us:List Str),H t=none→z_ nm ws us→Q (.ref t) (upd H t (.tup (us.map V.str)))
theorem Bk(D:DefAt K mg "_law_step" cG) (z_len:mg "len" = none) (c_law_mixed:aR P w K mg base 1 "_law_mixed" ["_law_cell", "_law_k"] oi):aR P w K mg base 2 "_law_step" ["_law_cell", "_law_names", "_law_words_here"] (mz K):=by
 refine D.cal (k:=1) sc_law_step (fun _ _ _ _ _ _ us hl=>match us,hl with | [_,_,_],_=>rfl) (fun vs H Q E h=>by obtain⟨c,np,wp,nm,ws,rfl,_⟩:=h; rfl) (fun f cdv A outer s H vs Q E hr h=>?_)
 obtain⟨c,np,wp,nm,ws,rfl,hnp,hwp,ok,q⟩:=h
 refine⟨_,(af (aA 3 sc_law_step.nd (aq (aK K) (pv 1) (ap cB (az c_law_mixed hr (aa (pv 0) (aa ah ac))) (bS (bc K) z_len b6 (aa (pv 1) ac))) (fun _ _=>rfl)))
   (af (aA 4 sc_law_step.nd (aq (aK K) (pv 1) (ap cB (az c_law_mixed hr (aa (pv 0) (aa ah ac))) (bS (bc K) z_len b6 (aa (pv 1) ac))) (fun _ _=>rfl)))
   (af (bE (aE jA (ap cB (pv 0) ah) ah (aP _)) (aj (aG (aX (aa aJ (aa (pv 3) ac))))) bH)
   (af (bE (aE bY (ap cB (pv 0) ah) ah (aP _)) (aj (aG (aX (aa aJ (aa (pv 3) (aa (pv 4) ac)))))) bH)
   (af (bE (aE bY (ap cB (pv 0) ah) ah (aP _)) (aj (aG (aX (aa aJ (aa (pv 3) ac))))) bH)
   (af (bE (aE bY (ap cB (pv 0) ah) ah (aP _)) (aj (aG (aX (aa aJ (aa (pv 3) (aa (pv 4) ac)))))) bH)
   (aj (aG (aX (aa aJ (aa (aq (aK K) (pv 2) (ap cB (az c_law_mixed hr (aa (pv 0) (aa ah ac))) (bS (bc K) z_len b6 (aa (pv 2) ac))) (fun _ _=>rfl)) (aa (pv 3) ac)))))))))))),?_⟩
 walk_at "rd1";obtain⟨x,hx,ax⟩:=lf ok.n1.1 (eS c 1)
 obtain⟨y,hy,ay⟩:=lf ok.n1.1 (eS c 2)
 obtain⟨v,hv,av⟩:=lf ok.w1.1 (eS c 3)
 have n1:=ok.n1.1;have w1:=ok.w1.1;obtain⟨fx,lx⟩:=ok.nf x hx
 obtain⟨fy,ly⟩:=ok.nf y hy
 obtain⟨fv,lv⟩:=ok.wf v hv
 refine⟨c,1,rfl,by decide,by decide,_,.inl hnp,?_⟩
 rw[List.length_map];walk_at "rd1";refine⟨by omega,_,_,.inl hnp,ax,?_⟩
 walk_at "nx";refine⟨c,2,rfl,by decide,by decide,_,.inl hnp,?_⟩
 rw[List.length_map];walk_at "rd1";refine⟨by omega,_,_,.inl hnp,ay,?_⟩
 walk_at "nx";refine⟨by decide,bG (fun c1=>?_) (fun c1=>?_)⟩
 ·refine⟨by decide,fun t ht=>q t ["open", x] ht ⟨.op x,mC (.op x) (by simp; exact⟨by decide,by omega⟩),by simp; exact⟨by unfold fE; decide,fx⟩,fun w z e=>by simp at e⟩⟩
 walk_at "nx";refine⟨by decide,bG (fun c1=>?_) (fun c1=>?_)⟩
 ·refine⟨by decide,fun t ht=>q t ["copy", x,y] ht ⟨.cp x y,mC (.cp x y) (by simp; exact⟨by decide,by omega,by omega⟩),by simp; exact⟨by unfold fE; decide,fx,fy⟩,fun w z e=>by simp at e; exact absurd e.1 (by decide)⟩⟩
 walk_at "nx";refine⟨by decide,bG (fun c1=>?_) (fun c1=>?_)⟩
 ·refine⟨by decide,fun t ht=>q t ["drop", x] ht ⟨.dr x,mC (.dr x) (by simp; exact⟨by decide,by omega⟩),by simp; exact⟨by unfold fE; decide,fx⟩,fun w z e=>by simp at e⟩⟩
 walk_at "nx";refine⟨by decide,bG (fun c1=>?_) (fun c1=>?_)⟩
 ·refine⟨by decide,fun t ht=>q t ["tie", x,y] ht ⟨.ti x y,mC (.ti x y) (by simp; exact⟨by decide,by omega,by omega⟩),by simp; exact⟨by unfold fE; decide,fx,fy⟩,fun w z e=>by simp at e; exact absurd e.1 (by decide)⟩⟩
 walk_at "nx";refine⟨c,3,rfl,by decide,by decide,_,.inl hwp,?_⟩
 rw[List.length_map];walk_at "rd1";refine⟨by omega,_,_,.inl hwp,av,?_⟩
 exact⟨by decide,fun t ht=>q t ["do", v,x] ht ⟨.dd v x,mC (.dd v x) (by simp; exact⟨by decide,by omega,by omega⟩),by simp; exact⟨by unfold fE; decide,fv,fx⟩,fun w z e=>by simp at e; rw[← e.1]; exact hv⟩⟩
def fc(q':Addr)(ls:List dw)(x:dw)(hs:List Hd4)(h:Hd4):List dw × List Hd4:=match h with
 | .ite n=>(ls++[(q',[])],hs++[.els n x.1 x.2])
 | h=>(ls.dropLast++(match ls.getLast? with
  | some y=>[(y.1,y.2++[Eh h x.2])]
  | none=>[]),hs)
def uO:Sp:=fun vs H Q _=>∃ (pp hp:Addr) (H0:Hp) (ls:List dw) (x:dw) (hs:List Hd4) (h:Hd4) (S:Addr→Prop),vs=[.ref pp,.ref hp]∧PI4 H0 H pp hp (ls++[x]) (hs++[h]) S∧ls.length=hs.length+1∧hs.length≤7∧(∀ l∈ls,l.2.length≤1000)∧
 ∀ (q':Addr) (H':Hp) (S':Addr→Prop),PI4 H0 H' pp hp (fc q' ls x hs h).1 (fc q' ls x hs h).2 S'→Q .non H'
theorem BP(D:DefAt K mg "_law_shut" cT) (z_len:mg "len" = none):aR P w K mg base 1 "_law_shut" ["_law_piles", "_law_heads"] uO:=by
 refine D.cal (k:=0) sc_law_shut (fun _ _ _ _ _ _ us hl=>match us,hl with | [_,_],_=>rfl) (fun vs H Q E h=>by obtain⟨pp,hp,H0,ls,x,hs,h,S,rfl,_⟩:=h; rfl) (fun f cdv A outer s H vs Q E hr h=>?_)
 obtain⟨pp,hp,H0,ls,x,hs,h,S,rfl,I,hlen,h7,hsm,q⟩:=h
 refine⟨_,(af (aA 2 sc_law_shut.nd (rk K PySem.F.plainAttrs_list PySem.F.slot_list_pop PySem.F.type_list_pop rA (pv 0)))
   (af (aA 3 sc_law_shut.nd (rk K PySem.F.plainAttrs_list PySem.F.slot_list_pop PySem.F.type_list_pop rA (pv 1)))
   (aj (bE (PW.pt' (h_ (aE bY (aq (aK K) (pv 3) ah (fun _ _=>rfl)) aJ (aP _)) (iK (aE bY (bS (bc K) z_len b6 (aa (pv 3) ac)) ah (aP _))))) (af (aO (bL K PySem.F.plainAttrs_list PySem.F.slot_list_append PySem.F.type_list_append bx (pv 1) (aa (ap (kS K) (pv 3) (aX (aa (pv 2) ac))) ac)))
   (aj (aO (bL K PySem.F.plainAttrs_list PySem.F.slot_list_append PySem.F.type_list_append bx (pv 0) (aa (aQ ac) ac))))) (aj (aO (bL K PySem.F.plainAttrs_list PySem.F.slot_list_append PySem.F.type_list_append bx (aq (aK K) (pv 0) (j3 iu ah) (fun _ _=>rfl)) (aa (ap (kS K) (pv 3) (aX (aa (pv 2) ac))) ac)))))))),?_⟩
 walk_at "rd1";refine⟨⟨_,SqL.of I.pile⟩,_,.ref x.1,I.pile,by simp,?_⟩
 rw[show ((ls++[x]).map (fun x=>V.ref x.1)).dropLast=ls.map fun x=>V.ref x.1 by simp]
 obtain⟨J,pr⟩:=I.popP (by omega)
 generalize upd H pp (.lst (ls.map fun x=>V.ref x.1))=H1 at J pr ⊢
 walk_at "nx";obtain⟨has,g1,g2,g3⟩:=id J.head
 rw[List.length_append,List.length_singleton]at g2
 obtain⟨hi,ha,rfl⟩ : ∃ hi ha,has=hi++[ha]:=⟨has.dropLast,has.getLast (fun e=>by rw[e]at g2; cases g2),(List.dropLast_concat_getLast _).symm⟩
 rw[List.length_append,List.length_singleton]at g2
 have hil:hi.length=hs.length:=by omega
 refine⟨⟨_,SqL.of g1⟩,_,.ref ha,g1,by simp,?_⟩
 rw[show ((hi++[ha]).map V.ref).dropLast=hi.map V.ref by simp]
 obtain⟨J2,tr,trp⟩:=J.heads (hs':=hs) (has':=hi) hil (fun k a y e1 e2=>g3 k a y (by rw[List.getElem?_append_left (List.getElem?_eq_some_iff.mp e1).1]; exact e1) (by rw[List.getElem?_append_left (List.getElem?_eq_some_iff.mp e2).1]; exact e2))
 have hah:=tr _ _ _ (g3 hs.length ha h (by rw[← hil,List.getElem?_append_right (Nat.le_refl _),Nat.sub_self]; rfl) (by rw[List.getElem?_append_right (Nat.le_refl _),Nat.sub_self]; rfl))
 have pr2:=trp _ _ _ pr;generalize upd H1 hp (.lst (hi.map V.ref))=H2 at J2 hah pr2 ⊢;walk_at "nx";obtain⟨l2,y,rfl⟩ : ∃ l2 y,ls=l2++[y]:=⟨ls.dropLast,ls.getLast (fun e=>by rw[e]at hlen; cases hlen),(List.dropLast_concat_getLast _).symm⟩
 rw[List.length_append,List.length_singleton]at hlen pr2
 have hll:l2.length=hs.length:=by omega
 rw[show 10 - (l2.length+1)=9 - l2.length by omega]at pr2
 rw[← hll]at hah
 obtain⟨asy,hy,hyp⟩:=J2.fr l2.length y (by rw[List.getElem?_append_right (Nat.le_refl _),Nat.sub_self]; rfl)
 have hyl:asy.length≤1000:=by
  rw[aL hyp];exact hsm y (List.mem_append_right _ (List.mem_singleton.mpr rfl))
 have fin:∀ (hd:List V),hd≠[]→hd.length≤3→H2 ha=some (.tup hd)→(∀ (H':Hp) (t:Addr),Same H2 H'→H' t=some (.tup (hd++[.ref x.1]))→stpAt (ProgAt (fun b=>S b∨b=x.1) (9 - l2.length) H') H' t (Eh h x.2))→(∀ q',fc q' (l2++[y]) x hs h=(l2++[(y.1,y.2++[Eh h x.2])],hs))→
   ∃ xs v,(SqL K H2 pp xs∨SqT K H2 pp xs)∧ej xs (-1)=some v∧ko K "list" v H2∧1≤sizeLine∧∀ (p:Addr),H2 p=none→∃ xs ys,SqT K (upd H2 p (.tup [V.ref x.1])) ha xs∧SqT K (upd H2 p (.tup [V.ref x.1])) p ys∧xs≠[]∧xs.length+ys.length≤sizeLine∧(ys=[]→fX v [V.ref ha] (upd H2 p (.tup [V.ref x.1])) fun x H1=>Q V.non H1)∧(ys≠[]→∀ (p_1:Addr),upd H2 p (.tup [V.ref x.1]) p_1=none→fX v [V.ref p_1] (upd (upd H2 p (.tup [V.ref x.1])) p_1 (.tup (xs++ys))) fun x H1=>Q V.non H1):=by
  intro hd hne hdl h2a hst hsh
  refine⟨_,.ref y.1,.inl (SqL.of J2.pile),qL (by simp),.inl ⟨rfl,_,SqL.of hy⟩,by decide,fun p hp'=>?_⟩
  have s1:=ak hp' (.tup [V.ref x.1]);have e3:upd H2 p (.tup [V.ref x.1]) p=some (.tup [V.ref x.1]):=ae
  generalize upd H2 p (.tup [V.ref x.1])=H3 at s1 e3 ⊢;refine⟨_,_,SqT.of (s1 _ _ h2a),SqT.of e3,hne,bt (by simp; omega),fun z=>(by cases z),fun _ p1 hp1=>?_⟩
  have s2:=ak hp1 (.tup (hd++[V.ref x.1]));have e4:upd H3 p1 (.tup (hd++[V.ref x.1])) p1=some (.tup (hd++[V.ref x.1])):=ae
  generalize upd H3 p1 (.tup (hd++[V.ref x.1]))=H4 at s2 e4 ⊢;have s24:=s1.trans s2;have hy4:=s24 _ _ hy;refine⟨y.1,_,_,rfl,rfl,hy4,bX (by rw[List.length_map]; omega),?_⟩
  refine q 0 _ (fun b=>S b∨b=x.1) ?_
  rw[hsh 0];exact(J2.alloc s24).put (hst H4 p1 s24 e4) hy4
 cases h with
 | lend x' y'=>
  refine⟨_,_,.inr (SqT.of hah.1),cZ,?_⟩
  walk_at "rd1";rw[if_neg (by decide)]
  exact fin _ (by simp[dO]) (by simp[dO]) hah.1 (fun H' t sm e=>⟨x.1,e,pr2.mono sm⟩) (fun q'=>by simp[fc])
 | whl n=>
  refine⟨_,_,.inr (SqT.of hah.1),cZ,?_⟩
  walk_at "rd1";rw[if_neg (by decide)]
  exact fin _ (by simp[dO]) (by simp[dO]) hah.1 (fun H' t sm e=>⟨x.1,e,pr2.mono sm⟩) (fun q'=>by simp[fc])
 | els n r b=>
  refine⟨_,_,.inr (SqT.of hah.1),cZ,?_⟩
  walk_at "rd1";refine⟨_,.inr (SqT.of hah.1),?_⟩
  rw[if_neg (by simp[dO])]
  exact fin _ (by simp[dO]) (by simp[dO]) hah.1 (fun H' t sm e=>⟨r,x.1,e,(hah.2 n r b rfl).mono sm,pr2.mono sm⟩) (fun q'=>by simp[fc])
 | ite n=>
  refine⟨_,_,.inr (SqT.of hah.1),cZ,?_⟩
  walk_at "rd1";refine⟨_,.inr (SqT.of hah.1),?_⟩
  rw[if_pos (by simp[dO])]
  obtain⟨has2,k1,k2,k3⟩:=id J2.head
  refine⟨⟨_,SqL.of k1⟩,by decide,fun p hp'=>?_⟩
  have s1:=ak hp' (.tup [V.ref x.1]);have e3:upd H2 p (.tup [V.ref x.1]) p=some (.tup [V.ref x.1]):=ae
  generalize upd H2 p (.tup [V.ref x.1])=H3 at s1 e3 ⊢;refine⟨_,_,SqT.of (s1 _ _ hah.1),SqT.of e3,by simp[dO],bt (by simp[dO]),fun z=>(by cases z),fun _ p1 hp1=>?_⟩
  have s2:=ak hp1 (.tup (dO (.ite n)++[V.ref x.1]));have e4:upd H3 p1 (.tup (dO (.ite n)++[V.ref x.1])) p1=some (.tup (dO (.els n x.1 x.2))):=ae
  generalize upd H3 p1 (.tup (dO (.ite n)++[V.ref x.1]))=H4 at s2 e4 ⊢;have s24:=s1.trans s2;have J4:=J2.alloc s24;refine⟨_,s24 _ _ k1,bX (by rw[List.length_map]; omega),?_⟩
  obtain⟨J5,_,_⟩:=J4.heads (hs':=hs++[.els n x.1 x.2]) (has':=has2++[p1]) (by simp; omega) (fun k a h e1 e2=>by
   rcases Nat.lt_or_ge k hs.length with z | z
   ·rw[List.getElem?_append_left (by omega)]at e1
    rw[List.getElem?_append_left z]at e2
    exact(k3 k a h e1 e2).imp (fun _ _ w=>s24 _ _ w) (fun _ _ _ w=>s24 _ _ w) (fun _ w=>w)
   ·have hk:k=hs.length:=by
     have:=(List.getElem?_eq_some_iff.mp e2).1
     simp at this
     omega
    subst hk;rw[← k2,List.getElem?_append_right (Nat.le_refl _),Nat.sub_self]at e1
    rw[List.getElem?_append_right (Nat.le_refl _),Nat.sub_self]at e2
    cases e1
    cases e2;exact⟨e4,fun n' r' b' ee=>by cases ee; rw[← hll]; exact pr2.mono s24⟩)
  rw[show has2.map V.ref++[V.ref p1]=(has2++[p1]).map V.ref by rw[List.map_append]; rfl]
  generalize upd H4 hp (.lst ((has2++[p1]).map V.ref))=H5 at J5 ⊢;walk_at "nx";refine⟨⟨_,SqL.of J5.pile⟩,by decide,fun p2 hp2=>?_⟩
  have np:p2≠pp:=fun e=>by rw[e,J5.pile]at hp2; cases hp2
  refine⟨_,by rw[am np.symm]; exact J5.pile,bX (by rw[List.length_map,List.length_append,List.length_singleton]; omega),?_⟩
  exact q p2 _ _ (J5.pushP hp2)
end
section
variable(nm ws:List Str)
def tZ(x:Str):Prop:=fE x∧x.length≤8
def va(f:List al→Prop):al→Prop
 | .plain us=>z_ nm ws us
 | .lend x y b=>tZ x∧tZ y∧f b
 | .ite n b c=>n.natAbs<10 ^ 61∧f b∧f c
 | .whl n b=>n.natAbs<10 ^ 61∧f b
def jK:Nat→List al→Prop
 | 0,_=>False
 | d+1,T=>∀ s∈T,va nm ws (jK d) s
def Dy(d:Nat):Hd4→Prop
 | .lend x y=>tZ x∧tZ y
 | .ite n=>n.natAbs<10 ^ 61
 | .els n _ b=>n.natAbs<10 ^ 61∧jK nm ws d b
 | .whl n=>n.natAbs<10 ^ 61
end
def dS:Nat→List dw→Nat
 | _,[]=>0
 | k,x::r=>ai (10 - k) x.2+dS (k+1) r
def oN(d:Nat):Hd4→Nat
 | .lend _ _=>2
 | .ite _=>3
 | .els _ _ b=>3+ai d b
 | .whl _=>2
def fk:Nat→List Hd4→Nat
 | _,[]=>0
 | k,h::r=>oN (9 - k) h+fk (k+1) r
theorem gT:∀ (a b:List dw) (k:Nat),dS k (a++b)=dS k a+dS (k+a.length) b
 | [],b,k=>by show dS k b=0+dS k b; omega
 | x::a,b,k=>by
  show ai (10 - k) x.2+dS (k+1) (a++b)=ai (10 - k) x.2+dS (k+1) a+dS (k+(a.length+1)) b
  rw[gT a b (k+1),show k+1+a.length=k+(a.length+1) by omega]
  omega
theorem ja:∀ (a b:List Hd4) (k:Nat),fk k (a++b)=fk k a+fk (k+a.length) b
 | [],b,k=>by show fk k b=0+fk k b; omega
 | x::a,b,k=>by
  show oN (9 - k) x+fk (k+1) (a++b)=oN (9 - k) x+fk (k+1) a+fk (k+(a.length+1)) b
  rw[ja a b (k+1),show k+1+a.length=k+(a.length+1) by omega]
  omega
theorem iW{x:dw}{k:Nat}:dS k [x]=ai (10 - k) x.2:=rfl
theorem kY{h:Hd4}{k:Nat}:fk k [h]=oN (9 - k) h:=rfl
theorem xM{d:Nat}{T:List al}{s:al}:ai (d+1) (T++[s])=ai (d+1) T+ba (ai d) s:=by
 show ((T++[s]).map _).sum=(T.map _).sum+_
 rw[List.map_append,List.sum_append];simp
structure G4 (nm ws:List Str) (lv:List dw) (hs:List Hd4) (N:Nat):Prop where
 len:lv.length=hs.length+1
 deep:hs.length≤8
 gl:∀ k x,lv[k]? = some x→jK nm ws (10 - k) x.2
 gh:∀ k h,hs[k]? = some h→Dy nm ws (9 - k) h
 cn:dS 0 lv+fk 0 hs≤N
section
variable{nm ws:List Str}{ls:List dw}{x:dw}{hs:List Hd4}{h:Hd4}{N:Nat}
theorem gM{α : Type}{a:List α}{y z:α}{k:Nat}(e:(a++[y])[k]? = some z):(k<a.length∧a[k]? = some z)∨(k=a.length∧z=y):=by
 rcases Nat.lt_or_ge k a.length with w | w
 ·rw[List.getElem?_append_left w]at e
  exact .inl ⟨w,e⟩
 ·rw[List.getElem?_append_right w]at e
  have hk:k - a.length=0:=by
   have:=(List.getElem?_eq_some_iff.mp e).1
   simp at this
   omega
  rw[hk]at e
  cases e;exact .inr ⟨by omega,rfl⟩
theorem j4{α : Type}{a:List α}{y:α}:(a++[y])[a.length]? = some y:=by rw[List.getElem?_append_right (Nat.le_refl _),Nat.sub_self]; rfl
theorem iE{α : Type}{a b:List α}{z:α}{k:Nat}(e:a[k]? = some z):(a++b)[k]? = some z:=by rw[List.getElem?_append_left (List.getElem?_eq_some_iff.mp e).1]; exact e
theorem G4.put(g:G4 nm ws (ls++[x]) hs N){s:al}(hs':va nm ws (jK nm ws (9 - ls.length)) s):G4 nm ws (ls++[(x.1,x.2++[s])]) hs (N+ba (ai (9 - ls.length)) s):=by
 have hl:=g.len;have hd:=g.deep;rw[List.length_append,List.length_singleton]at hl
 have e10:10 - ls.length=9 - ls.length+1:=by omega
 refine⟨by rw[List.length_append,List.length_singleton]; exact hl,hd,fun k y e=>?_,g.gh,?_⟩
 ·rcases gM e with ⟨_,z⟩ | ⟨z,rfl⟩
  ·exact g.gl k y (iE z)
  ·have:=g.gl ls.length x j4
   subst z;rw[e10]at this ⊢
   intro t ht
   rcases List.mem_append.mp ht with w | w
   ·exact this t w
   ·rw[List.mem_singleton.mp w]; exact hs'
 ·have:=g.cn
  rw[gT,iW,Nat.zero_add]at this ⊢
  show dS 0 ls+ai (10 - ls.length) (x.2++[s])+fk 0 hs≤_
  rw[e10]at this ⊢
  rw[xM];omega
theorem G4.push{lv:List dw}(g:G4 nm ws lv hs N)(hd:hs.length≤7)(q:Addr)(hh:Dy nm ws (9 - hs.length) h)(ho:oN (9 - hs.length) h≤3):G4 nm ws (lv++[(q,[])]) (hs++[h]) (N+3):=by
 have hl:=g.len;refine⟨by simp; omega,by simp; omega,fun k y e=>?_,fun k y e=>?_,?_⟩
 ·rcases gM e with ⟨_,z⟩ | ⟨z,rfl⟩
  ·exact g.gl k y z
  ·rw[show 10 - k=9 - k+1 by omega]
   exact fun s hs=>by cases hs
 ·rcases gM e with ⟨_,z⟩ | ⟨z,rfl⟩
  ·exact g.gh k y z
  ·rw[z]; exact hh
 ·have:=g.cn
  rw[gT,iW,ja,kY,Nat.zero_add,Nat.zero_add]
  have z:ai (10 - lv.length) ([]:List al)=0:=by
   cases 10 - lv.length <;> rfl
  show dS 0 lv+ai (10 - lv.length) []+_≤_
  omega
theorem G4.shut(g:G4 nm ws (ls++[x]) (hs++[h]) N)(q:Addr):G4 nm ws (fc q ls x hs h).1 (fc q ls x hs h).2 N:=by
 have hl:=g.len;have hd:=g.deep;simp at hl hd
 have cn:=g.cn;rw[gT,iW,ja,kY,Nat.zero_add,Nat.zero_add]at cn
 have gx:=g.gl ls.length x j4;have gh:=g.gh hs.length h j4
 have gi:∀ (s:al),va nm ws (jK nm ws (9 - hs.length)) s→ba (ai (9 - hs.length)) s≤ai (10 - ls.length) x.2+oN (9 - hs.length) h→G4 nm ws (ls.dropLast++(match ls.getLast? with
  | some y=>[(y.1,y.2++[s])]
  | none=>[])) hs N:=by
  intro s h1 h2
  obtain⟨l2,y,rfl⟩ : ∃ l2 y,ls=l2++[y]:=⟨ls.dropLast,ls.getLast (fun e=>by rw[e]at hl; cases hl),(List.dropLast_concat_getLast _).symm⟩
  simp at hl h2 gx cn ⊢
  have base:G4 nm ws (l2++[y]) hs (dS 0 (l2++[y])+fk 0 hs):=⟨by simp; omega,by omega,fun k z e=>g.gl k z (iE e),fun k z e=>g.gh k z (iE e),Nat.le_refl _⟩
  have p:=base.put (s:=s) (by rw[hl]; exact h1)
  refine⟨p.len,p.deep,p.gl,p.gh,Nat.le_trans p.cn ?_⟩
  rw[hl];omega
 have e9:10 - ls.length=9 - hs.length:=by omega
 rw[e9]at gx cn
 cases h with
 | lend x' y'=>exact gi (.lend x' y' x.2) ⟨gh.1,gh.2,gx⟩ (by rw[e9]; exact Nat.le_refl _)
 | whl n=>exact gi (.whl n x.2) ⟨gh,gx⟩ (by rw[e9]; exact Nat.le_refl _)
 | els n r b=>exact gi (.ite n b x.2) ⟨gh.1,gh.2,gx⟩ (by rw[e9]; show ai (9 - hs.length) b+ai (9 - hs.length) x.2+3≤ai (9 - hs.length) x.2+(3+ai (9 - hs.length) b); omega)
 | ite n=>
  refine⟨by simp[fc]; omega,by simp[fc]; omega,fun k y e=>?_,fun k y e=>?_,?_⟩
  ·rcases gM (show (ls++[(q,([]:List al))])[k]? = some y from e) with ⟨_,z⟩ | ⟨z,rfl⟩
   ·exact g.gl k y (iE z)
   ·rw[show 10 - k=9 - k+1 by omega]
    exact fun s hs=>by cases hs
  ·rcases gM (show (hs++[Hd4.els n x.1 x.2])[k]? = some y from e) with ⟨_,z⟩ | ⟨z,rfl⟩
   ·exact g.gh k y (iE z)
   ·rw[z]; exact⟨gh,gx⟩
  ·show dS 0 (ls++[(q,([]:List al))])+fk 0 (hs++[Hd4.els n x.1 x.2])≤N
   rw[gT,iW,ja,kY,Nat.zero_add,Nat.zero_add]
   have z:ai (10 - ls.length) ([]:List al)=0:=by
    cases 10 - ls.length <;> rfl
   have cn':dS 0 ls+ai (9 - hs.length) x.2+(fk 0 hs+3)≤N:=cn
   show dS 0 ls+ai (10 - ls.length) []+(fk 0 hs+(3+ai (9 - hs.length) x.2))≤N
   omega
theorem nA{n:Int}(h:n.natAbs<10 ^ 61):n.natAbs.log2<1920:=by
 by_cases z:n.natAbs=0
 ·rw[z]; decide
 ·have:=(Nat.log2_lt z).mpr (Nat.lt_of_lt_of_le h (show 10 ^ 61≤2 ^ 203 by decide))
  omega
theorem gE:∀ (d:Nat) (T:List al),jK nm ws d T→jm d T∧ig d T
 | 0,_,h=>h.elim
 | d+1,T,h=>by
  refine⟨fun s hs=>?_,fun s hs=>?_⟩
  ·have:=h s hs
   cases s with
   | plain us=>exact this.2.1
   | lend x y b=>exact⟨Nat.le_trans this.1.2 (by decide),Nat.le_trans this.2.1.2 (by decide),(gE d b this.2.2).1⟩
   | ite n b c=>exact⟨nA this.1,(gE d b this.2.1).1,(gE d c this.2.2).1⟩
   | whl n b=>exact⟨nA this.1,(gE d b this.2).1⟩
  ·have:=h s hs
   cases s with
   | plain us=>exact⟨this.1,this.2.2.1⟩
   | lend x y b=>exact⟨this.1.1,this.2.1.1,(gE d b this.2.2).2⟩
   | ite n b c=>exact⟨this.1,(gE d b this.2.1).2,(gE d c this.2.2).2⟩
   | whl n b=>exact⟨this.1,(gE d b this.2).2⟩
end
section
variable{P:Program}{w:World}{K:PySem.W.Frag}{mg:Str→Option Value}{base:Heap}
theorem G4.up{nm ws:List Str}{lv:List dw}{hs:List Hd4}{N M:Nat}(g:G4 nm ws lv hs N)(h:N≤M):G4 nm ws lv hs M:=⟨g.len,g.deep,g.gl,g.gh,Nat.le_trans g.cn h⟩
theorem qX{d:Nat}:∀ T:List al,T.length≤ai (d+1) T
 | []=>Nat.zero_le _
 | s::T=>by
  have h1:=(iP (f:=ai d) (l:=0) (s:=s)).2;have h2:=qX (d:=d) T;show T.length+1≤ba (ai d) s+ai (d+1) T
  omega
theorem oJ:∀ (lv:List dw) (k:Nat),k+lv.length≤10→∀ x∈lv,x.2.length≤dS k lv
 | [],_,_,x,h=>by cases h
 | y::lv,k,hk,x,h=>by
  rw[List.length_cons]at hk
  show x.2.length≤ai (10 - k) y.2+dS (k+1) lv
  rcases List.mem_cons.mp h with rfl | h
  ·rw[show 10 - k=9 - k+1 by omega]
   have:=qX (d:=9 - k) x.2
   omega
  ·have:=oJ lv (k+1) (by omega) x h
   omega
theorem G4.short{nm ws:List Str}{lv:List dw}{hs:List Hd4}{N:Nat}(g:G4 nm ws lv hs N):∀ l∈lv,l.2.length≤N:=fun l hl=>by
 have h1:=g.len;have h2:=g.deep;have h3:=oJ lv 0 (by omega) l hl
 have:=g.cn
 omega
def mW:List Hd4→Nat
 | []=>0
 | .ite _::r=>2+mW r
 | _::r=>1+mW r
theorem vx:∀ (a:List Hd4) (h:Hd4),mW (a++[h])=mW a+mW [h]
 | [],h=>by show mW [h]=0+mW [h]; omega
 | x::a,h=>by
  have:=vx a h
  cases x <;> simp only[List.cons_append,mW]at this ⊢ <;> omega
theorem iA{tc:TT}{A B:TS}{D:dj}{σ : L2.St}{H:Hp}(b:Bool)(h:∀ k:Bool→Hp→Prop,(∀ H1,Same H H1→k b H1)→tc σ H k)(ht:b=true→∀ H1,Same H H1→A D σ H1)(hf:b=false→∀ H1,Same H H1→B D σ H1):y_ tc A B D σ H:=h _ fun H1 s1=>by
 cases b with
 | true=>exact ht rfl H1 s1
 | false=>exact hf rfl H1 s1
theorem PI4.pushH{H0 H:Hp}{pp hp:Addr}{lv:List dw}{hs:List Hd4}{S:Addr→Prop}(I:PI4 H0 H pp hp lv hs S){has:List Addr}(hh:H hp=some (.lst (has.map V.ref))){t:Addr}{h:Hd4}(ht:H t=some (.tup (dO h)))(he:∀ n r b,h ≠ .els n r b):PI4 H0 (upd H hp (.lst (has.map V.ref++[.ref t]))) pp hp lv (hs++[h]) S:=by
 obtain⟨has2,k1,k2,k3⟩:=I.head
 rw[hh]at k1
 have:has=has2:=(List.map_inj_right (f:=V.ref) (fun x y e=>V.ref.inj e)).mp (HO.lst.inj (Option.some.inj k1))
 subst this
 have:=(I.heads (hs':=hs++[h]) (has':=has++[t]) (by simp[k2]) (fun k a y e1 e2=>by
  rcases gM e2 with ⟨z,w⟩ | ⟨z,rfl⟩
  ·rw[List.getElem?_append_left (by omega)]at e1
   exact k3 k a y e1 w
  ·rw[z,← k2,List.getElem?_append_right (Nat.le_refl _),Nat.sub_self]at e1
   cases e1;exact⟨ht,fun n r b e=>absurd e (he n r b)⟩)).1
 rw[List.map_append]at this
 exact this
def lM(K:PySem.W.Frag):Sp:=fun vs H Q _=>∃ (ca np wp:Addr) (cs:List Int) (nm ws:List Str) (low:Int),vs=[.ref ca,.ref np,.ref wp,.int low]∧SqL K H ca (cs.map V.int)∧cs.length≤14∧SqL K H np (nm.map V.str)∧SqL K H wp (ws.map V.str)∧Dq nm ws∧low.natAbs<10 ^ 60∧
 ∀ (root:Addr) (H':Hp) (T:List al) (S:Addr→Prop),Same H H'→H root=none→ProgAt S 10 H' root T→jK nm ws 10 T→ai 10 T≤43→Q (.ref root) H'
theorem tK(D:DefAt K mg "_law_program" aH) (z_len:mg "len" = none) (z_int:mg "int" = none) (c_law_mixed:aR P w K mg base 1 "_law_mixed" ["_law_cell", "_law_k"] oi) (c_law_step:aR P w K mg base 2 "_law_step" ["_law_cell", "_law_names", "_law_words_here"] (mz K)) (c_law_shut:aR P w K mg base 1 "_law_shut" ["_law_piles", "_law_heads"] uO):aR P w K mg base 3 "_law_program" ["_law_cells", "_law_names", "_law_words_here", "_law_low"] (lM K):=by
 refine D.cal (k:=2) sc_law_program (fun _ _ _ _ _ _ us hl=>match us,hl with | [_,_,_,_],_=>rfl) (fun vs H Q E h=>by obtain⟨ca,np,wp,cs,nm,ws,low,rfl,_⟩:=h; rfl) (fun f cdv A outer s H vs Q E hr h=>?_)
 obtain⟨ca,np,wp,cs,nm,ws,low,rfl,hca,hcl,hnp,hwp,ok,hlow,q⟩:=h
 refine⟨_,(af (aA 4 sc_law_program.nd (aQ (aa (aQ (aa (aX (aa aJ (aa (aq (aK K) (pv 1) ah (fun _ _=>rfl)) ac))) ac)) ac)))
   (af (aA 5 sc_law_program.nd (aQ ac))
   (af (aA 6 sc_law_program.nd ah)
   (af (aA 7 sc_law_program.nd ah)
   (af (cu PassesOwn.never rfl (cw K (pv 0)) (bq 8 sc_law_program.nd) (af (aA 9 sc_law_program.nd (ap cB (pv 8) ah))
   (af (aA 10 sc_law_program.nd (ap aD (pv 3) (ap cB (az c_law_mixed hr (aa (pv 8) (aa ah ac))) ah)))
   (af (aA 7 sc_law_program.nd (ap aD (pv 7) (fz jL z_int qe (aa (iD bY (pv 9) ah (aP _)) ac))))
   (aj (bE (PW.pt' (h_ (aE bY (pv 9) ah (aP _)) (h_ (aE jA (pv 6) ah (aP _)) (iK (aE jA (bS (bc K) z_len b6 (aa (pv 5) ac)) ah (aP _)))))) (af (aA 6 sc_law_program.nd (ap aD (pv 6) ah))
   (af (aO (bL K PySem.F.plainAttrs_list PySem.F.slot_list_append PySem.F.type_list_append bx (pv 5) (aa (aX (aa aJ (aa (aq (aK K) (pv 1) (ap cB (az c_law_mixed hr (aa (pv 8) (aa ah ac))) (bS (bc K) z_len b6 (aa (pv 1) ac))) (fun _ _=>rfl)) (aa (aq (aK K) (pv 1) (ap cB (az c_law_mixed hr (aa (pv 8) (aa ah ac))) (bS (bc K) z_len b6 (aa (pv 1) ac))) (fun _ _=>rfl)) ac)))) ac)))
   (aj (aO (bL K PySem.F.plainAttrs_list PySem.F.slot_list_append PySem.F.type_list_append bx (pv 4) (aa (aQ ac) ac)))))) (aj (bE (PW.pt' (h_ (aE (pW K) (pv 9) (aX (aa ah (aa ah (aa ah ac)))) (by with_unfolding_all rfl)) (iK (aE jA (bS (bc K) z_len b6 (aa (pv 5) ac)) ah (aP _))))) (af (aO (bL K PySem.F.plainAttrs_list PySem.F.slot_list_append PySem.F.type_list_append bx (pv 5) (aa (aX (aa (aq (aK K) (aQ (aa aJ (aa aJ (aa aJ ac)))) (ap js (pv 9) ah) (fun _ _=>rfl)) (aa (pv 10) ac))) ac)))
   (aj (aO (bL K PySem.F.plainAttrs_list PySem.F.slot_list_append PySem.F.type_list_append bx (pv 4) (aa (aQ ac) ac))))) (aj (bE (PW.pt' (h_ (aE (pW K) (pv 9) (aX (aa ah (aa ah ac))) (by with_unfolding_all rfl)) (iK (aE (iH K hr) (pv 5) (aQ ac) (aP _))))) (aj (aO (az c_law_shut hr (aa (pv 4) (aa (pv 5) ac))))) (aj (aO (bL K PySem.F.plainAttrs_list PySem.F.slot_list_append PySem.F.type_list_append bx (aq (aK K) (pv 4) (j3 iu ah) (fun _ _=>rfl)) (aa (az c_law_step hr (aa (ap aD (pv 8) (fz jL z_int qe (aa (CH (iD bY (pv 9) ah (aP _)) (En (iD uy (pv 7) ah (aP _)))) ac))) (aa (pv 1) (aa (pv 2) ac)))) ac))))))))))))))
   (af (pS PassesOwn.never (aE (iH K hr) (pv 5) (aQ ac) (aP _)) (aj (aO (az c_law_shut hr (aa (pv 4) (aa (pv 5) ac))))))
   (aj (aG (aq (aK K) (pv 4) ah (fun _ _=>rfl)))))))))),?_⟩
 walk_at "rd1"
 obtain⟨x0,nr,hnm⟩ : ∃ x0 nr,nm=x0::nr:=by
  cases nm with
  | nil=>have:=ok.n1.1; cases this
  | cons x0 nr=>exact⟨x0,nr,rfl⟩
 have hx0:x0∈nm:=by rw[hnm]; exact List.mem_cons_self
 refine⟨_,.str x0,.inl hnp,by rw[hnm]; exact cZ,by decide,fun p1 hp1=>?_⟩
 have s1:=ak hp1 (.tup [V.str "open", .str x0]);have e1:upd H p1 (.tup [V.str "open", .str x0]) p1=some (.tup ((["open", x0]:List Str).map V.str)):=ae
 generalize upd H p1 (.tup [V.str "open", .str x0])=H1 at s1 e1 ⊢;refine⟨by decide,fun q0 hq0=>?_⟩
 have s2:=ak hq0 (.lst [.ref p1]);have e2:upd H1 q0 (.lst [.ref p1]) q0=some (.lst (([p1]:List Addr).map V.ref)):=ae
 generalize upd H1 q0 (.lst [.ref p1])=H2 at s2 e2 ⊢;refine⟨by decide,fun pp hpp=>?_⟩
 have s3:=ak hpp (.lst [.ref q0]);have e3:upd H2 pp (.lst [.ref q0]) pp=some (.lst [.ref q0]):=ae
 generalize upd H2 pp (.lst [.ref q0])=H3 at s3 e3 ⊢;walk_at "nx";refine⟨by decide,fun hp hhp=>?_⟩
 have s4:=ak hhp (.lst []);have e4:upd H3 hp (.lst []) hp=some (.lst (([]:List Addr).map V.ref)):=ae
 generalize upd H3 hp (.lst [])=H4 at s4 e4 ⊢;have sH2:=s1.trans s2;have sH3:=sH2.trans s3
 have pl0:z_ nm ws ["open", x0]:=by
  obtain⟨fx,lx⟩:=ok.nf x0 hx0
  exact⟨.op x0,mC (.op x0) (by simp; exact⟨by decide,by omega⟩),by simp; exact⟨by unfold fE; decide,fx⟩,fun w z e=>by simp at e⟩
 have I0:PI4 H H4 pp hp [(q0,[.plain ["open", x0]])] [] (fun _=>False):=by
  refine⟨sH3.trans s4,s4 _ _ e3,⟨[],e4,rfl,fun k a h e=>by cases e⟩,fun k x e=>?_,?_,fun b _ z=>z,fun b hb=>?_,fun b hb=>hb.elim⟩
  ·match k,e with
   | 0,e=>
    cases e;exact⟨[p1],s4 _ _ (s3 _ _ e2),.cons (s4 _ _ (s3 _ _ (s2 _ _ e1))) .nil⟩
  ·have n1:pp≠hp:=fun e=>by rw[← e,e3]at hhp; cases hhp
   have n2:pp≠q0:=fun e=>by rw[e,e2]at hpp; cases hpp
   have n3:hp≠q0:=fun e=>by rw[e,s3 _ _ e2]at hhp; cases hhp
   simp[n1,n2,n3]
  ·rcases List.mem_cons.mp hb with rfl | hb
   ·exact sH2.free hpp
   ·rcases List.mem_cons.mp hb with rfl | hb
    ·exact sH3.free hhp
    ·rw[List.mem_singleton.mp hb]; exact s1.free hq0
 have G0:G4 nm ws [(q0,[.plain ["open", x0]])] [] 1:=by
  refine⟨rfl,Nat.zero_le _,fun k x e=>?_,fun k h e=>(by cases e),Nat.le_refl _⟩
  match k,e with
  | 0,e=>
   cases e;intro s hs
   rw[List.mem_singleton.mp hs];exact pl0
 walk_at "nx";walk_at "nx";walk_at "nx";have hca4:=(sH3.trans s4).seq hca;refine⟨⟨_,hca4⟩,?_⟩
 refine c6 (xs:=cs.map V.int) (fun i σ H'=>∃ (lv:List dw) (hs:List Hd4) (S:Addr→Prop) (u v:Int) (o8 o9 o10:Option V),σ=[some (.ref ca),some (.ref np),some (.ref wp),some (.int low),some (.ref pp),some (.ref hp),some (.int u),some (.int v),o8,o9,o10]∧PI4 H H' pp hp lv hs S∧G4 nm ws lv hs (1+3 * i)∧hs.length≤4)
  ⟨_,_,_,0,0,none,none,none,rfl,I0,G0,by decide⟩ (fun i σ H' _ h=>by obtain⟨_,_,_,_,_,_,_,_,_,I,_⟩:=h; exact I.sm.seq hca) ?_ ?_
 ·rintro i v σ H' hv ⟨lv,hs,S,u,v',o8,o9,o10,rfl,I,G,hd4⟩
  have hi:i<cs.length:=by have:=(List.getElem?_eq_some_iff.mp hv).1; simpa using this
  rw[List.getElem?_map,List.getElem?_eq_getElem hi]at hv
  cases hv;generalize cs[i]=c
  walk_at "rd1";refine⟨by decide,?_⟩
  walk_at "nx";refine⟨c,5,rfl,by decide,by decide,?_⟩
  walk_at "rd1";refine⟨by decide,?_⟩
  walk_at "nx"
  have hb:(low+eS c 5 % 3).natAbs<10 ^ 61:=by
   have:=(Bg c 5).1
   omega
  generalize low+eS c 5 % 3=bd at hb ⊢;obtain⟨has,k1,k2,k3⟩:=id I.head
  have hk1:(has.map V.ref).length=hs.length:=by rw[List.length_map]; exact k2
  have sf:Same H' H':=fun _ _ z=>z
  by_cases hA:c % 16=9∧u<2∧hs.length<4
  ·refine iA true (fun k hk=>?_) (fun _ H1 s1=>?_) (fun z=>(by cases z))
   ·walk_at "rd1"
    rw[if_pos hA.1,if_pos hA.2.1];exact⟨_,.inl (SqL.of k1),by rw[hk1,decide_eq_true (by omega)]; exact hk _ sf⟩
   obtain⟨x,hx,ax⟩:=lf ok.n1.1 (eS c 1)
   obtain⟨y,hy,ay⟩:=lf ok.n1.1 (eS c 2)
   have n1:=ok.n1.1;have I1:=I.alloc s1;have k1':=s1 _ _ k1;have hnp1:=I1.sm.seq hnp;walk_at "rd1";walk_at "nx";refine⟨⟨_,SqL.of k1'⟩,c,1,rfl,by decide,by decide,_,.inl hnp1,?_⟩
   rw[List.length_map];walk_at "rd1";refine⟨by omega,_,_,.inl hnp1,ax,c,2,rfl,by decide,by decide,_,.inl hnp1,?_⟩
   rw[List.length_map];walk_at "rd1";refine⟨by omega,_,_,.inl hnp1,ay,by decide,fun t ht=>?_⟩
   have s2:=ak ht (.tup [V.str "lend", .str x,.str y]);have e2:upd H1 t (.tup [V.str "lend", .str x,.str y]) t=some (.tup (dO (.lend x y))):=ae
   generalize upd H1 t (.tup [V.str "lend", .str x,.str y])=H3 at s2 e2 ⊢;have kk:=s2 _ _ k1';refine⟨_,kk,bX (by rw[hk1]; omega),?_⟩
   have I3:=(I1.alloc s2).pushH kk e2 (fun _ _ _ e=>by cases e)
   generalize upd H3 hp (.lst (has.map V.ref++[.ref t]))=H4' at I3 ⊢;walk_at "nx";refine⟨⟨_,SqL.of I3.pile⟩,by decide,fun q2 hq2=>?_⟩
   have nqp:q2≠pp:=fun e=>by rw[e,I3.pile]at hq2; cases hq2
   refine⟨_,by rw[am nqp.symm]; exact I3.pile,bX (by rw[List.length_map]; have:=G.len; omega),?_⟩
   have G1:=G.push (h:=.lend x y) (by omega) q2 ⟨ok.nf x hx,ok.nf y hy⟩ (by show 2≤3; decide)
   rw[show 1+3 * i+3=1+3 * (i+1) by omega]at G1
   exact⟨_,_,_,_,_,_,_,_,rfl,I3.pushP hq2,G1,by rw[List.length_append,List.length_singleton]; omega⟩
  refine iA false (fun k hk=>?_) (fun z=>(by cases z)) (fun _ H1 s1=>?_)
  ·walk_at "rd1"
   exact bG (fun c1=>bG (fun c2=>⟨_,.inl (SqL.of k1),by rw[hk1,decide_eq_false (fun z=>hA ⟨c1,c2,by omega⟩)]; exact hk _ sf⟩) (fun _=>hk _ sf)) (fun _=>hk _ sf)
  have I1:=I.alloc s1;have k1':=s1 _ _ k1
  by_cases hB:(10≤c % 16∧c % 16≤12)∧hs.length<4
  ·refine iA true (fun k hk=>?_) (fun _ H2 s2=>?_) (fun z=>(by cases z))
   ·walk_at "rd1"
    refine⟨by decide,fun p hp'=>?_⟩
    have s2:=ak hp' (.tup [V.int 10,V.int 11,V.int 12]);have e2:upd H1 p (.tup [V.int 10,V.int 11,V.int 12]) p=some (.tup [V.int 10,V.int 11,V.int 12]):=ae
    generalize upd H1 p (.tup [V.int 10,V.int 11,V.int 12])=H2 at s2 e2 ⊢;refine⟨_,.inr (SqT.of e2),rfl,rfl,?_⟩
    rw[if_pos (by simp[jQ,fg]; omega)]
    exact⟨_,.inl (SqL.of (s2 _ _ k1')),by rw[hk1,decide_eq_true (by omega)]; exact hk _ s2⟩
   have I2:=I1.alloc s2;have k2':=s2 _ _ k1';walk_at "rd1";refine⟨⟨_,SqL.of k2'⟩,by decide,fun l3 hl3=>?_⟩
   have s3:=ak hl3 (.lst [V.str "if", V.str "while", V.str "while"])
   have e3:upd H2 l3 (.lst [V.str "if", V.str "while", V.str "while"]) l3=some (.lst [V.str "if", V.str "while", V.str "while"]):=ae
   generalize upd H2 l3 (.lst [V.str "if", V.str "while", V.str "while"])=H5 at s3 e3 ⊢
   obtain⟨hd,vd,hv,hdv,hg,ho,hne⟩ : ∃ (hd:Hd4) (vd:Str),ej [V.str "if", V.str "while", V.str "while"] (c % 16 - 10)=some (.str vd)∧dO hd=[.str vd,.int bd]∧Dy nm ws (9 - hs.length) hd∧oN (9 - hs.length) hd≤3∧∀ n r b,hd ≠ .els n r b:=by
    by_cases c10:c % 16=10
    ·rw[c10]
     exact⟨.ite bd, "if", rfl,rfl,hb,by show 3≤3; decide,fun _ _ _ e=>by cases e⟩
    ·by_cases c11:c % 16=11
     ·rw[c11]
      exact⟨.whl bd, "while", rfl,rfl,hb,by show 2≤3; decide,fun _ _ _ e=>by cases e⟩
     ·rw[show c % 16=12 by omega]
      exact⟨.whl bd, "while", rfl,rfl,hb,by show 2≤3; decide,fun _ _ _ e=>by cases e⟩
   refine⟨_,_,.inl (SqL.of e3),hv,by decide,fun t ht=>?_⟩
   have s4':=ak ht (.tup [V.str vd,.int bd]);have e4':upd H5 t (.tup [V.str vd,.int bd]) t=some (.tup (dO hd)):=by rw[hdv]; exact ae
   generalize upd H5 t (.tup [V.str vd,.int bd])=H6 at s4' e4' ⊢;have kk:=s4' _ _ (s3 _ _ k2');refine⟨_,kk,bX (by rw[hk1]; omega),?_⟩
   have I3:=((I2.alloc s3).alloc s4').pushH kk e4' hne;generalize upd H6 hp (.lst (has.map V.ref++[.ref t]))=H7 at I3 ⊢;walk_at "nx";refine⟨⟨_,SqL.of I3.pile⟩,by decide,fun q2 hq2=>?_⟩
   have nqp:q2≠pp:=fun e=>by rw[e,I3.pile]at hq2; cases hq2
   refine⟨_,by rw[am nqp.symm]; exact I3.pile,bX (by rw[List.length_map]; have:=G.len; omega),?_⟩
   have G1:=G.push (h:=hd) (by omega) q2 hg ho
   rw[show 1+3 * i+3=1+3 * (i+1) by omega]at G1
   exact⟨_,_,_,_,_,_,_,_,rfl,I3.pushP hq2,G1,by rw[List.length_append,List.length_singleton]; omega⟩
  refine iA false (fun k hk=>?_) (fun z=>(by cases z)) (fun _ H2 s2=>?_)
  ·walk_at "rd1"
   refine⟨by decide,fun p hp'=>?_⟩
   have s2:=ak hp' (.tup [V.int 10,V.int 11,V.int 12]);have e2:upd H1 p (.tup [V.int 10,V.int 11,V.int 12]) p=some (.tup [V.int 10,V.int 11,V.int 12]):=ae
   generalize upd H1 p (.tup [V.int 10,V.int 11,V.int 12])=H2 at s2 e2 ⊢;refine⟨_,.inr (SqT.of e2),rfl,rfl,bG (fun c1=>⟨_,.inl (SqL.of (s2 _ _ k1')),?_⟩) (fun _=>hk _ s2)⟩
   have:10≤c % 16∧c % 16≤12:=by simp[jQ,fg]at c1; omega
   rw[hk1,decide_eq_false (fun z=>hB ⟨this,by omega⟩)]
   exact hk _ s2
  have I2:=I1.alloc s2;have k2':=s2 _ _ k1'
  by_cases hC:(c % 16=13∨c % 16=14)∧hs≠[]
  ·refine iA true (fun k hk=>?_) (fun _ H3 s3=>?_) (fun z=>(by cases z))
   ·walk_at "rd1"
    refine⟨by decide,fun p hp'=>?_⟩
    have s3:=ak hp' (.tup [V.int 13,V.int 14]);have e3:upd H2 p (.tup [V.int 13,V.int 14]) p=some (.tup [V.int 13,V.int 14]):=ae
    generalize upd H2 p (.tup [V.int 13,V.int 14])=H3 at s3 e3 ⊢;refine⟨_,.inr (SqT.of e3),rfl,rfl,?_⟩
    rw[if_pos (by simp[jQ,fg]; omega)]
    refine⟨by decide,fun p1 hp1'=>?_⟩
    have s4':=ak hp1' (.lst []);have e4':upd H3 p1 (.lst []) p1=some (.lst []):=ae
    generalize upd H3 p1 (.lst [])=H5 at s4' e4' ⊢;have kk:=s4' _ _ (s3 _ _ k2');exact⟨0,false,by decide,.inr ⟨hp,p1,_,_,rfl,rfl,.inl ⟨SqL.of kk,SqL.of e4'⟩,.inr ⟨SqL.of kk,SqL.of e4',by rw[hk1]; simpa using hC.2,rfl⟩⟩,hk _ (s3.trans s4')⟩
   have I3:=I2.alloc s3;walk_at "rd1";obtain⟨ls,x,rfl⟩ : ∃ ls x,lv=ls++[x]:=⟨lv.dropLast,lv.getLast (fun e=>by have:=G.len; rw[e]at this; cases this),(List.dropLast_concat_getLast _).symm⟩
   obtain⟨hi,h,rfl⟩ : ∃ hi h,hs=hi++[h]:=⟨hs.dropLast,hs.getLast hC.2,(List.dropLast_concat_getLast _).symm⟩
   have hl:=G.len;rw[List.length_append,List.length_append,List.length_singleton,List.length_singleton]at hl
   rw[List.length_append,List.length_singleton]at hd4
   have hsh:=G.short;refine⟨pp,hp,H,ls,x,hi,h,S,rfl,I3,by omega,by omega,fun l hl=>Nat.le_trans (hsh l (List.mem_append_left _ hl)) (by omega),fun q' H' S' I'=>?_⟩
   refine⟨_,_,S',_,_,_,_,_,rfl,I',(G.shut q').up (by omega),?_⟩
   cases h <;> simp[fc] <;> omega
  refine iA false (fun k hk=>?_) (fun z=>(by cases z)) (fun _ H3 s3=>?_)
  ·walk_at "rd1"
   refine⟨by decide,fun p hp'=>?_⟩
   have s3:=ak hp' (.tup [V.int 13,V.int 14]);have e3:upd H2 p (.tup [V.int 13,V.int 14]) p=some (.tup [V.int 13,V.int 14]):=ae
   generalize upd H2 p (.tup [V.int 13,V.int 14])=H3 at s3 e3 ⊢;refine⟨_,.inr (SqT.of e3),rfl,rfl,?_⟩
   refine bG (fun c1=>?_) (fun _=>hk _ s3)
   have h0:hs=[]:=Decidable.byContradiction fun z=>hC ⟨by simp[jQ,fg]at c1; omega,z⟩
   refine⟨by decide,fun p1 hp1'=>?_⟩
   have s4':=ak hp1' (.lst []);have e4':upd H3 p1 (.lst []) p1=some (.lst []):=ae
   generalize upd H3 p1 (.lst [])=H5 at s4' e4' ⊢;have kk:=s4' _ _ (s3 _ _ k2');have hz:has=[]:=by rw[h0]at k2; exact List.eq_nil_of_length_eq_zero k2
   rw[hz]at kk
   exact⟨0,true,by decide,EqN.seqFlat (.inl ⟨SqL.of kk,SqL.of e4'⟩) (by simp),hk _ (s3.trans s4')⟩
  have I3:=I2.alloc s3;walk_at "rd1";obtain⟨ls,x,rfl⟩ : ∃ ls x,lv=ls++[x]:=⟨lv.dropLast,lv.getLast (fun e=>by have:=G.len; rw[e]at this; cases this),(List.dropLast_concat_getLast _).symm⟩
  obtain⟨asx,hx1,hx2⟩:=I3.fr ls.length x j4
  have hxl:asx.length≤1000:=by
   rw[aL hx2];exact Nat.le_trans (G.short x (List.mem_append_right _ (List.mem_singleton.mpr rfl))) (by omega)
  have stp:∀ z:Int,mz K [.int z,.ref np,.ref wp] H3 (fun x' H1=>fX (.ref x.1) [x'] H1 fun _ H1=>∃ (lv:List dw) (hs:List Hd4) (S:Addr→Prop) (u_1 v:Int) (o8 o9 o10:Option V),[some (.ref ca),some (.ref np),some (.ref wp),some (.int low),some (.ref pp),some (.ref hp),some (.int u),some (.int (v'+if c % 16=8 then 1 else 0)),some (.int c),some (.int (c % 16)),some (.int bd)]=[some (.ref ca),some (.ref np),some (.ref wp),some (.int low),some (.ref pp),some (.ref hp),some (.int u_1),some (.int v),o8,o9,o10]∧PI4 H H1 pp hp lv hs S∧G4 nm ws lv hs (1+3 * (i+1))∧hs.length≤4) E0:=by
   intro z
   refine⟨z,np,wp,nm,ws,rfl,I3.sm.seq hnp,I3.sm.seq hwp,ok,fun t us ht hp4=>?_⟩
   have s5:=ak ht (.tup (us.map V.str));have e5:upd H3 t (.tup (us.map V.str)) t=some (.tup (us.map V.str)):=ae
   generalize upd H3 t (.tup (us.map V.str))=H5 at s5 e5 ⊢;have hx5:=s5 _ _ hx1;refine⟨x.1,_,_,rfl,rfl,hx5,bX (by rw[List.length_map]; omega),?_⟩
   exact⟨_,hs,S,_,_,_,_,_,rfl,(I3.alloc s5).put (s:=.plain us) e5 hx5,(G.put (s:=.plain us) hp4).up (by show 1+3 * i+1≤_; omega),hd4⟩
  exact⟨_,.ref x.1,.inl (SqL.of I3.pile),qL (by simp),.inl ⟨rfl,_,SqL.of hx1⟩,bG (fun _=>stp _) (fun _=>stp _)⟩
 rintro σ H' ⟨lv,hs,S,u,v,o8,o9,o10,rfl,I,G,hd4⟩
 walk_at "nx";rw[List.length_map]at G
 refine⟨fun m σ H'=>∃ (lv:List dw) (hs:List Hd4) (S:Addr→Prop),σ=[some (.ref ca),some (.ref np),some (.ref wp),some (.int low),some (.ref pp),some (.ref hp),some (.int u),some (.int v),o8,o9,o10]∧PI4 H H' pp hp lv hs S∧G4 nm ws lv hs 43∧hs.length≤4∧mW hs=m,⟨mW hs,lv,hs,S,rfl,I,G.up (by omega),hd4,rfl⟩,?_⟩
 rintro m σ H' ⟨lv,hs,S,rfl,I,G,hd4,rfl⟩
 obtain⟨has,k1,k2,k3⟩:=id I.head
 walk_at "rd1";refine⟨by decide,fun p1 hp1'=>?_⟩
 have s5:=ak hp1' (.lst []);have e5:upd H' p1 (.lst []) p1=some (.lst []):=ae
 generalize upd H' p1 (.lst [])=H5 at s5 e5 ⊢;have I5:=I.alloc s5;have kk:=s5 _ _ k1
 by_cases h0:hs=[]
 ·have hz:has=[]:=by rw[h0]at k2; exact List.eq_nil_of_length_eq_zero k2
  rw[hz]at kk
  refine⟨0,true,by decide,EqN.seqFlat (.inl ⟨SqL.of kk,SqL.of e5⟩) (by simp),?_⟩
  rw[if_neg (by decide)]
  subst h0;have hl:=G.len
  obtain⟨x,rfl⟩ : ∃ x,lv=[x]:=by
   match lv,hl with
   | [x],_=>exact⟨x,rfl⟩
  obtain⟨as,h1,h2⟩:=I5.fr 0 x rfl
  walk_at "nx";refine⟨_,_,.inl (SqL.of I5.pile),cZ,?_⟩
  exact q x.1 H5 x.2 (fun b=>S b∨b=x.1) I5.sm (I5.nw x.1 (by simp)) ⟨.inr rfl,as,h1,gC (fun _ _ z=>z) (fun _ _ _ z=>z) (fun _ z=>.inl z) h2⟩ (G.gl 0 x rfl) (by have:=G.cn; exact this)
 ·refine⟨0,false,by decide,.inr ⟨hp,p1,_,_,rfl,rfl,.inl ⟨SqL.of kk,SqL.of e5⟩,.inr ⟨SqL.of kk,SqL.of e5,by rw[List.length_map,k2]; simpa using h0,rfl⟩⟩,?_⟩
  rw[if_pos (by decide)]
  obtain⟨ls,x,rfl⟩ : ∃ ls x,lv=ls++[x]:=⟨lv.dropLast,lv.getLast (fun e=>by have:=G.len; rw[e]at this; cases this),(List.dropLast_concat_getLast _).symm⟩
  obtain⟨hi,h,rfl⟩ : ∃ hi h,hs=hi++[h]:=⟨hs.dropLast,hs.getLast h0,(List.dropLast_concat_getLast _).symm⟩
  have hl:=G.len;rw[List.length_append,List.length_append,List.length_singleton,List.length_singleton]at hl
  rw[List.length_append,List.length_singleton]at hd4
  have hsh:=G.short;refine⟨fun σ' H''=>∃ (lv:List dw) (hs:List Hd4) (S:Addr→Prop),σ'=[some (.ref ca),some (.ref np),some (.ref wp),some (.int low),some (.ref pp),some (.ref hp),some (.int u),some (.int v),o8,o9,o10]∧PI4 H H'' pp hp lv hs S∧G4 nm ws lv hs 43∧hs.length≤4∧mW hs<mW (hi++[h]),fun σ' H'' ⟨lv,hs,S,z1,z2,z3,z4,z5⟩=>⟨mW hs,z5,lv,hs,S,z1,z2,z3,z4,rfl⟩,?_⟩
  refine⟨pp,hp,H,ls,x,hi,h,S,rfl,I5,by omega,by omega,fun l hl=>Nat.le_trans (hsh l (List.mem_append_left _ hl)) (by decide),fun q' H'' S' I'=>?_⟩
  refine⟨_,_,S',rfl,I',G.shut q',?_,?_⟩
  ·cases h <;> simp[fc] <;> omega
  ·cases h <;> simp only[fc,vx,mW] <;> omega
theorem xj{e:List V}(h:iU e):∀ v∈e,cA v=true:=by
 intro v hv
 cases h <;> simp only[List.mem_cons,List.not_mem_nil,or_false]at hv <;> rcases hv with rfl | rfl | rfl | rfl <;> rfl
def pC:Sp:=fun vs H Q _=>∃ (c low:Int),vs=[.int c,.int low]∧∀ n:Int,Q (.int n) H
theorem yO(D:DefAt K mg "_law_input" fu):aR P w K mg base 1 "_law_input" ["_law_cell", "_law_low"] pC:=by
 refine D.cal (k:=0) o_ (fun _ _ _ _ _ _ us hl=>match us,hl with | [_,_],_=>rfl) (fun vs H Q E h=>by obtain⟨c,low,rfl,_⟩:=h; rfl) (fun f cdv A outer s H vs Q E hr h=>?_)
 obtain⟨c,low,rfl,q⟩:=h
 refine⟨_,(af (bE (aE bY (ap cB (ap mq (pv 0) ah) ah) ah (aP _)) (aj (aG (ap js (ap cB (ap eX (pv 0) ah) (ap aD (ap eX ah (ap k8 ah ah)) ah)) (ap k8 ah ah)))) bH)
   (aj (aG (ap js (ap aD (pv 1) (ap cB (pv 0) ah)) ah)))),?_⟩
 walk_at "rd1";refine⟨⟨by decide,by decide⟩,by decide,bG (fun _=>?_) (fun _=>?_)⟩
 ·exact⟨.inr ⟨by decide,by decide⟩,⟨by decide,by decide,by decide⟩,.inl ⟨by decide,by decide⟩,by decide,⟨by decide,by decide,by decide⟩,q _⟩
 ·walk_at "nx"
  exact⟨by decide,q _⟩
def LogAt(H:Hp)(fp:Addr)(es:List Addr)(L:List (List V)):Prop:=H fp=some (.lst (es.map V.ref))∧Paired (fun a e=>H a=some (.tup e)) es L
theorem LogAt.mono{H H':Hp}{fp:Addr}{es:List Addr}{L:List (List V)}(h:LogAt H fp es L)(s:Same H H'):LogAt H' fp es L:=⟨s _ _ h.1,Paired.imp' (fun a e y=>s _ _ y) h.2⟩
def kQ:Sp:=fun vs H Q _=>∃ (fp gp:Addr) (es fs:List Addr) (L:List (List V)),vs=[.ref fp,.ref gp]∧LogAt H fp es L∧LogAt H gp fs L∧(∀ e∈L,iU e)∧∀ H',Same H H'→Q (.bl true) H'
theorem vO(D:DefAt K mg "_law_is_log" bQ) (z_isinstance:mg "isinstance" = none) (z_list:mg "list" = none) (z_tuple:mg "tuple" = none) (z_len:mg "len" = none) (z_zip:mg "zip" = none):aR P w K mg base 1 "_law_is_log" ["_law_found", "_law_due"] kQ:=by
 refine D.cal (k:=0) sc_law_is_log (fun _ _ _ _ _ _ us hl=>match us,hl with | [_,_],_=>rfl) (fun vs H Q E h=>by obtain⟨fp,gp,es,fs,L,rfl,_⟩:=h; rfl) (fun f cdv A outer s H vs Q E hr h=>?_)
 obtain⟨fp,gp,es,fs,L,rfl,hF,hG,ok,q⟩:=h
 have hfl:=aL hF.2;have hgl:=aL hG.2
 refine⟨_,(af (bE (PW.pt' (n_ (iJ (gn (bS pF z_isinstance jk (aa (pv 0) (aa (vh z_list gH) ac))))) (pN (aE lP (bS (bc K) z_len b6 (aa (pv 0) ac)) (bS (bc K) z_len b6 (aa (pv 1) ac)) (aP _))))) (aj (aG eZ)) bH)
   (af (cu PassesOwn.never rfl (AQ K HR z_zip (aa (pv 0) (aa (pv 1) ac))) (gf K (n:=2) (cO (bq 2 sc_law_is_log.nd) (cO (bq 3 sc_law_is_log.nd) gd))) (aj (bE (PW.pt' (n_ (iJ (gn (bS pF z_isinstance jk (aa (pv 2) (aa (vh z_tuple pB) ac))))) (pN (aE (iH K hr) (pv 2) (pv 3) (aP _))))) (aj (aG eZ)) bH)))
   (aj (aG eZ)))),?_⟩
 walk_at "rd1";refine⟨"list", by simp[c7,hF.1],by decide,?_⟩
 rw[if_neg (by decide)]
 refine⟨_,.inl (SqL.of hF.1),_,.inl (SqL.of hG.1),?_⟩
 rw[if_neg (by simp[hfl,hgl])]
 walk_at "nx";refine⟨⟨_,SqL.of hF.1⟩,⟨_,SqL.of hG.1⟩,?_⟩
 refine ye (xs:=es.map V.ref) (ys:=fs.map V.ref) (fun k σ H'=>∃ o2 o3:Option V,σ=[some (.ref fp),some (.ref gp),o2,o3]∧Same H H') (by rw[List.length_map,List.length_map,hfl,hgl]) ⟨none,none,rfl,fun _ _ z=>z⟩ (fun i σ H' _ h=>by obtain⟨_,_,_,sm⟩:=h; exact⟨SqL.of (sm _ _ hF.1),SqL.of (sm _ _ hG.1)⟩) ?_ ?_
 ·rintro i x y t σ H' hx hy ⟨o2,o3,rfl,sm⟩ ht
  rw[List.getElem?_map]at hx hy
  cases f1:es[i]? with
  | none=>rw[f1]at hx; cases hx
  | some a=>
   cases f2:fs[i]? with
   | none=>rw[f2]at hy; cases hy
   | some b=>
    rw[f1]at hx
    rw[f2]at hy
    cases hx
    cases hy;obtain⟨e,he,ha⟩:=cv hF.2 f1
    obtain⟨e',he',hb⟩:=cv hG.2 f2
    rw[he]at he'
    cases he';have s1:=ak ht (.tup [.ref a,.ref b]);have e1:upd H' t (.tup [.ref a,.ref b]) t=some (.tup [.ref a,.ref b]):=ae
    generalize upd H' t (.tup [.ref a,.ref b])=H1 at s1 e1 ⊢;have ha1:=s1 _ _ (sm _ _ ha);have hb1:=s1 _ _ (sm _ _ hb);walk_at "rd1";refine⟨t,_,rfl,SqT.of e1,rfl,_,_,rfl,_,_,rfl,rfl, "tuple", by simp[c7,ha1],by decide,?_⟩
    rw[if_neg (by decide)]
    refine⟨a,b,0,true,rfl,rfl,by decide,EqN.seqFlat (.inr ⟨SqT.of ha1,SqT.of hb1⟩) (xj (ok e (List.mem_of_getElem? he))),_,rfl,?_⟩
    rw[if_neg (by decide)]
    exact⟨_,_,rfl,sm.trans s1⟩
 rintro σ H' ⟨o2,o3,rfl,sm⟩
 walk_at "nx";exact q H' sm
end
abbrev eR:Stmt:=top 4
theorem nS:ar ["side", "word"] ["side", "word"] (defScope eR):=mKk
abbrev aB:Stmt:=inClass (top 8) 0
theorem sc_Watch___init__:ar ["self", "rule", "blames", "column", "place", "word"] ["self", "rule", "blames", "column"] (defScope aB):=mKk
theorem GM:aT (defScope aB) "place" := Or.inr (by decide +kernel)
theorem JJ:gLk aB "enumerate":=by decide +kernel
abbrev cm:Stmt:=inClass (top 8) 1
theorem kK:ar ["self", "at"] ["self", "at"] (defScope cm):=mKk
abbrev bh:Stmt:=inClass (top 8) 2
theorem sc_Watch_begin_tie:ar ["self", "one", "other", "start", "tied"] ["self", "one", "other", "start"] (defScope bh):=mKk
abbrev aU:Stmt:=inClass (top 8) 4
theorem sc_Watch_rows_with:ar ["self", "handle", "word", "rows", "side", "text"] ["self", "handle", "word"] (defScope aU):=mKk
theorem FN:ao (defScope aU) "text" := Or.inr (Or.inl (by decide +kernel))
theorem FU:aT (defScope aU) "text" := Or.inr (by decide +kernel)
abbrev bu:Stmt:=inClass (top 8) 6
theorem sc_Watch_broken_by:ar ["self", "handle", "word", "broken", "handles", "text", "room", "start"] ["self", "handle", "word"] (defScope bu):=mKk
abbrev cx:Stmt:=inClass (top 8) 7
theorem ml:ar ["self", "handle", "word", "handles", "text"] ["self", "handle", "word"] (defScope cx):=mKk
abbrev bM:Stmt:=top 9
theorem sc_watch_of:ar ["place", "named", "column", "rule", "blame"] ["place", "named", "column"] (defScope bM):=mKk
theorem Cm:ao (defScope bM) "rule" := Or.inr (Or.inl (by decide +kernel))
theorem GS:aT (defScope bM) "rule" := Or.inr (by decide +kernel)
theorem Gb:aT (defScope bM) "blame" := Or.inr (by decide +kernel)
abbrev bZ:Stmt:=top 10
theorem nU:ar ["rules"] ["rules"] (defScope bZ):=mKk
theorem Jh:gLk bZ "enumerate":=by decide +kernel
abbrev ck:Stmt:=top 11
theorem sc_all_begin_tie:ar ["watches", "one", "other", "start", "watch"] ["watches", "one", "other", "start"] (defScope ck):=mKk
abbrev bb:Stmt:=top 12
theorem sc_broken_or_gone_on:ar ["watches", "at", "handle", "word", "broken", "watch", "first"] ["watches", "at", "handle", "word"] (defScope bb):=mKk
set_option genInjectivity false in
set_option genSizeOf false in
structure Rl where
 s:Int
 ws:List Str
 rs:List (List (Option Nat))
structure kZ (r:Rl):Prop where
 s:r.s=1∨r.s=2
 nw:r.ws.length≤16
 n0:1≤r.rs.length
 n1:r.rs.length≤60
 row:∀ x∈r.rs,x.length=r.ws.length∧∀ k,some k∈x→k<r.rs.length
 lw:∀ w∈r.ws,w.length≤10
def RoomsAs(H:Hp)(p:Addr)(rs:List (List (Option Nat)))(as:List Addr):Prop:=
 H p=some (.lst (as.map V.ref))∧as.length=rs.length∧∀ (i:Nat) a x,as[i]? = some a→rs[i]? = some x→H a=some (.lst (x.map ij))
def RuleAt(H:Hp)(p:Addr)(r:Rl):Prop:=∃ pw pr as,H p=some (.tup [.int r.s,.ref pw,.ref pr])∧H pw=some (.lst (r.ws.map V.str))∧RoomsAs H pr r.rs as
theorem RoomsAs.mono{H H':Hp}{p:Addr}{rs:List (List (Option Nat))}{as:List Addr}(sm:Same H H')(h:RoomsAs H p rs as):RoomsAs H' p rs as:=by
 obtain⟨h1,h2,h3⟩:=h
 exact⟨sm _ _ h1,h2,fun i a x e1 e2=>sm _ _ (h3 i a x e1 e2)⟩
theorem RuleAt.mono{H H':Hp}{p:Addr}{r:Rl}(sm:Same H H')(h:RuleAt H p r):RuleAt H' p r:=by
 obtain⟨pw,pr,as,h1,h2,h3⟩:=h
 exact⟨pw,pr,as,sm _ _ h1,sm _ _ h2,h3.mono sm⟩
theorem Ap(y:Str)(ss:List Str):jQ (.str y) (ss.map V.str)=decide (y∈ss):=by
 rw[Bool.eq_iff_iff];unfold jQ;rw[List.any_eq_true,decide_eq_true_eq]
 constructor
 ·rintro⟨x,hx,e⟩
  obtain⟨s,hs,rfl⟩:=List.mem_map.mp hx
  have e':(s == y)=true:=e
  rw[← eq_of_beq e']; exact hs
 ·intro h
  exact⟨.str y,List.mem_map.mpr ⟨y,h,rfl⟩,by show (y == y)=true; simp⟩
section
variable{P:Program}{w:World}{K:PySem.W.Frag}{mg:Str→Option Value}{base:Heap}
def qO(side:Int)(u:Str):Str:=if side=0 then u else Str.empty++Str.ofString (toString side)++Str.ofString "." ++ u
def oK:Sp:=fun vs H Q _=>∃ (side:Int) (u:Str),vs=[.int side,.str u]∧(side=0∨side=1∨side=2)∧u.length≤1000∧Q (.str (qO side u)) H
theorem nV(D:DefAt K mg "sided_text" eR):aR P w K mg base 1 "sided_text" ["side", "word"] oK:=by
 refine D.cal nS (fun _ _ _ _ _ _ us hl=>match us,hl with | [_,_],_=>rfl) (fun vs H Q E h=>by obtain⟨_,_,rfl,_⟩:=h; rfl) (fun f cdv A outer s H vs Q E hr h=>?_)
 obtain⟨side,u,rfl,hs,hu,q⟩:=h
 refine⟨_,(aj (aG (hZ (aE bY (pv 0) ah (aP _)) (pv 1) (BO (mF (uE (pv 0)) (mF aJ (mF (uE (pv 1)) Ci))))))),?_⟩
 walk_at "rd1";unfold qO at q;refine bG (fun c=>by rw[if_pos c]at q; exact q) (fun c=>?_)
 rw[if_neg c]at q
 have hl:side.natAbs.log2<1920∧(Str.empty++Str.ofString (toString side)).length=1∧(Str.empty++Str.ofString (toString side)++Str.ofString ".").length=2:=by
  rcases hs with e | e | e
  ·exact absurd e c
  ·rw[e]; exact⟨by decide,by decide +kernel,by decide +kernel⟩
  ·rw[e]; exact⟨by decide,by decide +kernel,by decide +kernel⟩
 obtain⟨l1,l2,l3⟩:=hl
 have l4:(Str.empty++Str.ofString (toString side)++Str.ofString "." ++ u).length≤sizeLine:=by rw[Str.length_append,l3]; exact bt (by omega)
 exact⟨l1,by rw[l2]; exact bt (by omega),by rw[l3]; exact bt (by omega),bt (by omega),l4,l4,q⟩
end
def cJ(r:Rl):List Int:=if r.s=1 then [0] else [1,2]
def jY(r:Rl)(i:Nat):List (Option Nat):=r.rs.map fun row=>row.getD i none
set_option genInjectivity false in
set_option genSizeOf false in
structure WE where
 C:Addr
 w:Addr
 dx:Addr
 sa:Addr
 ta:Addr
 sd:Addr
 wd:Addr
 bd:Addr
 bl:Addr
 wk:List (aw × V)
 bk:List (aw × V)
 r:Rl
 pl:Nat
 nm:Str
def wF(e:WE):List (Str × V):=[("sides", .ref e.sd),("column", .non),("ways", .ref e.wd),("blames", .ref e.bd),("starts", .ref e.sa),("ties", .ref e.ta)]
theorem yP(e:WE):(wF e).lookup ("sides" : Str)=some (.ref e.sd):=by unfold wF; walk_at "lk"
theorem vA(e:WE):(wF e).lookup ("column" : Str)=some .non:=by unfold wF; walk_at "lk"
theorem BL(e:WE):(wF e).lookup ("ways" : Str)=some (.ref e.wd):=by unfold wF; walk_at "lk"
theorem vj(e:WE):(wF e).lookup ("starts" : Str)=some (.ref e.sa):=by unfold wF; walk_at "lk"
theorem Bi(e:WE):(wF e).lookup ("ties" : Str)=some (.ref e.ta):=by unfold wF; walk_at "lk"
theorem Fs(e:WE){m:Str}(h:(m == "sides" || m == "column" || m == "ways" || m == "blames" || m == "starts" || m == "ties")=false):(wF e).lookup m=none:=by
 simp only[Bool.or_eq_false_iff]at h
 obtain⟨⟨⟨⟨⟨h1,h2⟩,h3⟩,h4⟩,h5⟩,h6⟩:=h
 unfold wF;rw[cS h1,cS h2,cS h3,cS h4,cS h5,cS h6]; rfl
structure StatAt (H:Hp) (e:WE):Prop where
 ob:H e.w=some (.ins e.C e.dx (wF e))
 sd:H e.sd=some (.tup ((cJ e.r).map V.int))
 wd:H e.wd=some (.dK e.wk)
 bd:H e.bd=some (.dK e.bk)
 bl:H e.bl=some (.tup [.int (e.pl:Int),.str e.nm])
 no:∀ u,u∉e.r.ws→aN e.wk (.inr u)=none
 yes:∀ u,u∈e.r.ws→∃ a b,aN e.wk (.inr u)=some (.ref a)∧H a=some (.lst ((jY e.r (e.r.ws.idxOf u)).map ij))∧aN e.bk (.inr u)=some (.ref b)∧H b=some (.lst (e.r.rs.map fun _=>V.ref e.bl))
 ok:kZ e.r
section
variable{H H' H0:Hp}{e:WE}{Q:V→Prop}
theorem StatAt.mono(h:StatAt H e)(sm:Same H H'):StatAt H' e:=
 ⟨sm _ _ h.ob,sm _ _ h.sd,sm _ _ h.wd,sm _ _ h.bd,sm _ _ h.bl,h.no,fun u hu=>let ⟨a,b,h1,h2,h3,h4⟩:=h.yes u hu; ⟨a,b,h1,sm _ _ h2,h3,sm _ _ h4⟩,h.ok⟩
theorem StatAt.sides(h:StatAt H e)(q:Q (.ref e.sd)):∃ dx fs v,H e.w=some (.ins e.C dx fs)∧fs.lookup ("sides" : Str)=some v∧Q v:=⟨_,_,_,h.ob,yP e,q⟩
theorem StatAt.column(h:StatAt H e)(q:Q .non):∃ dx fs v,H e.w=some (.ins e.C dx fs)∧fs.lookup ("column" : Str)=some v∧Q v:=⟨_,_,_,h.ob,vA e,q⟩
theorem StatAt.ways(h:StatAt H e)(q:Q (.ref e.wd)):∃ dx fs v,H e.w=some (.ins e.C dx fs)∧fs.lookup ("ways" : Str)=some v∧Q v:=⟨_,_,_,h.ob,BL e,q⟩
theorem StatAt.starts(h:StatAt H e)(q:Q (.ref e.sa)):∃ dx fs v,H e.w=some (.ins e.C dx fs)∧fs.lookup ("starts" : Str)=some v∧Q v:=⟨_,_,_,h.ob,vj e,q⟩
theorem StatAt.ties(h:StatAt H e)(q:Q (.ref e.ta)):∃ dx fs v,H e.w=some (.ins e.C dx fs)∧fs.lookup ("ties" : Str)=some v∧Q v:=⟨_,_,_,h.ob,Bi e,q⟩
theorem StatAt.isM(h:StatAt H e){m:Str}(hm:(m == "sides" || m == "column" || m == "ways" || m == "blames" || m == "starts" || m == "ties")=false):∃ dx fs,H e.w=some (.ins e.C dx fs)∧fs.lookup m=none:=⟨_,_,h.ob,Fs e hm⟩
end
section
variable{P:Program}{w:World}{K:PySem.W.Frag}{mg:Str→Option Value}{base:Heap}
def qP(C:Addr):Sp:=fun vs H Q _=>∃ (x dx p bp bl:Addr) (H0:Hp) (r:Rl) (pl:Nat) (nm:Str) (bs:List Addr),vs=[.ref x,.ref p,.ref bp,.non]∧H x=some (.ins C dx [])∧H0 x=none∧Same H0 H∧RuleAt H0 p r∧kZ r∧r.ws.Nodup∧H0 bp=some (.lst (bs.map V.ref))∧bs.length=r.rs.length∧(∀ b∈bs,H0 b=some (.lst (r.ws.map fun _=>V.ref bl)))∧H0 bl=some (.tup [.int (pl:Int),.str nm])∧
 ∀ (e:WE) (H':Hp),e.C=C→e.w=x→e.r=r→e.pl=pl→e.nm=nm→Same H0 H'→StatAt H' e→H' e.sa=some (.dT [])→H' e.ta=some (.dT [])→H0 e.sa=none→H0 e.ta=none→e.sa≠e.ta→(∀ u∈r.ws,∀ a,(aN e.wk (.inr u)=some (.ref a)∨aN e.bk (.inr u)=some (.ref a))→H0 a=none)→Q .non H'
structure WB (Hb H:Hp) (r:Rl) (bl:Addr) (i:Nat) (wk bk:List (aw × V)):Prop where
 l1:wk.length≤i
 l2:bk.length≤i
 no:∀ u,u∉r.ws.take i→aN wk (.inr u)=none
 nw:∀ u∈r.ws.take i,∀ a,(aN wk (.inr u)=some (.ref a)∨aN bk (.inr u)=some (.ref a))→Hb a=none
 yes:∀ u,u∈r.ws.take i→∃ a b,aN wk (.inr u)=some (.ref a)∧H a=some (.lst ((jY r (r.ws.idxOf u)).map ij))∧aN bk (.inr u)=some (.ref b)∧H b=some (.lst (r.rs.map fun _=>V.ref bl))
theorem WB.keep{Hb H H':Hp}{r:Rl}{bl:Addr}{i:Nat}{wk bk:List (aw × V)}(h:WB Hb H r bl i wk bk)(k:∀ a xs,H a=some (.lst xs)→H' a=some (.lst xs)):WB Hb H' r bl i wk bk:=
 ⟨h.l1,h.l2,h.no,h.nw,fun u hu=>let ⟨a,b,h1,h2,h3,h4⟩:=h.yes u hu; ⟨a,b,h1,k _ _ h2,h3,k _ _ h4⟩⟩
theorem WB.push{Hb H:Hp}{r:Rl}{bl a b:Addr}{i:Nat}{wk bk:List (aw × V)}{u:Str}(h:WB Hb H r bl i wk bk)(na:Hb a=none)(nb:Hb b=none)(nd:r.ws.Nodup)(hu:r.ws[i]? = some u)(ha:H a=some (.lst ((jY r i).map ij)))(hb:H b=some (.lst (r.rs.map fun _=>V.ref bl))) :
  WB Hb H r bl (i+1) (bC wk (.inr u) (.ref a)) (bC bk (.inr u) (.ref b)):=by
 have hi:=(List.getElem?_eq_some_iff.mp hu).1;have eu:=(List.getElem?_eq_some_iff.mp hu).2;have hix:r.ws.idxOf u=i:=by rw[← eu]; exact List.Nodup.idxOf_getElem nd i hi
 have htk:r.ws.take (i+1)=r.ws.take i++[u]:=by rw[List.take_add_one,hu]; rfl
 refine⟨Nat.le_trans (cW _ _ _) (Nat.succ_le_succ h.l1),Nat.le_trans (cW _ _ _) (Nat.succ_le_succ h.l2),fun v hv=>?_,fun v hv c hc=>?_,fun v hv=>?_⟩
 ·rw[htk,List.mem_append,not_or]at hv
  rw[db,if_neg (fun z=>hv.2 (by rw[Sum.inr.inj z]; exact List.mem_singleton.mpr rfl))]
  exact h.no v hv.1
 ·rw[db,db]at hc
  by_cases e:v=u
  ·subst e
   rw[if_pos rfl,if_pos rfl]at hc
   rcases hc with hc | hc
   ·cases hc; exact na
   ·cases hc; exact nb
  ·rw[if_neg (fun z=>e (Sum.inr.inj z)),if_neg (fun z=>e (Sum.inr.inj z))]at hc
   rw[htk,List.mem_append]at hv
   exact h.nw v (hv.resolve_right (fun z=>e (List.mem_singleton.mp z))) c hc
 ·rw[db,db]
  by_cases e:v=u
  ·subst e
   rw[if_pos rfl,if_pos rfl,hix];exact⟨a,b,rfl,ha,rfl,hb⟩
  ·rw[if_neg (fun z=>e (Sum.inr.inj z)),if_neg (fun z=>e (Sum.inr.inj z))]
   rw[htk,List.mem_append]at hv
   exact h.yes v (hv.resolve_right (fun z=>e (List.mem_singleton.mp z)))
section
variable{CW:Addr}
theorem jf{H H':Hp}{p:Addr}{o:HO}(e:upd H p o=H')(h:H p=none):Same H H':=e ▸ ak h o
theorem jr{H H':Hp}{p:Addr}{o:HO}(e:upd H p o=H'):H' p=some o:=by rw[← e]; exact ae
theorem qK{a L:Addr}{as:List Addr}{vs:List V}{i:Nat}{s0 s1 s2 s3 s5:Option V}{H1:Hp}{Q:VK}(hL:H1 L=none)(ha:H1 a=some (.lst (as.map V.ref)))(hl:as.length=vs.length)(hn:as.length≤1000)(hi:∀ (j:Nat) b v,as[j]? = some b→vs[j]? = some v→∃ row,H1 b=some (.lst row)∧row[i]? = some v)
  (q:∀ H',Same H1 H'→H' L=some (.lst vs)→Q (.ref L) H'):gg (kE K a) (e8 6) iX (jE (ik K) (da 6) (da 4)) 1 [s0,s1,s2,s3,some (.int (i:Int)),s5] L Q (upd H1 L (.lst [])):=by
 refine gD (xs:=as.map V.ref) (fun j ys H4=>ys=vs.take j∧Same H1 H4∧H4 L=some (.lst ys)) ⟨rfl,ak hL _,ae⟩ (fun j ys H4 _ hh=>SqL.of (hh.2.1 _ _ ha)) ?_ ?_
 ·rintro j ys H4 v hv hj ⟨rfl,sm4,eL⟩
  rw[List.length_map]at hj
  rw[List.getElem?_map,List.getElem?_eq_getElem hj]at hv
  cases hv;have hj':j<vs.length:=by omega
  obtain⟨row,g1,g2⟩:=hi j as[j] vs[j] (List.getElem?_eq_getElem hj) (List.getElem?_eq_getElem hj')
  walk_at "rd1";refine⟨_,_,.inl (SqL.of (sm4 _ _ g1)),aW g2,?_⟩
  refine iM (by rw[List.length_map]; exact hj) (by rw[List.length_take]; omega) (by rw[List.length_map]; exact bt (by omega)) eL ⟨?_,sm4.upd hL _,ae⟩
  rw[List.take_add_one,List.getElem?_eq_getElem hj']; rfl
 ·rintro ys H4 ⟨rfl,sm4,eL⟩
  rw[List.length_map,hl,List.take_length]at eL
  exact q _ sm4 eL
theorem xI(D:MakeAt K mg "Watch" CW "Watch.__init__" aB) (z_enumerate:mg "enumerate" = none) (a_sides:Fl K CW "sides") (a_column:Fl K CW "column") (a_ways:Fl K CW "ways") (a_blames:Fl K CW "blames") (a_starts:Fl K CW "starts") (a_ties:Fl K CW "ties"):iq P w K mg base 1 "Watch" CW ["self", "rule", "blames", "column"] (qP CW):=by
 refine D.mkal (k:=0) sc_Watch___init__ (fun _ _ _ _ _ _ us hl=>match us,hl with | [_,_,_,_],_=>rfl) (fun vs H Q E h=>by obtain⟨_,_,_,_,_,_,_,_,_,_,rfl,_⟩:=h; rfl) (fun f cdv A outer s H vs Q _ hr h=>?_)
 obtain⟨x,dx,p,bp,bl,H0,r,pl,nm,bs,rfl,hx,h0x,sm,hR,ok,nd,hbp,hbl,hbs,hbb,q⟩:=h
 obtain⟨pw,pr,as,r1,r2,r3,r4,r5⟩:=id hR
 refine⟨_,(af (b8 a_sides (pv 0) (hZ (aE bY (aq (aK K) (pv 1) ah (fun _ _=>rfl)) ah (aP _)) (aX (aa ah ac)) (aX (aa ah (aa ah ac)))))
   (af (b8 a_column (pv 0) (pv 3))
   (af (b8 a_ways (pv 0) fW)
   (af (b8 a_blames (pv 0) fW)
   (af (cu PassesOwn.never rfl (je K JJ z_enumerate (aa (aq (aK K) (pv 1) ah (fun _ _=>rfl)) ac)) (gf K (n:=2) (cO (bq 4 sc_Watch___init__.nd (hx:=GM)) (cO (bq 5 sc_Watch___init__.nd) gd))) (af (gW (fH (CompSc.to (fsc:=(defScope aB)) (N:=["self", "rule", "blames", "column", "place", "word"]) (N0:=["self", "rule", "blames", "column", "place", "word"]) (T:=["room"]) ⟨by decide +kernel,by decide +kernel,by decide +kernel,by decide +kernel,by decide +kernel,by decide +kernel,by decide +kernel⟩ rfl rfl) rfl (cw K (aq (aK K) (pv 1) ah (fun _ _=>rfl))) (fun _ _ _ _=>(bq 6 (show (["self", "rule", "blames", "column", "place", "word", "room"]:List Str).Nodup from by decide +kernel) (hx:=(gY (defScope aB) (by decide +kernel))) (hf:=jF (defScope aB) (by decide +kernel)))) (dh (show (["self", "rule", "blames", "column", "place", "word"]:List Str).length≤6 from by decide)) (fun _ _ _ _=>em) (fun _ _ _ _=>(aq (aK K) (pv 6 (hv:=(fD (defScope aB) (by decide +kernel)))) (pv 4 (hv:=(fD (defScope aB) (by decide +kernel)))) (fun _ _=>rfl)))) (hX (au a_ways (pv 0)) (pv 5) (lO hr)))
   (aj (gW (fH (CompSc.to (fsc:=(defScope aB)) (N:=["self", "rule", "blames", "column", "place", "word"]) (N0:=["self", "rule", "blames", "column", "place", "word"]) (T:=["blamed"]) ⟨by decide +kernel,by decide +kernel,by decide +kernel,by decide +kernel,by decide +kernel,by decide +kernel,by decide +kernel⟩ rfl rfl) rfl (cw K (pv 2)) (fun _ _ _ _=>(bq 6 (show (["self", "rule", "blames", "column", "place", "word", "blamed"]:List Str).Nodup from by decide +kernel) (hx:=(gY (defScope aB) (by decide +kernel))) (hf:=jF (defScope aB) (by decide +kernel)))) (dh (show (["self", "rule", "blames", "column", "place", "word"]:List Str).length≤6 from by decide)) (fun _ _ _ _=>em) (fun _ _ _ _=>(aq (aK K) (pv 6 (hv:=(fD (defScope aB) (by decide +kernel)))) (pv 4 (hv:=(fD (defScope aB) (by decide +kernel)))) (fun _ _=>rfl)))) (hX (au a_blames (pv 0)) (pv 5) (lO hr))))))
   (af (b8 a_starts (pv 0) o0)
   (aj (b8 a_ties (pv 0) o0)))))))),?_⟩
 walk_at "rd1";refine⟨_,_,.inr (SqT.of (sm _ _ r1)),rfl,?_⟩
 walk_at "rd1"
 have key:∀ (sd:Addr) (HA:Hp),HA sd=some (.tup ((cJ r).map V.int))→Same H0 HA→HA x=some (.ins CW dx [("sides", .ref sd)])→
   mv (iQ (i3 CW "column" (da 0) (da 3)) (iQ (i3 CW "ways" (da 0) qb) (iQ (i3 CW "blames" (da 0) qb) (iQ (yF (sL K (lS (jE (ik K) (da 1) (tC (V.int 1))) t_)) (pV K 2 (jZ (e8 4) (jZ (e8 5) oE))) (iQ (k7 (lR (lQ K (jE (ik K) (da 1) (tC (V.int 2)))) (e8 6) iX (jE (ik K) (da 6) (da 4)) 1) (tG (lz CW "ways" (da 0)) (da 5) tW)) (k7 (lR (lQ K (da 2)) (e8 6) iX (jE (ik K) (da 6) (da 4)) 1) (tG (lz CW "blames" (da 0)) (da 5) tW)))) (iQ (i3 CW "starts" (da 0) pK) (i3 CW "ties" (da 0) pK)))))) { nx:=fun x H'=>Q V.non H',rt:=Q } [some (V.ref x),some (V.ref p),some (V.ref bp),some V.non,none,none] HA:=by
  intro sd HA esd sA eA
  walk_at "nx";refine⟨dx,_,eA,by simp,?_⟩
  generalize hB:upd HA x _=HB
  have eB:HB x=some (.ins CW dx [("sides", .ref sd),("column", .non)]):=by rw[← hB,ae]; walk_at "pf"
  have sB:Same H0 HB:=by rw[← hB]; exact sA.upd h0x _
  have tB:HB sd=some (.tup ((cJ r).map V.int)):=by rw[← hB,am (bv esd eA (fun z=>nomatch z))]; exact esd
  walk_at "nx";intro wd hwd
  generalize hC:upd HB wd _=HC
  have sC:=jf hC hwd;have dC:=jr hC;refine⟨dx,_,sC _ _ eB,by simp,?_⟩
  have nxw:wd≠x:=fun z=>by rw[z,eB]at hwd; cases hwd
  generalize hD:upd HC x _=HD
  have eD:HD x=some (.ins CW dx [("sides", .ref sd),("column", .non),("ways", .ref wd)]):=by rw[← hD,ae]; walk_at "pf"
  have sD:Same H0 HD:=by rw[← hD]; exact(sB.trans sC).upd h0x _
  have tD:HD sd=some (.tup ((cJ r).map V.int)):=by rw[← hD,am (bv tB eB (fun z=>nomatch z))]; exact sC _ _ tB
  have wD:HD wd=some (.dK []):=by rw[← hD,am nxw]; exact dC
  have hw0:H0 wd=none:=sB.free hwd
  walk_at "nx";intro bd hbd
  generalize hE:upd HD bd _=HE
  have sE:=jf hE hbd;have dE:=jr hE;refine⟨dx,_,sE _ _ eD,by simp,?_⟩
  have nxb:bd≠x:=fun z=>by rw[z,eD]at hbd; cases hbd
  have nwb:bd≠wd:=fun z=>by rw[z,wD]at hbd; cases hbd
  generalize hF:upd HE x _=HF
  have eF:HF x=some (.ins CW dx [("sides", .ref sd),("column", .non),("ways", .ref wd),("blames", .ref bd)]):=by rw[← hF,ae]; walk_at "pf"
  have sF:Same H0 HF:=by rw[← hF]; exact(sD.trans sE).upd h0x _
  have tF:HF sd=some (.tup ((cJ r).map V.int)):=by rw[← hF,am (bv tD eD (fun z=>nomatch z))]; exact sE _ _ tD
  have wF':HF wd=some (.dK []):=by rw[← hF,am nxw]; exact sE _ _ wD
  have bF:HF bd=some (.dK []):=by rw[← hF,am nxb]; exact dE
  have hb0:H0 bd=none:=sD.free hbd
  walk_at "nx";refine⟨_,_,.inr (SqT.of (sF _ _ r1)),rfl,?_⟩
  refine⟨pw,rfl,⟨_,sF _ _ r2⟩,?_⟩
  have nlw:∀ {c:Addr} {ys:List V},H0 c=some (.lst ys)→c≠wd∧c≠bd:=fun z=>⟨aM z hw0,aM z hb0⟩
  refine ni (xs:=r.ws.map V.str) (fun i σ H'=>∃ (o4 o5:Option V) (wk bk:List (aw × V)),σ=[some (.ref x),some (.ref p),some (.ref bp),some .non,o4,o5]∧(∀ c o,c≠wd→c≠bd→HF c=some o→H' c=some o)∧H' wd=some (.dK wk)∧H' bd=some (.dK bk)∧WB H0 H' r bl i wk bk)
   ⟨_,_,[],[],rfl,fun _ _ _ _ z=>z,wF',bF,⟨Nat.le_refl _,Nat.le_refl _,fun _ _=>rfl,fun u hu=>(by cases hu),fun u hu=>(by cases hu)⟩⟩ (fun i σ H' _ hh=>?_) (fun i v t σ H' hv hh ht=>?_) (fun σ H' hh=>?_)
  ·obtain⟨_,_,_,_,_,k2,_⟩:=hh
   exact SqL.of (k2 _ _ (nlw r2).1 (nlw r2).2 (sF _ _ r2))
  ·obtain⟨o4,o5,wk,bk,rfl,k2,ew,eb,wb⟩:=hh
   have hv':∃ u,r.ws[i]? = some u∧v = .str u:=by
    rw[List.getElem?_map]at hv
    cases e1:r.ws[i]? with
    | none=>rw[e1]at hv; cases hv
    | some u=>rw[e1]at hv; cases hv; exact⟨u,rfl,rfl⟩
   obtain⟨u,hu,rfl⟩:=hv'
   have hi:=(List.getElem?_eq_some_iff.mp hu).1;have s0':Same H0 H':=fun c o z=>k2 c o (aM z hw0) (aM z hb0) (sF c o z)
   have ex':H' x=some (.ins CW dx [("sides", .ref sd),("column", .non),("ways", .ref wd),("blames", .ref bd)]):=k2 _ _ (Ne.symm nxw) (Ne.symm nxb) eF
   have st:=ak ht (.tup [.int (i:Int),.str u]);have et:upd H' t (.tup [.int (i:Int),.str u]) t=some (.tup [.int (i:Int),.str u]):=ae
   generalize upd H' t (.tup [.int (i:Int),.str u])=H1 at st et ⊢;walk_at "rd1";refine⟨t,_,rfl,SqT.of et,rfl,?_⟩
   walk_at "rd1";refine⟨_,_,.inr (SqT.of (st _ _ (s0' _ _ r1))),rfl,?_⟩
   refine⟨pr,rfl,⟨_,SqL.of (st _ _ (s0' _ _ r3))⟩,fun L hL=>?_⟩
   refine qK (vs:=(jY r i).map ij) hL (st _ _ (s0' _ _ r3)) (by unfold jY; rw[List.length_map,List.length_map]; exact r4) (by have:=ok.n1; omega) (fun j b v' e1 e2=>?_) (fun H2 s2 eL=>?_)
   ·have hj:j<r.rs.length:=by have:=(List.getElem?_eq_some_iff.mp e1).1; omega
    refine⟨_,st _ _ (s0' _ _ (r5 j b _ e1 (List.getElem?_eq_getElem hj))),?_⟩
    have hrow:=(ok.row r.rs[j] (List.getElem_mem hj)).1;unfold jY at e2;rw[List.map_map,List.getElem?_map,List.getElem?_eq_getElem hj]at e2
    cases e2;rw[List.getElem?_map,List.getElem?_eq_getElem (by omega)]
    show some (ij _)=some (ij (r.rs[j].getD i none))
    rw[List.getD_eq_getElem?_getD,List.getElem?_eq_getElem (by omega)]; rfl
   have s2':=st.trans s2;refine⟨dx,_,_,s2' _ _ ex',by walk_at "lk", ?_⟩
   refine⟨wd,wk,.inr u,rfl,rfl,s2' _ _ ew,bX (by have:=wb.l1; have:=ok.nw; omega),?_⟩
   have nLw:L≠wd:=fun z=>by rw[z,st _ _ ew]at hL; cases hL
   have nLb:L≠bd:=fun z=>by rw[z,st _ _ eb]at hL; cases hL
   generalize hG:upd H2 wd _=HG
   have gw:HG wd=some (.dK (bC wk (.inr u) (.ref L))):=jr hG
   have gk:∀ c o,c≠wd→H2 c=some o→HG c=some o:=fun c o hc z=>by rw[← hG,am hc]; exact z
   have gb:=gk _ _ nwb (s2' _ _ eb);have gL:=gk _ _ nLw eL;have gx:=gk _ _ (Ne.symm nxw) (s2' _ _ ex');have s0G:Same H0 HG:=fun c o z=>gk c o (aM z hw0) (s2' _ _ (s0' _ _ z))
   walk_at "nx";refine⟨⟨_,SqL.of (s0G _ _ hbp)⟩,fun L2 hL2=>?_⟩
   refine qK (vs:=r.rs.map fun _=>V.ref bl) hL2 (s0G _ _ hbp) (by rw[List.length_map]; exact hbl) (by have:=ok.n1; omega) (fun j b v' e1 e2=>?_) (fun H3 s3 eL2=>?_)
   ·refine⟨_,s0G _ _ (hbs b (List.mem_of_getElem? e1)),?_⟩
    rw[List.getElem?_map]at e2
    cases e3:r.rs[j]? with
    | none=>rw[e3]at e2; cases e2
    | some y=>rw[e3]at e2; cases e2; rw[List.getElem?_map,hu]; rfl
   refine⟨dx,_,_,s3 _ _ gx,by walk_at "lk", ?_⟩
   refine⟨bd,bk,.inr u,rfl,rfl,s3 _ _ gb,bX (by have:=wb.l2; have:=ok.nw; omega),?_⟩
   have nL2b:L2≠bd:=fun z=>by rw[z,gb]at hL2; cases hL2
   have kl:∀ c ys,H' c=some (.lst ys)→upd H3 bd (.dK (bC bk (.inr u) (.ref L2))) c=some (.lst ys):=fun c ys z=>by
    rw[am (fun g=>by rw[g,eb]at z; cases z)]
    exact s3 _ _ (gk _ _ (fun g=>by rw[g,ew]at z; cases z) (s2' _ _ z))
   refine⟨_,_,_,_,rfl,fun c o h1 h2 z=>?_,by rw[am (Ne.symm nwb)]; exact s3 _ _ gw,ae,?_⟩
   ·rw[am h2]; exact s3 _ _ (gk _ _ h1 (s2' _ _ (k2 c o h1 h2 z)))
   ·exact(wb.keep kl).push ((s0'.trans st).free hL) (s0G.free hL2) nd hu (by rw[am nLb]; exact s3 _ _ gL) (by rw[am nL2b]; exact eL2)
  ·obtain⟨o4,o5,wk,bk,rfl,k2,ew,eb,wb⟩:=hh
   rw[List.length_map]at wb
   have s0':Same H0 H':=fun c o z=>k2 c o (aM z hw0) (aM z hb0) (sF c o z)
   have ex':H' x=some (.ins CW dx [("sides", .ref sd),("column", .non),("ways", .ref wd),("blames", .ref bd)]):=k2 _ _ (Ne.symm nxw) (Ne.symm nxb) eF
   have esd':H' sd=some (.tup ((cJ r).map V.int)):=k2 _ _ (fun z=>by rw[z,wF']at tF; cases tF) (fun z=>by rw[z,bF]at tF; cases tF) tF
   walk_at "nx";intro sa hsa
   generalize hG:upd H' sa _=HG
   have sG:=jf hG hsa;have dG:=jr hG;refine⟨dx,_,sG _ _ ex',by simp,?_⟩
   generalize hI:upd HG x _=HI
   have eI:HI x=some (.ins CW dx [("sides", .ref sd),("column", .non),("ways", .ref wd),("blames", .ref bd),("starts", .ref sa)]):=by rw[← hI,ae]; walk_at "pf"
   have kI:∀ c o,c≠x→H' c=some o→HI c=some o:=fun c o hc z=>by rw[← hI,am hc]; exact sG _ _ z
   have aI:HI sa=some (.dT []):=by rw[← hI,am (fun z=>by rw[z,ex']at hsa; cases hsa)]; exact dG
   walk_at "nx";intro ta hta
   generalize hJ:upd HI ta _=HJ
   have sJ:=jf hJ hta;have dJ:=jr hJ;refine⟨dx,_,sJ _ _ eI,by simp,?_⟩
   generalize hL:upd HJ x _=HL
   have eL:HL x=some (.ins CW dx [("sides", .ref sd),("column", .non),("ways", .ref wd),("blames", .ref bd),("starts", .ref sa),("ties", .ref ta)]):=by rw[← hL,ae]; walk_at "pf"
   have kL:∀ c o,c≠x→HI c=some o→HL c=some o:=fun c o hc z=>by rw[← hL,am hc]; exact sJ _ _ z
   have kk:∀ c o,c≠x→H' c=some o→HL c=some o:=fun c o hc z=>kL c o hc (kI c o hc z)
   have tL:HL ta=some (.dT []):=by rw[← hL,am (fun z=>by rw[z,eI]at hta; cases hta)]; exact dJ
   have nsx:sa≠x:=fun z=>by rw[z,ex']at hsa; cases hsa
   have nst:sa≠ta:=fun z=>by rw[z,hta]at aI; cases aI
   have nlx:∀ {c:Addr} {o:HO},H' c=some o→o≠(.ins CW dx [("sides", .ref sd),("column", .non),("ways", .ref wd),("blames", .ref bd)])→c≠x:=fun z1 z2=>bv z1 ex' z2
   have s0L:Same H0 HL:=fun c o z=>kk c o (aM z h0x) (s0' _ _ z)
   refine q ⟨CW,x,dx,sa,ta,sd,wd,bd,bl,wk,bk,r,pl,nm⟩ HL rfl rfl rfl rfl rfl s0L ⟨eL,kk _ _ (nlx esd' (fun z=>nomatch z)) esd',kk _ _ nxw ew,kk _ _ nxb eb,s0L _ _ hbb,fun u hu=>wb.no u (by rw[List.take_length]; exact hu),fun u hu=>?_,ok⟩ (kL _ _ nsx aI) tL (s0'.free hsa) ?_ nst (fun u hu a ha=>wb.nw u (by rw[List.take_length]; exact hu) a ha)
   ·obtain⟨a,b,g1,g2,g3,g4⟩:=wb.yes u (by rw[List.take_length]; exact hu)
    exact⟨a,b,g1,kk _ _ (nlx g2 (fun z=>nomatch z)) g2,g3,kk _ _ (nlx g4 (fun z=>nomatch z)) g4⟩
   ·have:H' ta=none:=by
     cases e1:H' ta with
     | none=>rfl
     | some o=>
      have:ta≠x:=fun z=>by rw[z,eI]at hta; cases hta
      have:=kI ta o this e1
      rw[hta]at this; cases this
    exact s0'.free this
 refine bG (fun c=>?_) (fun c=>?_)
 ·refine⟨by decide,fun sd hsd=>⟨dx,_,ak hsd _ _ _ hx,by simp,?_⟩⟩
  refine key sd _ ?_ ?_ (by rw[ae]; walk_at "pf")
  ·rw[am (fun z=>by rw[z,hx]at hsd; cases hsd),ae]
   unfold cJ; rw[if_pos c]; rfl
  ·exact(sm.trans (ak hsd _)).upd h0x _
 ·refine⟨by decide,fun sd hsd=>⟨dx,_,ak hsd _ _ _ hx,by simp,?_⟩⟩
  refine key sd _ ?_ ?_ (by rw[ae]; walk_at "pf")
  ·rw[am (fun z=>by rw[z,hx]at hsd; cases hsd),ae]
   unfold cJ; rw[if_neg c]; rfl
  ·exact(sm.trans (ak hsd _)).upd h0x _
end
def NmAt(H:Hp)(b:Addr)(x:Str × Rl):Prop:=∃ p,H b=some (.tup [.str x.1,.ref p])∧RuleAt H p x.2
theorem NmAt.mono{H H':Hp}{b:Addr}{x:Str × Rl}(h:NmAt H b x)(s:Same H H'):NmAt H' b x:=let ⟨p,h1,h2⟩:=h; ⟨p,s _ _ h1,h2.mono s⟩
structure MadeW (H H':Hp) (C:Addr) (e:WE) (k:Nat) (x:Str × Rl):Prop where
 C:e.C=C
 r:e.r=x.2
 pl:e.pl=k
 nm:e.nm=x.1
 st:StatAt H' e
 sa:H' e.sa=some (.dT [])
 ta:H' e.ta=some (.dT [])
 fs:H e.sa=none
 ft:H e.ta=none
 ne:e.sa≠e.ta
 nw:∀ u∈e.r.ws,∀ a,(aN e.wk (.inr u)=some (.ref a)∨aN e.bk (.inr u)=some (.ref a))→H a=none
def nC(C:Addr):Sp:=fun vs H Q _=>∃ (k:Nat) (b:Addr) (x:Str × Rl),vs=[.int (k:Int),.ref b,.non]∧NmAt H b x∧kZ x.2∧x.2.ws.Nodup∧∀ (e:WE) (H':Hp),Same H H'→MadeW H H' C e k x→Q (.ref e.w) H'
section
variable{CW:Addr}
theorem rN(D:DefAt K mg "watch_of" bM) (k_Watch:iq P w K mg base 1 "Watch" CW ["self", "rule", "blames", "column"] (qP CW)):aR P w K mg base 3 "watch_of" ["place", "named", "column"] (nC CW):=by
 refine D.cal (k:=2) sc_watch_of (fun _ _ _ _ _ _ us hl=>match us,hl with | [_,_,_],_=>rfl) (fun vs H Q E h=>by obtain⟨_,_,_,rfl,_⟩:=h; rfl) (fun f cdv A outer s H vs Q _ hr h=>?_)
 obtain⟨k,b,⟨nm,r⟩,rfl,hN,ok,nd,q⟩:=h
 obtain⟨p,eb,hR⟩:=hN
 dsimp only at eb hR ok nd
 obtain⟨pw,pr,as,r1,r2,r3,r4,r5⟩:=id hR
 refine⟨_,(af (aA 3 sc_watch_of.nd (aq (aK K) (pv 1) ah (fun _ _=>rfl)) (hx:=GS))
   (af (aA 4 sc_watch_of.nd (aX (aa (pv 0) (aa (aq (aK K) (pv 1) ah (fun _ _=>rfl)) ac))) (hx:=Gb))
   (aj (aG (ol k_Watch hr (aa (pv 3 (hv:=Cm)) (aa (fH (CompSc.to (fsc:=(defScope bM)) (N:=["place", "named", "column", "rule", "blame"]) (N0:=["place", "named", "column", "rule", "blame"]) (T:=["room"]) ⟨by decide +kernel,by decide +kernel,by decide +kernel,by decide +kernel,by decide +kernel,by decide +kernel,by decide +kernel⟩ rfl rfl) rfl (cw K (aq (aK K) (pv 3 (hv:=Cm)) ah (fun _ _=>rfl))) (fun _ _ _ _=>(bq 5 (show (["place", "named", "column", "rule", "blame", "room"]:List Str).Nodup from by decide +kernel) (hx:=(gY (defScope bM) (by decide +kernel))) (hf:=jF (defScope bM) (by decide +kernel)))) (dh (show (["place", "named", "column", "rule", "blame"]:List Str).length≤5 from by decide)) (fun _ _ _ _=>em) (fun _ _ _ _=>(fH (CompSc.to (fsc:=(dB _ (defScope bM))) (N:=["place", "named", "column", "rule", "blame", "room"]) (N0:=["place", "named", "column", "rule", "blame", "room"]) (T:=["word"]) ⟨by decide +kernel,by decide +kernel,by decide +kernel,by decide +kernel,by decide +kernel,by decide +kernel,by decide +kernel⟩ rfl rfl) rfl (cw K (aq (aK K) (pv 3 (hv:=(fD (defScope bM) (by decide +kernel)))) ah (fun _ _=>rfl))) (fun _ _ _ _=>(bq 6 (show (["place", "named", "column", "rule", "blame", "room", "word"]:List Str).Nodup from by decide +kernel) (hx:=(gY (dB _ (defScope bM)) (e:=rfl) (by decide +kernel))) (hf:=jF (dB _ (defScope bM)) (e:=rfl) (by decide +kernel)))) (dh (show (["place", "named", "column", "rule", "blame", "room"]:List Str).length≤6 from by decide)) (fun _ _ _ _=>em) (fun _ _ _ _=>(pv 4 (hv:=(fD (dB _ (defScope bM)) (e:=rfl) (by decide +kernel)))))))) (aa (pv 2) ac)))))))),?_⟩
 walk_at "rd1";refine⟨_,_,.inr (SqT.of eb),rfl,?_⟩
 walk_at "nx";refine⟨_,_,.inr (SqT.of eb),rfl,?_⟩
 walk_at "rd1";refine⟨by decide,fun bl hbl=>?_⟩
 have s1:=ak hbl (.tup [.int (k:Int),.str nm]);have ebl:upd H bl (.tup [.int (k:Int),.str nm]) bl=some (.tup [.int (k:Int),.str nm]):=ae
 generalize upd H bl (.tup [.int (k:Int),.str nm])=H1 at s1 ebl ⊢;walk_at "nx";refine⟨_,_,.inr (SqT.of (s1 _ _ r1)),rfl,?_⟩
 refine⟨pr,rfl,⟨_,SqL.of (s1 _ _ r3)⟩,fun L hL=>?_⟩
 refine gD (xs:=as.map V.ref) (fun j ys H4=>∃ bs:List Addr,ys=bs.map V.ref∧bs.length=j∧Same H1 H4∧H4 L=some (.lst ys)∧∀ b∈bs,H4 b=some (.lst (r.ws.map fun _=>V.ref bl))∧b≠L) ⟨[],rfl,rfl,ak hL _,ae,fun _ z=>nomatch z⟩ (fun j ys H4 _ hh=>by obtain⟨_,_,_,sm4,_⟩:=hh; exact SqL.of (sm4 _ _ (s1 _ _ r3))) ?_ ?_
 ·rintro j ys H4 v hv hj ⟨bs,rfl,hbl',sm4,eL,hb⟩
  rw[List.length_map]at hj
  walk_at "rd1";refine⟨_,_,.inr (SqT.of (sm4 _ _ (s1 _ _ r1))),rfl,?_⟩
  refine⟨pw,rfl,⟨_,SqL.of (sm4 _ _ (s1 _ _ r2))⟩,fun M hM=>?_⟩
  refine gD (xs:=r.ws.map V.str) (fun i zs H5=>zs=((r.ws.take i).map fun _=>V.ref bl)∧Same H4 H5∧H5 M=some (.lst zs)) ⟨rfl,ak hM _,ae⟩ (fun i zs H5 _ hh=>SqL.of (hh.2.1 _ _ (sm4 _ _ (s1 _ _ r2)))) ?_ ?_
  ·rintro i zs H5 v' hv' hi ⟨rfl,sm5,eM⟩
   rw[List.length_map]at hi
   walk_at "rd1";refine iM (by rw[List.length_map]; exact hi) (by rw[List.length_map,List.length_take]; omega) (by rw[List.length_map]; exact bt (by have:=ok.nw; omega)) eM ⟨?_,sm5.upd hM _,ae⟩
   rw[List.take_add_one,List.getElem?_eq_getElem hi,List.map_append]; rfl
  ·rintro zs H5 ⟨rfl,sm5,eM⟩
   rw[List.length_map,List.take_length]at eM
   have nML:M≠L:=fun z=>by rw[z,eL]at hM; cases hM
   refine iM (by rw[List.length_map]; exact hj) (by rw[List.length_map]; exact hbl') (by rw[List.length_map]; exact bt (by have:=ok.n1; omega)) (sm5 _ _ eL) ⟨bs++[M],k5 _ _,by simp[hbl'],(sm4.trans sm5).upd hL _,ae,fun b' hb'=>?_⟩
   rcases List.mem_append.mp hb' with z | z
   ·obtain⟨z1,z2⟩:=hb b' z
    exact⟨by rw[am z2]; exact sm5 _ _ z1,z2⟩
   ·have:b'=M:=by simpa using z
    subst this;exact⟨by rw[am nML]; exact eM,nML⟩
 ·rintro ys H4 ⟨bs,rfl,hbl',sm4,eL,hb⟩
  rw[List.length_map]at hbl'
  have s14:=s1.trans sm4;intro x dx hx hdx hne
  refine⟨x,dx,p,L,bl,H4,r,k,nm,bs,rfl,ae,hx,(ak hdx _).upd hx _,hR.mono s14,ok,nd,eL,by rw[hbl',r4],fun b hb'=>(hb b hb').1,sm4 _ _ ebl,fun e H' e1 e2 e3 e4 e5 s5 g1 g2 g3 g4 g5 g6 g7=>⟨rfl,?_⟩⟩
  rw[← e2];exact q e H' (s14.trans s5) ⟨e1,e3,e4,e5,g1,g2,g3,s14.free g4,s14.free g5,g6,fun u hu a ha=>s14.free (g7 u (by rw[← e3]; exact hu) a ha)⟩
structure Made (H H':Hp) (C:Addr) (es:List WE) (xs:List (Str × Rl)):Prop where
 len:es.length=xs.length
 at':∀ (k:Nat) e x,es[k]? = some e→xs[k]? = some x→MadeW H H' C e k x
 ne:∀ (i j:Nat) e e',es[i]? = some e→es[j]? = some e'→i≠j→e.sa≠e'.sa∧e.sa≠e'.ta∧e.ta≠e'.ta
def nh(C:Addr):Sp:=fun vs H Q _=>∃ (b:Addr) (bs:List Addr) (xs:List (Str × Rl)),vs=[.ref b]∧H b=some (.lst (bs.map V.ref))∧Paired (NmAt H) bs xs∧xs.length≤1000∧(∀ x∈xs,kZ x.2∧x.2.ws.Nodup)∧
 ∀ (a:Addr) (es:List WE) (H':Hp),Same H H'→H a=none→H' a=some (.lst (es.map fun e=>V.ref e.w))→Made H H' C es xs→Q (.ref a) H'
theorem MadeW.mono{H H1 H' H2:Hp}{C:Addr}{e:WE}{k:Nat}{x:Str × Rl}(h:MadeW H1 H' C e k x)(s:Same H H1)(s2:Same H' H2):MadeW H H2 C e k x:=
 ⟨h.C,h.r,h.pl,h.nm,h.st.mono s2,s2 _ _ h.sa,s2 _ _ h.ta,s.free h.fs,s.free h.ft,h.ne,fun u hu a ha=>s.free (h.nw u hu a ha)⟩
theorem StatAt.keep{H:Hp}{e:WE}{L:Addr}{ys zs:List V}(h:StatAt H e)(eL:H L=some (.lst ys))(hn:∀ u∈e.r.ws,∀ a,(aN e.wk (.inr u)=some (.ref a)∨aN e.bk (.inr u)=some (.ref a))→a≠L):StatAt (upd H L (.lst zs)) e:=by
 have k:∀ {c:Addr} {o:HO},H c=some o→o ≠ .lst ys→upd H L (.lst zs) c=some o:=fun z1 z2=>by rw[am (bv z1 eL z2)]; exact z1
 refine⟨k h.ob (fun z=>nomatch z),k h.sd (fun z=>nomatch z),k h.wd (fun z=>nomatch z),k h.bd (fun z=>nomatch z),k h.bl (fun z=>nomatch z),h.no,fun u hu=>?_,h.ok⟩
 obtain⟨a,b,h1,h2,h3,h4⟩:=h.yes u hu
 exact⟨a,b,h1,by rw[am (hn u hu a (.inl h1))]; exact h2,h3,by rw[am (hn u hu b (.inr h3))]; exact h4⟩
theorem tX(D:DefAt K mg "watches_of" bZ) (z_enumerate:mg "enumerate" = none) (c_watch_of:aR P w K mg base 3 "watch_of" ["place", "named", "column"] (nC CW)):aR P w K mg base 4 "watches_of" ["rules"] (nh CW):=by
 refine D.cal (k:=3) nU (fun _ _ _ _ _ _ us hl=>match us,hl with | [_],_=>rfl) (fun vs H Q E h=>by obtain⟨_,_,_,rfl,_⟩:=h; rfl) (fun f cdv A outer s H vs Q _ hr h=>?_)
 obtain⟨b,bs,xs,rfl,eb,pb,hxl,hok,q⟩:=h
 have hlb:=aL pb;refine⟨_,(aj (aG (fH (CompSc.to (fsc:=(defScope bZ)) (N:=["rules"]) (N0:=["rules"]) (T:=["place", "named"]) ⟨by decide +kernel,by decide +kernel,by decide +kernel,by decide +kernel,by decide +kernel,by decide +kernel,by decide +kernel⟩ rfl rfl) rfl (je K Jh z_enumerate (aa (pv 0) ac)) (fun _ _ _ _=>(gf K (n:=2) (cO (bq 1 (show (["rules", "place", "named"]:List Str).Nodup from by decide +kernel) (hx:=(gY (defScope bZ) (by decide +kernel))) (hf:=jF (defScope bZ) (by decide +kernel))) (cO (bq 2 (show (["rules", "place", "named"]:List Str).Nodup from by decide +kernel) (hx:=(gY (defScope bZ) (by decide +kernel))) (hf:=jF (defScope bZ) (by decide +kernel))) gd)))) (rm (ie (dh (show (["rules"]:List Str).length≤1 from by decide)) gJ (ie (dh (show (["rules"]:List Str).length≤2 from by decide)) gJ p_ kc) (oX gJ kc))) (fun _ _ _ _=>em) (fun _ _ _ _=>(az c_watch_of hr (aa (pv 1 (hv:=(fD (defScope bZ) (by decide +kernel)))) (aa (pv 2 (hv:=(fD (defScope bZ) (by decide +kernel)))) (aa fQ ac))) (hg:=(CC (defScope bZ) (by decide +kernel)))))))),?_⟩
 walk_at "rd1";refine⟨⟨_,eb⟩,fun L hL=>?_⟩
 refine tQ (xs:=bs.map V.ref) (fun j ys H4=>∃ es:List WE,ys=(es.map fun e=>V.ref e.w)∧es.length=j∧Same H H4∧H4 L=some (.lst ys)∧(∀ (k:Nat) e x,es[k]? = some e→xs[k]? = some x→MadeW H H4 CW e k x∧(∀ u∈e.r.ws,∀ a,(aN e.wk (.inr u)=some (.ref a)∨aN e.bk (.inr u)=some (.ref a))→a≠L))∧(∀ (i j:Nat) e e',es[i]? = some e→es[j]? = some e'→i≠j→e.sa≠e'.sa∧e.sa≠e'.ta∧e.ta≠e'.ta))
  ⟨[],rfl,rfl,ak hL _,ae,fun _ _ _ z=>by simp at z,fun _ _ _ _ z=>by simp at z⟩ (fun j ys H4 _ hh=>by obtain⟨_,_,_,sm4,_⟩:=hh; exact SqL.of (sm4 _ _ eb)) ?_ ?_
 ·rintro j ys H4 v t hv hj ⟨es,rfl,hel,sm4,eL,hm,hne⟩ ht
  rw[List.length_map]at hj
  rw[List.getElem?_map,List.getElem?_eq_getElem hj]at hv
  cases hv;have hj':j<xs.length:=by omega
  have hx:=List.getElem?_eq_getElem hj';generalize xs[j]=x at hx;have hN:NmAt H bs[j] x:=i7 pb (List.getElem?_eq_getElem hj) hx
  have s5:=ak ht (.tup [.int (j:Int),.ref bs[j]]);have et:upd H4 t (.tup [.int (j:Int),.ref bs[j]]) t=some (.tup [.int (j:Int),.ref bs[j]]):=ae
  generalize upd H4 t (.tup [.int (j:Int),.ref bs[j]])=H5 at s5 et ⊢;have s45:=sm4.trans s5;walk_at "rd1";refine⟨t,_,rfl,SqT.of et,rfl,?_⟩
  walk_at "rd1";refine⟨j,bs[j],x,rfl,hN.mono s45,(hok x (List.mem_of_getElem? hx)).1,(hok x (List.mem_of_getElem? hx)).2,fun e H6 s6 M=>?_⟩
  have eL5:=s5 _ _ eL;have eL6:=s6 _ _ eL5;have s56:=s5.trans s6;have hnew:∀ u∈e.r.ws,∀ a,(aN e.wk (.inr u)=some (.ref a)∨aN e.bk (.inr u)=some (.ref a))→a≠L:=fun u hu a ha=>(aM eL5 (M.nw u hu a ha)).symm
  refine iM (by rw[List.length_map]; exact hj) (by rw[List.length_map]; exact hel) (by rw[List.length_map]; exact bt (by omega)) eL6 ⟨es++[e],by rw[List.map_append]; rfl,by simp[hel],(s45.trans s6).upd hL _,ae,fun i e' x' g1 g2=>?_,fun i i' e1 e2 g1 g2 hii=>?_⟩
  ·have kd:∀ {c:Addr} {o:HO},H6 c=some o→(∀ zs,o ≠ .lst zs)→upd H6 L (.lst ((es.map fun e=>V.ref e.w)++[V.ref e.w])) c=some o:=fun z1 z2=>by rw[am (bv z1 eL6 (z2 _))]; exact z1
   rcases Nat.lt_or_ge i es.length with hi | hi
   ·rw[List.getElem?_append_left hi]at g1
    obtain⟨m1,m2⟩:=hm i e' x' g1 g2
    have m3:=m1.mono (Same.refl _) s56;exact⟨⟨m3.C,m3.r,m3.pl,m3.nm,m3.st.keep eL6 m2,kd m3.sa (fun _ z=>nomatch z),kd m3.ta (fun _ z=>nomatch z),m3.fs,m3.ft,m3.ne,m3.nw⟩,m2⟩
   ·rw[List.getElem?_append_right hi]at g1
    have hi0:i - es.length=0:=by have:=(List.getElem?_eq_some_iff.mp g1).1; simp at this; omega
    rw[hi0]at g1
    have ee:e=e':=by simpa using g1
    subst ee;have hij:i=j:=by omega
    subst hij;rw[hx]at g2; cases g2
    have m3:=M.mono s45 (Same.refl _);exact⟨⟨m3.C,m3.r,m3.pl,m3.nm,m3.st.keep eL6 hnew,kd m3.sa (fun _ z=>nomatch z),kd m3.ta (fun _ z=>nomatch z),m3.fs,m3.ft,m3.ne,m3.nw⟩,hnew⟩
  ·have old:∀ (i:Nat) e1,es[i]? = some e1→e1.sa≠e.sa∧e1.sa≠e.ta∧e1.ta≠e.ta∧e1.ta≠e.sa:=fun i e1 g=>by
    have hi:=(List.getElem?_eq_some_iff.mp g).1;obtain⟨m1,_⟩:=hm i e1 _ g (List.getElem?_eq_getElem (by omega))
    exact⟨aM (s5 _ _ m1.sa) M.fs,aM (s5 _ _ m1.sa) M.ft,aM (s5 _ _ m1.ta) M.ft,aM (s5 _ _ m1.ta) M.fs⟩
   have cl:∀ (i:Nat) e1,(es++[e])[i]? = some e1→es[i]? = some e1∨(i=es.length∧e1=e):=fun i e1 g=>by
    rcases Nat.lt_or_ge i es.length with hi | hi
    ·rw[List.getElem?_append_left hi]at g; exact .inl g
    ·rw[List.getElem?_append_right hi]at g
     have hi0:i - es.length=0:=by have:=(List.getElem?_eq_some_iff.mp g).1; simp at this; omega
     rw[hi0]at g
     exact .inr ⟨by omega,by simpa using g.symm⟩
   rcases cl i e1 g1 with c1 | ⟨c1,rfl⟩
   ·rcases cl i' e2 g2 with c2 | ⟨c2,rfl⟩
    ·exact hne i i' e1 e2 c1 c2 hii
    ·have:=old i e1 c1; exact⟨this.1,this.2.1,this.2.2.1⟩
   ·rcases cl i' e2 g2 with c2 | ⟨c2,rfl⟩
    ·have:=old i' e2 c2; exact⟨this.1.symm,this.2.2.2.symm,this.2.2.1.symm⟩
    ·exact absurd (c1.trans c2.symm) hii
 ·rintro ys H4 ⟨es,rfl,hel,sm4,eL,hm,hne⟩
  rw[List.length_map]at hel
  exact q L es H4 sm4 hL eL ⟨by omega,fun k e x g1 g2=>(hm k e x g1 g2).1,hne⟩
end
set_option genSizeOf false in
inductive Kd where
 | st
 | ti
 | rd
 | tl
inductive KO (n:Nat) (κ : Addr→Option Kd):Kd→HO→Prop where
 | st {kv:List (List aw × V)}:kv.length≤n→(∀ p∈kv,∃ b,p.2 = .ref b∧κ b=some .rd)→KO n κ .st (.dT kv)
 | ti {kv:List (List aw × V)}:kv.length≤n→(∀ p∈kv,∃ b,p.2 = .ref b∧κ b=some .tl)→KO n κ .ti (.dT kv)
 | rd {kv:List (aw × V)}:kv.length≤n→KO n κ .rd (.dK kv)
 | tl {xs:List V}:xs.length≤n→KO n κ .tl (.lst xs)
theorem KO.up{n m:Nat}{κ κ':Addr→Option Kd}{k:Kd}{o:HO}(h:KO n κ k o)(hn:n≤m)(hk:∀ b j,κ b=some j→κ' b=some j):KO m κ' k o:=by
 cases h with
 | st h1 h2=>exact .st (Nat.le_trans h1 hn) fun p hp=>let ⟨b,e1,e2⟩:=h2 p hp; ⟨b,e1,hk _ _ e2⟩
 | ti h1 h2=>exact .ti (Nat.le_trans h1 hn) fun p hp=>let ⟨b,e1,e2⟩:=h2 p hp; ⟨b,e1,hk _ _ e2⟩
 | rd h1=>exact .rd (Nat.le_trans h1 hn)
 | tl h1=>exact .tl (Nat.le_trans h1 hn)
structure WZ (H0 H:Hp) (es:List WE) (n:Nat) (κ : Addr→Option Kd):Prop where
 sm:Same H0 H
 stat:∀ e∈es,StatAt H0 e
 fr:∀ a k,κ a=some k→H0 a=none
 own:∀ e∈es,κ e.sa=some .st∧κ e.ta=some .ti
 ob:∀ a k,κ a=some k→∃ o,H a=some o∧KO n κ k o
def fS(κ : Addr→Option Kd)(b:Addr)(k:Kd):Addr→Option Kd:=fun a=>if a=b then some k else κ a
def eh(κ : Addr→Option Kd)(H:Hp):Hp:=fun a=>if (κ a).isSome=true then none else H a
theorem jW{κ : Addr→Option Kd}{H:Hp}{a:Addr}(h:κ a=none):eh κ H a=H a:=by
 unfold eh;rw[h]
 rfl
theorem nL(κ : Addr→Option Kd)(H:Hp):Same (eh κ H) H:=fun b o e=>by
 unfold eh at e;split at e
 ·cases e
 ·exact e
section
variable{H0 H H':Hp}{es:List WE}{n m:Nat}{κ κ':Addr→Option Kd}{a:Addr}{k:Kd}{o:HO}
theorem WZ.keep(W:WZ H0 H es n κ)(h:∀ a k o,κ a=some k→H a=some o→H' a=some o)(s:Same H0 H'):WZ H0 H' es n κ:=
 ⟨s,W.stat,W.fr,W.own,fun a k e=>let ⟨o,h1,h2⟩:=W.ob a k e; ⟨o,h a k o e h1,h2⟩⟩
theorem WZ.mono(W:WZ H0 H es n κ)(s:Same H H'):WZ H0 H' es n κ:=W.keep (fun _ _ _ _ e=>s _ _ e) (W.sm.trans s)
theorem WZ.up(W:WZ H0 H es n κ)(h:n≤m):WZ H0 H es m κ:=
 ⟨W.sm,W.stat,W.fr,W.own,fun a k e=>let ⟨o,h1,h2⟩:=W.ob a k e; ⟨o,h1,h2.up h fun _ _ z=>z⟩⟩
theorem WZ.frame(W:WZ H0 H es n κ)(ha:κ a=none)(h0:H0 a=none)(o:HO):WZ H0 (upd H a o) es n κ:=
 W.keep (fun b j u e z=>by rw[am (fun g=>by rw[g,ha]at e; cases e)]; exact z) (W.sm.upd h0 o)
theorem WZ.put(W:WZ H0 H es n κ)(ha:κ a=some k)(ho:KO n κ k o):WZ H0 (upd H a o) es n κ:=by
 refine⟨W.sm.upd (W.fr a k ha) o,W.stat,W.fr,W.own,fun b j e=>?_⟩
 by_cases h:b=a
 ·subst h
  rw[ha]at e
  cases e;exact⟨o,ae,ho⟩
 ·rw[am h]
  exact W.ob b j e
theorem WZ.new(W:WZ H0 H es n κ)(ha:κ a=none)(h0:H0 a=none)(e:H a=some o)(ho:KO n κ k o):WZ H0 H es n (fS κ a k):=by
 have up:∀ b j,κ b=some j→fS κ a k b=some j:=fun b j z=>by
  unfold fS;rw[if_neg (fun g=>by rw[g,ha]at z; cases z)]
  exact z
 refine⟨W.sm,W.stat,fun b j z=>?_,fun e he=>⟨up _ _ (W.own e he).1,up _ _ (W.own e he).2⟩,fun b j z=>?_⟩
 ·by_cases h:b=a
  ·rw[h]
   exact h0
  ·unfold fS at z
   rw[if_neg h]at z
   exact W.fr b j z
 ·by_cases h:b=a
  ·unfold fS at z
   rw[if_pos h]at z
   cases z;rw[h];exact⟨o,e,ho.up (Nat.le_refl _) up⟩
  ·unfold fS at z
   rw[if_neg h]at z
   obtain⟨u,h1,h2⟩:=W.ob b j z
   exact⟨u,h1,h2.up (Nat.le_refl _) up⟩
theorem WZ.noK(W:WZ H0 H es n κ)(h:∀ k o,H a=some o→¬ KO n κ k o):κ a=none:=by
 cases e:κ a with
 | none=>rfl
 | some k=>
  obtain⟨o,h1,h2⟩:=W.ob a k e
  exact absurd h2 (h k o h1)
theorem WZ.free(W:WZ H0 H es n κ)(h:H a=none):κ a=none:=W.noK fun k o z=>by rw[h]at z; cases z
theorem WZ.tup(W:WZ H0 H es n κ){xs:List V}(h:H a=some (.tup xs)):κ a=none:=W.noK fun k o z g=>by
 rw[h]at z
 cases z
 cases g
theorem WZ.ins(W:WZ H0 H es n κ){c d:Addr}{fs:List (Str × V)}(h:H a=some (.ins c d fs)):κ a=none:=W.noK fun k o z g=>by
 rw[h]at z
 cases z
 cases g
theorem WZ.off(W:WZ H0 H es n κ):Same H0 (eh κ H):=fun b o e=>by
 have hb:κ b=none:=by
  cases h:κ b with
  | none=>rfl
  | some r=>rw[W.fr b r h]at e; cases e
 rw[jW hb];exact W.sm b o e
theorem WZ.bs(W:WZ H0 H es n κ):WZ (eh κ H) H es n κ:=
 ⟨nL κ H,fun e he=>(W.stat e he).mono W.off,fun a k h=>by unfold eh; rw[h]; rfl,W.own,W.ob⟩
theorem WZ.back(W:WZ H0 H es n κ)(W':WZ (eh κ H) H' es m κ'):WZ H0 H' es m κ':=
 ⟨W.off.trans W'.sm,W.stat,fun a k h=>W.off.free (W'.fr a k h),W'.own,W'.ob⟩
theorem WZ.stat'(W:WZ H0 H es n κ){e:WE}(he:e∈es):StatAt H e:=(W.stat e he).mono W.sm
end
theorem qF{α : Type}[DecidableEq α]{kvs:List (α × V)}{k:α}{v:V}(h:aN kvs k=some v):∃ p∈kvs,p.2=v:=by
 unfold aN at h
 cases e:kvs.find? fun kv=>decide (kv.1=k) with
 | none=>rw[e]at h; cases h
 | some p=>
  rw[e]at h
  exact⟨p,List.mem_of_find?_eq_some e,Option.some.inj h⟩
theorem qQ{α : Type}[DecidableEq α]{kvs:List (α × V)}{k:α}{v:V}{R:V→Prop}(h:∀ p∈kvs,R p.2)(hv:R v):∀ p∈bC kvs k v,R p.2:=fun p hp=>by
 unfold bC at hp;split at hp
 ·obtain⟨q,hq,rfl⟩:=List.mem_map.mp hp
  split
  ·exact hv
  ·exact h q hq
 ·rcases List.mem_append.mp hp with z | z
  ·exact h p z
  ·rw[List.mem_singleton.mp z]
   exact hv
section
variable{CW:Addr}
theorem AS(D:MethAt K CW "mark_at" "Watch.mark_at" cm) (a_column:Fl K CW "column"):cE P w K mg base 1 CW "mark_at" ["self", "at"] (fun vs H Q _=>∃ e v,e.C=CW∧vs=[.ref e.w,v]∧StatAt H e∧Q (.str "look") H):=by
 refine D.mcal (k:=0) kK (fun _ _ _ _ _ _ us hl=>match us,hl with | [_,_],_=>rfl) (fun vs H Q E h=>by obtain⟨e,v,_,rfl,_⟩:=h; rfl) (fun f cdv A outer s H vs Q _ hr h=>?_)
 obtain⟨e,v,rfl,rfl,R,q⟩:=h
 refine⟨_,(aj (aG (hZ (aE rD (au a_column (pv 0)) fQ (aP _)) aJ (aq (aK K) (au a_column (pv 0)) (pv 1) (fun _ _=>rfl))))),?_⟩
 walk_at "rd1";refine R.column ?_
 walk_at "rd1";exact q
structure NoW (C:Addr) (H:Hp) (e:WE) (u:Str):Prop where
 C:e.C=C
 st:StatAt H e
 no:∀ s∈cJ e.r,qO s u∉e.r.ws
 lu:u.length≤1000
theorem NoW.mono{C:Addr}{H H':Hp}{e:WE}{u:Str}(h:NoW C H e u)(s:Same H H'):NoW C H' e u:=⟨h.C,h.st.mono s,h.no,h.lu⟩
def iC(C:Addr):Sp:=fun vs H Q _=>∃ (e:WE) (h:Int) (u:Str),vs=[.ref e.w,.int h,.str u]∧NoW C H e u∧∀ (a:Addr) (H':Hp),Same H H'→H a=none→H' a=some (.lst [])→Q (.ref a) H'
theorem vy{r:Rl}{s:Int}(h:s∈cJ r):s=0∨s=1∨s=2:=by
 unfold cJ at h;split at h <;> simp at h <;> omega
theorem xC(D:MethAt K CW "rows_with" "Watch.rows_with" aU) (a_sides:Fl K CW "sides") (a_ways:Fl K CW "ways") (c_sided_text:aR P w K mg base 1 "sided_text" ["side", "word"] oK):cE P w K mg base 2 CW "rows_with" ["self", "handle", "word"] (iC CW):=by
 refine D.mcal (k:=1) sc_Watch_rows_with (fun _ _ _ _ _ _ us hl=>match us,hl with | [_,_,_],_=>rfl) (fun vs H Q E h=>by obtain⟨_,_,_,rfl,_⟩:=h; rfl) (fun f cdv A outer s H vs Q _ hr h=>?_)
 obtain⟨e,h,u,rfl,N,q⟩:=h
 have eC:=N.C;subst eC;have S:=N.st
 refine⟨_,(af (aA 3 sc_Watch_rows_with.nd (aQ ac))
   (af (cu PassesOwn.never rfl ((iF K) (au a_sides (pv 0))) (bq 4 sc_Watch_rows_with.nd) (af (aA 5 sc_Watch_rows_with.nd (az c_sided_text hr (aa (pv 4) (aa (pv 2) ac))) (hx:=FU))
   (aj (bE (aE (Dw hr) (pv 5 (hv:=FN)) (au a_ways (pv 0)) (by with_unfolding_all rfl)) (aj jg) bH))))
   (aj (aG (pv 3))))),?_⟩
 walk_at "rd1";refine⟨by decide,fun B hB=>?_⟩
 have sm1:=ak hB (.lst []);have eB:upd H B (.lst []) B=some (.lst []):=ae
 generalize upd H B (.lst [])=H1 at sm1 eB ⊢;walk_at "nx"
 try rw[q_]
 walk_at "rd1";refine(S.mono sm1).sides ⟨_,rfl,⟨_,SqT.of (S.mono sm1).sd⟩,?_⟩
 refine kH (xs:=(cJ e.r).map V.int) (fun i σ H'=>H'=H1∧∃ (o4 o5:Option V),σ=[some (.ref e.w),some (.int h),some (.str u),some (.ref B),o4,o5])
  ⟨rfl,_,_,rfl⟩ (fun i σ H' _ hh=>?_) (fun i x σ H' hx hh=>?_) (fun σ H' hh=>?_)
 ·rw[hh.1]
  exact SqT.of (S.mono sm1).sd
 ·obtain⟨rfl,o4,o5,rfl⟩:=hh
  obtain⟨sd,hsd,rfl⟩ : ∃ sd,(cJ e.r)[i]? = some sd∧x = .int sd:=by
   rw[List.getElem?_map]at hx
   cases e1:(cJ e.r)[i]? with
   | none=>rw[e1]at hx; cases hx
   | some sd=>rw[e1]at hx; cases hx; exact⟨sd,rfl,rfl⟩
  have hm:=List.mem_of_getElem? hsd;walk_at "rd1";refine⟨sd,u,rfl,vy hm,N.lu,?_⟩
  walk_at "nx";refine(S.mono sm1).ways ⟨e.wd,e.wk,.inr (qO sd u),rfl,rfl,(S.mono sm1).wd,?_⟩
  walk_at "rd1";refine bG (fun c=>?_) (fun c=>⟨_,_,rfl⟩)
  rw[S.no _ (N.no sd hm)]at c
  cases c
 ·obtain⟨rfl,o4,o5,rfl⟩:=hh
  walk_at "nx";exact q B H' sm1 hB eB
theorem sV(D:MethAt K CW "broken_by" "Watch.broken_by" bu) (m_Watch_rows_with:cE P w K mg base 2 CW "rows_with" ["self", "handle", "word"] (iC CW)):cE P w K mg base 3 CW "broken_by" ["self", "handle", "word"] (iC CW):=by
 refine D.mcal (k:=2) sc_Watch_broken_by (fun _ _ _ _ _ _ us hl=>match us,hl with | [_,_,_],_=>rfl) (fun vs H Q E h=>by obtain⟨_,_,_,rfl,_⟩:=h; rfl) (fun f cdv A outer s H vs Q _ hr h=>?_)
 obtain⟨e,h,u,rfl,N,q⟩:=h
 have eC:=N.C;subst eC
 refine⟨_,(af (aA 3 sc_Watch_broken_by.nd (aQ ac))
   (af (cu PassesOwn.never rfl (cw K (b7 m_Watch_rows_with hr (pv 0) (aa (pv 1) (aa (pv 2) ac)))) oB mZ)
   (aj (aG (pv 3))))),?_⟩
 walk_at "rd1";refine⟨by decide,fun B hB=>?_⟩
 have sm1:=ak hB (.lst []);have eB:upd H B (.lst []) B=some (.lst []):=ae
 generalize upd H B (.lst [])=H1 at sm1 eB ⊢;walk_at "nx";have S1:=N.st.mono sm1;refine⟨S1.isM (by decide +kernel),e,h,u,rfl,⟨rfl,S1,N.no,N.lu⟩,fun a H2 s2 ha ea=>⟨a,rfl,⟨_,SqL.of ea⟩,BS (SqL.of ea) ?_⟩⟩
 walk_at "nx";exact q B H2 (sm1.trans s2) hB (s2 _ _ eB)
theorem Eu(D:MethAt K CW "go_on" "Watch.go_on" cx) (m_Watch_rows_with:cE P w K mg base 2 CW "rows_with" ["self", "handle", "word"] (iC CW)):cE P w K mg base 3 CW "go_on" ["self", "handle", "word"] (fun vs H Q _=>∃ (e:WE) (h:Int) (u:Str),vs=[.ref e.w,.int h,.str u]∧NoW CW H e u∧∀ (H':Hp),Same H H'→Q .non H'):=by
 refine D.mcal (k:=2) ml (fun _ _ _ _ _ _ us hl=>match us,hl with | [_,_,_],_=>rfl) (fun vs H Q E h=>by obtain⟨_,_,_,rfl,_⟩:=h; rfl) (fun f cdv A outer s H vs Q _ hr h=>?_)
 obtain⟨e,h,u,rfl,N,q⟩:=h
 have eC:=N.C;subst eC;refine⟨_,(aj (cu PassesOwn.never rfl (cw K (b7 m_Watch_rows_with hr (pv 0) (aa (pv 1) (aa (pv 2) ac)))) oB mZ)),?_⟩
 walk_at "rd1";refine⟨N.st.isM (by decide +kernel),e,h,u,rfl,N,fun a H2 s2 ha ea=>⟨a,rfl,⟨_,SqL.of ea⟩,BS (SqL.of ea) ?_⟩⟩
 exact q H2 s2
end
def wJ(C:Addr):Sp:=fun vs H Q _=>∃ (es:List WE) (a:Addr) (tt:V) (h:Int) (u:Str),vs=[.ref a,tt,.int h,.str u]∧H a=some (.lst (es.map fun e=>V.ref e.w))∧(∀ e∈es,NoW C H e u)∧∀ (H':Hp),Same H H'→Q .non H'
section
variable{CW:Addr}
theorem tM{es:List WE}{i:Nat}{x:V}(hx:(es.map fun e=>V.ref e.w)[i]? = some x):∃ e∈es,x = .ref e.w:=by
 rw[List.getElem?_map]at hx
 cases e1:es[i]? with
 | none=>rw[e1]at hx; cases hx
 | some e=>rw[e1]at hx; cases hx; exact⟨e,List.mem_of_getElem? e1,rfl⟩
theorem A_(D:DefAt K mg "broken_or_gone_on" bb) (z_len:mg "len" = none) (m_Watch_mark_at:cE P w K mg base 1 CW "mark_at" ["self", "at"] (fun vs H Q _=>∃ e v,e.C=CW∧vs=[.ref e.w,v]∧StatAt H e∧Q (.str "look") H)) (m_Watch_broken_by:cE P w K mg base 3 CW "broken_by" ["self", "handle", "word"] (iC CW)) (m_Watch_go_on:cE P w K mg base 3 CW "go_on" ["self", "handle", "word"] (fun vs H Q _=>∃ (e:WE) (h:Int) (u:Str),vs=[.ref e.w,.int h,.str u]∧NoW CW H e u∧∀ (H':Hp),Same H H'→Q .non H')):aR P w K mg base 4 "broken_or_gone_on" ["watches", "at", "handle", "word"] (wJ CW):=by
 refine D.cal (k:=3) sc_broken_or_gone_on (fun _ _ _ _ _ _ us hl=>match us,hl with | [_,_,_,_],_=>rfl) (fun vs H Q E h=>by obtain⟨_,_,_,_,_,rfl,_⟩:=h; rfl) (fun f cdv A outer s H vs Q _ hr h=>?_)
 obtain⟨es,a,tt,h,u,rfl,ha,hN,q⟩:=h
 refine⟨_,(af (aA 4 sc_broken_or_gone_on.nd (aQ ac))
   (af (cu PassesOwn.never rfl (cw K (pv 0)) (bq 5 sc_broken_or_gone_on.nd) (aj (bE (aE bY (b7 m_Watch_mark_at hr (pv 5) (aa (pv 1) ac)) aJ (aP _)) (aj (aO (bL K PySem.F.plainAttrs_list PySem.F.slot_list_extend PySem.F.type_list_extend fb (pv 4) (aa (b7 m_Watch_broken_by hr (pv 5) (aa (pv 2) (aa (pv 3) ac))) ac)))) bH)))
   (af (bE (aE uy (bS (bc K) z_len b6 (aa (pv 4) ac)) ah (aP _)) (af jg
   (aj jg)) bH)
   (af (cu PassesOwn.never rfl (cw K (pv 0)) (bq 5 sc_broken_or_gone_on.nd) (aj (bE (aE lP (b7 m_Watch_mark_at hr (pv 5) (aa (pv 1) ac)) aJ (aP _)) (aj (aO (b7 m_Watch_go_on hr (pv 5) (aa (pv 2) (aa (pv 3) ac))))) bH)))
   (aj (aG fQ)))))),?_⟩
 walk_at "rd1";refine⟨by decide,fun B hB=>?_⟩
 have s1:=ak hB (.lst []);have eB:upd H B (.lst []) B=some (.lst []):=ae
 generalize upd H B (.lst [])=H1 at s1 eB ⊢;walk_at "nx";refine⟨⟨_,SqL.of (s1 _ _ ha)⟩,?_⟩
 refine c6 (xs:=es.map fun e=>V.ref e.w) (fun i σ H'=>∃ (o5:Option V),σ=[some (.ref a),some tt,some (.int h),some (.str u),some (.ref B),o5,none]∧Same H1 H')
  ⟨_,rfl,Same.refl _⟩ (fun i σ H' _ hh=>?_) (fun i x σ H' hx hh=>?_) (fun σ H' hh=>?_)
 ·obtain⟨_,_,sm⟩:=hh
  exact SqL.of (sm _ _ (s1 _ _ ha))
 ·obtain⟨o5,rfl,sm⟩:=hh
  obtain⟨e,he,rfl⟩:=tM hx
  have N:=hN e he;have eC:=N.C;have S:=N.st.mono (s1.trans sm);walk_at "rd1";refine⟨eC ▸ S.isM (by decide +kernel),e,tt,eC,rfl,S,?_⟩
  walk_at "rd1";have eB2:=sm _ _ eB;refine⟨⟨_,SqL.of eB2⟩,eC ▸ S.isM (by decide +kernel),e,h,u,rfl,⟨eC,S,N.no,N.lu⟩,fun b H3 s3 hb0 eb=>?_⟩
  dsimp only
  rw[fN];have eB3:=s3 _ _ eB2;refine⟨_,_,eB3,eb,by decide,_,rfl,fun c o z=>?_⟩
  have z3:=s3 _ _ (sm _ _ z)
  by_cases hc:c=B
  ·rw[hc]at z3 ⊢
   rw[eB3]at z3
   cases z3;exact ae
  ·rw[am hc]
   exact z3
 ·obtain⟨o5,rfl,sm⟩:=hh
  walk_at "nx";refine⟨_,.inl (SqL.of (sm _ _ eB)),?_⟩
  walk_at "rd1";refine bG (fun c=>absurd c (by decide)) (fun c=>?_)
  walk_at "nx";have s2:=s1.trans sm;refine⟨⟨_,SqL.of (s2 _ _ ha)⟩,?_⟩
  refine c6 (xs:=es.map fun e=>V.ref e.w) (fun i σ H'=>∃ (o5:Option V),σ=[some (.ref a),some tt,some (.int h),some (.str u),some (.ref B),o5,none]∧Same H H')
   ⟨_,rfl,s2⟩ (fun i σ H' _ hh=>?_) (fun i x σ H' hx hh=>?_) (fun σ H' hh=>?_)
  ·obtain⟨_,_,sm⟩:=hh
   exact SqL.of (sm _ _ ha)
  ·obtain⟨o5,rfl,sm⟩:=hh
   obtain⟨e,he,rfl⟩:=tM hx
   have N:=hN e he;have eC:=N.C;have S:=N.st.mono sm;walk_at "rd1";refine⟨eC ▸ S.isM (by decide +kernel),e,tt,eC,rfl,S,?_⟩
   walk_at "rd1";refine bG (fun _=>?_) (fun c=>absurd (by decide +kernel) c)
   exact⟨eC ▸ S.isM (by decide +kernel),e,h,u,rfl,⟨eC,S,N.no,N.lu⟩,fun H3 s3=>⟨_,rfl,sm.trans s3⟩⟩
  ·obtain⟨o5,rfl,sm⟩:=hh
   walk_at "nx";exact q H' sm
def vN(C:Addr):Sp:=fun vs H Q _=>∃ (H0:Hp) (es:List WE) (n:Nat) (κ : Addr→Option Kd) (e:WE) (one other:Int) (start:Nat),e.C=C∧vs=[.ref e.w,.int one,.int other,.int (start:Int)]∧WZ H0 H es n κ∧e∈es∧n≤900000∧∀ (H':Hp) (κ':Addr→Option Kd),WZ H0 H' es (n+4) κ'→Q .non H'
theorem AC(D:MethAt K CW "begin_tie" "Watch.begin_tie" bh) (a_sides:Fl K CW "sides") (a_starts:Fl K CW "starts") (a_ties:Fl K CW "ties"):cE P w K mg base 1 CW "begin_tie" ["self", "one", "other", "start"] (vN CW):=by
 refine D.mcal (k:=0) sc_Watch_begin_tie (fun _ _ _ _ _ _ us hl=>match us,hl with | [_,_,_,_],_=>rfl) (fun vs H Q E h=>by obtain⟨_,_,_,_,_,_,_,_,_,rfl,_⟩:=h; rfl) (fun f cdv A outer s H vs Q _ hr h=>?_)
 obtain⟨H0,es,n,κ,e,one,other,start,rfl,rfl,W,he,hn,q⟩:=h
 refine⟨_,(af (bE (aE (BD K hr) (au a_sides (pv 0)) (aX (aa ah ac)) (aP _)) (aj rh) bH)
   (af (aA 4 sc_Watch_begin_tie.nd (aX (aa (pv 1) (aa (pv 2) ac))))
   (af (bE (aE (vb hr) (pv 4) (au a_starts (pv 0)) (by with_unfolding_all rfl)) (af (gW fW (hX (au a_starts (pv 0)) (pv 4) (CZ hr)))
   (af (aO (bL K PySem.F.plainAttrs_list PySem.F.slot_list_append PySem.F.type_list_append bx (bL K PySem.F.plainAttrs_dict PySem.F.slot_dict_setdefault PySem.F.type_dict_setdefault (lF hr) (au a_ties (pv 0)) (aa (aX (aa (pv 1) (aa ah ac))) (aa (aQ ac) ac))) (aa (pv 4) ac)))
   (aj (aO (bL K PySem.F.plainAttrs_list PySem.F.slot_list_append PySem.F.type_list_append bx (bL K PySem.F.plainAttrs_dict PySem.F.slot_dict_setdefault PySem.F.type_dict_setdefault (lF hr) (au a_ties (pv 0)) (aa (aX (aa (pv 2) (aa ah ac))) (aa (aQ ac) ac))) (aa (pv 4) ac)))))) bH)
   (aj (aO (bL K PySem.F.plainAttrs_dict PySem.F.slot_dict_setdefault PySem.F.type_dict_setdefault ud (aq (Fb hr) (au a_starts (pv 0)) (pv 4) (fun _ _=>rfl)) (aa ah (aa (pv 3) ac)))))))),?_⟩
 walk_at "rd1";refine(W.stat' he).sides ⟨by decide,fun p hp=>?_⟩
 have s1:=ak hp (.tup [.int 0]);have ep:upd H p (.tup [.int 0]) p=some (.tup (([0]:List Int).map V.int)):=ae
 generalize upd H p (.tup [.int 0])=H1 at s1 ep ⊢;have W1:=W.mono s1;refine⟨e.sd,p,cJ e.r,[0],rfl,rfl,SqT.of (W1.stat' he).sd,SqT.of ep,_,rfl,?_⟩
 refine bG (fun c=>q H1 κ (W1.up (Nat.le_add_right _ _))) (fun c=>?_)
 walk_at "nx";refine⟨by decide,fun t ht=>?_⟩
 have s2:=ak ht (.tup [.int one,.int other]);have et:upd H1 t (.tup [.int one,.int other]) t=some (.tup (([.inl one,.inl other]:List aw).map kV)):=ae
 generalize upd H1 t (.tup [.int one,.int other])=H2 at s2 et ⊢;have W2:=W1.mono s2
 have tne:∀ {Hx:Hp} {c:Addr} {o u:HO},Hx t=some (.tup (([.inl one,.inl other]:List aw).map kV))→Hx c=some o→(∀ xs,o ≠ .tup xs)→upd Hx c u t=some (.tup (([.inl one,.inl other]:List aw).map kV)):=fun {Hx c o u} z1 z2 z3=>by
  rw[am (fun g=>by rw[g,z2]at z1; exact z3 _ (Option.some.inj z1))]
  exact z1
 walk_at "nx";obtain⟨o2,g1,g2⟩:=W2.ob _ _ (W2.own e he).1
 cases g2 with
 | st hl hv=>
 rename_i kvs
 refine(W2.stat' he).starts ⟨e.sa,t,kvs,[.inl one,.inl other],rfl,rfl,g1,et,?_⟩
 have add:∀ (x1 sd:Int) (H4:Hp) (κ4:Addr→Option Kd) (m:Nat) (kv:List (List aw × V)) (Post:Hp→Prop),WZ H0 H4 es m κ4→H4 t=some (.tup (([.inl one,.inl other]:List aw).map kV))→H4 e.sa=some (.dT kv)→m≤900003→(∀ H5 κ5,WZ H0 H5 es (m+1) κ5→H5 t=some (.tup (([.inl one,.inl other]:List aw).map kV))→H5 e.sa=some (.dT kv)→Post H5)→
   ∃ dx fs v,H4 e.w=some (.ins e.C dx fs)∧fs.lookup ("ties" : Str)=some v∧ko K "dict" v H4∧2≤sizeLine∧∀ p,H4 p=none→0≤sizeLine∧∀ p1,upd H4 p (.tup [.int x1,.int sd]) p1=none→
    oY v [.ref p,.ref p1] (upd (upd H4 p (.tup [.int x1,.int sd])) p1 (.lst [])) fun x H1=>ko K "list" x H1∧fX x [.ref t] H1 fun _ H1=>Post H1:=by
  intro x1 sd H4 κ4 m kv Post W4 et4 es4 hm post
  obtain⟨o4,f1,f2⟩:=W4.ob _ _ (W4.own e he).2
  cases f2 with
  | ti hl4 hv4=>
  rename_i kt
  refine(W4.stat' he).ties ⟨.inr (.inr (.inl ⟨rfl,.inr ⟨_,f1⟩⟩)),by decide,fun p hp=>⟨by decide,fun l hl=>?_⟩⟩
  have s5:=ak hp (.tup [.int x1,.int sd]);have ep5:upd H4 p (.tup [.int x1,.int sd]) p=some (.tup (([.inl x1,.inl sd]:List aw).map kV)):=ae
  generalize upd H4 p (.tup [.int x1,.int sd])=H5 at s5 ep5 hl ⊢;have s6:=ak hl (.lst []);have el:upd H5 l (.lst []) l=some (.lst []):=ae
  generalize upd H5 l (.lst [])=H6 at s6 el ⊢;have s7:=s5.trans s6;have W6:=W4.mono s7;have es6:=s7 _ _ es4;refine⟨e.ta,p,[.inl x1,.inl sd],kt,.ref l,rfl,rfl,s7 _ _ f1,s6 _ _ ep5,bX (by omega),fun z hz=>?_,fun hz=>?_⟩
  ·obtain⟨pp,hpp,rfl⟩:=qF hz
   obtain⟨b,eb,kb⟩:=hv4 pp hpp
   rw[eb];obtain⟨ob,h1,h2⟩:=W6.ob b _ kb
   cases h2 with
   | tl hx=>
   rename_i xs
   refine⟨.inl ⟨rfl,_,SqL.of h1⟩,?_⟩
   rw[iZ];refine⟨_,h1,bX (by omega),post _ κ4 ((W6.up (Nat.le_succ m)).put kb (.tl (by simp; omega))) (tne (s7 _ _ et4) h1 (fun _ z=>nomatch z)) ?_⟩
   rw[am (bv es6 h1 (fun z=>nomatch z))]
   exact es6
  ·have kl:κ4 l=none:=W4.free (s5.free hl)
   have W7:=(W6.up (Nat.le_succ m)).new (k:=.tl) kl (W4.sm.free (s5.free hl)) el (.tl (Nat.zero_le _));have kta:fS κ4 l .tl e.ta=some .ti:=(W7.own e he).2
   have W8:=W7.put kta (o:=.dT (bC kt [.inl x1,.inl sd] (.ref l))) (.ti (Nat.le_trans (cW _ _ _) (by omega)) (qQ (R:=fun v=>∃ b,v = .ref b∧fS κ4 l .tl b=some .tl) (fun p hp=>by
    obtain⟨b,e1,e2⟩:=hv4 p hp
    refine⟨b,e1,?_⟩
    unfold fS;split
    ·rfl
    ·exact e2) ⟨l,rfl,by unfold fS; rw[if_pos rfl]⟩))
   have f6:=s7 _ _ f1;have nlt:l≠e.ta:=bv el f6 (fun z=>nomatch z)
   have el7:upd H6 e.ta (.dT (bC kt [.inl x1,.inl sd] (.ref l))) l=some (.lst []):=by rw[am nlt]; exact el
   have et7:=tne (u:=.dT (bC kt [.inl x1,.inl sd] (.ref l))) (s7 _ _ et4) f6 (fun _ z=>nomatch z)
   have nst:e.sa≠e.ta:=fun z=>by have:=(W4.own e he).1; rw[z,(W4.own e he).2]at this; cases this
   have es7:upd H6 e.ta (.dT (bC kt [.inl x1,.inl sd] (.ref l))) e.sa=some (.dT kv):=by rw[am nst]; exact es6
   generalize upd H6 e.ta (.dT (bC kt [.inl x1,.inl sd] (.ref l)))=H7 at W8 el7 et7 es7 ⊢;refine⟨.inl ⟨rfl,_,SqL.of el7⟩,?_⟩
   rw[iZ];refine⟨_,el7,by decide,post _ _ (W8.put (k:=.tl) (by unfold fS; rw[if_pos rfl]) (.tl (by show 1≤m+1; omega))) (tne et7 el7 (fun _ z=>nomatch z)) ?_⟩
   rw[am (bv es7 el7 (fun z=>nomatch z))]
   exact es7
 have fin:∀ (H3:Hp) (κ3:Addr→Option Kd) (kv:List (List aw × V)) (v:V),WZ H0 H3 es (n+3) κ3→H3 t=some (.tup (([.inl one,.inl other]:List aw).map kV))→H3 e.sa=some (.dT kv)→aN kv [.inl one,.inl other]=some v→
   mv (sy (zR K "dict" oO (jE zP (lz e.C "starts" (da 0)) (da 4)) (lS (tC (V.int 0)) (lS (da 3) t_)))) { nx:=fun x H'=>Q V.non H',rt:=Q } [some (V.ref e.w),some (V.int one),some (V.int other),some (V.int (start:Int)),some (V.ref t)] H3:=by
  intro H3 κ3 kv v W3 et3 f1 f2
  obtain⟨o3,h1,h2⟩:=W3.ob _ _ (W3.own e he).1
  rw[f1]at h1
  cases h1
  cases h2 with
  | st hl3 hv3=>
  obtain⟨pp,hpp,rfl⟩:=qF f2
  obtain⟨b,eb,kb⟩:=hv3 pp hpp
  rw[eb]at f2
  obtain⟨ob,h1,h2⟩:=W3.ob b _ kb
  cases h2 with
  | rd hx=>
  rename_i rs
  walk_at "nx";refine(W3.stat' he).starts ⟨e.sa,t,kv,[.inl one,.inl other],.ref b,rfl,rfl,f1,et3,f2,?_⟩
  refine⟨.inr (.inr (.inl ⟨rfl,.inl ⟨_,h1⟩⟩)),?_⟩
  refine⟨b,_,.inl 0,_,rfl,rfl,h1,bX (by omega),fun z hz=>q H3 κ3 (W3.up (Nat.le_succ _)),fun hz=>?_⟩
  exact q _ κ3 ((W3.up (Nat.le_succ _)).put kb (.rd (Nat.le_trans (cW _ _ _) (by omega))))
 walk_at "rd1";refine bG (fun c=>?_) (fun c=>?_)
 ·refine fun b hb=>?_
  have s3:=ak hb (.dK []);have eb:upd H2 b (.dK []) b=some (.dK []):=ae
  generalize upd H2 b (.dK [])=H3 at s3 eb ⊢;have W3:=W2.mono s3;have g3:=s3 _ _ g1;have kb:κ b=none:=W2.free hb
  have W4:=(W3.up (Nat.le_succ n)).new (k:=.rd) kb (W2.sm.free hb) eb (.rd (Nat.zero_le _))
  have W5:=W4.put (W4.own e he).1 (o:=.dT (bC kvs [.inl one,.inl other] (.ref b))) (.st (Nat.le_trans (cW _ _ _) (by omega)) (qQ (R:=fun v=>∃ c,v = .ref c∧fS κ b .rd c=some .rd) (fun p hp=>by
   obtain⟨c,e1,e2⟩:=hv p hp
   refine⟨c,e1,?_⟩
   unfold fS;split
   ·rfl
   ·exact e2) ⟨b,rfl,by unfold fS; rw[if_pos rfl]⟩))
  refine(W3.stat' he).starts ⟨e.sa,t,kvs,[.inl one,.inl other],rfl,rfl,g3,s3 _ _ et,bX (by omega),?_⟩
  have et4:=tne (u:=.dT (bC kvs [.inl one,.inl other] (.ref b))) (s3 _ _ et) g3 (fun _ z=>nomatch z)
  have es4:upd H3 e.sa (.dT (bC kvs [.inl one,.inl other] (.ref b))) e.sa=some (.dT (bC kvs [.inl one,.inl other] (.ref b))):=ae
  generalize upd H3 e.sa (.dT (bC kvs [.inl one,.inl other] (.ref b)))=H4 at W5 et4 es4 ⊢;walk_at "nx";refine add one 1 H4 _ _ _ _ W5 et4 es4 (by omega) fun H5 κ5 W6 et5 es5=>?_
  walk_at "nx";refine add other 2 H5 κ5 _ _ _ W6 et5 es5 (by omega) fun H6 κ6 W7 et6 es6=>?_
  exact fin H6 κ6 _ _ W7 et6 es6 (by rw[db,if_pos rfl])
 ·cases hz:aN kvs [.inl one,.inl other] with
  | none=>rw[hz]at c; exact absurd rfl c
  | some v=>exact fin H2 κ kvs v (W2.up (by omega)) et g1 hz
def v0(C:Addr):Sp:=fun vs H Q _=>∃ (H0:Hp) (es:List WE) (n:Nat) (κ : Addr→Option Kd) (a:Addr) (one other:Int) (start:Nat),vs=[.ref a,.int one,.int other,.int (start:Int)]∧WZ H0 H es n κ∧H0 a=some (.lst (es.map fun e=>V.ref e.w))∧(∀ e∈es,e.C=C)∧es.length≤2∧n≤800000∧∀ (H':Hp) (κ':Addr→Option Kd),WZ H0 H' es (n+8) κ'→Q .non H'
theorem Bt(D:DefAt K mg "all_begin_tie" ck) (m_Watch_begin_tie:cE P w K mg base 1 CW "begin_tie" ["self", "one", "other", "start"] (vN CW)):aR P w K mg base 2 "all_begin_tie" ["watches", "one", "other", "start"] (v0 CW):=by
 refine D.cal (k:=1) sc_all_begin_tie (fun _ _ _ _ _ _ us hl=>match us,hl with | [_,_,_,_],_=>rfl) (fun vs H Q E h=>by obtain⟨_,_,_,_,_,_,_,_,rfl,_⟩:=h; rfl) (fun f cdv A outer s H vs Q _ hr h=>?_)
 obtain⟨H0,es,n,κ,a,one,other,start,rfl,W,ha,hC,hl,hn,q⟩:=h
 refine⟨_,(aj (cu PassesOwn.never rfl (cw K (pv 0)) (bq 4 sc_all_begin_tie.nd) (aj (aO (b7 m_Watch_begin_tie hr (pv 4) (aa (pv 1) (aa (pv 2) (aa (pv 3) ac)))))))),?_⟩
 walk_at "rd1";refine⟨⟨_,SqL.of (W.sm _ _ ha)⟩,?_⟩
 refine c6 (xs:=es.map fun e=>V.ref e.w) (fun i σ H'=>∃ (o4:Option V) (κ':Addr→Option Kd),σ=[some (.ref a),some (.int one),some (.int other),some (.int (start:Int)),o4]∧WZ H0 H' es (n+4 * i) κ')
  ⟨_,κ,rfl,W⟩ (fun i σ H' _ hh=>?_) (fun i x σ H' hx hh=>?_) (fun σ H' hh=>?_)
 ·obtain⟨_,_,_,W'⟩:=hh
  exact SqL.of (W'.sm _ _ ha)
 ·obtain⟨o4,κ',rfl,W'⟩:=hh
  have hi:=(List.getElem?_eq_some_iff.mp hx).1;rw[List.length_map]at hi
  obtain⟨e,he,rfl⟩:=tM hx
  have eC:=hC e he;walk_at "rd1";exact⟨eC ▸ (W'.stat' he).isM (by decide +kernel),H0,es,_,κ',e,one,other,start,eC,rfl,W',he,by omega,fun H2 κ2 W2=>⟨_,κ2,rfl,W2⟩⟩
 ·obtain⟨o4,κ',rfl,W'⟩:=hh
  rw[List.length_map]at W'
  exact q H' κ' (W'.up (by omega))
end
open Classical in
noncomputable def iz(es:List WE):Addr→Option Kd:=fun a=>if a∈es.map (·.sa) then some .st else if a∈es.map (·.ta) then some .ti else none
theorem Made.start{H H':Hp}{C:Addr}{es:List WE}{xs:List (Str × Rl)}(m:Made H H' C es xs)(s:Same H H'):WZ (eh (iz es) H') H' es 0 (iz es)∧Same H (eh (iz es) H')∧(∀ a o,H' a=some o→(∀ kv,o ≠ .dT kv)→eh (iz es) H' a=some o):=by
 have at1:∀ e∈es,∃ k x,MadeW H H' C e k x:=fun e he=>by
  obtain⟨k,hk,e1⟩:=List.mem_iff_getElem.mp he
  exact⟨k,_,m.at' k e _ (by rw[List.getElem?_eq_getElem hk,e1]) (List.getElem?_eq_getElem (by rw[← m.len]; exact hk))⟩
 have rl:∀ a k,iz es a=some k→H' a=some (.dT [])∧H a=none∧(k = .st∨k = .ti):=fun a k h=>by
  unfold iz at h;split at h
  ·rename_i z
   obtain⟨e,he,rfl⟩:=List.mem_map.mp z
   obtain⟨_,_,M⟩:=at1 e he
   cases h;exact⟨M.sa,M.fs,.inl rfl⟩
  ·split at h
   ·rename_i z
    obtain⟨e,he,rfl⟩:=List.mem_map.mp z
    obtain⟨_,_,M⟩:=at1 e he
    cases h;exact⟨M.ta,M.ft,.inr rfl⟩
   ·cases h
 have kp:∀ a o,H' a=some o→(∀ kv,o ≠ .dT kv)→eh (iz es) H' a=some o:=fun a o h1 h2=>by
  cases e:iz es a with
  | none=>rw[jW e]; exact h1
  | some k=>
   have:=(rl a k e).1
   rw[h1]at this
   exact absurd (Option.some.inj this) (h2 [])
 refine⟨⟨nL _ _,fun e he=>?_,fun a k h=>by unfold eh; rw[h]; rfl,fun e he=>?_,fun a k h=>?_⟩,fun a o h=>?_,kp⟩
 ·obtain⟨_,_,M⟩:=at1 e he
  have S:=M.st;exact⟨kp _ _ S.ob (fun _ z=>nomatch z),kp _ _ S.sd (fun _ z=>nomatch z),kp _ _ S.wd (fun _ z=>nomatch z),kp _ _ S.bd (fun _ z=>nomatch z),kp _ _ S.bl (fun _ z=>nomatch z),S.no,fun u hu=>let ⟨a,b,h1,h2,h3,h4⟩:=S.yes u hu; ⟨a,b,h1,kp _ _ h2 (fun _ z=>nomatch z),h3,kp _ _ h4 (fun _ z=>nomatch z)⟩,S.ok⟩
 ·unfold iz
  rw[if_pos (List.mem_map_of_mem he)];refine⟨rfl,?_⟩
  rw[if_neg,if_pos (List.mem_map_of_mem he)];intro z
  obtain⟨e',he',ee⟩:=List.mem_map.mp z
  obtain⟨i,hi,e1⟩:=List.mem_iff_getElem.mp he
  obtain⟨j,hj,e2⟩:=List.mem_iff_getElem.mp he'
  by_cases hij:j=i
  ·subst hij
   rw[e1]at e2
   subst e2;obtain⟨_,_,M⟩:=at1 e he
   exact M.ne ee
  ·exact(m.ne j i e' e (by rw[List.getElem?_eq_getElem hj,e2]) (by rw[List.getElem?_eq_getElem hi,e1]) hij).2.1 ee
 ·obtain⟨h1,_,h3⟩:=rl a k h
  refine⟨_,h1,?_⟩
  rcases h3 with rfl | rfl
  ·exact .st (Nat.le_refl _) fun p hp=>nomatch hp
  ·exact .ti (Nat.le_refl _) fun p hp=>nomatch hp
 ·cases e:iz es a with
  | none=>rw[jW e]; exact s _ _ h
  | some k=>rw[(rl a k e).2.1]at h; cases h
end
abbrev bU:Stmt:=inClass (top 14) 5
theorem sc_Run_deed:ar ["self", "line", "handle", "word", "entry", "broken"] ["self", "line", "handle", "word"] (defScope bU):=mKk
abbrev bA:Stmt:=inClass (top 14) 7
theorem sc_Run_new_handle:ar ["self", "line", "holder", "handle"] ["self", "line", "holder"] (defScope bA):=mKk
abbrev cK:Stmt:=inClass (top 14) 8
theorem si:ar ["self", "line", "one", "other"] ["self", "line", "one", "other"] (defScope cK):=mKk
abbrev bV:Stmt:=inClass (top 14) 9
theorem sc_Run_end_all:ar ["self", "line", "handle"] ["self", "line"] (defScope bV):=mKk
theorem Jm:gLk bV "range":=by decide +kernel
set_option genInjectivity false in
set_option genSizeOf false in
structure RE where
 C:Addr
 r:Addr
 ip:Addr
 hp:Addr
 lp:Addr
 xs:List Int
 wp:Addr
 es:List WE
 W:Addr
 U:Str→Prop
def rF(E:RE)(st:RS):List (Str × V):=[("inputs", .ref E.ip),("watches", .ref E.wp),("at", .int (st.pc:Int)),("taken", .int (st.taken:Int)),("last", .int st.last),("opened", .int (st.opened:Int)),("held", .ref E.hp),("log", .ref E.lp)]
theorem vz(E:RE)(st:RS):(rF E st).lookup ("inputs" : Str)=some (.ref E.ip):=by unfold rF; walk_at "lk"
theorem tR(E:RE)(st:RS):(rF E st).lookup ("watches" : Str)=some (.ref E.wp):=by unfold rF; walk_at "lk"
theorem EV(E:RE)(st:RS):(rF E st).lookup ("at" : Str)=some (.int (st.pc:Int)):=by unfold rF; walk_at "lk"
theorem xu(E:RE)(st:RS):(rF E st).lookup ("taken" : Str)=some (.int (st.taken:Int)):=by unfold rF; walk_at "lk"
theorem AB(E:RE)(st:RS):(rF E st).lookup ("last" : Str)=some (.int st.last):=by unfold rF; walk_at "lk"
theorem uY(E:RE)(st:RS):(rF E st).lookup ("opened" : Str)=some (.int (st.opened:Int)):=by unfold rF; walk_at "lk"
theorem Av(E:RE)(st:RS):(rF E st).lookup ("held" : Str)=some (.ref E.hp):=by unfold rF; walk_at "lk"
theorem CL(E:RE)(st:RS):(rF E st).lookup ("log" : Str)=some (.ref E.lp):=by unfold rF; walk_at "lk"
theorem Fj(E:RE)(st:RS){m:Str}(h:(m == "inputs" || m == "watches" || m == "at" || m == "taken" || m == "last" || m == "opened" || m == "held" || m == "log")=false):(rF E st).lookup m=none:=by
 simp only[Bool.or_eq_false_iff]at h
 obtain⟨⟨⟨⟨⟨⟨⟨h1,h7⟩,h8⟩,h2⟩,h3⟩,h4⟩,h5⟩,h6⟩:=h
 unfold rF;rw[cS h1,cS h7,cS h8,cS h2,cS h3,cS h4,cS h5,cS h6]; rfl
theorem qy(E:RE)(st:RS)(n:Nat):cL "taken" (.int (n:Int)) (rF E st)=rF E { st with taken:=n }:=by unfold rF; walk_at "pf"
theorem um(E:RE)(st:RS)(n:Int):cL "last" (.int n) (rF E st)=rF E { st with last:=n }:=by unfold rF; walk_at "pf"
theorem xh(E:RE)(st:RS)(n:Nat):cL "at" (.int (n:Int)) (rF E st)=rF E { st with pc:=n }:=by unfold rF; walk_at "pf"
theorem pL(E:RE)(st:RS)(n:Nat):cL "opened" (.int (n:Int)) (rF E st)=rF E { st with opened:=n }:=by unfold rF; walk_at "pf"
structure RO (K:PySem.W.Frag) (E:RE) (H0 H:Hp) (st:RS):Prop where
 sm:Same H0 H
 fr:H0 E.r=none
 fh:H0 E.hp=none
 fl:H0 E.lp=none
 inp:SqL K H0 E.ip (E.xs.map V.int)
 wt:H0 E.wp=some (.lst (E.es.map fun e=>V.ref e.w))
 wl:E.es.length≤2∧∀ e∈E.es,e.C=E.W
 wu:∀ e∈E.es,∀ u,E.U u→NoW E.W H0 e u
 wz:∃ κ,WZ H0 H E.es (8 * st.log.length) κ∧κ E.hp=none∧κ E.lp=none
 xl:E.xs.length≤10000
 tk:st.taken≤E.xs.length
 ob:∃ dx,H E.r=some (.ins E.C dx (rF E st))
 hd:H E.hp=some (.dK st.held)
 lg:∃ es:List Addr,H E.lp=some (.lst (es.map V.ref))∧Paired (fun a e=>H a=some (.tup e)) es st.log
 good:GoodR st
section
variable{K:PySem.W.Frag}{E:RE}{H0 H H':Hp}{st st':RS}{Q:V→Prop}
theorem RO.mono(h:RO K E H0 H st)(s:Same H H'):RO K E H0 H' st:=by
 obtain⟨dx,ob⟩:=h.ob
 obtain⟨es,l1,l2⟩:=h.lg
 obtain⟨κ,w1,w2⟩:=h.wz
 exact⟨h.sm.trans s,h.fr,h.fh,h.fl,h.inp,h.wt,h.wl,h.wu,⟨κ,w1.mono s,w2⟩,h.xl,h.tk,⟨dx,s _ _ ob⟩,s _ _ h.hd,⟨es,s _ _ l1,Paired.imp' (fun a e y=>s _ _ y) l2⟩,h.good⟩
theorem RO.inputs(h:RO K E H0 H st)(q:Q (.ref E.ip)):∃ dx fs v,H E.r=some (.ins E.C dx fs)∧fs.lookup ("inputs" : Str)=some v∧Q v:=by obtain⟨dx,ob⟩:=h.ob; exact⟨dx,_,_,ob,vz E st,q⟩
theorem RO.watches(h:RO K E H0 H st)(q:Q (.ref E.wp)):∃ dx fs v,H E.r=some (.ins E.C dx fs)∧fs.lookup ("watches" : Str)=some v∧Q v:=by obtain⟨dx,ob⟩:=h.ob; exact⟨dx,_,_,ob,tR E st,q⟩
theorem RO.at(h:RO K E H0 H st)(q:Q (.int (st.pc:Int))):∃ dx fs v,H E.r=some (.ins E.C dx fs)∧fs.lookup ("at" : Str)=some v∧Q v:=by obtain⟨dx,ob⟩:=h.ob; exact⟨dx,_,_,ob,EV E st,q⟩
theorem RO.taken(h:RO K E H0 H st)(q:Q (.int (st.taken:Int))):∃ dx fs v,H E.r=some (.ins E.C dx fs)∧fs.lookup ("taken" : Str)=some v∧Q v:=by obtain⟨dx,ob⟩:=h.ob; exact⟨dx,_,_,ob,xu E st,q⟩
theorem RO.last(h:RO K E H0 H st)(q:Q (.int st.last)):∃ dx fs v,H E.r=some (.ins E.C dx fs)∧fs.lookup ("last" : Str)=some v∧Q v:=by obtain⟨dx,ob⟩:=h.ob; exact⟨dx,_,_,ob,AB E st,q⟩
theorem RO.opened(h:RO K E H0 H st)(q:Q (.int (st.opened:Int))):∃ dx fs v,H E.r=some (.ins E.C dx fs)∧fs.lookup ("opened" : Str)=some v∧Q v:=by obtain⟨dx,ob⟩:=h.ob; exact⟨dx,_,_,ob,uY E st,q⟩
theorem RO.held(h:RO K E H0 H st)(q:Q (.ref E.hp)):∃ dx fs v,H E.r=some (.ins E.C dx fs)∧fs.lookup ("held" : Str)=some v∧Q v:=by obtain⟨dx,ob⟩:=h.ob; exact⟨dx,_,_,ob,Av E st,q⟩
theorem RO.log(h:RO K E H0 H st)(q:Q (.ref E.lp)):∃ dx fs v,H E.r=some (.ins E.C dx fs)∧fs.lookup ("log" : Str)=some v∧Q v:=by obtain⟨dx,ob⟩:=h.ob; exact⟨dx,_,_,ob,CL E st,q⟩
theorem RO.isM(h:RO K E H0 H st){m:Str}(hm:(m == "inputs" || m == "watches" || m == "at" || m == "taken" || m == "last" || m == "opened" || m == "held" || m == "log")=false):∃ dx fs,H E.r=some (.ins E.C dx fs)∧fs.lookup m=none:=by obtain⟨dx,ob⟩:=h.ob; exact⟨dx,_,ob,Fj E st hm⟩
theorem RO.put(h:RO K E H0 H st)(e1:st'.held=st.held)(e2:st'.log=st.log)(et:st'.taken≤E.xs.length)(f:Str)(v:V)(e:cL f v (rF E st)=rF E st'){Q':Hp→Prop}(q:∀ H',RO K E H0 H' st'→Q' H'):∃ dx fs,H E.r=some (.ins E.C dx fs)∧fs.length<1000∧Q' (upd H E.r (.ins E.C dx (cL f v fs))):=by
 obtain⟨dx,ob⟩:=h.ob
 obtain⟨es,l1,l2⟩:=h.lg
 obtain⟨κ,w1,w2⟩:=h.wz
 refine⟨dx,_,ob,by show 8<1000; decide,q _ ⟨h.sm.upd h.fr _,h.fr,h.fh,h.fl,h.inp,h.wt,h.wl,h.wu,⟨κ,by rw[e2]; exact w1.frame (w1.ins ob) h.fr _,w2⟩,h.xl,et,⟨dx,by rw[ae,e]⟩,?_,⟨es,?_,?_⟩,h.good.of e1⟩⟩
 ·rw[am (bv h.hd ob (fun z=>nomatch z)),e1]; exact h.hd
 ·rw[am (bv l1 ob (fun z=>nomatch z))]; exact l1
 ·rw[e2]
  exact Paired.imp' (fun a e y=>by rw[am (bv y ob (fun z=>nomatch z))]; exact y) l2
theorem RO.hold(h:RO K E H0 H st)(k:aw)(o:Option Nat):RO K E H0 (upd H E.hp (.dK (bC st.held k (hV o)))) (bn k o st):=by
 obtain⟨dx,ob⟩:=h.ob
 obtain⟨es,l1,l2⟩:=h.lg
 obtain⟨κ,w1,w2⟩:=h.wz
 refine⟨h.sm.upd h.fh _,h.fr,h.fh,h.fl,h.inp,h.wt,h.wl,h.wu,⟨κ,w1.frame w2.1 h.fh _,w2⟩,h.xl,h.tk,⟨dx,?_⟩,ae,⟨es,?_,?_⟩,h.good.hold k o⟩
 ·rw[am (bv ob h.hd (fun z=>nomatch z))]; exact ob
 ·rw[am (bv l1 h.hd (fun z=>nomatch z))]; exact l1
 ·exact Paired.imp' (fun a e y=>by rw[am (bv y h.hd (fun z=>nomatch z))]; exact y) l2
theorem RO.add(h:RO K E H0 H st){t:Addr}{e:List V}(et:H t=some (.tup e))(hz:st.log.length<1000000)(Q':Hp→Prop)(q:∀ H',RO K E H0 H' { st with log:=st.log++[e] }→(∃ κ,WZ H0 H' E.es (8 * st.log.length) κ∧κ E.hp=none∧κ E.lp=none)→Q' H') :
  ∃ xs,H E.lp=some (.lst xs)∧xs.length<sizeLine∧Q' (upd H E.lp (.lst (xs++[.ref t]))):=by
 obtain⟨dx,ob⟩:=h.ob
 obtain⟨es,l1,l2⟩:=h.lg
 obtain⟨κ,w1,w2⟩:=h.wz
 have hlen:es.length=st.log.length:=aL l2
 refine⟨_,l1,by rw[List.length_map,hlen]; exact bX (by omega),q _ ⟨h.sm.upd h.fl _,h.fr,h.fh,h.fl,h.inp,h.wt,h.wl,h.wu,⟨κ,(w1.frame w2.2 h.fl _).up (by show _≤8 * (st.log++[e]).length; simp; omega),w2⟩,h.xl,h.tk,⟨dx,?_⟩,?_,⟨es++[t],by rw[ae,List.map_append]; rfl,?_⟩,h.good.of rfl⟩ ⟨κ,w1.frame w2.2 h.fl _,w2⟩⟩
 ·rw[am (bv ob l1 (fun z=>nomatch z))]; exact ob
 ·rw[am (bv h.hd l1 (fun z=>nomatch z))]; exact h.hd
 ·exact fw (by rw[am (bv et l1 (fun z=>nomatch z))]; exact et) (Paired.imp' (fun a e y=>by rw[am (bv y l1 (fun z=>nomatch z))]; exact y) l2)
theorem RO.after(h:RO K E H0 H st){n m:Nat}{κ κ':Addr→Option Kd}(W:WZ H0 H E.es n κ)(k1:κ E.hp=none)(k2:κ E.lp=none)(W':WZ (eh κ H) H' E.es m κ')(hm:m≤8 * st.log.length):RO K E H0 H' st:=by
 have on:∀ {a:Addr} {o:HO},κ a=none→H a=some o→eh κ H a=some o:=fun z1 z2=>by rw[jW z1]; exact z2
 have no:∀ {a:Addr} {o:HO},eh κ H a=some o→κ' a=none:=fun {a o} z=>by
  cases e:κ' a with
  | none=>rfl
  | some k=>rw[W'.fr a k e]at z; cases z
 obtain⟨dx,ob⟩:=h.ob
 obtain⟨es,l1,l2⟩:=h.lg
 have hh:=on k1 h.hd;have hl:=on k2 l1;exact⟨W.off.trans W'.sm,h.fr,h.fh,h.fl,h.inp,h.wt,h.wl,h.wu,⟨κ',(W.back W').up hm,no hh,no hl⟩,h.xl,h.tk,⟨dx,W'.sm _ _ (on (W.ins ob) ob)⟩,W'.sm _ _ hh,⟨es,W'.sm _ _ hl,Paired.imp' (fun a e y=>W'.sm _ _ (on (W.tup y) y)) l2⟩,h.good⟩
end
def qY(K:PySem.W.Frag)(C:Addr):Sp:=fun vs H Q _=>∃ (E:RE) (H0:Hp) (st:RS) (n:Int),E.C=C∧vs=[.ref E.r,.int n]∧RO K E H0 H st∧∀ H',RO K E H0 H' (aC E.xs n st).2→Q (.bl (aC E.xs n st).1) H'
def qd(K:PySem.W.Frag)(C:Addr):Sp:=fun vs H Q _=>∃ (E:RE) (H0:Hp) (st:RS) (k:aw),E.C=C∧vs=[.ref E.r,kV k]∧RO K E H0 H st∧Q (hV (bD st k)) H
def pI(K:PySem.W.Frag)(C:Addr):Sp:=fun vs H Q _=>∃ (E:RE) (H0:Hp) (st:RS) (k:aw) (o:Option Nat),E.C=C∧vs=[.ref E.r,kV k,hV o]∧RO K E H0 H st∧st.sz≤900000∧∀ H',RO K E H0 H' (bn k o st)→Q .non H'
def k_(K:PySem.W.Frag)(C W:Addr):Sp:=fun vs H Q _=>∃ (E:RE) (H0:Hp) (st:RS) (l:Nat) (o:Option Nat) (x:Str),E.C=C∧E.W=W∧E.U x∧vs=[.ref E.r,.int (l:Int),hV o,.str x]∧RO K E H0 H st∧st.sz≤900000∧∀ H',RO K E H0 H' (bI l o x st)→Q .non H'
def vW(K:PySem.W.Frag)(C W:Addr):Sp:=fun vs H Q _=>∃ (E:RE) (H0:Hp) (st:RS) (l:Nat) (k:aw),E.C=C∧E.W=W∧E.U "open" ∧ vs=[.ref E.r,.int (l:Int),kV k]∧RO K E H0 H st∧(gB l k st).sz≤400000∧∀ H',RO K E H0 H' (gB l k st)→Q .non H'
def Ah(K:PySem.W.Frag)(C W:Addr):Sp:=fun vs H Q _=>∃ (E:RE) (H0:Hp) (st:RS) (l:Nat) (a b:Option Nat),E.C=C∧E.W=W∧vs=[.ref E.r,.int (l:Int),hV a,hV b]∧RO K E H0 H st∧st.sz≤100000∧∀ H',RO K E H0 H' (eP l a b st)→Q .non H'
def zW(K:PySem.W.Frag)(C W:Addr):Sp:=fun vs H Q _=>∃ (E:RE) (H0:Hp) (st:RS) (l:Nat),E.C=C∧E.W=W∧E.U "end" ∧ vs=[.ref E.r,.int (l:Int)]∧RO K E H0 H st∧st.sz≤400000∧∀ H',RO K E H0 H' (jw l st)→Q .non H'
def mL(K:PySem.W.Frag)(C W:Addr):Sp:=fun vs H Q _=>∃ (x dx ip wp:Addr) (H0:Hp) (xs:List Int) (es:List WE) (U:Str→Prop) (κ : Addr→Option Kd),vs=[.ref x,.ref ip,.ref wp]∧H x=some (.ins C dx [])∧H0 x=none∧SqL K H0 ip (xs.map V.int)∧H0 wp=some (.lst (es.map fun e=>V.ref e.w))∧(es.length≤2∧∀ e∈es,e.C=W)∧(∀ e∈es,∀ u,U u→NoW W H0 e u)∧WZ H0 H es 0 κ∧xs.length≤10000∧
 ∀ (hp lp:Addr) (H':Hp),RO K ⟨C,x,ip,hp,lp,xs,wp,es,W,U⟩ H0 H' rs0→Q .non H'
section
variable{P:Program}{w:World}{K:PySem.W.Frag}{mg:Str→Option Value}{base:Heap}{CR CW:Addr}
theorem y3(D:MethAt K CR "takes_more" "Run.takes_more" bR) (z_len:mg "len" = none) (a_taken:Fl K CR "taken") (a_inputs:Fl K CR "inputs") (a_last:Fl K CR "last"):cE P w K mg base 1 CR "takes_more" ["self", "bound"] (qY K CR):=by
 refine D.mcal (k:=0) kg (fun _ _ _ _ _ _ us hl=>match us,hl with | [_,_],_=>rfl) (fun vs H Q E h=>by obtain⟨E,H0,st,n,_,rfl,_⟩:=h; rfl) (fun f cdv A outer s H vs Q _ hr h=>?_)
 obtain⟨E,H0,st,n,rfl,rfl,R,q⟩:=h
 refine⟨_,(af (bE (aE bY (au a_taken (pv 0)) (bS (bc K) z_len b6 (aa (au a_inputs (pv 0)) ac)) (aP _)) (aj (aG eZ)) bH)
   (af (b8 a_last (pv 0) (aq (aK K) (au a_inputs (pv 0)) (au a_taken (pv 0)) (fun _ _=>rfl)))
   (af (b8 a_taken (pv 0) (ap aD (au a_taken (pv 0)) ah))
   (aj (aG (iD uy (au a_last (pv 0)) (pv 1) (aP _))))))),?_⟩
 walk_at "rd1";refine R.taken (R.inputs ⟨_,.inl (R.sm.seq R.inp),?_⟩)
 walk_at "rd1";rw[List.length_map];refine bG (fun h=>?_) (fun h=>?_)
 ·have e:st.taken=E.xs.length:=by omega
  have e':aC E.xs n st=(false,st):=by unfold aC; rw[e,List.getElem?_eq_none (Nat.le_refl _)]
  rw[e']at q
  exact q _ R
 have hlt:st.taken<E.xs.length:=by have:=R.tk; omega
 have ex:E.xs[st.taken]? = some E.xs[st.taken]:=List.getElem?_eq_getElem hlt
 have e':aC E.xs n st=(decide (n<E.xs[st.taken]),{ st with taken:=st.taken+1,last:=E.xs[st.taken] }):=by unfold aC; rw[ex]
 rw[e']at q
 generalize E.xs[st.taken]=v at ex e' q;walk_at "nx";refine R.inputs (R.taken ⟨_,_,.inl (R.sm.seq R.inp),aW (by rw[List.getElem?_map,ex]; rfl),?_⟩)
 refine R.put (st':={ st with last:=v }) rfl rfl R.tk _ _ (um E st v) fun H1 R1=>?_
 walk_at "nx";refine R1.taken ?_
 walk_at "rd1";refine R1.put (st':={ st with last:=v,taken:=st.taken+1 }) rfl rfl hlt _ _ (qy E { st with last:=v } (st.taken+1)) fun H2 R2=>?_
 walk_at "nx";refine R2.last ?_
 walk_at "rd1";exact q _ R2
theorem vU(D:MethAt K CR "handle_of" "Run.handle_of" cr) (a_held:Fl K CR "held"):cE P w K mg base 1 CR "handle_of" ["self", "holder"] (qd K CR):=by
 refine D.mcal (k:=0) kU (fun _ _ _ _ _ _ us hl=>match us,hl with | [_,_],_=>rfl) (fun vs H Q E h=>by obtain⟨E,H0,st,k,_,rfl,_⟩:=h; rfl) (fun f cdv A outer s H vs Q _ hr h=>?_)
 obtain⟨E,H0,st,k,rfl,rfl,R,q⟩:=h
 refine⟨_,(aj (aG (zc (ER hr) (au a_held (pv 0)) (pv 1) ⟨rfl,rfl,rfl,rfl⟩))),?_⟩
 walk_at "rd1";refine R.held ⟨_,rfl,EQ R.hd,_,DGet.k R.hd,?_⟩
 rw[R.good.get]; exact q
theorem Br(D:MethAt K CR "hold" "Run.hold" cY) (a_held:Fl K CR "held"):cE P w K mg base 1 CR "hold" ["self", "holder", "handle"] (pI K CR):=by
 refine D.mcal (k:=0) qx (fun _ _ _ _ _ _ us hl=>match us,hl with | [_,_,_],_=>rfl) (fun vs H Q E h=>by obtain⟨E,H0,st,k,o,_,rfl,_⟩:=h; rfl) (fun f cdv A outer s H vs Q _ hr h=>?_)
 obtain⟨E,H0,st,k,o,rfl,rfl,R,hz,q⟩:=h
 refine⟨_,(aj (gW (pv 2) (hX (au a_held (pv 0)) (pv 1) (lO hr)))),?_⟩
 walk_at "rd1";refine R.held ⟨E.hp,_,k,rfl,rfl,R.hd,bX (by unfold RS.sz at hz; omega),?_⟩
 exact q _ (R.hold k o)
theorem AI(D:MethAt K CR "deed" "Run.deed" bU) (a_log:Fl K CR "log") (a_last:Fl K CR "last") (a_watches:Fl K CR "watches") (a_at:Fl K CR "at") (c_broken_or_gone_on:aR P w K mg base 4 "broken_or_gone_on" ["watches", "at", "handle", "word"] (wJ CW)):cE P w K mg base 5 CR "deed" ["self", "line", "handle", "word"] (k_ K CR CW):=by
 refine D.mcal (k:=4) sc_Run_deed (fun _ _ _ _ _ _ us hl=>match us,hl with | [_,_,_,_],_=>rfl) (fun vs H Q E h=>by obtain⟨E,H0,st,l,o,x,_,_,_,rfl,_⟩:=h; rfl) (fun f cdv A outer s H vs Q _ hr h=>?_)
 obtain⟨E,H0,st,l,o,x,rfl,rfl,hU,rfl,R,hz,q⟩:=h
 refine⟨_,(af (bE (aE rD (pv 2) fQ (aP _)) (aj rh) bH)
   (af (aA 4 sc_Run_deed.nd (aX (aa (pv 1) (aa (pv 2) (aa (pv 3) (aa (au a_last (pv 0)) ac))))))
   (af (aA 5 sc_Run_deed.nd (az c_broken_or_gone_on hr (aa (au a_watches (pv 0)) (aa (au a_at (pv 0)) (aa (pv 2) (aa (pv 3) ac))))))
   (af (bE (aE kT (pv 5) fQ (aP _)) (aj jg) bH)
   (aj (aO (bL K PySem.F.plainAttrs_list PySem.F.slot_list_append PySem.F.type_list_append bx (au a_log (pv 0)) (aa (pv 4) ac)))))))),?_⟩
 walk_at "rd1"
 cases o with
 | none=>
  refine bG (fun c=>?_) (fun c=>absurd rfl c)
  exact q _ R
 | some n=>
  refine bG (fun c=>absurd c (by simp[hV])) (fun c=>?_)
  have hV':hV (some n) = .int (n:Int):=rfl
  rw[hV'];walk_at "nx";refine R.last ⟨by decide,fun t ht=>?_⟩
  have sm:=ak ht (.tup [.int (l:Int),.int (n:Int),.str x,.int st.last]);have et:upd H t (.tup [.int (l:Int),.int (n:Int),.str x,.int st.last]) t=some (.tup [.int (l:Int),.int (n:Int),.str x,.int st.last]):=ae
  generalize upd H t (.tup [.int (l:Int),.int (n:Int),.str x,.int st.last])=H1 at sm et ⊢;have R1:=R.mono sm;walk_at "nx";refine R1.watches (R1.at ⟨E.es,E.wp,_,_,x,rfl,R1.sm _ _ R1.wt,fun e he=>(R1.wu e he x hU).mono R1.sm,fun H2 s2=>?_⟩)
  have R2:=R1.mono s2;walk_at "nx";refine bG (fun c=>absurd c (by simp)) (fun c=>?_)
  obtain⟨es,l1,l2⟩:=id R2.lg
  walk_at "nx";refine R2.log ⟨.inl ⟨rfl,_,SqL.of l1⟩,?_⟩
  walk_at "rd1";exact R2.add (s2 _ _ et) (by unfold RS.sz at hz; omega) (fun H'=>Q .non H') fun H' z _=>q H' z
theorem AN(D:MethAt K CR "new_handle" "Run.new_handle" bA) (a_opened:Fl K CR "opened") (m_Run_deed:cE P w K mg base 5 CR "deed" ["self", "line", "handle", "word"] (k_ K CR CW)) (m_Run_hold:cE P w K mg base 1 CR "hold" ["self", "holder", "handle"] (pI K CR)):cE P w K mg base 6 CR "new_handle" ["self", "line", "holder"] (vW K CR CW):=by
 refine D.mcal (k:=5) sc_Run_new_handle (fun _ _ _ _ _ _ us hl=>match us,hl with | [_,_,_],_=>rfl) (fun vs H Q E h=>by obtain⟨E,H0,st,l,k,_,_,_,rfl,_⟩:=h; rfl) (fun f cdv A outer s H vs Q _ hr h=>?_)
 obtain⟨E,H0,st,l,k,rfl,rfl,hU,rfl,R,hz,q⟩:=h
 refine⟨_,(af (aA 3 sc_Run_new_handle.nd (au a_opened (pv 0)))
   (af (b8 a_opened (pv 0) (ap aD (pv 3) ah))
   (af (aO (b7 m_Run_deed hr (pv 0) (aa (pv 1) (aa (pv 3) (aa aJ ac)))))
   (aj (aO (b7 m_Run_hold hr (pv 0) (aa (pv 2) (aa (pv 3) ac)))))))),?_⟩
 walk_at "rd1";refine R.opened ?_
 walk_at "nx";refine R.put (st':={ st with opened:=st.opened+1 }) rfl rfl R.tk _ _ (pL E st (st.opened+1)) fun H1 R1=>?_
 have u1:=AL l (some st.opened) "open" { st with opened:=st.opened+1 };have u2:=AF k (some st.opened) (bI l (some st.opened) "open" { st with opened:=st.opened+1 });have hz2:(bn k (some st.opened) (bI l (some st.opened) "open" { st with opened:=st.opened+1 })).sz≤400000:=hz
 walk_at "nx";refine⟨R1.isM (by decide +kernel),E,H0,_,l,some st.opened, "open", rfl,rfl,hU,rfl,R1,by have:=u1.2; have:=u2.2; omega,fun H2 R2=>?_⟩
 walk_at "nx";refine⟨R2.isM (by decide +kernel),E,H0,_,k,some st.opened,rfl,rfl,R2,by have:=u2.2; omega,fun H3 R3=>?_⟩
 exact q _ R3
theorem El(D:MethAt K CR "tie" "Run.tie" cK) (z_len:mg "len" = none) (a_log:Fl K CR "log") (a_watches:Fl K CR "watches") (c_all_begin_tie:aR P w K mg base 2 "all_begin_tie" ["watches", "one", "other", "start"] (v0 CW)):cE P w K mg base 3 CR "tie" ["self", "line", "one", "other"] (Ah K CR CW):=by
 refine D.mcal (k:=2) si (fun _ _ _ _ _ _ us hl=>match us,hl with | [_,_,_,_],_=>rfl) (fun vs H Q E h=>by obtain⟨E,H0,st,l,a,b,_,_,rfl,_⟩:=h; rfl) (fun f cdv A outer s H vs Q _ hr h=>?_)
 obtain⟨E,H0,st,l,a,b,rfl,rfl,rfl,R,hz,q⟩:=h
 refine⟨_,(aj (bE (PW.pt' (h_ (aE kT (pv 2) fQ (aP _)) (h_ (aE kT (pv 3) fQ (aP _)) (iK (aE lP (pv 2) (pv 3) (aP _)))))) (af (aO (bL K PySem.F.plainAttrs_list PySem.F.slot_list_append PySem.F.type_list_append bx (au a_log (pv 0)) (aa (aX (aa (pv 1) (aa (pv 2) (aa (pv 3) ac)))) ac)))
   (aj (aO (az c_all_begin_tie hr (aa (au a_watches (pv 0)) (aa (pv 2) (aa (pv 3) (aa (bS (bc K) z_len b6 (aa (au a_log (pv 0)) ac)) ac)))))))) bH)),?_⟩
 walk_at "rd1"
 cases a with
 | none=>
  refine bG (fun c=>absurd c (by simp[hV])) (fun c=>?_)
  exact q _ R
 | some n=>
  refine bG (fun c=>?_) (fun c=>absurd (show (!decide (hV (some n)=V.non))=true by simp[hV]) c)
  cases b with
  | none=>
   refine bG (fun c=>absurd c (by simp[hV])) (fun c=>?_)
   exact q _ R
  | some m=>
   refine bG (fun c=>?_) (fun c=>absurd (show (!decide (hV (some m)=V.non))=true by simp[hV]) c)
   have hVn:hV (some n) = .int (n:Int):=rfl
   have hVm:hV (some m) = .int (m:Int):=rfl
   rw[hVn,hVm];walk_at "rd1"
   by_cases e:n=m
   ·refine bG (fun c=>absurd c (by simp[e])) (fun c=>?_)
    have e':eP l (some n) (some m) st=st:=by show (if n=m then st else _)=st; rw[if_pos e]
    rw[e']at q
    exact q _ R
   ·refine bG (fun c=>?_) (fun c=>absurd (show _ from by simp; omega) c)
    have e':eP l (some n) (some m) st={ st with log:=st.log++[[.int l,.int n,.int m]] }:=by show (if n=m then st else _)=_; rw[if_neg e]
    rw[e']at q
    obtain⟨es,l1,l2⟩:=id R.lg
    refine R.log ⟨.inl ⟨rfl,_,SqL.of l1⟩,by decide,fun t ht=>?_⟩
    have sm:=ak ht (.tup [.int (l:Int),.int (n:Int),.int (m:Int)]);have et:upd H t (.tup [.int (l:Int),.int (n:Int),.int (m:Int)]) t=some (.tup [.int (l:Int),.int (n:Int),.int (m:Int)]):=ae
    generalize upd H t (.tup [.int (l:Int),.int (n:Int),.int (m:Int)])=H1 at sm et ⊢;have R1:=R.mono sm;walk_at "rd1";refine R1.add et (by unfold RS.sz at hz; omega) _ fun H2 R2 ⟨κ,w1,w2,w3⟩=>?_
    walk_at "nx";refine R2.watches (R2.log ?_)
    obtain⟨es2,l3,l4⟩:=id R2.lg
    refine⟨_,.inl (SqL.of l3),?_⟩
    exact⟨_,E.es,_,κ,E.wp,n,m,_,rfl,w1.bs,w1.off _ _ R2.wt,R2.wl.2,R2.wl.1,by unfold RS.sz at hz; omega,fun H3 κ' W'=>q _ (R2.after w1 w2 w3 W' (by simp; omega))⟩
theorem EN(D:MethAt K CR "end_all" "Run.end_all" bV) (z_range:mg "range" = none) (a_opened:Fl K CR "opened") (m_Run_deed:cE P w K mg base 5 CR "deed" ["self", "line", "handle", "word"] (k_ K CR CW)):cE P w K mg base 6 CR "end_all" ["self", "line"] (zW K CR CW):=by
 refine D.mcal (k:=5) sc_Run_end_all (fun _ _ _ _ _ _ us hl=>match us,hl with | [_,_],_=>rfl) (fun vs H Q E h=>by obtain⟨E,H0,st,l,_,_,_,rfl,_⟩:=h; rfl) (fun f cdv A outer s H vs Q _ hr h=>?_)
 obtain⟨E,H0,st,l,rfl,rfl,hU,rfl,R,hz,q⟩:=h
 have ho:st.opened≤400000:=by unfold RS.sz at hz; omega
 refine⟨_,(aj (cu PassesOwn.never rfl (jU Jm z_range (aa (au a_opened (pv 0)) ac)) (bq 2 sc_Run_end_all.nd) (aj (aO (b7 m_Run_deed hr (pv 0) (aa (pv 1) (aa (pv 2) (aa aJ ac)))))))),?_⟩
 walk_at "rd1";refine R.opened ?_
 walk_at "rd1";refine⟨by omega,by omega,?_⟩
 rw[show ((st.opened:Int)).toNat=st.opened from Int.toNat_natCast _]
 refine iV (fun i σ H'=>∃ o2:Option V,σ=[some (.ref E.r),some (.int (l:Int)),o2]∧RO K E H0 H' { st with log:=st.log++(List.range i).map fun (h:Nat)=>([.int l,.int h,.str "end", .int st.last]:List V) })
  ⟨none,rfl,by simpa using R⟩ ?_ ?_
 ·rintro i σ H' hi ⟨o2,rfl,R'⟩
  walk_at "rd1";refine⟨R'.isM (by decide +kernel),E,H0,_,l,some i, "end", rfl,rfl,hU,by rw[Int.zero_add]; rfl,R',?_,fun H2 R2=>⟨_,rfl,?_⟩⟩
  ·simp only[RS.sz,List.length_append,List.length_map,List.length_range]at hz ⊢; omega
  ·have e:bI l (some i) "end" { st with log:=st.log++(List.range i).map fun (h:Nat)=>([.int l,.int h,.str "end", .int st.last]:List V) }={ st with log:=st.log++(List.range (i+1)).map fun (h:Nat)=>([.int l,.int h,.str "end", .int st.last]:List V) }:=by
    rw[List.range_succ,List.map_append,← List.append_assoc]; rfl
   rw[e]at R2
   exact R2
 ·rintro σ H' ⟨o2,rfl,R'⟩
  exact q _ R'
theorem zt(D:MakeAt K mg "Run" CR "Run.__init__" ci) (a_inputs:Fl K CR "inputs") (a_watches:Fl K CR "watches") (a_at:Fl K CR "at") (a_taken:Fl K CR "taken") (a_last:Fl K CR "last") (a_opened:Fl K CR "opened") (a_held:Fl K CR "held") (a_log:Fl K CR "log"):iq P w K mg base 1 "Run" CR ["self", "inputs", "watches"] (mL K CR CW):=by
 refine D.mkal (k:=0) lC (fun _ _ _ _ _ _ us hl=>match us,hl with | [_,_,_],_=>rfl) (fun vs H Q E h=>by obtain⟨_,_,_,_,_,_,_,_,_,rfl,_⟩:=h; rfl) (fun f cdv A outer s H vs Q _ hr h=>?_)
 obtain⟨x,dx,ip,wp,Hz,xs,es,U,κ,rfl,hx,hzx,hip,hwp,hes,hu,W,hxl,q⟩:=h
 generalize hH0:(fun a=>if a=x then none else H a:Hp)=H0
 have h0x:H0 x=none:=by rw[← hH0]; exact if_pos rfl
 have h0:∀ {a o},a≠x→H a=some o→H0 a=some o:=fun z1 z2=>by rw[← hH0]; show (if _ then _ else _)=_; rw[if_neg z1]; exact z2
 have sm:Same H0 H:=fun a o z=>by
  rw[← hH0]at z
  by_cases e:a=x
  ·rw[show (fun a=>if a=x then none else H a:Hp) a=none from if_pos e]at z
   cases z
  ·rw[show (fun a=>if a=x then none else H a:Hp) a=H a from if_neg e]at z
   exact z
 have sz:Same Hz H0:=fun a o z=>h0 (aM z hzx) (W.sm _ _ z)
 refine⟨_,(af (b8 a_inputs (pv 0) (pv 1))
   (af (b8 a_watches (pv 0) (pv 2))
   (af (b8 a_at (pv 0) ah)
   (af (b8 a_taken (pv 0) ah)
   (af (b8 a_last (pv 0) ah)
   (af (b8 a_opened (pv 0) ah)
   (af (b8 a_held (pv 0) fW)
   (aj (b8 a_log (pv 0) (aQ ac)))))))))),?_⟩
 walk_at "rd1";refine⟨dx,_,hx,by simp,?_⟩
 generalize hA:upd H x _=HA
 have eA:HA x=some (.ins CR dx [("inputs", .ref ip)]):=by rw[← hA,ae]; walk_at "pf"
 have sA:Same H0 HA:=by rw[← hA]; exact sm.upd h0x _
 walk_at "nx";refine⟨dx,_,eA,by simp,?_⟩
 generalize hA2:upd HA x _=HA2
 have eA2:HA2 x=some (.ins CR dx [("inputs", .ref ip),("watches", .ref wp)]):=by rw[← hA2,ae]; walk_at "pf"
 have sA2:Same H0 HA2:=by rw[← hA2]; exact sA.upd h0x _
 walk_at "nx";refine⟨dx,_,eA2,by simp,?_⟩
 generalize hA3:upd HA2 x _=HA3
 have eA3:HA3 x=some (.ins CR dx [("inputs", .ref ip),("watches", .ref wp),("at", .int 0)]):=by rw[← hA3,ae]; walk_at "pf"
 have sA3:Same H0 HA3:=by rw[← hA3]; exact sA2.upd h0x _
 walk_at "nx";refine⟨dx,_,eA3,by simp,?_⟩
 generalize hB:upd HA3 x _=HB
 have eB:HB x=some (.ins CR dx [("inputs", .ref ip),("watches", .ref wp),("at", .int 0),("taken", .int 0)]):=by rw[← hB,ae]; walk_at "pf"
 have sB:Same H0 HB:=by rw[← hB]; exact sA3.upd h0x _
 walk_at "nx";refine⟨dx,_,eB,by simp,?_⟩
 generalize hC:upd HB x _=HC
 have eC:HC x=some (.ins CR dx [("inputs", .ref ip),("watches", .ref wp),("at", .int 0),("taken", .int 0),("last", .int 0)]):=by rw[← hC,ae]; walk_at "pf"
 have sC:Same H0 HC:=by rw[← hC]; exact sB.upd h0x _
 walk_at "nx";refine⟨dx,_,eC,by simp,?_⟩
 generalize hD:upd HC x _=HD
 have eD:HD x=some (.ins CR dx [("inputs", .ref ip),("watches", .ref wp),("at", .int 0),("taken", .int 0),("last", .int 0),("opened", .int 0)]):=by rw[← hD,ae]; walk_at "pf"
 have sD:Same H0 HD:=by rw[← hD]; exact sC.upd h0x _
 walk_at "nx";intro hp hhp
 generalize hE:upd HD hp _=HE
 have sE:=aV hE hhp;have eE:=bB hE;refine⟨dx,_,sE _ _ eD,by simp,?_⟩
 generalize hF:upd HE x _=HF
 have eF:HF x=some (.ins CR dx [("inputs", .ref ip),("watches", .ref wp),("at", .int 0),("taken", .int 0),("last", .int 0),("opened", .int 0),("held", .ref hp)]):=by rw[← hF,ae]; walk_at "pf"
 have sF:Same H0 HF:=by rw[← hF]; exact(sD.trans sE).upd h0x _
 have dF:HF hp=some (.dK []):=by rw[← hF,am (bv eE (sE _ _ eD) (fun z=>nomatch z))]; exact eE
 walk_at "nx";refine⟨by decide,fun lp hlp=>?_⟩
 generalize hG:upd HF lp _=HG
 have sG:=aV hG hlp;have eG:=bB hG;refine⟨dx,_,sG _ _ eF,by simp,?_⟩
 have sZ:=(sF.trans sG).upd h0x (.ins CR dx (cL "log" (.ref lp) [("inputs", .ref ip),("watches", .ref wp),("at", .int 0),("taken", .int 0),("last", .int 0),("opened", .int 0),("held", .ref hp)]));have kx:=W.ins hx
 have kn:∀ {a},H0 a=none→a≠x→κ a=none:=fun {a} z1 z2=>by
  cases e:κ a with
  | none=>rfl
  | some k=>
   obtain⟨o,h1,_⟩:=W.ob a k e
   rw[h0 z2 h1]at z1
   cases z1
 have nhx:hp≠x:=bv eE (sE _ _ eD) (fun z=>nomatch z)
 have nlx:lp≠x:=bv eG (sG _ _ eF) (fun z=>nomatch z)
 have WF:=W.keep (fun a k o e1 e2=>sZ _ _ (h0 (fun z=>by rw[z,kx]at e1; cases e1) e2)) (sz.trans sZ)
 refine q hp lp _ ⟨sz.trans sZ,hzx,sz.free (sD.free hhp),sz.free (sF.free hlp),hip,hwp,hes,hu,⟨κ,WF,kn (sD.free hhp) nhx,kn (sF.free hlp) nlx⟩,hxl,Nat.zero_le _,⟨dx,?_⟩,?_,⟨[],?_,.nil⟩,fun k v e=>by cases e⟩
 ·rw[ae]; unfold rF; walk_at "pf"; rfl
 ·rw[am (bv (sG _ _ dF) (sG _ _ eF) (fun z=>nomatch z))]; exact sG _ _ dF
 ·rw[am (bv eG (sG _ _ eF) (fun z=>nomatch z))]; exact eG
end
section
variable{P:Program}{w:World}{K:PySem.W.Frag}{mg:Str→Option Value}{base:Heap}
theorem zM{st s1:RS}{r:br}(h:gj st r s1):s1.sz≤st.sz+3:=by
 have hh:∀ (k:aw) (o:Option Nat) (z:RS),(bn k o z).sz≤z.sz+1:=fun k o z=>by
  unfold RS.sz bn;have:(bC z.held k (hV o)).length≤z.held.length+1:=by unfold bC; split <;> simp
  show z.log.length+(bC z.held k (hV o)).length+z.opened≤_
  omega
 have hd:∀ (l:Nat) (o:Option Nat) (w:Str) (z:RS),(bI l o w z).sz≤z.sz+1:=fun l o w z=>by
  cases o with
  | none=>exact Nat.le_succ _
  | some n=>
   show (z.log++_).length+z.held.length+z.opened≤z.log.length+z.held.length+z.opened+1
   simp
   omega
 cases h with
 | opn l k=>
  have h1:=hh (sK k) (some st.opened) (bI l (some st.opened) "open" { st with opened:=st.opened+1 });have h2:=hd l (some st.opened) "open" { st with opened:=st.opened+1 };have h3:RS.sz { st with opened:=st.opened+1 }=st.sz+1:=rfl
  unfold gB;omega
 | deed l k w=>have:=hd l (bD st (sK k)) w st; omega
 | copy l k j=>have:=hh (sK k) (bD st (sK j)) st; omega
 | drop l k=>have:=hh (sK k) none st; omega
 | tie l k j=>
  unfold eP;split
  ·split
   ·omega
   ·show (st.log++_).length+st.held.length+st.opened≤st.log.length+st.held.length+st.opened+3
    simp
    omega
  ·omega
theorem rJ{st s1:RS}{r:br}(h:gj st r s1):∃ kd rest,r = .str kd::rest∧kd ≠ "jump" ∧ kd ≠ "test" ∧ kd ≠ "end" := by
 cases h <;> exact⟨_,_,rfl,by decide,by decide,by decide⟩
theorem Ft{st s1:RS}{r:br}(h:gj st r s1):s1.pc=st.pc:=by
 cases h with
 | opn=>rfl
 | deed=>exact Bb _ _ _
 | copy=>rfl
 | drop=>rfl
 | tie=>exact BX _ _ _
theorem A5{xs:List Int}{st s1:RS}{r:br}(h:RowGo xs st r s1):∃ kd rest,r = .str kd::rest∧kd ≠ "end" := by
 cases h with
 | pl h=>
  obtain⟨kd,rest,e,_,_,n⟩:=rJ h
  exact⟨kd,rest,e,n⟩
 | jump l j=>exact⟨_,_,rfl,by decide⟩
 | test l n j=>exact⟨_,_,rfl,by decide⟩
theorem pD{H:Hp}{as:List Addr}{R:List br}(h:Paired (b5 H) as R){i:Nat}{r:br}(e:R[i]? = some r):∃ a,as[i]? = some a∧b5 H a r:=by
 have hi:i<as.length:=by rw[aL h]; exact(List.getElem?_eq_some_iff.mp e).1
 obtain⟨y,e1,e2⟩:=cv h (List.getElem?_eq_getElem hi)
 rw[e]at e1
 cases e1;exact⟨_,List.getElem?_eq_getElem hi,e2⟩
theorem E8{xs:List Int}{st s1:RS}{r:br}(h:RowGo xs st r s1):s1.sz≤st.sz+3:=by
 cases h with
 | pl h=>
  have:=zM h
  exact this
 | jump l j=>exact Nat.le_add_right _ _
 | test l n j=>
  show (aC xs n st).2.sz≤st.sz+3
  unfold aC;split <;> exact Nat.le_add_right _ _
def fU(U:Str→Prop)(r:br):Prop:=∀ v1 v2 x,r=[.str "do", v1,v2,.str x]→U x
def zK(U:Str→Prop):Prop:=U "open" ∧ U "end"
section
variable{CR CW:Addr}
def v6(K:PySem.W.Frag)(C:Addr):Sp:=fun vs H Q _=>∃ (E:RE) (H0:Hp) (st:RS) (n:Nat),E.C=C∧vs=[.ref E.r,.int (n:Int)]∧RO K E H0 H st∧∀ H',RO K E H0 H' (cN n st)→Q .non H'
theorem Aq(D:MethAt K CR "come_to" "Run.come_to" cF) (a_at:Fl K CR "at"):cE P w K mg base 1 CR "come_to" ["self", "at"] (v6 K CR):=by
 refine D.mcal (k:=0) l8 (fun _ _ _ _ _ _ us hl=>match us,hl with | [_,_],_=>rfl) (fun vs H Q E h=>by obtain⟨E,H0,st,n,_,rfl,_⟩:=h; rfl) (fun f cdv A outer sh H vs Q _ hr h=>?_)
 obtain⟨E,H0,st,n,rfl,rfl,R,q⟩:=h
 refine⟨_,(aj (b8 a_at (pv 0) (pv 1))),?_⟩
 walk_at "rd1";exact R.put (st':=cN n st) rfl rfl R.tk _ _ (xh E st n) q
def qH(K:PySem.W.Frag)(C W:Addr):Sp:=fun vs H Q _=>∃ (E:RE) (H0:Hp) (st s1:RS) (a:Addr) (r:br),E.C=C∧E.W=W∧zK E.U∧fU E.U r∧vs=[.ref E.r,.ref a]∧b5 H0 a r∧gj st r s1∧RO K E H0 H st∧st.sz+3≤100000∧∀ H',RO K E H0 H' s1→Q .non H'
theorem xp(D:DefAt K mg "do_row" fF) (m_Run_new_handle:cE P w K mg base 6 CR "new_handle" ["self", "line", "holder"] (vW K CR CW)) (m_Run_deed:cE P w K mg base 5 CR "deed" ["self", "line", "handle", "word"] (k_ K CR CW)) (m_Run_handle_of:cE P w K mg base 1 CR "handle_of" ["self", "holder"] (qd K CR))
  (m_Run_hold:cE P w K mg base 1 CR "hold" ["self", "holder", "handle"] (pI K CR)) (m_Run_tie:cE P w K mg base 3 CR "tie" ["self", "line", "one", "other"] (Ah K CR CW)):aR P w K mg base 7 "do_row" ["run", "row"] (qH K CR CW):=by
 refine D.cal (k:=6) sc_do_row (fun _ _ _ _ _ _ us hl=>match us,hl with | [_,_],_=>rfl) (fun vs H Q E h=>by obtain⟨E,H0,st,s1,a,r,_,_,_,_,rfl,_⟩:=h; rfl) (fun f cdv A outer sh H vs Q _ hr h=>?_)
 obtain⟨E,H0,st,s1,a,r,rfl,rfl,hU,hR,rfl,hr0,hp,R,hz,q⟩:=h
 have hs:=zM hp
 refine⟨_,(af (aA 2 sc_do_row.nd (aq (aK K) (pv 1) ah (fun _ _=>rfl)))
   (aj (bE (aE bY (aq (aK K) (pv 1) ah (fun _ _=>rfl)) aJ (aP _)) (aj (aO (b7 m_Run_new_handle hr (pv 0) (aa (pv 2) (aa (aq (aK K) (pv 1) ah (fun _ _=>rfl)) ac))))) (aj (bE (aE bY (aq (aK K) (pv 1) ah (fun _ _=>rfl)) aJ (aP _)) (aj (aO (b7 m_Run_deed hr (pv 0) (aa (pv 2) (aa (b7 m_Run_handle_of hr (pv 0) (aa (aq (aK K) (pv 1) ah (fun _ _=>rfl)) ac)) (aa (aq (aK K) (pv 1) ah (fun _ _=>rfl)) ac)))))) (aj (bE (aE bY (aq (aK K) (pv 1) ah (fun _ _=>rfl)) aJ (aP _)) (aj (aO (b7 m_Run_hold hr (pv 0) (aa (aq (aK K) (pv 1) ah (fun _ _=>rfl)) (aa (b7 m_Run_handle_of hr (pv 0) (aa (aq (aK K) (pv 1) ah (fun _ _=>rfl)) ac)) ac))))) (aj (bE (aE bY (aq (aK K) (pv 1) ah (fun _ _=>rfl)) aJ (aP _)) (aj (aO (b7 m_Run_hold hr (pv 0) (aa (aq (aK K) (pv 1) ah (fun _ _=>rfl)) (aa fQ ac))))) (aj (aO (b7 m_Run_tie hr (pv 0) (aa (pv 2) (aa (b7 m_Run_handle_of hr (pv 0) (aa (aq (aK K) (pv 1) ah (fun _ _=>rfl)) ac)) (aa (b7 m_Run_handle_of hr (pv 0) (aa (aq (aK K) (pv 1) ah (fun _ _=>rfl)) ac)) ac))))))))))))))),?_⟩
 have k1:SqT K H a r:=SqT.of (R.sm _ _ hr0)
 cases hp with
 | opn l k=>
  walk_at "rd1";refine⟨_,_,.inr k1,aW (j:=1) (v:=iN l) rfl,?_⟩
  walk_at "nx";refine⟨_,_,.inr k1,cZ,?_⟩
  walk_at "rd1";exact⟨R.isM (by decide +kernel),_,_,.inr k1,aW (j:=2) (v:=iN k) rfl,E,H0,st,l,sK k,rfl,rfl,hU.1,rfl,R,by omega,q⟩
 | deed l k w=>
  walk_at "rd1";refine⟨_,_,.inr k1,aW (j:=1) (v:=iN l) rfl,?_⟩
  walk_at "nx";refine⟨_,_,.inr k1,cZ,?_⟩
  walk_at "rd1";refine⟨_,_,.inr k1,cZ,?_⟩
  walk_at "rd1";exact⟨R.isM (by decide +kernel),R.isM (by decide +kernel),_,_,.inr k1,aW (j:=2) (v:=iN k) rfl,E,H0,st,sK k,rfl,rfl,R,_,_,.inr k1,aW (j:=3) (v:=.str w) rfl,E,H0,st,l,bD st (sK k),w,rfl,rfl,hR _ _ w rfl,rfl,R,by omega,q⟩
 | copy l k j=>
  walk_at "rd1";refine⟨_,_,.inr k1,aW (j:=1) (v:=iN l) rfl,?_⟩
  walk_at "nx";refine⟨_,_,.inr k1,cZ,?_⟩
  walk_at "rd1";refine⟨_,_,.inr k1,cZ,?_⟩
  walk_at "rd1";refine⟨_,_,.inr k1,cZ,?_⟩
  walk_at "rd1";exact⟨R.isM (by decide +kernel),_,_,.inr k1,aW (j:=2) (v:=iN k) rfl,R.isM (by decide +kernel),_,_,.inr k1,aW (j:=3) (v:=iN j) rfl,E,H0,st,sK j,rfl,rfl,R,E,H0,st,sK k,bD st (sK j),rfl,rfl,R,by omega,q⟩
 | drop l k=>
  walk_at "rd1";refine⟨_,_,.inr k1,aW (j:=1) (v:=iN l) rfl,?_⟩
  walk_at "nx";refine⟨_,_,.inr k1,cZ,?_⟩
  walk_at "rd1";refine⟨_,_,.inr k1,cZ,?_⟩
  walk_at "rd1";refine⟨_,_,.inr k1,cZ,?_⟩
  walk_at "rd1";refine⟨_,_,.inr k1,cZ,?_⟩
  walk_at "rd1";exact⟨R.isM (by decide +kernel),_,_,.inr k1,aW (j:=2) (v:=iN k) rfl,E,H0,st,sK k,none,rfl,rfl,R,by omega,q⟩
 | tie l k j=>
  walk_at "rd1";refine⟨_,_,.inr k1,aW (j:=1) (v:=iN l) rfl,?_⟩
  walk_at "nx";refine⟨_,_,.inr k1,cZ,?_⟩
  walk_at "rd1";refine⟨_,_,.inr k1,cZ,?_⟩
  walk_at "rd1";refine⟨_,_,.inr k1,cZ,?_⟩
  walk_at "rd1";refine⟨_,_,.inr k1,cZ,?_⟩
  walk_at "rd1";exact⟨R.isM (by decide +kernel),R.isM (by decide +kernel),_,_,.inr k1,aW (j:=2) (v:=iN k) rfl,E,H0,st,sK k,rfl,rfl,R,R.isM (by decide +kernel),_,_,.inr k1,aW (j:=3) (v:=iN j) rfl,E,H0,st,sK j,rfl,rfl,R,E,H0,st,l,bD st (sK k),bD st (sK j),rfl,rfl,rfl,R,by omega,q⟩
def kA(K:PySem.W.Frag)(C W:Addr):Sp:=fun vs H Q _=>∃ (E:RE) (H0:Hp) (st s1:RS) (a:Addr) (r:br),E.C=C∧E.W=W∧zK E.U∧fU E.U r∧vs=[.ref E.r,.ref a]∧b5 H0 a r∧RowGo E.xs st r s1∧RO K E H0 H st∧st.sz+3≤100000∧∀ H' s2,RO K E H0 H' s2→s1=cN s1.pc s2→Q (.int (s1.pc:Int)) H'
theorem pE(D:DefAt K mg "row_behind" dD) (a_at:Fl K CR "at") (m_Run_takes_more:cE P w K mg base 1 CR "takes_more" ["self", "bound"] (qY K CR)) (c_do_row:aR P w K mg base 7 "do_row" ["run", "row"] (qH K CR CW)):aR P w K mg base 8 "row_behind" ["run", "row"] (kA K CR CW):=by
 refine D.cal (k:=7) nR (fun _ _ _ _ _ _ us hl=>match us,hl with | [_,_],_=>rfl) (fun vs H Q E h=>by obtain⟨E,H0,st,s1,a,r,_,_,_,_,rfl,_⟩:=h; rfl) (fun f cdv A outer sh H vs Q _ hr h=>?_)
 obtain⟨E,H0,st,s1,a,r,rfl,rfl,hU,hR,rfl,hr0,hp,R,hz,q⟩:=h
 refine⟨_,(af (bE (aE bY (aq (aK K) (pv 1) ah (fun _ _=>rfl)) aJ (aP _)) (aj (aG (aq (aK K) (pv 1) ah (fun _ _=>rfl)))) bH)
   (af (bE (aE bY (aq (aK K) (pv 1) ah (fun _ _=>rfl)) aJ (aP _)) (aj (aG (hZ (gn (b7 m_Run_takes_more hr (pv 0) (aa (aq (aK K) (pv 1) ah (fun _ _=>rfl)) ac))) (ap aD (au a_at (pv 0)) ah) (aq (aK K) (pv 1) ah (fun _ _=>rfl))))) bH)
   (af (aO (az c_do_row hr (aa (pv 0) (aa (pv 1) ac))))
   (aj (aG (ap aD (au a_at (pv 0)) ah)))))),?_⟩
 have k1:SqT K H a r:=SqT.of (R.sm _ _ hr0)
 cases hp with
 | pl hp=>
  rename_i s1
  obtain⟨kd,rest,rfl,n1,n2,_⟩:=rJ hp
  walk_at "rd1";refine⟨_,_,.inr k1,cZ,?_⟩
  walk_at "rd1";refine bG (fun c=>absurd c n1) (fun _=>?_)
  walk_at "nx";refine⟨_,_,.inr k1,cZ,?_⟩
  walk_at "rd1";refine bG (fun c=>absurd c n2) (fun _=>?_)
  walk_at "nx";refine⟨E,H0,st,_,a,_,rfl,rfl,hU,hR,rfl,hr0,hp,R,hz,fun H1 R1=>?_⟩
  walk_at "nx";refine R1.at ?_
  have z:=q H1 _ R1 rfl;rw[show (((cN (st.pc+1) s1).pc:Nat):Int)=(s1.pc:Int)+1 by rw[Ft hp]; rfl]at z
  exact z
 | jump l j=>
  walk_at "rd1";refine⟨_,_,.inr k1,cZ,?_⟩
  walk_at "rd1";exact⟨_,_,.inr k1,aW (j:=2) (v:=iN j) rfl,q H st R rfl⟩
 | test l n j=>
  walk_at "rd1";refine⟨_,_,.inr k1,cZ,?_⟩
  walk_at "rd1";walk_at "nx";refine⟨_,_,.inr k1,cZ,?_⟩
  walk_at "rd1";refine⟨R.isM (by decide +kernel),_,_,.inr k1,aW (j:=2) (v:=.int n) rfl,E,H0,st,n,rfl,rfl,R,fun H1 R1=>⟨_,rfl,bG (fun c=>?_) (fun c=>?_)⟩⟩
  ·rw[if_pos c]at q
   refine R1.at ?_
   have z:=q H1 _ R1 rfl;rw[show (((cN (st.pc+1) (aC E.xs n st).2).pc:Nat):Int)=(((aC E.xs n st).2.pc:Nat):Int)+1 by rw[A3]; rfl]at z
   exact z
  ·rw[if_neg c]at q
   exact⟨_,_,.inr (SqT.of (R1.sm _ _ hr0)),aW (j:=3) (v:=iN j) rfl,q H1 _ R1 rfl⟩
def mK(K:PySem.W.Frag)(C W:Addr):Sp:=fun vs H Q _=>∃ (E:RE) (H0:Hp) (st v:RS) (cp:Addr) (R:List br) (n l:Nat),E.C=C∧E.W=W∧zK E.U∧(∀ r∈R,fU E.U r)∧vs=[.ref cp,.ref E.r]∧ListR H0 cp R∧GoC R E.xs n st v∧R[v.pc]? = some [.str "end", iN l]∧RO K E H0 H st∧st.sz+3 * n≤100000∧∀ H',RO K E H0 H' (jw l v)→Q (.ref E.lp) H'
theorem yv(D:DefAt K mg "log_of" f_) (a_at:Fl K CR "at") (a_log:Fl K CR "log") (m_Run_come_to:cE P w K mg base 1 CR "come_to" ["self", "at"] (v6 K CR)) (m_Run_end_all:cE P w K mg base 6 CR "end_all" ["self", "line"] (zW K CR CW)) (c_row_behind:aR P w K mg base 8 "row_behind" ["run", "row"] (kA K CR CW)):aR P w K mg base 9 "log_of" ["code", "run"] (mK K CR CW):=by
 refine D.cal (k:=8) vY (fun _ _ _ _ _ _ us hl=>match us,hl with | [_,_],_=>rfl) (fun vs H Q E h=>by obtain⟨E,H0,st,v,cp,R,n,l,_,_,_,_,rfl,_⟩:=h; rfl) (fun f cdv A outer sh H vs Q _ hr h=>?_)
 obtain⟨E,H0,st,v,cp,R,n,l,rfl,rfl,hU,hR,rfl,⟨as,h1,h2⟩,hg,he,O,hz,q⟩:=h
 refine⟨_,(af (pS PassesOwn.never (aE lP (aq (aK K) (aq (aK K) (pv 0) (au a_at (pv 1)) (fun _ _=>rfl)) ah (fun _ _=>rfl)) aJ (aP _)) (aj (aO (b7 m_Run_come_to hr (pv 1) (aa (az c_row_behind hr (aa (pv 1) (aa (aq (aK K) (pv 0) (au a_at (pv 1)) (fun _ _=>rfl)) ac))) ac)))))
   (af (aO (b7 m_Run_end_all hr (pv 1) (aa (aq (aK K) (aq (aK K) (pv 0) (au a_at (pv 1)) (fun _ _=>rfl)) ah (fun _ _=>rfl)) ac)))
   (aj (aG (au a_log (pv 1)))))),?_⟩
 walk_at "rd1";refine⟨fun m σ H'=>∃ st',σ=[some (.ref cp),some (.ref E.r)]∧RO K E H0 H' st'∧GoC R E.xs m st' v∧st'.sz+3 * m≤100000,⟨n,st,rfl,O,hg,hz⟩,?_⟩
 rintro m σ H' ⟨st',rfl,O',hg',hz'⟩
 walk_at "rd1";refine O'.at ?_
 cases hg' with
 | nil=>
  obtain⟨a,ea,ha⟩:=pD h2 he
  have k1:SqL K H' cp (as.map V.ref):=SqL.of (O'.sm _ _ h1)
  have k2:SqT K H' a [.str "end", iN l]:=SqT.of (O'.sm _ _ ha)
  refine⟨_,_,.inl k1,aW (v:=.ref a) (by rw[List.getElem?_map,ea]; rfl),?_⟩
  refine⟨_,_,.inr k2,cZ,?_⟩
  walk_at "rd1";rw[if_neg (by simp)]
  walk_at "nx";refine⟨O'.isM (by decide +kernel),O'.at ?_⟩
  refine⟨_,_,.inl k1,aW (v:=.ref a) (by rw[List.getElem?_map,ea]; rfl),?_⟩
  refine⟨_,_,.inr k2,aW (j:=1) (v:=iN l) rfl,E,H0,v,l,rfl,rfl,hU.2,rfl,O',by omega,fun H1 O1=>?_⟩
  walk_at "nx";exact O1.log (q H1 O1)
 | step e g hg2=>
  rename_i r s1 m
  obtain⟨a,ea,ha⟩:=pD h2 e
  obtain⟨kd,rest,er,hne⟩:=A5 g
  have k1:SqL K H' cp (as.map V.ref):=SqL.of (O'.sm _ _ h1)
  have k2:SqT K H' a r:=SqT.of (O'.sm _ _ ha)
  have hs:=E8 g;refine⟨_,_,.inl k1,aW (v:=.ref a) (by rw[List.getElem?_map,ea]; rfl),?_⟩
  refine⟨_,_,.inr k2,by rw[er]; exact cZ,?_⟩
  walk_at "rd1";rw[if_pos (by simp[hne])]
  refine⟨fun σ' H''=>∃ st'',σ'=[some (.ref cp),some (.ref E.r)]∧RO K E H0 H'' st''∧GoC R E.xs m st'' v∧st''.sz+3 * m≤100000,fun σ' H'' z=>⟨m,Nat.lt_succ_self _,z⟩,O'.isM (by decide +kernel),O'.at ?_⟩
  refine⟨_,_,.inl k1,aW (v:=.ref a) (by rw[List.getElem?_map,ea]; rfl),E,H0,st',s1,a,r,rfl,rfl,hU,hR r (List.mem_of_getElem? e),rfl,ha,g,O',by omega,fun H1 s2 O1 e1=>?_⟩
  exact⟨E,H0,s2,s1.pc,rfl,rfl,O1,fun H2 O2=>⟨s1,rfl,by rw[e1]; exact O2,hg2,by omega⟩⟩
def sR(K:PySem.W.Frag)(H:Hp)(cp ip:Addr)(R:List br)(xs:List Int)(v:RS)(n l:Nat):Prop:=ListR H cp R∧GoC R xs n rs0 v∧R[v.pc]? = some [.str "end", iN l]∧3 * n≤100000∧SqL K H ip (xs.map V.int)∧xs.length≤100
def uL(H:Hp)(l:Nat)(v:RS)(Q:VK):Prop:=∀ (q:Addr) (H':Hp) (es:List Addr),Same H H'→H' q=some (.lst (es.map V.ref))→Paired (fun a e=>H' a=some (.tup e)) es (jw l v).log→Q (.ref q) H'
def vo(K:PySem.W.Frag):Sp:=fun vs H Q _=>∃ (cp ip:Addr) (R:List br) (xs:List Int) (v:RS) (n l:Nat),vs=[.ref cp,.ref ip]∧sR K H cp ip R xs v n l∧uL H l v Q
theorem AE(D:DefAt K mg "run_code" dN) (k_Run:iq P w K mg base 1 "Run" CR ["self", "inputs", "watches"] (mL K CR CW)) (c_log_of:aR P w K mg base 9 "log_of" ["code", "run"] (mK K CR CW)):aR P w K mg base 10 "run_code" ["code", "inputs"] (vo K):=by
 refine D.cal (k:=9) qw (fun _ _ _ _ _ _ us hl=>match us,hl with | [_,_],_=>rfl) (fun vs H Q E h=>by obtain⟨cp,ip,R,xs,v,n,l,rfl,_⟩:=h; rfl) (fun f cdv A outer sh H vs Q _ hr h=>?_)
 obtain⟨cp,ip,R,xs,v,n,l,rfl,⟨hR,hg,he,hn,hip,hxl⟩,q⟩:=h
 refine⟨_,(aj (aG (az c_log_of hr (aa (pv 0) (aa (ol k_Run hr (aa (pv 1) (aa (aQ ac) ac))) ac))))),?_⟩
 walk_at "rd1";refine⟨by decide,fun wp hwp=>?_⟩
 have sA:=ak hwp (.lst []);have eW:upd H wp (.lst []) wp=some (.lst []):=ae
 generalize upd H wp (.lst [])=HA at sA eW ⊢;intro x dx hx0 hdx ndx
 generalize hM:upd (upd HA dx (.own x)) x (.ins CR dx [])=HM
 have sM:Same HA HM:=by rw[← hM]; exact(ak hdx (.own x)).upd hx0 _
 have eM:HM x=some (.ins CR dx []):=by rw[← hM,ae]
 refine⟨x,dx,ip,wp,HA,xs,[],fun _=>True,fun _=>none,rfl,eM,hx0,sA.seq hip,eW,⟨by decide,fun _ z=>nomatch z⟩,(fun _ z=>nomatch z),⟨sM,(fun _ z=>nomatch z),(fun _ _ z=>nomatch z),(fun _ z=>nomatch z),fun _ _ z=>nomatch z⟩,by omega,fun hp lp HB O=>⟨rfl,?_⟩⟩
 refine⟨⟨CR,x,ip,hp,lp,xs,wp,[],CW,fun _=>True⟩,HA,rs0,v,cp,R,n,l,rfl,rfl,⟨trivial,trivial⟩,(fun _ _ _ _ _ _=>trivial),rfl,hR.mono sA,hg,he,O,by show 0+3 * n≤100000; omega,fun HD OD=>?_⟩
 obtain⟨es,l1,l2⟩:=id OD.lg
 exact q lp HD es (sA.trans OD.sm) l1 l2
def oR(K:PySem.W.Frag):Sp:=fun vs H Q _=>∃ (cp wp ip:Addr) (bs:List Addr) (ys:List (Str × Rl)) (U:Str→Prop) (R:List br) (xs:List Int) (v:RS) (n l:Nat),vs=[.ref cp,.ref wp,.ref ip]∧sR K H cp ip R xs v n l∧H wp=some (.lst (bs.map V.ref))∧Paired (NmAt H) bs ys∧ys.length≤2∧(∀ x∈ys,kZ x.2∧x.2.ws.Nodup∧∀ u,U u→u.length≤1000∧∀ s∈cJ x.2,qO s u∉x.2.ws)∧zK U∧(∀ r∈R,fU U r)∧uL H l v Q
theorem A7(D:DefAt K mg "run_watched" cH) (c_watches_of:aR P w K mg base 4 "watches_of" ["rules"] (nh CW)) (k_Run:iq P w K mg base 1 "Run" CR ["self", "inputs", "watches"] (mL K CR CW)) (c_log_of:aR P w K mg base 9 "log_of" ["code", "run"] (mK K CR CW)):aR P w K mg base 10 "run_watched" ["code", "rules", "inputs"] (oR K):=by
 refine D.cal (k:=9) mM (fun _ _ _ _ _ _ us hl=>match us,hl with | [_,_,_],_=>rfl) (fun vs H Q E h=>by obtain⟨_,_,_,_,_,_,_,_,_,_,_,rfl,_⟩:=h; rfl) (fun f cdv A outer sh H vs Q _ hr h=>?_)
 obtain⟨cp,wp,ip,bs,ys,U,R,xs,v,n,l,rfl,⟨hR,hg,he,hn,hip,hxl⟩,ewp,hb,hyl,hy,hU,hRU,q⟩:=h
 refine⟨_,(aj (aG (az c_log_of hr (aa (pv 0) (aa (ol k_Run hr (aa (pv 2) (aa (az c_watches_of hr (aa (pv 1) ac)) ac))) ac))))),?_⟩
 walk_at "rd1";refine⟨wp,bs,ys,rfl,ewp,hb,by omega,fun x hx=>⟨(hy x hx).1,(hy x hx).2.1⟩,fun a es HA sA ha ea M=>?_⟩
 obtain⟨W,s0,kp⟩:=M.start sA
 have ea0:=kp _ _ ea (fun _ z=>nomatch z)
 have at1:∀ e∈es,∃ k,∃ x∈ys,MadeW H HA CW e k x:=fun e he=>by
  obtain⟨k,hk,e1⟩:=List.mem_iff_getElem.mp he
  exact⟨k,_,List.getElem_mem _,M.at' k e _ (by rw[List.getElem?_eq_getElem hk,e1]) (List.getElem?_eq_getElem (by rw[← M.len]; exact hk))⟩
 have hNo:∀ e∈es,∀ u,U u→NoW CW (eh (iz es) HA) e u:=fun e he u hu=>by
  obtain⟨k,x,hx,m⟩:=at1 e he
  have:=(hy x hx).2.2 u hu
  exact⟨m.C,W.stat e he,fun s hs=>by rw[m.r]at hs ⊢; exact this.2 s hs,this.1⟩
 intro x dx hx0 hdx ndx
 generalize hM:upd (upd HA dx (.own x)) x (.ins CR dx [])=HM
 have sM:Same HA HM:=by rw[← hM]; exact(ak hdx (.own x)).upd hx0 _
 have eM:HM x=some (.ins CR dx []):=by rw[← hM,ae]
 generalize eh (iz es) HA=H0 at W s0 ea0 hNo;refine⟨x,dx,ip,a,H0,xs,es,U,iz es,rfl,eM,W.sm.free hx0,s0.seq hip,ea0,⟨by rw[M.len]; exact hyl,fun e he=>let ⟨_,_,_,m⟩:=at1 e he; m.C⟩,hNo,W.mono sM,by omega,fun hp lp HB O=>⟨rfl,?_⟩⟩
 refine⟨⟨CR,x,ip,hp,lp,xs,a,es,CW,U⟩,H0,rs0,v,cp,R,n,l,rfl,rfl,hU,hRU,rfl,hR.mono s0,hg,he,O,by show 0+3 * n≤100000; omega,fun HD OD=>?_⟩
 obtain⟨fs,l1,l2⟩:=id OD.lg
 exact q lp HD fs (s0.trans OD.sm) l1 l2
end
end
theorem BC{K:PySem.W.Frag}{H:Hp}{c1 c2:Addr}{as:List Addr}{R:List br}(h1:H c1=some (.lst (as.map V.ref)))(h2:H c2=some (.lst (as.map V.ref)))(h:Paired (b5 H) as R)(hf:∀ r∈R,∀ v∈r,cA v=true):EqN K H 2 (.ref c1) (.ref c2) true:=
 EqN.seq (.inl ⟨SqL.of h1,SqL.of h2⟩) rfl fun i x y e1 e2=>by
  rw[e1]at e2
  cases e2;rw[List.getElem?_map]at e1
  cases f1:as[i]? with
  | none=>rw[f1]at e1; cases e1
  | some u=>
   rw[f1]at e1
   cases e1;obtain⟨r,hr,hu⟩:=cv h f1
   exact EqN.seqFlat (.inr ⟨SqT.of hu,SqT.of hu⟩) (hf r (List.mem_of_getElem? hr))
section
variable{U:Str→Prop}
theorem jd{h:Str}{r:br}(n:h ≠ "do"):fU U (.str h::r):=fun v1 v2 x e=>absurd (V.str.inj (List.cons.inj e).1) n
theorem rL{v1 v2:V}{x:Str}(h:U x):fU U [.str "do", v1,v2,.str x]:=fun a b y e=>by
 cases e;exact h
theorem xb{nm ws us:List Str}{kv:List (aw × V)}{l:Nat}(hw:∀ x∈ws,U x)(pl:z_ nm ws us):fU U (c_ kv l us):=by
 unfold c_
 by_cases c:us.headD "" = "do"
 ·rw[if_pos c]
  cases pl.1 with
  | dd u x=>exact rL (hw u (pl.2.2.2 u x rfl))
  | op x=>exact absurd c (show ¬ ("open" : Str) = "do" by decide +kernel)
  | dr x=>exact absurd c (show ¬ ("drop" : Str) = "do" by decide +kernel)
  | cp x y=>exact absurd c (show ¬ ("copy" : Str) = "do" by decide +kernel)
  | ti x y=>exact absurd c (show ¬ ("tie" : Str) = "do" by decide +kernel)
 ·rw[if_neg c]
  exact jd c
theorem vt{nm ws:List Str}{kv:List (aw × V)}(hw:∀ x∈ws,U x)(h1:U "lend") (h2:U "back"):∀ (d:Nat) (t:Bool) (a l:Nat) (T:List al),jK nm ws d T→∀ r∈aF kv d t a l T,fU U r
 | 0,_,_,_,_,h=>h.elim
 | d+1,t,a,l,T,hf=>by
  have ih:=vt (nm:=nm) (kv:=kv) hw h1 h2 d;have one:∀ {h:Str} {r r':br},h ≠ "do" → r∈[V.str h::r']→fU U r:=fun n hr=>by rw[List.mem_singleton.mp hr]; exact jd n
  have st:∀ (s:al) (a l:Nat),va nm ws (jK nm ws d) s→∀ r∈dy kv (aF kv d) (ai d) t a l s,fU U r:=fun s a l hs r hr=>by
   cases s with
   | plain us=>rw[List.mem_singleton.mp hr]; exact xb (nm:=nm) hw hs
   | lend x y b=>
    rcases List.mem_append.mp hr with hr | hr
    ·rcases List.mem_append.mp hr with hr | hr
     ·simp only[List.mem_cons,List.not_mem_nil,or_false]at hr
      rcases hr with rfl | rfl | rfl
      ·exact jd (by decide)
      ·exact rL h1
      ·exact jd (by decide)
     ·exact ih t _ _ b hs.2.2 r hr
    ·simp only[List.mem_cons,List.not_mem_nil,or_false]at hr
     rcases hr with rfl | rfl | rfl
     ·exact rL h2
     ·exact jd (by decide)
     ·exact jd (by decide)
   | ite n b c=>
    rcases List.mem_append.mp hr with hr | hr
    ·rcases List.mem_append.mp hr with hr | hr
     ·rcases List.mem_append.mp hr with hr | hr
      ·exact one (by decide) hr
      ·exact ih t _ _ b hs.2.1 r hr
     ·exact one (by decide) hr
    ·exact ih t _ _ c hs.2.2 r hr
   | whl n b=>
    have lp:∀ a,r∈cU (aF kv d) (ai d) a l n b→fU U r:=fun a hr=>by
     rcases List.mem_append.mp hr with hr | hr
     ·rcases List.mem_append.mp hr with hr | hr
      ·exact one (by decide) hr
      ·exact ih false _ _ b hs.2 r hr
     ·exact one (by decide) hr
    have hr':r∈de (aF kv d) (ai d) t a l n b:=hr
    unfold de at hr';split at hr'
    ·rcases List.mem_append.mp hr' with hr | hr
     ·rcases List.mem_append.mp hr with hr | hr
      ·exact one (by decide) hr
      ·exact ih true _ _ b hs.2 r hr
     ·exact lp _ hr
    ·exact lp _ hr'
  have go:∀ (T:List al) (a l:Nat),(∀ s∈T,va nm ws (jK nm ws d) s)→∀ r∈c8 (dy kv (aF kv d) (ai d) t) (ba (ai d)) a l T,fU U r:=fun T=>by
   induction T with
   | nil=>intro a l _ r hr; cases hr
   | cons s T ihT=>
    intro a l hf r hr
    rcases List.mem_append.mp hr with hr | hr
    ·exact st s a l (hf s List.mem_cons_self) r hr
    ·exact ihT _ _ (fun s hs=>hf s (List.mem_cons_of_mem _ hs)) r hr
  exact go T a l hf
end
structure Cd (T:List al) (NM:List Str) (U:Str→Prop):Prop where
 cin:∀ {H:Hp} {p:Addr} {S:Addr→Prop},ProgAt S 10 H p T→li NOt H p 10 T NM
 go:∀ (t:Bool) (ys:List Int),ys.length≤50→∃ n v,GoC (di NM 10 t T) ys n rs0 v∧(di NM 10 t T)[v.pc]? = some [.str "end", iN (ai 10 T)]∧3 * n≤100000∧(jw (ai 10 T) v).log=(mr ys 10 T).log
 flat:∀ (t:Bool),∀ r∈di NM 10 t T,∀ v∈r,cA v=true
 wrd:∀ (t:Bool),∀ r∈di NM 10 t T,fU U r
theorem BI{T:List al}{nm ws:List Str}{U:Str→Prop}(hg:jK nm ws 10 T)(hcnt:ai 10 T≤50)(hw:∀ x∈ws,U x)(h1:U "lend") (h2:U "back"):Cd T (fe ((cD 10 T).flatMap b_)) U:=by
 obtain⟨hok,fine⟩:=gE 10 T hg
 have okn:=kM fine;have hpc:=mG 10 T;have hnf:=uR okn
 have hnl:(fe ((cD 10 T).flatMap b_)).length≤1000:=by
  have:=iG ((cD 10 T).flatMap b_) []
  rw[List.length_nil]at this
  unfold fe;omega
 have hnm:mX (fun n=>n∈fe ((cD 10 T).flatMap b_)) 10 T:=oF 10 _ okn (fun n hn=>rC hn)
 refine⟨fun {H p S} h=>⟨⟨_,h⟩,hok,⟨_,_,h,okn,by omega,by omega,rfl⟩,lT 10 h hok,hnm,by omega,hnl,by decide⟩,fun t ys hy=>?_,fun t r hr v hv=>?_,fun t r hr=>?_⟩
 ·obtain⟨n,v,g1,g2,g3,g4⟩:=uU (vF _) (oq fine) hnm t ys
  have:=Nat.mul_le_mul (show 6 * ai 10 T≤300 by omega) (show 1+ys.length≤51 by omega)
  exact⟨n,v,g1,g2,by omega,g4⟩
 ·have:=(Bz (d:=10) (t:=t) (T:=T) fine r hr).1 v hv
  cases v <;> first | rfl | cases this
 ·rcases List.mem_append.mp hr with hr | hr
  ·exact vt hw h1 h2 10 t 0 0 T hg r hr
  ·rw[List.mem_singleton.mp hr]
   exact jd (by decide)
section
variable{P:Program}{w:World}{K:PySem.W.Frag}{mg:Str→Option Value}{base:Heap}
theorem oA(xs:List V)(i j:Nat):dk xs (some (i:Int)) (some (j:Int))=(xs.take j).drop i:=by
 unfold dk;rw[HT.sIx_nat,HT.sIx_nat,List.drop_take];rcases Nat.lt_or_ge xs.length i with h | h
 ·rw[List.drop_eq_nil_of_le (by omega),List.drop_eq_nil_of_le (by omega)]; simp
 ·rcases Nat.lt_or_ge xs.length j with h2 | h2
  ·rw[show min i xs.length=i by omega,show min j xs.length=xs.length by omega,List.take_of_length_le (by simp),List.take_of_length_le (by simp; omega)]
  ·rw[show min i xs.length=i by omega,show min j xs.length=j by omega]
def Gd(U:Str→Prop)(r:Rl):Prop:=kZ r∧r.ws.Nodup∧∀ u,U u→u.length≤1000∧∀ s∈cJ r,qO s u∉r.ws
theorem Lp{U:Str→Prop}(hU:∀ u,U u→u.length≤1000):Gd U ⟨1,[],[[]]⟩:=⟨⟨.inl rfl,by decide,by decide,by decide,fun x hx=>by rw[List.mem_singleton.mp hx]; exact⟨rfl,fun _ z=>nomatch z⟩,fun _ z=>nomatch z⟩,.nil,fun u hu=>⟨hU u hu,fun _ _ z=>nomatch z⟩⟩
theorem Lq{U:Str→Prop}(hU:∀ u,U u→u.length≤1000):Gd U ⟨2,[],[[],[]]⟩:=⟨⟨.inr rfl,by decide,by decide,by decide,fun x hx=>by
 have:x=[]:=by simpa using hx
 rw[this];exact⟨rfl,fun _ z=>nomatch z⟩,fun _ z=>nomatch z⟩,.nil,fun u hu=>⟨hU u hu,fun _ _ z=>nomatch z⟩⟩
theorem KD{U:Str→Prop}(hU:∀ u,U u→u.length≤1000)(x:Str)(hx:x.length≤10)(hn:¬ U x):Gd U ⟨1,[x],[[none]]⟩:=by
 refine⟨⟨.inl rfl,by show 1≤16; decide,by show 1≤1; decide,by show 1≤60; decide,fun r hr=>?_,fun y hy=>?_⟩,List.nodup_cons.mpr ⟨(fun z=>nomatch z),.nil⟩,fun u hu=>⟨hU u hu,fun s hs z=>?_⟩⟩
 ·rw[List.mem_singleton.mp hr]
  exact⟨rfl,fun k z=>by simp at z⟩
 ·rw[List.mem_singleton.mp hy]
  exact hx
 ·have h0:s=0:=List.mem_singleton.mp hs
  rw[h0]at z
  have:u=x:=List.mem_singleton.mp z
  exact hn (this ▸ hu)
theorem nN{H:Hp}{p a:Addr}{x:List (Option Nat)}(h1:H p=some (.lst [.ref a]))(h2:H a=some (.lst (x.map ij))):RoomsAs H p [x] [a]:=⟨h1,rfl,fun i b y e1 e2=>by
 match i,e1,e2 with
 | 0,e1,e2=>cases e1; cases e2; exact h2⟩
theorem vZ{H:Hp}{p a b:Addr}{x y:List (Option Nat)}(h1:H p=some (.lst [.ref a,.ref b]))(h2:H a=some (.lst (x.map ij)))(h3:H b=some (.lst (y.map ij))):RoomsAs H p [x,y] [a,b]:=⟨h1,rfl,fun i c z e1 e2=>by
 match i,e1,e2 with
 | 0,e1,e2=>cases e1; cases e2; exact h2
 | 1,e1,e2=>cases e1; cases e2; exact h3⟩
theorem zf{H:Hp}{o d:Addr}{r:Rl}{v1 v2:V}(h:RuleAt H o r)(hd:H d=some (.lst [v1,v2]))(hw:r.ws.length≤1)(hr:r.rs.length=1)(ok:kZ r)(u:HO):RuleAt (upd H d u) o r:=by
 obtain⟨pw,pr,as,h1,h2,h3,h4,h5⟩:=h
 have ne:∀ {c:Addr} {xs:List V},H c=some (.lst xs)→xs.length≤1→upd H d u c=some (.lst xs):=fun {c xs} z1 z2=>by
  rw[am (bv z1 hd (fun z=>by cases z; exact absurd z2 (by show ¬ 2≤1; decide)))]
  exact z1
 refine⟨pw,pr,as,by rw[am (bv h1 hd (fun z=>nomatch z))]; exact h1,ne h2 (by rw[List.length_map]; exact hw),ne h3 (by rw[List.length_map,h4,hr]; exact Nat.le_refl _),h4,fun i a x e1 e2=>ne (h5 i a x e1 e2) ?_⟩
 rw[List.length_map,(ok.row x (List.mem_of_getElem? e2)).1];exact hw
theorem Em:4+4≤sizeLine:=by decide
theorem fT{x:Str}(h:j9 x=true):fE x∧x.length≤8:=by
 unfold j9 at h;rw[Bool.and_eq_true,decide_eq_true_iff,List.all_eq_true]at h
 refine⟨fun z=>?_,h.1.2⟩
 have:=h.2 32 z
 rw[decide_eq_true_iff]at this
 exact absurd this (by decide +kernel)
theorem EE{f:Addr}{fd:FuncData}(F:Fun K "law" "law" bm f fd) (z_list:mg "list" = none) (c_law_cell_at:aR P w K mg base 1 "_law_cell_at" ["_law_script", "_law_k"] (wL K)) (c_law_words:aR P w K mg base 2 "_law_words" ["_law_cell", "_law_many"] qj) (c_law_program:aR P w K mg base 3 "_law_program" ["_law_cells", "_law_names", "_law_words_here", "_law_low"] (lM K)) (c_law_input:aR P w K mg base 1 "_law_input" ["_law_cell", "_law_low"] pC)
  (c_law_is_log:aR P w K mg base 1 "_law_is_log" ["_law_found", "_law_due"] kQ) (c_code_of:aR P w K mg base 35 "code_of" ["program"] (v7 NOt 10)) (c_turned_code:aR P w K mg base 35 "turned_code" ["program"] (oZ NOt 10)) (c_run_code:aR P w K mg base 10 "run_code" ["code", "inputs"] (vo K)) (c_run_watched:aR P w K mg base 10 "run_watched" ["code", "rules", "inputs"] (oR K)):FnOk P w K mg base iB 36 f fd ["_law_script"] (n9 K):=by
 refine F.ok sc_law (fun vs H Q E h=>by obtain⟨a,ns,rfl,_⟩:=h; rfl) (fun cdv A outer s H vs Q E hr h=>?_)
 obtain⟨a,ns,rfl,hS,hn,q⟩:=h
 refine⟨_,(af (aA 1 sc_law.nd (eJ (i0 K) (az c_law_words hr (aa (az c_law_cell_at hr (aa (pv 0) (aa ah ac))) (aa ah ac))) gQ (d_ (ap aD ah (ap cB (ap mq (az c_law_cell_at hr (aa (pv 0) (aa ah ac))) ah) ah)))))
   (af (aA 2 sc_law.nd (az c_law_words hr (aa (az c_law_cell_at hr (aa (pv 0) (aa ah ac))) (aa ah ac))))
   (af (aA 3 sc_law.nd (ap js (ap cB (az c_law_cell_at hr (aa (pv 0) (aa ah ac))) (ap k8 ah ah)) (ap eX ah (ap k8 ah ah))) (hx:=IS))
   (af (aA 4 sc_law.nd (az c_law_program hr (aa (eJ (i0 K) (pv 0) (d_ ah) (d_ ah)) (aa (pv 1) (aa (ap aD (eJ (i0 K) (pv 2) gQ (d_ ah)) (aQ (aa aJ (aa aJ (aa aJ (aa aJ ac)))))) (aa (pv 3 (hv:=Jc)) ac))))))
   (af (ur (CompSc.to (fsc:=(defScope bm)) (N:=["_law_script", "_law_names", "_law_words_here", "_law_low", "_law_program_here", "_law_inputs", "_law_odd", "_law_rules", "_law_code", "_law_handed", "_law_due", "_law_given"]) (N0:=["_law_script", "_law_names", "_law_words_here", "_law_low", "_law_program_here", "_law_inputs", "_law_odd", "_law_rules", "_law_code", "_law_handed", "_law_due", "_law_given"]) (T:=["_law_cell"]) ⟨by decide +kernel,by decide +kernel,by decide +kernel,by decide +kernel,by decide +kernel,by decide +kernel,by decide +kernel⟩ rfl rfl) rfl sc_law.nd (i:=5) rfl Kx (cw K (eJ (i0 K) (pv 0) (d_ ah) (d_ ah))) (fun _ _ _ _=>(bq 12 (show (["_law_script", "_law_names", "_law_words_here", "_law_low", "_law_program_here", "_law_inputs", "_law_odd", "_law_rules", "_law_code", "_law_handed", "_law_due", "_law_given", "_law_cell"]:List Str).Nodup from by decide +kernel) (hx:=(gY (defScope bm) (by decide +kernel))) (hf:=jF (defScope bm) (by decide +kernel)))) (dh (show (["_law_script", "_law_names", "_law_words_here", "_law_low", "_law_program_here", "_law_inputs", "_law_odd", "_law_rules", "_law_code", "_law_handed", "_law_due", "_law_given"]:List Str).length≤12 from by decide)) (fun _ _ _ _=>em) (fun _ _ _ _=>(az c_law_input hr (aa (pv 12 (hv:=(fD (defScope bm) (by decide +kernel)))) (aa (pv 3 (hv:=(fD (defScope bm) (by decide +kernel)))) ac)) (hg:=(CC (defScope bm) (by decide +kernel))))))
   (af (aA 6 sc_law.nd (aX (aa ah (aa (aQ (aa (aq (aK K) (pv 2) ah (fun _ _=>rfl)) ac)) (aa (aQ (aa (aQ (aa fQ ac)) ac)) ac)))))
   (af (aA 7 sc_law.nd (aQ (aa (aX (aa (aq (aK K) (pv 1) ah (fun _ _=>rfl)) (aa (aX (aa ah (aa (aQ ac) (aa (aQ (aa (aQ ac) ac)) ac)))) ac))) (aa (aX (aa (ap aD (aq (aK K) (pv 2) ah (fun _ _=>rfl)) aJ) (aa (aX (aa ah (aa (aQ ac) (aa (aQ (aa (aQ ac) (aa (aQ ac) ac))) ac)))) ac))) ac))))
   (af (bE (aE (pW K) (aq (aK K) (pv 2) ah (fun _ _=>rfl)) (aX (aa aJ (aa aJ (aa aJ (aa aJ ac))))) (by with_unfolding_all rfl)) (aj (aA 6 sc_law.nd (aX (aa ah (aa (aQ ac) (aa (aQ (aa (aQ ac) ac)) ac)))))) bH)
   (af (bE (aE bY (aq (aK K) (pv 1) ah (fun _ _=>rfl)) (aq (aK K) (pv 2) ah (fun _ _=>rfl)) (aP _)) (aj (aA 7 sc_law.nd (aQ (aa (aX (aa (aq (aK K) (pv 1) ah (fun _ _=>rfl)) (aa (pv 6) ac))) ac)))) (aj (gW (aX (aa (aq (aK K) (pv 1) ah (fun _ _=>rfl)) (aa (pv 6) ac))) (hX (pv 7) ah EU))))
   (af (cu PassesOwn.never rfl (cw K (aQ (aa (az c_code_of hr (aa (pv 4) ac)) (aa (az c_turned_code hr (aa (pv 4) ac)) ac)))) (bq 8 sc_law.nd) (af (aA 9 sc_law.nd (fz (gF K) z_list gH (aa (pv 8) ac)))
   (af (aA 10 sc_law.nd (az c_run_code hr (aa (fz (gF K) z_list gH (aa (pv 8) ac)) (aa (fz (gF K) z_list gH (aa (pv 5) ac)) ac))))
   (af (aA 11 sc_law.nd (fz (gF K) z_list gH (aa (pv 5) ac)))
   (af (bE (iJ (gn (az c_law_is_log hr (aa (az c_run_watched hr (aa (pv 9) (aa (aQ ac) (aa (pv 11) ac)))) (aa (pv 10) ac))))) (aj (aG eZ)) bH)
   (af (bE (iJ (gn (az c_law_is_log hr (aa (az c_run_watched hr (aa (pv 9) (aa (pv 7) (aa (pv 11) ac)))) (aa (pv 10) ac))))) (aj (aG eZ)) bH)
   (aj (bE (PW.pt' (n_ (aE (iH K hr) (pv 9) (pv 8) (aP _)) (n_ (aE (iH K hr) (pv 11) (pv 5) (aP _)) (pN (iJ (gn (az c_law_is_log hr (aa (az c_run_watched hr (aa (pv 9) (aa (pv 7) (aa (pv 11) ac)))) (aa (pv 10) ac))))))))) (aj (aG eZ)) bH))))))))
   (aj (aG eZ)))))))))))),?_⟩
 walk_at "rd1";refine⟨a,ns,0,rfl,hS,by decide,?_⟩
 refine⟨_,5,rfl,by decide,fun p1 H1 ss s1 hp1 e1 hl1 w1 nd1=>?_⟩
 refine⟨a,ns,0,rfl,s1.seq hS,by decide,?_⟩
 walk_at "rd1";have hi:∃ k:Nat,(1:Int)+ns.getD (Int.toNat 0) 0 / 64 % 4=(k:Int)∧1≤k∧k≤4:=⟨(1+ns.getD (Int.toNat 0) 0 / 64 % 4).toNat,by omega,by omega,by omega⟩
 generalize (1:Int)+ns.getD (Int.toNat 0) 0 / 64 % 4=ii at hi ⊢;obtain⟨k,rfl,hk1,hk4⟩:=hi
 refine⟨⟨by decide,by decide⟩,by decide,_,SqL.of e1,fun p2 hp2=>?_⟩
 rw[mj,← List.map_take];have hnm1:1≤(ss.take k).length∧(ss.take k).length≤4:=by rw[List.length_take]; omega
 have hnmw:∀ x∈ss.take k,j9 x=true:=fun x hx=>w1 x (List.mem_of_mem_take hx)
 generalize ss.take k=nm at hnm1 hnmw ⊢;have s2:=ak hp2 (.lst (nm.map V.str));have e2:upd H1 p2 (.lst (nm.map V.str)) p2=some (.lst (nm.map V.str)):=ae
 generalize upd H1 p2 (.lst (nm.map V.str))=H2 at s2 e2 ⊢;have s02:=s1.trans s2;walk_at "nx";refine⟨a,ns,1,rfl,s02.seq hS,by decide,?_⟩
 refine⟨_,5,rfl,by decide,fun p3 H3 ws s3 hp3 e3 hl3 w3 nd3=>?_⟩
 have s03:=s02.trans s3;walk_at "nx";refine⟨a,ns,2,rfl,s03.seq hS,by decide,?_⟩
 walk_at "rd1"
 obtain⟨x0,x1,x2,x3,x4,rfl⟩ : ∃ x0 x1 x2 x3 x4,ws=[x0,x1,x2,x3,x4]:=by
  match ws,hl3 with
  | [x0,x1,x2,x3,x4],_=>exact⟨_,_,_,_,_,rfl⟩
 refine⟨⟨by decide,by decide,by decide⟩,by decide,⟨by decide,by decide,by decide⟩,.inl ⟨by decide,by decide⟩,?_⟩
 have hlow:(ns.getD (Int.toNat 2) 0 % 10 ^ Int.toNat 59 - 5 * 10 ^ Int.toNat 58).natAbs<10 ^ 60:=by
  have h1:=Int.emod_nonneg (ns.getD (Int.toNat 2) 0) (show (10 ^ 59:Int)≠0 by decide)
  have h2:=Int.emod_lt_of_pos (ns.getD (Int.toNat 2) 0) (show (0:Int)<10 ^ 59 by decide)
  show (ns.getD (Int.toNat 2) 0 % 10 ^ 59 - 5 * 10 ^ 58).natAbs<10 ^ 60
  omega
 generalize ns.getD (Int.toNat 2) 0 % 10 ^ Int.toNat 59 - 5 * 10 ^ Int.toNat 58=low at hlow ⊢;walk_at "nx";refine⟨_,s03.seq hS,fun p4 hp4=>?_⟩
 rw[show dk (ns.map V.int) (some 3) (some 17)=((ns.take 17).drop 3).map V.int by rw[List.map_drop,List.map_take]; exact oA _ 3 17]
 have hc4:((ns.take 17).drop 3).length≤14:=by rw[List.length_drop,List.length_take]; omega
 generalize (ns.take 17).drop 3=cs at hc4 ⊢;have s4:=ak hp4 (.lst (cs.map V.int));have e4:upd H3 p4 (.lst (cs.map V.int)) p4=some (.lst (cs.map V.int)):=ae
 generalize upd H3 p4 (.lst (cs.map V.int))=H4 at s4 e4 ⊢;refine⟨_,SqL.of (s4 _ _ e3),fun p5 hp5=>⟨by decide,fun p6 hp6=>?_⟩⟩
 rw[show dk (([x0,x1,x2,x3,x4]:List Str).map V.str) none (some 4)=([x0,x1,x2,x3]:List Str).map V.str from mj _ 4]at hp6 ⊢
 have s5:=ak hp5 (.lst (([x0,x1,x2,x3]:List Str).map V.str));have e5:upd H4 p5 (.lst (([x0,x1,x2,x3]:List Str).map V.str)) p5=some (.lst (([x0,x1,x2,x3]:List Str).map V.str)):=ae
 generalize upd H4 p5 (.lst (([x0,x1,x2,x3]:List Str).map V.str))=H5 at s5 e5 hp6 ⊢;generalize hH6:upd H5 p6 _=H6
 have s6:=aV hH6 hp6;have e6:=bB hH6;refine⟨_,_,s6 _ _ e5,e6,Em,fun p7 hp7=>?_⟩
 generalize hH7:upd H6 p7 _=H7
 have s7:=aV hH7 hp7;have e7:H7 p7=some (.lst (([x0,x1,x2,x3, "open", "lend", "back", "end"]:List Str).map V.str)):=bB hH7
 have s47:=(s5.trans s6).trans s7;have s37:=s4.trans s47;have s07:=s03.trans s37;have hx:∀ x∈[x0,x1,x2,x3,x4],x∈[x0,x1,x2,x3,x4]:=fun _ h=>h
 have nm4:Dq nm [x0,x1,x2,x3, "open", "lend", "back", "end"]:=by
  refine⟨⟨hnm1.1,by omega⟩,⟨by simp,by simp⟩,fun x hx=>fT (hnmw x hx),fun x hx=>?_⟩
  simp only[List.mem_cons,List.not_mem_nil,or_false]at hx
  rcases hx with rfl | rfl | rfl | rfl | rfl | rfl | rfl | rfl
  ·exact fT (w3 _ (by simp))
  ·exact fT (w3 _ (by simp))
  ·exact fT (w3 _ (by simp))
  ·exact fT (w3 _ (by simp))
  all_goals exact⟨by unfold fE; decide +kernel,by decide +kernel⟩
 refine⟨p4,p2,p7,cs,nm,_,low,rfl,SqL.of (s47 _ _ e4),hc4,SqL.of (s37 _ _ (s3 _ _ e2)),SqL.of e7,nm4,hlow,fun root H8 T S s8 hroot hprog hgd hcnt=>?_⟩
 have s08:=s07.trans s8;walk_at "nx";refine⟨_,s08.seq hS,fun p8 hp8=>?_⟩
 rw[show dk (ns.map V.int) (some 17) (some 63)=((ns.take 63).drop 17).map V.int by rw[List.map_drop,List.map_take]; exact oA _ 17 63]
 have hc8:((ns.take 63).drop 17).length≤46:=by rw[List.length_drop,List.length_take]; omega
 generalize (ns.take 63).drop 17=ms at hc8 ⊢;have s9:=ak hp8 (.lst (ms.map V.int));have e9:upd H8 p8 (.lst (ms.map V.int)) p8=some (.lst (ms.map V.int)):=ae
 generalize upd H8 p8 (.lst (ms.map V.int))=H9 at s9 e9 ⊢;refine⟨⟨_,SqL.of e9⟩,fun ip hip=>?_⟩
 refine gD (xs:=ms.map V.int) (fun j ys H'=>∃ zs:List Int,ys=zs.map V.int∧zs.length=j∧Same H9 H'∧H' ip=some (.lst ys)) ⟨[],rfl,rfl,ak hip _,ae⟩ (fun j ys H' _ hh=>by obtain⟨_,_,_,sm,_⟩:=hh; exact SqL.of (sm _ _ e9)) ?_ ?_
 ·rintro j ys H' v hv hj ⟨zs,rfl,hzl,sm,ez⟩
  rw[List.length_map]at hj
  rw[List.getElem?_map,List.getElem?_eq_getElem hj]at hv
  cases hv;walk_at "rd1";refine⟨_,low,rfl,fun z=>?_⟩
  exact iM (by rw[List.length_map]; exact hj) (by rw[List.length_map]; exact hzl) (by rw[List.length_map]; exact bt (by omega)) ez ⟨zs++[z],k5 _ _,by simp[hzl],sm.upd hip _,ae⟩
 rintro ys HA ⟨xs,rfl,hxl,sA,eip⟩
 rw[List.length_map]at hxl
 have s0A:=(s08.trans s9).trans sA;have e3A:=sA _ _ (s9 _ _ (s8 _ _ (s37 _ _ e3)));have e2A:=sA _ _ (s9 _ _ (s8 _ _ (s37 _ _ (s3 _ _ e2))));have hpA:=(hprog.mono s9).mono sA;clear hprog hroot s9 e9 s8 e7 e6 e5 e4;walk_at "nx";refine⟨_,_,.inl (SqL.of e3A),rfl,by decide,fun q1 hq1=>?_⟩
 generalize hB1:upd HA q1 _=B1
 have t1:=aV hB1 hq1;have u1:=bB hB1;refine⟨by decide,fun q2 hq2=>?_⟩
 generalize hB2:upd B1 q2 _=B2
 have t2:=aV hB2 hq2;have u2:=bB hB2;refine⟨by decide,fun q3 hq3=>?_⟩
 generalize hB3:upd B2 q3 _=B3
 have t3:=aV hB3 hq3;have u3:=bB hB3;refine⟨by decide,fun q4 hq4=>?_⟩
 generalize hB4:upd B3 q4 _=B4
 have t4:=aV hB4 hq4;have u4:=bB hB4;have R4:RuleAt B4 q4 ⟨1,[x4],[[none]]⟩:=⟨q1,q3,[q2],u4,t4 _ _ (t3 _ _ (t2 _ _ u1)),nN (t4 _ _ u3) (t4 _ _ (t3 _ _ u2))⟩
 have sA4:=((t1.trans t2).trans t3).trans t4;clear t1 t2 t3 t4 u1 u2 u3 u4;clear hB1 hB2 hB3 hB4;walk_at "nx"
 obtain⟨n0,nms,rfl⟩ : ∃ n0 nms,nm=n0::nms:=by
  cases nm with
  | nil=>exact absurd hnm1.1 (by decide)
  | cons n0 nms=>exact⟨n0,nms,rfl⟩
 refine⟨_,_,.inl (SqL.of (sA4 _ _ e2A)),cZ,?_⟩
 refine⟨by decide,fun c1 hc1=>?_⟩
 generalize hC1:upd B4 c1 _=C1
 have t1:=aV hC1 hc1;have u1:=bB hC1;refine⟨by decide,fun c2 hc2=>?_⟩
 generalize hC2:upd C1 c2 _=C2
 have t2:=aV hC2 hc2;have u2:=bB hC2;refine⟨by decide,fun c3 hc3=>?_⟩
 generalize hC3:upd C2 c3 _=C3
 have t3:=aV hC3 hc3;have u3:=bB hC3;refine⟨by decide,fun c4 hc4=>?_⟩
 generalize hC4:upd C3 c4 _=C4
 have t4:=aV hC4 hc4;have u4:=bB hC4;refine⟨by decide,fun c5 hc5=>?_⟩
 generalize hC5:upd C4 c5 _=C5
 have t5:=aV hC5 hc5;have u5:=bB hC5;have sC5:=(((t1.trans t2).trans t3).trans t4).trans t5;clear t1 t2 t3 t4 t5 u1 u2 u3 u4 u5 hC1 hC2 hC3 hC4 hC5;have s45:=sA4.trans sC5;refine⟨_,_,.inl (SqL.of (s45 _ _ e3A)),rfl,?_⟩
 have lx0:x0.length≤8:=(fT (w3 x0 (by simp))).2
 walk_at "rd1";refine⟨bt (Nat.le_trans (Nat.add_le_add lx0 (show (Str.ofString "").length≤0 by decide)) (by decide)),?_⟩
 refine⟨by decide,fun d1 hd1=>?_⟩
 generalize hD1:upd C5 d1 _=D1
 have t1:=aV hD1 hd1;have u1:=bB hD1;refine⟨by decide,fun d2 hd2=>?_⟩
 generalize hD2:upd D1 d2 _=D2
 have t2:=aV hD2 hd2;have u2:=bB hD2;refine⟨by decide,fun d3 hd3=>?_⟩
 generalize hD3:upd D2 d3 _=D3
 have t3:=aV hD3 hd3;have u3:=bB hD3;refine⟨by decide,fun d4 hd4=>?_⟩
 generalize hD4:upd D3 d4 _=D4
 have t4:=aV hD4 hd4;have u4:=bB hD4;refine⟨by decide,fun d5 hd5=>?_⟩
 generalize hD5:upd D4 d5 _=D5
 have t5:=aV hD5 hd5;have u5:=bB hD5;refine⟨by decide,fun d6 hd6=>?_⟩
 generalize hD6:upd D5 d6 _=D6
 have t6:=aV hD6 hd6;have u6:=bB hD6;refine⟨by decide,fun d7 hd7=>?_⟩
 generalize hD7:upd D6 d7 _=D7
 have t7:=aV hD7 hd7;have u7:=bB hD7;have hd7A:=(s45.trans (((((t1.trans t2).trans t3).trans t4).trans t5).trans t6)).free hd7;have N2:NmAt D6 d6 (x0++Str.ofString "", ⟨2,[],[[],[]]⟩):=⟨d5,u6,d1,d4,[d2,d3],t6 _ _ u5,t6 _ _ (t5 _ _ (t4 _ _ (t3 _ _ (t2 _ _ u1)))),vZ (t6 _ _ (t5 _ _ u4)) (t6 _ _ (t5 _ _ (t4 _ _ (t3 _ _ u2)))) (t6 _ _ (t5 _ _ (t4 _ _ u3)))⟩
 have s67:=t7;have sD7:=(((((t1.trans t2).trans t3).trans t4).trans t5).trans t6).trans t7;have R7:=(R4.mono sC5).mono sD7;clear t1 t2 t3 t4 t5 t6 t7 u1 u2 u3 u4 u5 u6 hD1 hD2 hD3 hD4 hD5 hD6 hD7 R4;have sA7:=s45.trans sD7;have hU:∀ u,u∈[x0,x1,x2,x3,("open" : Str), "lend", "back", "end"]→u.length≤1000:=fun u hu=>Nat.le_trans (nm4.wf u hu).2 (by decide)
 refine vR (fun σ' H'=>∃ (o:Addr) (r:Rl),σ'=[some (.ref a),some (.ref p2),some (.ref p3),some (.int low),some (.ref root),some (.ref ip),some (.ref o),some (.ref d7),none,none,none,none]∧Same D7 H'∧RuleAt H' o r∧Gd (· ∈ [x0,x1,x2,x3,("open" : Str), "lend", "back", "end"]) r∧r.ws.length≤1∧r.rs.length=1) (fun kk hkk=>?_) ?_
 ·walk_at "rd1"
  refine⟨_,_,.inl (SqL.of (sA7 _ _ e3A)),rfl,by decide,fun g1 hg1=>?_⟩
  generalize hE1:upd D7 g1 _=E1
  have t1:=aV hE1 hg1;have u1:=bB hE1;refine⟨_,.inr (SqT.of u1),rfl,rfl,?_⟩
  rw[show [V.str (Str.ofString "open"),V.str (Str.ofString "lend"),V.str (Str.ofString "back"),V.str (Str.ofString "end")]=([("open" : Str), "lend", "back", "end"]:List Str).map V.str from rfl,Ap];refine bG (fun c=>?_) (fun c=>hkk _ _ ⟨q4,_,rfl,t1,R7.mono t1,KD hU x4 (Nat.le_trans (fT (w3 x4 (by simp))).2 (by decide)) (fun z=>?_),Nat.le_refl _,rfl⟩)
  ·refine⟨by decide,fun g2 hg2=>?_⟩
   generalize hE2:upd E1 g2 _=E2
   have t2:=aV hE2 hg2;have u2:=bB hE2;refine⟨by decide,fun g3 hg3=>?_⟩
   generalize hE3:upd E2 g3 _=E3
   have t3:=aV hE3 hg3;have u3:=bB hE3;refine⟨by decide,fun g4 hg4=>?_⟩
   generalize hE4:upd E3 g4 _=E4
   have t4:=aV hE4 hg4;have u4:=bB hE4;refine⟨by decide,fun g5 hg5=>?_⟩
   generalize hE5:upd E4 g5 _=E5
   have t5:=aV hE5 hg5;have u5:=bB hE5;exact hkk _ _ ⟨g5,⟨1,[],[[]]⟩,rfl,(((t1.trans t2).trans t3).trans t4).trans t5,⟨g2,g4,[g3],u5,t5 _ _ (t4 _ _ (t3 _ _ u2)),nN (t5 _ _ u4) (t5 _ _ (t4 _ _ u3))⟩,Lp hU,by decide,rfl⟩
  ·simp only[List.nodup_cons,List.mem_cons,List.not_mem_nil,or_false,not_or]at nd3
   simp only[List.mem_cons,List.not_mem_nil,or_false,decide_eq_true_eq,not_or]at z c
   obtain⟨⟨_,_,_,n04⟩,⟨_,_,n14⟩,⟨_,n24⟩,n34,_⟩:=nd3
   rcases z with z | z | z | z | z | z | z | z
   ·exact n04 z.symm
   ·exact n14 z.symm
   ·exact n24 z.symm
   ·exact n34 z.symm
   ·exact c.1 z
   ·exact c.2.1 z
   ·exact c.2.2.1 z
   ·exact c.2.2.2 z
 rintro σ' HB ⟨o,r,rfl,sB,hR,hG,hw1,hr1⟩
 have sAB:=sA7.trans sB;refine vR (fun σ' H'=>∃ (rp:Addr) (bs:List Addr) (ys:List (Str × Rl)),σ'=[some (.ref a),some (.ref p2),some (.ref p3),some (.int low),some (.ref root),some (.ref ip),some (.ref o),some (.ref rp),none,none,none,none]∧Same HA H'∧H' rp=some (.lst (bs.map V.ref))∧Paired (NmAt H') bs ys∧ys.length≤2∧∀ y∈ys,Gd (· ∈ [x0,x1,x2,x3,("open" : Str), "lend", "back", "end"]) y.2) (fun kk hkk=>?_) ?_
 ·walk_at "rd1"
  refine⟨_,_,.inl (SqL.of (sAB _ _ e2A)),cZ,_,_,.inl (SqL.of (sAB _ _ e3A)),rfl,?_⟩
  walk_at "rd1";refine bG (fun c=>?_) (fun c=>?_)
  ·refine⟨_,_,.inl (SqL.of (sAB _ _ e2A)),cZ,by decide,fun g1 hg1=>?_⟩
   generalize hE1:upd HB g1 _=E1
   have t1:=aV hE1 hg1;have u1:=bB hE1;refine⟨by decide,fun g2 hg2=>?_⟩
   generalize hE2:upd E1 g2 _=E2
   have t2:=aV hE2 hg2;have u2:=bB hE2;have t12:=t1.trans t2;exact hkk _ _ ⟨g2,[g1],[(n0,r)],rfl,sAB.trans t12,u2,.cons ⟨o,t2 _ _ u1,hR.mono t12⟩ .nil,by show 1≤2; decide,fun y hy=>by rw[List.mem_singleton.mp hy]; exact hG⟩
  ·refine⟨_,_,.inl (SqL.of (sAB _ _ e2A)),cZ,by decide,fun g1 hg1=>?_⟩
   generalize hE1:upd HB g1 _=E1
   have t1:=aV hE1 hg1;have u1:=bB hE1;have u7':=t1 _ _ (sB _ _ u7);refine⟨_,0,u7',rfl,hkk _ _ ⟨d7,[g1,d6],[(n0,r),_],rfl,(sAB.trans t1).upd hd7A _,ae,.cons ⟨o,?_,zf (hR.mono t1) u7' hw1 hr1 hG.1 _⟩ (.cons (N2.mono ((s67.trans (sB.trans t1)).upd hd7 _)) .nil),by show 2≤2; decide,fun y hy=>?_⟩⟩
   ·rw[am (bv u1 u7' (fun z=>nomatch z))]
    exact u1
   ·simp only[List.mem_cons,List.not_mem_nil,or_false]at hy
    rcases hy with rfl | rfl
    ·exact hG
    ·exact Lq hU
 rintro σ' HC ⟨rp,bs,ys,rfl,sC,erp,hbs,hyl,hys⟩
 walk_at "rd1";walk_at "nx";have TO:=BI (U:=(· ∈ [x0,x1,x2,x3,("open" : Str), "lend", "back", "end"])) hgd (by omega) (fun x hx=>hx) (by simp) (by simp)
 have hok:∀ e∈(mr xs 10 T).log,iU e:=Bf xs 10 T
 generalize fe ((cD 10 T).flatMap b_)=NM at TO;have hpC:=hpA.mono sC;have eipC:=sC _ _ eip;refine⟨root,_,_,rfl,TO.cin hpC,fun cq G1 v1 hcq hC=>?_⟩
 refine⟨root,_,_,rfl,TO.cin (hpC.mono v1),fun tq G2 v2 htq hT=>?_⟩
 refine⟨by decide,fun lp hlp=>?_⟩
 have v3:=ak hlp (.lst [.ref cq,.ref tq]);have elp:upd G2 lp (.lst [.ref cq,.ref tq]) lp=some (.lst [.ref cq,.ref tq]):=ae
 generalize upd G2 lp (.lst [.ref cq,.ref tq])=G3 at v3 elp ⊢;refine⟨⟨_,SqL.of elp⟩,?_⟩
 have hC3:=(hC.mono v2).mono v3;have hT3:=hT.mono v3;have vC3:=(v1.trans v2).trans v3;have eip3:=vC3 _ _ eipC;have erp3:=vC3 _ _ erp;have hbs3:Paired (NmAt G3) bs ys:=Paired.imp' (fun b x z=>z.mono vC3) hbs
 refine c6 (xs:=[.ref cq,.ref tq]) (fun i σ H'=>∃ (o8 o9 o10 o11:Option V),σ=[some (.ref a),some (.ref p2),some (.ref p3),some (.int low),some (.ref root),some (.ref ip),some (.ref o),some (.ref rp),o8,o9,o10,o11]∧Same G3 H') ⟨none,none,none,none,rfl,fun _ _ z=>z⟩ (fun i σ H' _ h=>by obtain⟨_,_,_,_,_,sm⟩:=h; exact SqL.of (sm _ _ elp)) ?_ ?_
 ·rintro i v σ G hv ⟨o8,o9,o10,o11,rfl,sm⟩
  obtain⟨cj,t,rfl,hj⟩ : ∃ cj t,v = .ref cj∧ListR G3 cj (di NM 10 t T):=by
   match i,hv with
   | 0,hv=>cases hv; exact⟨_,_,rfl,hC3⟩
   | 1,hv=>cases hv; exact⟨_,_,rfl,hT3⟩
  obtain⟨n,w,k1,k2,k3,k4⟩:=TO.go t xs (by omega)
  have hfl:=TO.flat t;have hwd:=TO.wrd t;generalize di NM 10 t T=R at hj k1 k2 hfl hwd;obtain⟨as,a1,b1⟩:=hj.mono sm
  have eipG:=sm _ _ eip3;have erpG:=sm _ _ erp3;have hbsG:Paired (NmAt G) bs ys:=Paired.imp' (fun b x z=>z.mono sm) hbs3
  have b1':∀ {G'},Same G G'→Paired (b5 G') as R:=fun z=>Paired.imp' (fun _ _ y=>z _ _ y) b1
  walk_at "rd1";refine⟨_,.inl (SqL.of a1),fun hp hhp=>?_⟩
  generalize hF1:upd G hp _=F1
  have f1:=aV hF1 hhp;have g1:F1 hp=some (.lst (as.map V.ref)):=bB hF1
  walk_at "nx";refine⟨_,.inl (SqL.of (f1 _ _ a1)),fun h2 hh2=>?_⟩
  generalize hF2:upd F1 h2 _=F2
  have f2:=aV hF2 hh2;have g2:F2 h2=some (.lst (as.map V.ref)):=bB hF2
  have f12:=f1.trans f2;refine⟨_,.inl (SqL.of (f12 _ _ eipG)),fun h3 hh3=>?_⟩
  generalize hF3:upd F2 h3 _=F3
  have f3:=aV hF3 hh3;have g3:F3 h3=some (.lst (xs.map V.int)):=bB hF3
  have f13:=f12.trans f3;refine⟨h2,h3,R,xs,w,n,_,rfl,⟨⟨as,f3 _ _ g2,b1' f13⟩,k1,k2,k3,SqL.of g3,by omega⟩,fun du F4 es4 f4 l4 m4=>?_⟩
  rw[k4]at m4
  have L4:LogAt F4 du es4 (mr xs 10 T).log:=⟨l4,m4⟩
  have f14:=f13.trans f4;walk_at "nx";refine⟨_,.inl (SqL.of (f14 _ _ eipG)),fun gp hgp=>?_⟩
  generalize hF5:upd F4 gp _=F5
  have f5:=aV hF5 hgp;have g5:F5 gp=some (.lst (xs.map V.int)):=bB hF5
  have f15:=f14.trans f5;have f25:=((f2.trans f3).trans f4).trans f5;walk_at "nx";have RI:∀ {G'},Same F5 G'→sR K G' hp gp R xs w n (ai 10 T):=fun z=>⟨⟨as,z _ _ (f25 _ _ g1),b1' (f15.trans z)⟩,k1,k2,k3,SqL.of (z _ _ g5),by omega⟩
  refine⟨by decide,fun e0 he0=>?_⟩
  generalize hF6:upd F5 e0 _=F6
  have f6:=aV hF6 he0;have g6:=bB hF6;have L5:=L4.mono f5
  have RW:∀ {G':Hp} {rq:Addr} {bs':List Addr} {ys':List (Str × Rl)} {Q':VK},Same F5 G'→G' rq=some (.lst (bs'.map V.ref))→Paired (NmAt G') bs' ys'→ys'.length≤2→(∀ y∈ys',Gd (· ∈ [x0,x1,x2,x3,("open" : Str), "lend", "back", "end"]) y.2)→(∀ H',Same G' H'→Q' (.bl true) H')→oR K [.ref hp,.ref rq,.ref gp] G' (fun x H1=>kQ [x,.ref du] H1 Q' E0) E0:=fun {G' rq bs' ys' Q'} z1 z2 z3 z4 z5 z6=>
   ⟨hp,rq,gp,bs',ys',(· ∈ [x0,x1,x2,x3,("open" : Str), "lend", "back", "end"]),R,xs,w,n,_,rfl,RI z1,z2,z3,z4,z5,⟨by simp,by simp⟩,hwd,fun fq G'' es5 z7 l5 m5=>⟨fq,du,es5,es4,_,rfl,⟨l5,by rw[k4]at m5; exact m5⟩,(L5.mono z1).mono z7,hok,fun H' z8=>z6 H' (z7.trans z8)⟩⟩
  refine RW (bs':=[]) (ys':=[]) f6 g6 .nil (by decide) (fun _ z=>nomatch z) fun F7 f7=>⟨_,rfl,?_⟩
  rw[if_neg (by decide)]
  walk_at "nx";have f57:=f6.trans f7;have f17:=f15.trans f57;refine RW f57 (f17 _ _ erpG) (Paired.imp' (fun b x z=>z.mono f17) hbsG) hyl hys fun F8 f8=>⟨_,rfl,?_⟩
  rw[if_neg (by decide)]
  walk_at "nx";have f58:=f57.trans f8;have f18:=f15.trans f58;refine⟨1,true,by decide,BC (f58 _ _ (f25 _ _ g1)) (f18 _ _ a1) (b1' f18) hfl,?_⟩
  rw[if_neg (by decide)]
  refine⟨0,true,by decide,by have:=EqN.ints (n:=0) (SqL.of (K:=K) (f58 _ _ g5)) (SqL.of (f18 _ _ eipG)); simpa using this,?_⟩
  rw[if_neg (by decide)]
  refine RW f58 (f18 _ _ erpG) (Paired.imp' (fun b x z=>z.mono f18) hbsG) hyl hys fun F9 f9=>⟨_,rfl,?_⟩
  rw[if_neg (by decide)]
  exact⟨_,_,_,_,rfl,sm.trans (f18.trans f9)⟩
 ·rintro σ H' ⟨_,_,_,_,rfl,sm⟩
  walk_at "nx";exact q H'
end
theorem zv{K:PySem.W.Frag}{a0 a1 a2 a3 a4 a5 a6 a7:Addr}(q0:∀ H:Hp,SqT K H a0 [.str "name"]) (q1:∀ H:Hp,SqT K H a1 [.str "word", .str "name"]) (q2:∀ H:Hp,SqT K H a2 [.str "name", .str "name"]) (q3:∀ H:Hp,SqT K H a3 [.str "name"]) (q4:∀ H:Hp,SqT K H a4 [.str "name", .str "name"]) (q5:∀ H:Hp,SqT K H a5 [.str "name", .str "name", .str "steps"]) (q6:∀ H:Hp,SqT K H a6 [.str "bound", .str "steps", .str "steps"]) (q7:∀ H:Hp,SqT K H a7 [.str "bound", .str "steps"]) :
  ∀ kind ks,(kind,ks)∈dW→∃ a,aN [(("open" : Str),V.ref a0),(("do" : Str),V.ref a1),(("copy" : Str),V.ref a2),(("drop" : Str),V.ref a3),(("tie" : Str),V.ref a4),(("lend" : Str),V.ref a5),(("if" : Str),V.ref a6),(("while" : Str),V.ref a7)] kind=some (.ref a)∧∀ H:Hp,SqT K H a (ks.map V.str):=by
 intro kind ks h
 simp only[dW,List.mem_cons,Prod.mk.injEq,List.mem_nil_iff,or_false]at h
 rcases h with ⟨rfl,rfl⟩ | ⟨rfl,rfl⟩ | ⟨rfl,rfl⟩ | ⟨rfl,rfl⟩ | ⟨rfl,rfl⟩ | ⟨rfl,rfl⟩ | ⟨rfl,rfl⟩ | ⟨rfl,rfl⟩
 ·exact⟨a0,rfl,q0⟩
 ·exact⟨a1,rfl,q1⟩
 ·exact⟨a2,rfl,q2⟩
 ·exact⟨a3,rfl,q3⟩
 ·exact⟨a4,rfl,q4⟩
 ·exact⟨a5,rfl,q5⟩
 ·exact⟨a6,rfl,q6⟩
 ·exact⟨a7,rfl,q7⟩
def cI(K:PySem.W.Frag)(x:Str)(st:Stmt):Prop:=∃ (f:Addr) (od an:Option Addr) (sl:Array (Option Value)) (oc kV dc pm cd ct:Value),PySem.W.nsIn K mainGlobals x=some (some (.ref f))∧K.lookup f=some ⟨oc,od,.func (PySem.W.fnOf x x (defArgs st) (defBody st) (defScope st) .none kV dc pm an cd ct),sl⟩∧PySem.W.codeIn K cd x=true∧PySem.W.keepIn K (.ref f)=true
theorem dfe_mk{K:PySem.W.Frag}{x:Str}{st:Stmt}{f:Addr}{od an:Option Addr}{sl:Array (Option Value)}{oc kV dc pm cd ct:Value}(a:PySem.W.nsIn K mainGlobals x=some (some (.ref f)))(l:K.lookup f=some ⟨oc,od,.func (PySem.W.fnOf x x (defArgs st) (defBody st) (defScope st) .none kV dc pm an cd ct),sl⟩)(c:PySem.W.codeIn K cd x=true)(k:PySem.W.keepIn K (.ref f)=true):cI K x st:=⟨f,od,an,sl,oc,kV,dc,pm,cd,ct,a,l,c,k⟩
theorem bf{K:PySem.W.Frag}{h:Heap}{mg:Str→Option Value}{x:Str}{st:Stmt}(X:K.In h)(G:h.Ns mainGlobals mg)(e:cI K x st):DefAt K mg x st:=by
 obtain⟨f,od,an,sl,oc,kV,dc,pm,cd,ct,a,l,c,k⟩:=e
 exact⟨f,_,cR (st:=st) l c k,PySem.W.mg_of X G a⟩
theorem all_mk{l:PySem.W.OpenLaw}{w:World}{K:PySem.W.Frag}{h:Heap}{mg:Str→Option Value}{fa:Addr}(X:K.In h)(G:h.Ns mainGlobals mg)(hfa:mg "law" = some (.ref fa))
  {C_Watch:Addr} {fWatch___init__:Addr} {odWatch___init__ anWatch___init__:Option Addr} {slWatch___init__:Array (Option Value)} {ocWatch___init__ kVWatch___init__ dcWatch___init__ pmWatch___init__ cdWatch___init__ ctWatch___init__:Value} {fWatch_mark_at:Addr} {odWatch_mark_at anWatch_mark_at:Option Addr} {slWatch_mark_at:Array (Option Value)} {ocWatch_mark_at kVWatch_mark_at dcWatch_mark_at pmWatch_mark_at cdWatch_mark_at ctWatch_mark_at:Value} {fWatch_begin_tie:Addr} {odWatch_begin_tie anWatch_begin_tie:Option Addr} {slWatch_begin_tie:Array (Option Value)} {ocWatch_begin_tie kVWatch_begin_tie dcWatch_begin_tie pmWatch_begin_tie cdWatch_begin_tie ctWatch_begin_tie:Value} {fWatch_rows_with:Addr} {odWatch_rows_with anWatch_rows_with:Option Addr} {slWatch_rows_with:Array (Option Value)} {ocWatch_rows_with kVWatch_rows_with dcWatch_rows_with pmWatch_rows_with cdWatch_rows_with ctWatch_rows_with:Value} {fWatch_broken_by:Addr} {odWatch_broken_by anWatch_broken_by:Option Addr} {slWatch_broken_by:Array (Option Value)} {ocWatch_broken_by kVWatch_broken_by dcWatch_broken_by pmWatch_broken_by cdWatch_broken_by ctWatch_broken_by:Value} {fWatch_go_on:Addr} {odWatch_go_on anWatch_go_on:Option Addr} {slWatch_go_on:Array (Option Value)} {ocWatch_go_on kVWatch_go_on dcWatch_go_on pmWatch_go_on cdWatch_go_on ctWatch_go_on:Value} {C_Run:Addr} {fRun___init__:Addr} {odRun___init__ anRun___init__:Option Addr} {slRun___init__:Array (Option Value)} {ocRun___init__ kVRun___init__ dcRun___init__ pmRun___init__ cdRun___init__ ctRun___init__:Value} {fRun_come_to:Addr} {odRun_come_to anRun_come_to:Option Addr} {slRun_come_to:Array (Option Value)} {ocRun_come_to kVRun_come_to dcRun_come_to pmRun_come_to cdRun_come_to ctRun_come_to:Value} {fRun_takes_more:Addr} {odRun_takes_more anRun_takes_more:Option Addr} {slRun_takes_more:Array (Option Value)} {ocRun_takes_more kVRun_takes_more dcRun_takes_more pmRun_takes_more cdRun_takes_more ctRun_takes_more:Value} {fRun_handle_of:Addr} {odRun_handle_of anRun_handle_of:Option Addr} {slRun_handle_of:Array (Option Value)} {ocRun_handle_of kVRun_handle_of dcRun_handle_of pmRun_handle_of cdRun_handle_of ctRun_handle_of:Value} {fRun_hold:Addr} {odRun_hold anRun_hold:Option Addr} {slRun_hold:Array (Option Value)} {ocRun_hold kVRun_hold dcRun_hold pmRun_hold cdRun_hold ctRun_hold:Value} {fRun_deed:Addr} {odRun_deed anRun_deed:Option Addr} {slRun_deed:Array (Option Value)} {ocRun_deed kVRun_deed dcRun_deed pmRun_deed cdRun_deed ctRun_deed:Value} {fRun_new_handle:Addr} {odRun_new_handle anRun_new_handle:Option Addr} {slRun_new_handle:Array (Option Value)} {ocRun_new_handle kVRun_new_handle dcRun_new_handle pmRun_new_handle cdRun_new_handle ctRun_new_handle:Value} {fRun_tie:Addr} {odRun_tie anRun_tie:Option Addr} {slRun_tie:Array (Option Value)} {ocRun_tie kVRun_tie dcRun_tie pmRun_tie cdRun_tie ctRun_tie:Value} {fRun_end_all:Addr} {odRun_end_all anRun_end_all:Option Addr} {slRun_end_all:Array (Option Value)} {ocRun_end_all kVRun_end_all dcRun_end_all pmRun_end_all cdRun_end_all ctRun_end_all:Value} {C_NumberedStep:Addr} {fNumberedStep___init__:Addr} {odNumberedStep___init__ anNumberedStep___init__:Option Addr} {slNumberedStep___init__:Array (Option Value)} {ocNumberedStep___init__ kVNumberedStep___init__ dcNumberedStep___init__ pmNumberedStep___init__ cdNumberedStep___init__ ctNumberedStep___init__:Value} {d_PARTS:Addr} {n_PARTS:Nat} {k_PARTS_0:Tok} {a_PARTS_0:Addr} {od_PARTS_0:Option Addr} {m_PARTS_0:Nat} {sl_PARTS_0:Array (Option Value)} {k_PARTS_0_0:Tok} {k_PARTS_1:Tok} {a_PARTS_1:Addr} {od_PARTS_1:Option Addr} {m_PARTS_1:Nat} {sl_PARTS_1:Array (Option Value)} {k_PARTS_1_0:Tok} {k_PARTS_1_1:Tok} {k_PARTS_2:Tok} {a_PARTS_2:Addr} {od_PARTS_2:Option Addr} {m_PARTS_2:Nat} {sl_PARTS_2:Array (Option Value)} {k_PARTS_2_0:Tok} {k_PARTS_2_1:Tok} {k_PARTS_3:Tok} {a_PARTS_3:Addr} {od_PARTS_3:Option Addr} {m_PARTS_3:Nat} {sl_PARTS_3:Array (Option Value)} {k_PARTS_3_0:Tok} {k_PARTS_4:Tok} {a_PARTS_4:Addr} {od_PARTS_4:Option Addr} {m_PARTS_4:Nat} {sl_PARTS_4:Array (Option Value)} {k_PARTS_4_0:Tok} {k_PARTS_4_1:Tok} {k_PARTS_5:Tok} {a_PARTS_5:Addr} {od_PARTS_5:Option Addr} {m_PARTS_5:Nat} {sl_PARTS_5:Array (Option Value)} {k_PARTS_5_0:Tok} {k_PARTS_5_1:Tok} {k_PARTS_5_2:Tok} {k_PARTS_6:Tok} {a_PARTS_6:Addr} {od_PARTS_6:Option Addr} {m_PARTS_6:Nat} {sl_PARTS_6:Array (Option Value)} {k_PARTS_6_0:Tok} {k_PARTS_6_1:Tok} {k_PARTS_6_2:Tok} {k_PARTS_7:Tok} {a_PARTS_7:Addr} {od_PARTS_7:Option Addr} {m_PARTS_7:Nat} {sl_PARTS_7:Array (Option Value)} {k_PARTS_7_0:Tok} {k_PARTS_7_1:Tok} {d_CLOSERS:Addr} {n_CLOSERS:Nat} {k_CLOSERS_0:Tok} {a_CLOSERS_0:Addr} {od_CLOSERS_0:Option Addr} {m_CLOSERS_0:Nat} {sl_CLOSERS_0:Array (Option Value)} {k_CLOSERS_0_0:Tok} {k_CLOSERS_1:Tok} {a_CLOSERS_1:Addr} {od_CLOSERS_1:Option Addr} {m_CLOSERS_1:Nat} {sl_CLOSERS_1:Array (Option Value)} {k_CLOSERS_1_0:Tok} {k_CLOSERS_1_1:Tok} {k_CLOSERS_2:Tok} {a_CLOSERS_2:Addr} {od_CLOSERS_2:Option Addr} {m_CLOSERS_2:Nat} {sl_CLOSERS_2:Array (Option Value)} {k_CLOSERS_2_0:Tok}
  (a0:cI K "sided_text" eR)
  (a1:cI K "watch_of" bM)
  (a2:cI K "watches_of" bZ)
  (a3:cI K "all_begin_tie" ck)
  (a4:cI K "broken_or_gone_on" bb)
  (a5:cI K "do_row" fF)
  (a6:cI K "row_behind" dD)
  (a7:cI K "log_of" f_)
  (a8:cI K "run_code" dN)
  (a9:cI K "run_watched" cH)
  (a10:cI K "closers_of" eT)
  (a11:cI K "head_of" fI)
  (a12:cI K "blocks_of" d0)
  (a13:cI K "steps_within" bO)
  (a14:cI K "names_in" b9)
  (a15:cI K "lines_of" bo)
  (a16:cI K "names_of" eY)
  (a17:cI K "line_behind" dn)
  (a18:cI K "numbered_step" aS)
  (a19:cI K "numbered_steps" bK)
  (a20:cI K "lend_lines" bW)
  (a21:cI K "slots_of" cz)
  (a22:cI K "simple_row" bP)
  (a23:cI K "lend_rows" aZ)
  (a24:cI K "if_rows" bN)
  (a25:cI K "loop_rows" cg)
  (a26:cI K "while_rows" bw)
  (a27:cI K "rows_of" bT)
  (a28:cI K "rows_and_end" b4)
  (a29:cI K "code_of" gA)
  (a30:cI K "turned_code" dX)
  (a31:cI K "_law_cell_at" dm)
  (a32:cI K "_law_mixed" dA)
  (a33:cI K "_law_words" a_)
  (a34:cI K "_law_step" cG)
  (a35:cI K "_law_shut" cT)
  (a36:cI K "_law_program" aH)
  (a37:cI K "_law_input" fu)
  (a38:cI K "_law_is_log" bQ)
  (a39:cI K "law" bm)
  (y_isinstance:PySem.W.nsIn K mainGlobals "isinstance" = some none)
  (y_str:PySem.W.nsIn K mainGlobals "str" = some none)
  (y_int:PySem.W.nsIn K mainGlobals "int" = some none)
  (y_tuple:PySem.W.nsIn K mainGlobals "tuple" = some none)
  (y_len:PySem.W.nsIn K mainGlobals "len" = some none)
  (y_range:PySem.W.nsIn K mainGlobals "range" = some none)
  (y_list:PySem.W.nsIn K mainGlobals "list" = some none)
  (y_zip:PySem.W.nsIn K mainGlobals "zip" = some none)
  (y_enumerate:PySem.W.nsIn K mainGlobals "enumerate" = some none)
  (n_Watch:PySem.W.nsIn K mainGlobals "Watch" = some (some (.ref C_Watch))) (pg_Watch:PySem.W.plainGet K C_Watch Str.empty=true) (hd_Watch:PySem.W.hasDictIn K C_Watch=true) (po_Watch:PySem.W.plainOver K C_Watch=true) (sa_Watch:PySem.W.findIn K (.ref C_Watch) "__setattr__" = some (some (.builtin "object.__setattr__"))) (mk_Watch:PySem.W.makesIn K C_Watch=true) (kc_Watch:PySem.W.keepIn K (.ref C_Watch)=true)
  (nf_sides:PySem.W.findIn K (.ref C_Watch) "sides" = some none)
  (nf_column:PySem.W.findIn K (.ref C_Watch) "column" = some none)
  (nf_ways:PySem.W.findIn K (.ref C_Watch) "ways" = some none)
  (nf_blames:PySem.W.findIn K (.ref C_Watch) "blames" = some none)
  (nf_starts:PySem.W.findIn K (.ref C_Watch) "starts" = some none)
  (nf_ties:PySem.W.findIn K (.ref C_Watch) "ties" = some none)
  (aWatch___init__:PySem.W.findIn K (.ref C_Watch) "__init__" = some (some (.ref fWatch___init__))) (iWatch___init__:PySem.W.isFn K (.ref fWatch___init__)=true) (lWatch___init__:K.lookup fWatch___init__=some ⟨ocWatch___init__,odWatch___init__,.func (PySem.W.fnOf "__init__" "Watch.__init__" (defArgs aB) (defBody aB) (defScope aB) .none kVWatch___init__ dcWatch___init__ pmWatch___init__ anWatch___init__ cdWatch___init__ ctWatch___init__),slWatch___init__⟩) (cWatch___init__:PySem.W.codeIn K cdWatch___init__ "Watch.__init__" = true) (kWatch___init__:PySem.W.keepIn K (.ref fWatch___init__)=true)
  (aWatch_mark_at:PySem.W.findIn K (.ref C_Watch) "mark_at" = some (some (.ref fWatch_mark_at))) (iWatch_mark_at:PySem.W.isFn K (.ref fWatch_mark_at)=true) (lWatch_mark_at:K.lookup fWatch_mark_at=some ⟨ocWatch_mark_at,odWatch_mark_at,.func (PySem.W.fnOf "mark_at" "Watch.mark_at" (defArgs cm) (defBody cm) (defScope cm) .none kVWatch_mark_at dcWatch_mark_at pmWatch_mark_at anWatch_mark_at cdWatch_mark_at ctWatch_mark_at),slWatch_mark_at⟩) (cWatch_mark_at:PySem.W.codeIn K cdWatch_mark_at "Watch.mark_at" = true) (kWatch_mark_at:PySem.W.keepIn K (.ref fWatch_mark_at)=true)
  (aWatch_begin_tie:PySem.W.findIn K (.ref C_Watch) "begin_tie" = some (some (.ref fWatch_begin_tie))) (iWatch_begin_tie:PySem.W.isFn K (.ref fWatch_begin_tie)=true) (lWatch_begin_tie:K.lookup fWatch_begin_tie=some ⟨ocWatch_begin_tie,odWatch_begin_tie,.func (PySem.W.fnOf "begin_tie" "Watch.begin_tie" (defArgs bh) (defBody bh) (defScope bh) .none kVWatch_begin_tie dcWatch_begin_tie pmWatch_begin_tie anWatch_begin_tie cdWatch_begin_tie ctWatch_begin_tie),slWatch_begin_tie⟩) (cWatch_begin_tie:PySem.W.codeIn K cdWatch_begin_tie "Watch.begin_tie" = true) (kWatch_begin_tie:PySem.W.keepIn K (.ref fWatch_begin_tie)=true)
  (aWatch_rows_with:PySem.W.findIn K (.ref C_Watch) "rows_with" = some (some (.ref fWatch_rows_with))) (iWatch_rows_with:PySem.W.isFn K (.ref fWatch_rows_with)=true) (lWatch_rows_with:K.lookup fWatch_rows_with=some ⟨ocWatch_rows_with,odWatch_rows_with,.func (PySem.W.fnOf "rows_with" "Watch.rows_with" (defArgs aU) (defBody aU) (defScope aU) .none kVWatch_rows_with dcWatch_rows_with pmWatch_rows_with anWatch_rows_with cdWatch_rows_with ctWatch_rows_with),slWatch_rows_with⟩) (cWatch_rows_with:PySem.W.codeIn K cdWatch_rows_with "Watch.rows_with" = true) (kWatch_rows_with:PySem.W.keepIn K (.ref fWatch_rows_with)=true)
  (aWatch_broken_by:PySem.W.findIn K (.ref C_Watch) "broken_by" = some (some (.ref fWatch_broken_by))) (iWatch_broken_by:PySem.W.isFn K (.ref fWatch_broken_by)=true) (lWatch_broken_by:K.lookup fWatch_broken_by=some ⟨ocWatch_broken_by,odWatch_broken_by,.func (PySem.W.fnOf "broken_by" "Watch.broken_by" (defArgs bu) (defBody bu) (defScope bu) .none kVWatch_broken_by dcWatch_broken_by pmWatch_broken_by anWatch_broken_by cdWatch_broken_by ctWatch_broken_by),slWatch_broken_by⟩) (cWatch_broken_by:PySem.W.codeIn K cdWatch_broken_by "Watch.broken_by" = true) (kWatch_broken_by:PySem.W.keepIn K (.ref fWatch_broken_by)=true)
  (aWatch_go_on:PySem.W.findIn K (.ref C_Watch) "go_on" = some (some (.ref fWatch_go_on))) (iWatch_go_on:PySem.W.isFn K (.ref fWatch_go_on)=true) (lWatch_go_on:K.lookup fWatch_go_on=some ⟨ocWatch_go_on,odWatch_go_on,.func (PySem.W.fnOf "go_on" "Watch.go_on" (defArgs cx) (defBody cx) (defScope cx) .none kVWatch_go_on dcWatch_go_on pmWatch_go_on anWatch_go_on cdWatch_go_on ctWatch_go_on),slWatch_go_on⟩) (cWatch_go_on:PySem.W.codeIn K cdWatch_go_on "Watch.go_on" = true) (kWatch_go_on:PySem.W.keepIn K (.ref fWatch_go_on)=true)
  (n_Run:PySem.W.nsIn K mainGlobals "Run" = some (some (.ref C_Run))) (pg_Run:PySem.W.plainGet K C_Run Str.empty=true) (hd_Run:PySem.W.hasDictIn K C_Run=true) (po_Run:PySem.W.plainOver K C_Run=true) (sa_Run:PySem.W.findIn K (.ref C_Run) "__setattr__" = some (some (.builtin "object.__setattr__"))) (mk_Run:PySem.W.makesIn K C_Run=true) (kc_Run:PySem.W.keepIn K (.ref C_Run)=true)
  (nf_inputs:PySem.W.findIn K (.ref C_Run) "inputs" = some none)
  (nf_watches:PySem.W.findIn K (.ref C_Run) "watches" = some none)
  (nf_at:PySem.W.findIn K (.ref C_Run) "at" = some none)
  (nf_taken:PySem.W.findIn K (.ref C_Run) "taken" = some none)
  (nf_last:PySem.W.findIn K (.ref C_Run) "last" = some none)
  (nf_opened:PySem.W.findIn K (.ref C_Run) "opened" = some none)
  (nf_held:PySem.W.findIn K (.ref C_Run) "held" = some none)
  (nf_log:PySem.W.findIn K (.ref C_Run) "log" = some none)
  (aRun___init__:PySem.W.findIn K (.ref C_Run) "__init__" = some (some (.ref fRun___init__))) (iRun___init__:PySem.W.isFn K (.ref fRun___init__)=true) (lRun___init__:K.lookup fRun___init__=some ⟨ocRun___init__,odRun___init__,.func (PySem.W.fnOf "__init__" "Run.__init__" (defArgs ci) (defBody ci) (defScope ci) .none kVRun___init__ dcRun___init__ pmRun___init__ anRun___init__ cdRun___init__ ctRun___init__),slRun___init__⟩) (cRun___init__:PySem.W.codeIn K cdRun___init__ "Run.__init__" = true) (kRun___init__:PySem.W.keepIn K (.ref fRun___init__)=true)
  (aRun_come_to:PySem.W.findIn K (.ref C_Run) "come_to" = some (some (.ref fRun_come_to))) (iRun_come_to:PySem.W.isFn K (.ref fRun_come_to)=true) (lRun_come_to:K.lookup fRun_come_to=some ⟨ocRun_come_to,odRun_come_to,.func (PySem.W.fnOf "come_to" "Run.come_to" (defArgs cF) (defBody cF) (defScope cF) .none kVRun_come_to dcRun_come_to pmRun_come_to anRun_come_to cdRun_come_to ctRun_come_to),slRun_come_to⟩) (cRun_come_to:PySem.W.codeIn K cdRun_come_to "Run.come_to" = true) (kRun_come_to:PySem.W.keepIn K (.ref fRun_come_to)=true)
  (aRun_takes_more:PySem.W.findIn K (.ref C_Run) "takes_more" = some (some (.ref fRun_takes_more))) (iRun_takes_more:PySem.W.isFn K (.ref fRun_takes_more)=true) (lRun_takes_more:K.lookup fRun_takes_more=some ⟨ocRun_takes_more,odRun_takes_more,.func (PySem.W.fnOf "takes_more" "Run.takes_more" (defArgs bR) (defBody bR) (defScope bR) .none kVRun_takes_more dcRun_takes_more pmRun_takes_more anRun_takes_more cdRun_takes_more ctRun_takes_more),slRun_takes_more⟩) (cRun_takes_more:PySem.W.codeIn K cdRun_takes_more "Run.takes_more" = true) (kRun_takes_more:PySem.W.keepIn K (.ref fRun_takes_more)=true)
  (aRun_handle_of:PySem.W.findIn K (.ref C_Run) "handle_of" = some (some (.ref fRun_handle_of))) (iRun_handle_of:PySem.W.isFn K (.ref fRun_handle_of)=true) (lRun_handle_of:K.lookup fRun_handle_of=some ⟨ocRun_handle_of,odRun_handle_of,.func (PySem.W.fnOf "handle_of" "Run.handle_of" (defArgs cr) (defBody cr) (defScope cr) .none kVRun_handle_of dcRun_handle_of pmRun_handle_of anRun_handle_of cdRun_handle_of ctRun_handle_of),slRun_handle_of⟩) (cRun_handle_of:PySem.W.codeIn K cdRun_handle_of "Run.handle_of" = true) (kRun_handle_of:PySem.W.keepIn K (.ref fRun_handle_of)=true)
  (aRun_hold:PySem.W.findIn K (.ref C_Run) "hold" = some (some (.ref fRun_hold))) (iRun_hold:PySem.W.isFn K (.ref fRun_hold)=true) (lRun_hold:K.lookup fRun_hold=some ⟨ocRun_hold,odRun_hold,.func (PySem.W.fnOf "hold" "Run.hold" (defArgs cY) (defBody cY) (defScope cY) .none kVRun_hold dcRun_hold pmRun_hold anRun_hold cdRun_hold ctRun_hold),slRun_hold⟩) (cRun_hold:PySem.W.codeIn K cdRun_hold "Run.hold" = true) (kRun_hold:PySem.W.keepIn K (.ref fRun_hold)=true)
  (aRun_deed:PySem.W.findIn K (.ref C_Run) "deed" = some (some (.ref fRun_deed))) (iRun_deed:PySem.W.isFn K (.ref fRun_deed)=true) (lRun_deed:K.lookup fRun_deed=some ⟨ocRun_deed,odRun_deed,.func (PySem.W.fnOf "deed" "Run.deed" (defArgs bU) (defBody bU) (defScope bU) .none kVRun_deed dcRun_deed pmRun_deed anRun_deed cdRun_deed ctRun_deed),slRun_deed⟩) (cRun_deed:PySem.W.codeIn K cdRun_deed "Run.deed" = true) (kRun_deed:PySem.W.keepIn K (.ref fRun_deed)=true)
  (aRun_new_handle:PySem.W.findIn K (.ref C_Run) "new_handle" = some (some (.ref fRun_new_handle))) (iRun_new_handle:PySem.W.isFn K (.ref fRun_new_handle)=true) (lRun_new_handle:K.lookup fRun_new_handle=some ⟨ocRun_new_handle,odRun_new_handle,.func (PySem.W.fnOf "new_handle" "Run.new_handle" (defArgs bA) (defBody bA) (defScope bA) .none kVRun_new_handle dcRun_new_handle pmRun_new_handle anRun_new_handle cdRun_new_handle ctRun_new_handle),slRun_new_handle⟩) (cRun_new_handle:PySem.W.codeIn K cdRun_new_handle "Run.new_handle" = true) (kRun_new_handle:PySem.W.keepIn K (.ref fRun_new_handle)=true)
  (aRun_tie:PySem.W.findIn K (.ref C_Run) "tie" = some (some (.ref fRun_tie))) (iRun_tie:PySem.W.isFn K (.ref fRun_tie)=true) (lRun_tie:K.lookup fRun_tie=some ⟨ocRun_tie,odRun_tie,.func (PySem.W.fnOf "tie" "Run.tie" (defArgs cK) (defBody cK) (defScope cK) .none kVRun_tie dcRun_tie pmRun_tie anRun_tie cdRun_tie ctRun_tie),slRun_tie⟩) (cRun_tie:PySem.W.codeIn K cdRun_tie "Run.tie" = true) (kRun_tie:PySem.W.keepIn K (.ref fRun_tie)=true)
  (aRun_end_all:PySem.W.findIn K (.ref C_Run) "end_all" = some (some (.ref fRun_end_all))) (iRun_end_all:PySem.W.isFn K (.ref fRun_end_all)=true) (lRun_end_all:K.lookup fRun_end_all=some ⟨ocRun_end_all,odRun_end_all,.func (PySem.W.fnOf "end_all" "Run.end_all" (defArgs bV) (defBody bV) (defScope bV) .none kVRun_end_all dcRun_end_all pmRun_end_all anRun_end_all cdRun_end_all ctRun_end_all),slRun_end_all⟩) (cRun_end_all:PySem.W.codeIn K cdRun_end_all "Run.end_all" = true) (kRun_end_all:PySem.W.keepIn K (.ref fRun_end_all)=true)
  (n_NumberedStep:PySem.W.nsIn K mainGlobals "NumberedStep" = some (some (.ref C_NumberedStep))) (pg_NumberedStep:PySem.W.plainGet K C_NumberedStep Str.empty=true) (hd_NumberedStep:PySem.W.hasDictIn K C_NumberedStep=true) (po_NumberedStep:PySem.W.plainOver K C_NumberedStep=true) (sa_NumberedStep:PySem.W.findIn K (.ref C_NumberedStep) "__setattr__" = some (some (.builtin "object.__setattr__"))) (mk_NumberedStep:PySem.W.makesIn K C_NumberedStep=true) (kc_NumberedStep:PySem.W.keepIn K (.ref C_NumberedStep)=true)
  (nf_kind:PySem.W.findIn K (.ref C_NumberedStep) "kind" = some none)
  (nf_parts:PySem.W.findIn K (.ref C_NumberedStep) "parts" = some none)
  (nf_lines:PySem.W.findIn K (.ref C_NumberedStep) "lines" = some none)
  (nf_blocks:PySem.W.findIn K (.ref C_NumberedStep) "blocks" = some none)
  (aNumberedStep___init__:PySem.W.findIn K (.ref C_NumberedStep) "__init__" = some (some (.ref fNumberedStep___init__))) (iNumberedStep___init__:PySem.W.isFn K (.ref fNumberedStep___init__)=true) (lNumberedStep___init__:K.lookup fNumberedStep___init__=some ⟨ocNumberedStep___init__,odNumberedStep___init__,.func (PySem.W.fnOf "__init__" "NumberedStep.__init__" (defArgs aY) (defBody aY) (defScope aY) .none kVNumberedStep___init__ dcNumberedStep___init__ pmNumberedStep___init__ anNumberedStep___init__ cdNumberedStep___init__ ctNumberedStep___init__),slNumberedStep___init__⟩) (cNumberedStep___init__:PySem.W.codeIn K cdNumberedStep___init__ "NumberedStep.__init__" = true) (kNumberedStep___init__:PySem.W.keepIn K (.ref fNumberedStep___init__)=true)
  (h_PARTS:PySem.W.nsIn K mainGlobals "PARTS" = some (some (.ref d_PARTS)))
  (ld_PARTS:K.lookup d_PARTS=some ⟨.type "dict", none,.dict #[⟨PyData.keyHash w.params "open", .str "open" k_PARTS_0,.ref a_PARTS_0⟩,⟨PyData.keyHash w.params "do", .str "do" k_PARTS_1,.ref a_PARTS_1⟩,⟨PyData.keyHash w.params "copy", .str "copy" k_PARTS_2,.ref a_PARTS_2⟩,⟨PyData.keyHash w.params "drop", .str "drop" k_PARTS_3,.ref a_PARTS_3⟩,⟨PyData.keyHash w.params "tie", .str "tie" k_PARTS_4,.ref a_PARTS_4⟩,⟨PyData.keyHash w.params "lend", .str "lend" k_PARTS_5,.ref a_PARTS_5⟩,⟨PyData.keyHash w.params "if", .str "if" k_PARTS_6,.ref a_PARTS_6⟩,⟨PyData.keyHash w.params "while", .str "while" k_PARTS_7,.ref a_PARTS_7⟩] n_PARTS,#[]⟩)
  (la_PARTS_0:K.lookup a_PARTS_0=some ⟨.type "tuple", od_PARTS_0,.seq #[.str "name" k_PARTS_0_0] m_PARTS_0,sl_PARTS_0⟩)
  (la_PARTS_1:K.lookup a_PARTS_1=some ⟨.type "tuple", od_PARTS_1,.seq #[.str "word" k_PARTS_1_0,.str "name" k_PARTS_1_1] m_PARTS_1,sl_PARTS_1⟩)
  (la_PARTS_2:K.lookup a_PARTS_2=some ⟨.type "tuple", od_PARTS_2,.seq #[.str "name" k_PARTS_2_0,.str "name" k_PARTS_2_1] m_PARTS_2,sl_PARTS_2⟩)
  (la_PARTS_3:K.lookup a_PARTS_3=some ⟨.type "tuple", od_PARTS_3,.seq #[.str "name" k_PARTS_3_0] m_PARTS_3,sl_PARTS_3⟩)
  (la_PARTS_4:K.lookup a_PARTS_4=some ⟨.type "tuple", od_PARTS_4,.seq #[.str "name" k_PARTS_4_0,.str "name" k_PARTS_4_1] m_PARTS_4,sl_PARTS_4⟩)
  (la_PARTS_5:K.lookup a_PARTS_5=some ⟨.type "tuple", od_PARTS_5,.seq #[.str "name" k_PARTS_5_0,.str "name" k_PARTS_5_1,.str "steps" k_PARTS_5_2] m_PARTS_5,sl_PARTS_5⟩)
  (la_PARTS_6:K.lookup a_PARTS_6=some ⟨.type "tuple", od_PARTS_6,.seq #[.str "bound" k_PARTS_6_0,.str "steps" k_PARTS_6_1,.str "steps" k_PARTS_6_2] m_PARTS_6,sl_PARTS_6⟩)
  (la_PARTS_7:K.lookup a_PARTS_7=some ⟨.type "tuple", od_PARTS_7,.seq #[.str "bound" k_PARTS_7_0,.str "steps" k_PARTS_7_1] m_PARTS_7,sl_PARTS_7⟩)
  (dz_PARTS:(d_PARTS == sysModules)=false)
  (h_CLOSERS:PySem.W.nsIn K mainGlobals "CLOSERS" = some (some (.ref d_CLOSERS)))
  (ld_CLOSERS:K.lookup d_CLOSERS=some ⟨.type "dict", none,.dict #[⟨PyData.keyHash w.params "lend", .str "lend" k_CLOSERS_0,.ref a_CLOSERS_0⟩,⟨PyData.keyHash w.params "if", .str "if" k_CLOSERS_1,.ref a_CLOSERS_1⟩,⟨PyData.keyHash w.params "while", .str "while" k_CLOSERS_2,.ref a_CLOSERS_2⟩] n_CLOSERS,#[]⟩)
  (la_CLOSERS_0:K.lookup a_CLOSERS_0=some ⟨.type "tuple", od_CLOSERS_0,.seq #[.str "back" k_CLOSERS_0_0] m_CLOSERS_0,sl_CLOSERS_0⟩)
  (la_CLOSERS_1:K.lookup a_CLOSERS_1=some ⟨.type "tuple", od_CLOSERS_1,.seq #[.str "else" k_CLOSERS_1_0,.str "fi" k_CLOSERS_1_1] m_CLOSERS_1,sl_CLOSERS_1⟩)
  (la_CLOSERS_2:K.lookup a_CLOSERS_2=some ⟨.type "tuple", od_CLOSERS_2,.seq #[.str "done" k_CLOSERS_2_0] m_CLOSERS_2,sl_CLOSERS_2⟩)
  (dz_CLOSERS:(d_CLOSERS == sysModules)=false) :
  ∃ fd:FuncData,(∀ (s:Shared) (v:Value),BindsTo s fd ⟨[v],[]⟩ [("_law_script", v)])∧∀ base:Heap,K.In base→base.Ns mainGlobals mg→FnOk l.prog w K mg base iB 36 fa fd ["_law_script"] (n9 K):=by
 obtain⟨f9,od9,an9,sl9,oc9,kV9,dc9,pm9,cd9,ct9,aa9,l9,c9,k9⟩:=a39
 have e:=hfa.symm.trans (PySem.W.mg_of X G aa9)
 cases e;have D_sided_text:=bf X G a0;have D_watch_of:=bf X G a1;have D_watches_of:=bf X G a2;have D_all_begin_tie:=bf X G a3;have D_broken_or_gone_on:=bf X G a4;have D_do_row:=bf X G a5;have D_row_behind:=bf X G a6;have D_log_of:=bf X G a7;have D_run_code:=bf X G a8;have D_run_watched:=bf X G a9;have D_closers_of:=bf X G a10;have D_head_of:=bf X G a11;have D_blocks_of:=bf X G a12;have D_steps_within:=bf X G a13;have D_names_in:=bf X G a14;have D_lines_of:=bf X G a15;have D_names_of:=bf X G a16;have D_line_behind:=bf X G a17;have D_numbered_step:=bf X G a18;have D_numbered_steps:=bf X G a19;have D_lend_lines:=bf X G a20;have D_slots_of:=bf X G a21;have D_simple_row:=bf X G a22;have D_lend_rows:=bf X G a23;have D_if_rows:=bf X G a24;have D_loop_rows:=bf X G a25;have D_while_rows:=bf X G a26;have D_rows_of:=bf X G a27;have D_rows_and_end:=bf X G a28;have D_code_of:=bf X G a29;have D_turned_code:=bf X G a30;have D_law_cell_at:=bf X G a31;have D_law_mixed:=bf X G a32;have D_law_words:=bf X G a33;have D_law_step:=bf X G a34;have D_law_shut:=bf X G a35;have D_law_program:=bf X G a36;have D_law_input:=bf X G a37;have D_law_is_log:=bf X G a38;have z_isinstance:mg "isinstance" = none:=PySem.W.mg_none_of X G y_isinstance
 have z_str:mg "str" = none:=PySem.W.mg_none_of X G y_str
 have z_int:mg "int" = none:=PySem.W.mg_none_of X G y_int
 have z_tuple:mg "tuple" = none:=PySem.W.mg_none_of X G y_tuple
 have z_len:mg "len" = none:=PySem.W.mg_none_of X G y_len
 have z_range:mg "range" = none:=PySem.W.mg_none_of X G y_range
 have z_list:mg "list" = none:=PySem.W.mg_none_of X G y_list
 have z_zip:mg "zip" = none:=PySem.W.mg_none_of X G y_zip
 have z_enumerate:mg "enumerate" = none:=PySem.W.mg_none_of X G y_enumerate
 have cl_Watch:Cls K C_Watch:=⟨pg_Watch,hd_Watch,po_Watch,sa_Watch⟩
 have a_sides:Fl K C_Watch "sides" := ⟨cl_Watch,nf_sides⟩
 have a_column:Fl K C_Watch "column" := ⟨cl_Watch,nf_column⟩
 have a_ways:Fl K C_Watch "ways" := ⟨cl_Watch,nf_ways⟩
 have a_blames:Fl K C_Watch "blames" := ⟨cl_Watch,nf_blames⟩
 have a_starts:Fl K C_Watch "starts" := ⟨cl_Watch,nf_starts⟩
 have a_ties:Fl K C_Watch "ties" := ⟨cl_Watch,nf_ties⟩
 have D_Watch:MakeAt K mg "Watch" C_Watch "Watch.__init__" aB:=⟨fWatch___init__,_,cR (st:=aB) lWatch___init__ cWatch___init__ kWatch___init__,⟨mk_Watch,aWatch___init__,iWatch___init__,kc_Watch⟩,PySem.W.mg_of X G n_Watch⟩
 have D_Watch_mark_at:MethAt K C_Watch "mark_at" "Watch.mark_at" cm:=⟨⟨fWatch_mark_at,_,cR (st:=cm) lWatch_mark_at cWatch_mark_at kWatch_mark_at,⟨aWatch_mark_at,iWatch_mark_at,kWatch_mark_at⟩⟩,cl_Watch⟩
 have D_Watch_begin_tie:MethAt K C_Watch "begin_tie" "Watch.begin_tie" bh:=⟨⟨fWatch_begin_tie,_,cR (st:=bh) lWatch_begin_tie cWatch_begin_tie kWatch_begin_tie,⟨aWatch_begin_tie,iWatch_begin_tie,kWatch_begin_tie⟩⟩,cl_Watch⟩
 have D_Watch_rows_with:MethAt K C_Watch "rows_with" "Watch.rows_with" aU:=⟨⟨fWatch_rows_with,_,cR (st:=aU) lWatch_rows_with cWatch_rows_with kWatch_rows_with,⟨aWatch_rows_with,iWatch_rows_with,kWatch_rows_with⟩⟩,cl_Watch⟩
 have D_Watch_broken_by:MethAt K C_Watch "broken_by" "Watch.broken_by" bu:=⟨⟨fWatch_broken_by,_,cR (st:=bu) lWatch_broken_by cWatch_broken_by kWatch_broken_by,⟨aWatch_broken_by,iWatch_broken_by,kWatch_broken_by⟩⟩,cl_Watch⟩
 have D_Watch_go_on:MethAt K C_Watch "go_on" "Watch.go_on" cx:=⟨⟨fWatch_go_on,_,cR (st:=cx) lWatch_go_on cWatch_go_on kWatch_go_on,⟨aWatch_go_on,iWatch_go_on,kWatch_go_on⟩⟩,cl_Watch⟩
 have cl_Run:Cls K C_Run:=⟨pg_Run,hd_Run,po_Run,sa_Run⟩
 have a_inputs:Fl K C_Run "inputs" := ⟨cl_Run,nf_inputs⟩
 have a_watches:Fl K C_Run "watches" := ⟨cl_Run,nf_watches⟩
 have a_at:Fl K C_Run "at" := ⟨cl_Run,nf_at⟩
 have a_taken:Fl K C_Run "taken" := ⟨cl_Run,nf_taken⟩
 have a_last:Fl K C_Run "last" := ⟨cl_Run,nf_last⟩
 have a_opened:Fl K C_Run "opened" := ⟨cl_Run,nf_opened⟩
 have a_held:Fl K C_Run "held" := ⟨cl_Run,nf_held⟩
 have a_log:Fl K C_Run "log" := ⟨cl_Run,nf_log⟩
 have D_Run:MakeAt K mg "Run" C_Run "Run.__init__" ci:=⟨fRun___init__,_,cR (st:=ci) lRun___init__ cRun___init__ kRun___init__,⟨mk_Run,aRun___init__,iRun___init__,kc_Run⟩,PySem.W.mg_of X G n_Run⟩
 have D_Run_come_to:MethAt K C_Run "come_to" "Run.come_to" cF:=⟨⟨fRun_come_to,_,cR (st:=cF) lRun_come_to cRun_come_to kRun_come_to,⟨aRun_come_to,iRun_come_to,kRun_come_to⟩⟩,cl_Run⟩
 have D_Run_takes_more:MethAt K C_Run "takes_more" "Run.takes_more" bR:=⟨⟨fRun_takes_more,_,cR (st:=bR) lRun_takes_more cRun_takes_more kRun_takes_more,⟨aRun_takes_more,iRun_takes_more,kRun_takes_more⟩⟩,cl_Run⟩
 have D_Run_handle_of:MethAt K C_Run "handle_of" "Run.handle_of" cr:=⟨⟨fRun_handle_of,_,cR (st:=cr) lRun_handle_of cRun_handle_of kRun_handle_of,⟨aRun_handle_of,iRun_handle_of,kRun_handle_of⟩⟩,cl_Run⟩
 have D_Run_hold:MethAt K C_Run "hold" "Run.hold" cY:=⟨⟨fRun_hold,_,cR (st:=cY) lRun_hold cRun_hold kRun_hold,⟨aRun_hold,iRun_hold,kRun_hold⟩⟩,cl_Run⟩
 have D_Run_deed:MethAt K C_Run "deed" "Run.deed" bU:=⟨⟨fRun_deed,_,cR (st:=bU) lRun_deed cRun_deed kRun_deed,⟨aRun_deed,iRun_deed,kRun_deed⟩⟩,cl_Run⟩
 have D_Run_new_handle:MethAt K C_Run "new_handle" "Run.new_handle" bA:=⟨⟨fRun_new_handle,_,cR (st:=bA) lRun_new_handle cRun_new_handle kRun_new_handle,⟨aRun_new_handle,iRun_new_handle,kRun_new_handle⟩⟩,cl_Run⟩
 have D_Run_tie:MethAt K C_Run "tie" "Run.tie" cK:=⟨⟨fRun_tie,_,cR (st:=cK) lRun_tie cRun_tie kRun_tie,⟨aRun_tie,iRun_tie,kRun_tie⟩⟩,cl_Run⟩
 have D_Run_end_all:MethAt K C_Run "end_all" "Run.end_all" bV:=⟨⟨fRun_end_all,_,cR (st:=bV) lRun_end_all cRun_end_all kRun_end_all,⟨aRun_end_all,iRun_end_all,kRun_end_all⟩⟩,cl_Run⟩
 have cl_NumberedStep:Cls K C_NumberedStep:=⟨pg_NumberedStep,hd_NumberedStep,po_NumberedStep,sa_NumberedStep⟩
 have a_kind:Fl K C_NumberedStep "kind" := ⟨cl_NumberedStep,nf_kind⟩
 have a_parts:Fl K C_NumberedStep "parts" := ⟨cl_NumberedStep,nf_parts⟩
 have a_lines:Fl K C_NumberedStep "lines" := ⟨cl_NumberedStep,nf_lines⟩
 have a_blocks:Fl K C_NumberedStep "blocks" := ⟨cl_NumberedStep,nf_blocks⟩
 have D_NumberedStep:MakeAt K mg "NumberedStep" C_NumberedStep "NumberedStep.__init__" aY:=⟨fNumberedStep___init__,_,cR (st:=aY) lNumberedStep___init__ cNumberedStep___init__ kNumberedStep___init__,⟨mk_NumberedStep,aNumberedStep___init__,iNumberedStep___init__,kc_NumberedStep⟩,PySem.W.mg_of X G n_NumberedStep⟩
 have g_PARTS:mg "PARTS" = some (.ref d_PARTS):=PySem.W.mg_of X G h_PARTS
 have m_PARTS:ModD w K d_PARTS [("open", .ref a_PARTS_0),("do", .ref a_PARTS_1),("copy", .ref a_PARTS_2),("drop", .ref a_PARTS_3),("tie", .ref a_PARTS_4),("lend", .ref a_PARTS_5),("if", .ref a_PARTS_6),("while", .ref a_PARTS_7)]:=⟨dz_PARTS,(show (["open", "do", "copy", "drop", "tie", "lend", "if", "while"]:List Str).Nodup from by decide),_,[⟨PyData.keyHash w.params "open", .str "open" k_PARTS_0,.ref a_PARTS_0⟩,⟨PyData.keyHash w.params "do", .str "do" k_PARTS_1,.ref a_PARTS_1⟩,⟨PyData.keyHash w.params "copy", .str "copy" k_PARTS_2,.ref a_PARTS_2⟩,⟨PyData.keyHash w.params "drop", .str "drop" k_PARTS_3,.ref a_PARTS_3⟩,⟨PyData.keyHash w.params "tie", .str "tie" k_PARTS_4,.ref a_PARTS_4⟩,⟨PyData.keyHash w.params "lend", .str "lend" k_PARTS_5,.ref a_PARTS_5⟩,⟨PyData.keyHash w.params "if", .str "if" k_PARTS_6,.ref a_PARTS_6⟩,⟨PyData.keyHash w.params "while", .str "while" k_PARTS_7,.ref a_PARTS_7⟩],n_PARTS,ld_PARTS,⟨rfl,rfl,rfl⟩,rfl,.cons rfl (.cons rfl (.cons rfl (.cons rfl (.cons rfl (.cons rfl (.cons rfl (.cons rfl (.nil))))))))⟩
 have q_PARTS_0:∀ H:Hp,SqT K H a_PARTS_0 [.str "name"]:=fun H=>.inr ⟨_,_,_,la_PARTS_0,rfl,rfl,bt (show 1≤1000000 from by decide),.cons ⟨_,rfl⟩ (.nil)⟩
 have q_PARTS_1:∀ H:Hp,SqT K H a_PARTS_1 [.str "word", .str "name"]:=fun H=>.inr ⟨_,_,_,la_PARTS_1,rfl,rfl,bt (show 2≤1000000 from by decide),.cons ⟨_,rfl⟩ (.cons ⟨_,rfl⟩ (.nil))⟩
 have q_PARTS_2:∀ H:Hp,SqT K H a_PARTS_2 [.str "name", .str "name"]:=fun H=>.inr ⟨_,_,_,la_PARTS_2,rfl,rfl,bt (show 2≤1000000 from by decide),.cons ⟨_,rfl⟩ (.cons ⟨_,rfl⟩ (.nil))⟩
 have q_PARTS_3:∀ H:Hp,SqT K H a_PARTS_3 [.str "name"]:=fun H=>.inr ⟨_,_,_,la_PARTS_3,rfl,rfl,bt (show 1≤1000000 from by decide),.cons ⟨_,rfl⟩ (.nil)⟩
 have q_PARTS_4:∀ H:Hp,SqT K H a_PARTS_4 [.str "name", .str "name"]:=fun H=>.inr ⟨_,_,_,la_PARTS_4,rfl,rfl,bt (show 2≤1000000 from by decide),.cons ⟨_,rfl⟩ (.cons ⟨_,rfl⟩ (.nil))⟩
 have q_PARTS_5:∀ H:Hp,SqT K H a_PARTS_5 [.str "name", .str "name", .str "steps"]:=fun H=>.inr ⟨_,_,_,la_PARTS_5,rfl,rfl,bt (show 3≤1000000 from by decide),.cons ⟨_,rfl⟩ (.cons ⟨_,rfl⟩ (.cons ⟨_,rfl⟩ (.nil)))⟩
 have q_PARTS_6:∀ H:Hp,SqT K H a_PARTS_6 [.str "bound", .str "steps", .str "steps"]:=fun H=>.inr ⟨_,_,_,la_PARTS_6,rfl,rfl,bt (show 3≤1000000 from by decide),.cons ⟨_,rfl⟩ (.cons ⟨_,rfl⟩ (.cons ⟨_,rfl⟩ (.nil)))⟩
 have q_PARTS_7:∀ H:Hp,SqT K H a_PARTS_7 [.str "bound", .str "steps"]:=fun H=>.inr ⟨_,_,_,la_PARTS_7,rfl,rfl,bt (show 2≤1000000 from by decide),.cons ⟨_,rfl⟩ (.cons ⟨_,rfl⟩ (.nil))⟩
 have g_CLOSERS:mg "CLOSERS" = some (.ref d_CLOSERS):=PySem.W.mg_of X G h_CLOSERS
 have m_CLOSERS:ModD w K d_CLOSERS [("lend", .ref a_CLOSERS_0),("if", .ref a_CLOSERS_1),("while", .ref a_CLOSERS_2)]:=⟨dz_CLOSERS,(show (["lend", "if", "while"]:List Str).Nodup from by decide),_,[⟨PyData.keyHash w.params "lend", .str "lend" k_CLOSERS_0,.ref a_CLOSERS_0⟩,⟨PyData.keyHash w.params "if", .str "if" k_CLOSERS_1,.ref a_CLOSERS_1⟩,⟨PyData.keyHash w.params "while", .str "while" k_CLOSERS_2,.ref a_CLOSERS_2⟩],n_CLOSERS,ld_CLOSERS,⟨rfl,rfl,rfl⟩,rfl,.cons rfl (.cons rfl (.cons rfl (.nil)))⟩
 have q_CLOSERS_0:∀ H:Hp,SqT K H a_CLOSERS_0 [.str "back"]:=fun H=>.inr ⟨_,_,_,la_CLOSERS_0,rfl,rfl,bt (show 1≤1000000 from by decide),.cons ⟨_,rfl⟩ (.nil)⟩
 have q_CLOSERS_1:∀ H:Hp,SqT K H a_CLOSERS_1 [.str "else", .str "fi"]:=fun H=>.inr ⟨_,_,_,la_CLOSERS_1,rfl,rfl,bt (show 2≤1000000 from by decide),.cons ⟨_,rfl⟩ (.cons ⟨_,rfl⟩ (.nil))⟩
 have q_CLOSERS_2:∀ H:Hp,SqT K H a_CLOSERS_2 [.str "done"]:=fun H=>.inr ⟨_,_,_,la_CLOSERS_2,rfl,rfl,bt (show 1≤1000000 from by decide),.cons ⟨_,rfl⟩ (.nil)⟩
 have F:=cR (st:=bm) l9 c9 k9;refine⟨PySem.W.fnOf "law" "law" (defArgs bm) (defBody bm) (defScope bm) .none kV9 dc9 pm9 an9 cd9 ct9,fun s v=>.of_eq rfl,fun base _ _=>?_⟩
 have c1:=Bm (P:=l.prog) (w:=w) (base:=base) D_law_cell_at z_len;have c2:=Cr (P:=l.prog) (w:=w) (base:=base) D_law_mixed;have c3:=yk D_law_words z_range z_int c2;have d1:=sS (P:=l.prog) (w:=w) (base:=base) D_closers_of g_CLOSERS m_CLOSERS q_CLOSERS_0 q_CLOSERS_1 q_CLOSERS_2;have d2:=AU D_head_of z_len d1;have d3:=wV D_blocks_of z_len d2;have d4:=nH D_steps_within d3 10;have d5:=ul (P:=l.prog) (w:=w) (base:=base) D_names_in z_zip z_list g_PARTS m_PARTS (zv q_PARTS_0 q_PARTS_1 q_PARTS_2 q_PARTS_3 q_PARTS_4 q_PARTS_5 q_PARTS_6 q_PARTS_7);have d6:=zb (rS D_names_of d5 d4);have d7:=pP D_lines_of z_str z_zip d1 d2 d3 10;have d8:=pz D_lend_lines z_enumerate d7;have d9:=zp (NO:=NOt) NOt.mono D_slots_of z_enumerate (vw d6 (k:=15) (by decide)) d8
 have k0:=y8 (P:=l.prog) (w:=w) (base:=base) D_NumberedStep a_kind a_parts a_lines a_blocks;have b0:=vJ (P:=l.prog) (w:=w) (base:=base) D_line_behind z_len a_lines;have n0:=qz D_numbered_step D_numbered_steps d2 d3 b0 k0 10;have r0:=qU (P:=l.prog) (w:=w) (base:=base) D_rows_of D_lend_rows D_if_rows D_loop_rows D_while_rows D_simple_row z_len z_tuple a_kind a_parts a_lines a_blocks 10;have r1:=uc (NO:=NOt) (d:=10) (k:=33) NOt.mono D_rows_and_end (by decide) n0 r0 (vw d9 (by decide)) b0 (by decide) (by decide)
 have r2:=vX D_turned_code r1;have r3:=Ba D_code_of r1;have s1:=nV (P:=l.prog) (w:=w) (base:=base) D_sided_text;have m1:=AS (P:=l.prog) (w:=w) (mg:=mg) (base:=base) D_Watch_mark_at a_column;have m4:=xC D_Watch_rows_with a_sides a_ways s1;have bg:=A_ D_broken_or_gone_on z_len m1 (sV D_Watch_broken_by m4) (Eu D_Watch_go_on m4);have ab:=Bt D_all_begin_tie (AC (P:=l.prog) (w:=w) (mg:=mg) (base:=base) D_Watch_begin_tie a_sides a_starts a_ties);have w1:=tX D_watches_of z_enumerate (rN D_watch_of (xI (P:=l.prog) (w:=w) (base:=base) D_Watch z_enumerate a_sides a_column a_ways a_blames a_starts a_ties));have mt:=y3 (P:=l.prog) (w:=w) (mg:=mg) (base:=base) D_Run_takes_more z_len a_taken a_inputs a_last;have mh:=vU (P:=l.prog) (w:=w) (mg:=mg) (base:=base) D_Run_handle_of a_held;have mo:=Br (P:=l.prog) (w:=w) (mg:=mg) (base:=base) D_Run_hold a_held;have md:=AI D_Run_deed a_log a_last a_watches a_at bg;have mn:=AN D_Run_new_handle a_opened md mo;have mi:=El D_Run_tie z_len a_log a_watches ab;have me:=EN D_Run_end_all z_range a_opened md;have mc:=Aq (P:=l.prog) (w:=w) (mg:=mg) (base:=base) D_Run_come_to a_at;have kr:=zt (CW:=C_Watch) (P:=l.prog) (w:=w) (base:=base) D_Run a_inputs a_watches a_at a_taken a_last a_opened a_held a_log;have lo:=yv D_log_of a_at a_log mc me (pE D_row_behind a_at mt (xp D_do_row mn md mh mo mi));have rc:=AE D_run_code kr lo;have rw:=A7 D_run_watched w1 kr lo;have pg:=tK D_law_program z_len z_int c2 (Bk D_law_step z_len c2) (BP (P:=l.prog) (w:=w) (base:=base) D_law_shut z_len);exact EE F z_list c1 c3 pg (yO (P:=l.prog) (w:=w) (base:=base) D_law_input) (vO (P:=l.prog) (w:=w) (base:=base) D_law_is_log z_isinstance z_list z_tuple z_len z_zip) r3 r2 rc rw
theorem walk{l:PySem.W.OpenLaw}{q:Program}{loose:List Str}{XP:(Str→Option Value)→Heap→Prop}{YP:World→Heap→Prop}{d:DefRec}{K:Params→PySem.W.Frag}(hn:l.most=some 63)(hdf:d.params.defaults=[])
  (hY:∀ (w:World) (h:Heap),YP w h→(K w.params).In h)
  (F:∀ (w:World) (mg:Str→Option Value) (fa:Addr) (h:Heap),(K w.params).In h→h.Ns mainGlobals mg→mg d.name=some (.ref fa)→
   ∃ fd:FuncData,(∀ (s:Shared) (u:Value),BindsTo s fd ⟨[u],[]⟩ [("_law_script", u)])∧∀ base:Heap,(K w.params).In base→base.Ns mainGlobals mg→FnOk l.prog w (K w.params) mg base iB 36 fa fd ["_law_script"] (n9 (K w.params))) :
  PySem.W.WalkO q loose XP YP l.row.toRowW d [] (fun f vs=>PySem.call f vs):=
 L2.walk_of (n:=63) (k:=36) (x := "_law_script") (CX:=fun _=>iB) (sp:=fun w=>n9 (K w.params)) hn (by decide) hdf ⟨rfl,by decide,by decide⟩ hY F (fun _ _ a ns hl _ hS=>⟨a,ns,rfl,hS,hl,fun _=>rfl⟩) fun _ _ _ _ _ z=>z
end K44
end
open PySem PySem.W PyProof.Rows
set_option maxRecDepth 100000 in
set_option maxHeartbeats 0 in
theorem PySem.Challenge.cw_usewarden_k44_watched_without_rules_holds : PySem.Challenge.rw_usewarden_k44_watched_without_rules.Holds := by
 w_on
 refine holds_law (by decide +kernel) fun said=>?_
 refine holds_open (q:=K44.qq) (loose:=K44.loo) (Xt:=K44.xt) (XP:=XL K44.qq []) (Yf:=Hook.obs (kHook K44.KK K44.kk K44.kk_eq)) (Ya:=Hook.val (kHook K44.KK K44.kk K44.kk_eq)) (YP:=Hook.says (kHook K44.KK K44.kk K44.kk_eq)) (N:=3402) K44.hl (Hook.of (kHook K44.KK K44.kk K44.kk_eq)) (Hook.keeps (kHook K44.KK K44.kk K44.kk_eq)) (fun s e=>xl_of s (Bool.and_eq_true_iff.mp e).1) XL.keeps (by rfl) (by rfl) (by rfl) (fun s e=>recFacts_of (Bool.and_eq_true_iff.mp e).2) (by rfl) said (by decide +kernel) ⟨rfl,rfl,rfl,rfl,rfl,by decide +kernel⟩ ?hw ?hc
 (case hw=>w_witness2)
 k_fill
 refine K44.walk (l:=PySem.Challenge.rw_usewarden_k44_watched_without_rules) rfl rfl (fun w h Y=>PySem.W.kIn_of Y) ?F
 case F=>
  intro w mg fa h KX G hmg
  refine' K44.all_mk KX G hmg ?a0 ?a1 ?a2 ?a3 ?a4 ?a5 ?a6 ?a7 ?a8 ?a9 ?a10 ?a11 ?a12 ?a13 ?a14 ?a15 ?a16 ?a17 ?a18 ?a19 ?a20 ?a21 ?a22 ?a23 ?a24 ?a25 ?a26 ?a27 ?a28 ?a29 ?a30 ?a31 ?a32 ?a33 ?a34 ?a35 ?a36 ?a37 ?a38 ?a39 ?y_isinstance ?y_str ?y_int ?y_tuple ?y_len ?y_range ?y_list ?y_zip ?y_enumerate ?n_Watch ?pg_Watch ?hd_Watch ?po_Watch ?sa_Watch ?mk_Watch ?kc_Watch ?nf_sides ?nf_column ?nf_ways ?nf_blames ?nf_starts ?nf_ties ?aWatch___init__ ?iWatch___init__ ?lWatch___init__ ?cWatch___init__ ?kWatch___init__ ?aWatch_mark_at ?iWatch_mark_at ?lWatch_mark_at ?cWatch_mark_at ?kWatch_mark_at ?aWatch_begin_tie ?iWatch_begin_tie ?lWatch_begin_tie ?cWatch_begin_tie ?kWatch_begin_tie ?aWatch_rows_with ?iWatch_rows_with ?lWatch_rows_with ?cWatch_rows_with ?kWatch_rows_with ?aWatch_broken_by ?iWatch_broken_by ?lWatch_broken_by ?cWatch_broken_by ?kWatch_broken_by ?aWatch_go_on ?iWatch_go_on ?lWatch_go_on ?cWatch_go_on ?kWatch_go_on ?n_Run ?pg_Run ?hd_Run ?po_Run ?sa_Run ?mk_Run ?kc_Run ?nf_inputs ?nf_watches ?nf_at ?nf_taken ?nf_last ?nf_opened ?nf_held ?nf_log ?aRun___init__ ?iRun___init__ ?lRun___init__ ?cRun___init__ ?kRun___init__ ?aRun_come_to ?iRun_come_to ?lRun_come_to ?cRun_come_to ?kRun_come_to ?aRun_takes_more ?iRun_takes_more ?lRun_takes_more ?cRun_takes_more ?kRun_takes_more ?aRun_handle_of ?iRun_handle_of ?lRun_handle_of ?cRun_handle_of ?kRun_handle_of ?aRun_hold ?iRun_hold ?lRun_hold ?cRun_hold ?kRun_hold ?aRun_deed ?iRun_deed ?lRun_deed ?cRun_deed ?kRun_deed ?aRun_new_handle ?iRun_new_handle ?lRun_new_handle ?cRun_new_handle ?kRun_new_handle ?aRun_tie ?iRun_tie ?lRun_tie ?cRun_tie ?kRun_tie ?aRun_end_all ?iRun_end_all ?lRun_end_all ?cRun_end_all ?kRun_end_all ?n_NumberedStep ?pg_NumberedStep ?hd_NumberedStep ?po_NumberedStep ?sa_NumberedStep ?mk_NumberedStep ?kc_NumberedStep ?nf_kind ?nf_parts ?nf_lines ?nf_blocks ?aNumberedStep___init__ ?iNumberedStep___init__ ?lNumberedStep___init__ ?cNumberedStep___init__ ?kNumberedStep___init__ ?h_PARTS ?ld_PARTS ?la_PARTS_0 ?la_PARTS_1 ?la_PARTS_2 ?la_PARTS_3 ?la_PARTS_4 ?la_PARTS_5 ?la_PARTS_6 ?la_PARTS_7 ?dz_PARTS ?h_CLOSERS ?ld_CLOSERS ?la_CLOSERS_0 ?la_CLOSERS_1 ?la_CLOSERS_2 ?dz_CLOSERS
  all_goals first | (refine' K44.dfe_mk ?a ?l ?c ?k; (case a=>k_is); (case l=>k_is); (case c=>k_is); (case k=>k_is)) | k_is | exact⟨_,by k_is⟩ | kernel_rfl | skip
#print axioms PySem.Challenge.cw_usewarden_k44_watched_without_rules_holds
