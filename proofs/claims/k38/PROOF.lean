import PyProof.Rows.All
import Wide.All
import OpenK.AllK
import Wide.FinOn
import Lean
import PyProof.EqAt
import PyProof.EqKinds
import PyProof.TupleCall
import PyProof.SetScanFacts
import PyProof.SetKind
import PyProof.SetRoads
import PyProof.Rows.SetFrom
import PyProof.FactsBase
import PyProof.TableTree
import PyProof.FactsTree
import PyProof.PlainAttrs
import PyProof.FactsAll.set_1
import PyProof.CollectIter
import PyProof.FactsAll.set
import PyProof.ZipIter
import PyProof.EnumIter
import PyProof.TupleIter
import KE.KRevIter
import KE.KDictList
import PyProof.Rows.SumAny
import KE.KIntText
import PyProof.StrLawsTight
import PyProof.StrLawsChain
import PyProof.Rows.SortStr
import PyProof.Rows.StrNews2
import PyProof.StrLawsFirst
import PyProof.AutoSeq1
import KE.KDictOf
import PyProof.DictItems
import PyProof.NeKinds
import KE.KPairComp
import PyProof.FactsAll.tuple_2
import PyProof.FactsAll.tuple_3
import KE.KDictLaws
import PyProof.FactsAll.dict_3
import PyProof.MinMaxWalk
import PyProof.WalkInts
import PySem.Challenge.RW_usewarden_k38_whole_three_runs_alike
set_option Elab.async false
set_option linter.all false
set_option maxRecDepth 100000
set_option maxHeartbeats 4000000
namespace L2
open PySem PySem.W
section
variable(tb:String→Option Builtin)(p:Program)(w:World)(n0:Nat)(an:Option Value)
def u9:Nat→SharedT→Thread→Option SharedT
 | 0,_,_=>none
 | n+1,s,t=>match through t with
  | true=>some s
  | false=>match stepOk n0 an t,stepT (denote tb) p w s t with
   | true,some x=>u9 n x.1 x.2
   | _,_=>none
theorem qQ:∀ (n:Nat) (s r:SharedT) (t:Thread),u9 tb p w n0 an n s t=some r→topRun tb p w n0 an n s.abs t=some r.abs
 | 0,_,_,_,h=>by cases h
 | n+1,s,r,t,h=>by
  rw[topRun];rw[u9]at h
  cases h1:through t with
  | true=>
   rw[h1]at h
   cases h
   rfl
  | false=>
   rw[h1]at h
   cases h2:stepOk n0 an t with
   | false=>
    rw[h2]at h
    cases h
   | true=>
    cases h3:stepT (denote tb) p w s t with
    | none=>
     rw[h2,h3]at h
     cases h
    | some x=>
     rw[h2,h3]at h
     rw[stepT_spec (s':=x.1) (t':=x.2) h3];exact qQ n _ _ _ h
end
noncomputable def Fz(P:Params):BT:=((boot_heap P).objs.toList.foldl (fun (x:BT × Nat) o=>(x.1.ins x.2 o,x.2+1)) (.nil,0)).1
noncomputable def Bj(w:World)(os:OsState):SharedT:=⟨Fz w.params,11,(boot_heap w.params).life,#[],boot_drawn,boot_toks,os⟩
theorem yd(w:World)(os:OsState):(Bj w os).abs=⟨boot_heap w.params,#[],boot_drawn,boot_toks,os⟩:=by kernel_rfl
noncomputable def tEnd(p:Program)(w:World)(N:Nat)(os:OsState):Option SharedT:=u9 treeTable p w 11 (some (.ref 6)) N (Bj w os) (topStub p)
noncomputable def tOk(p:Program)(w:World)(s:Shared):Bool:=staticsOk (importedModules p.main.body) (boot_heap w.params) s.heap&&namesBound p s.heap&&gensDone s&&laidKept (boot_heap w.params) s.heap
theorem tLeft{p:Program}{w:World}{N:Nat}{α : Type}{F:Shared→α}{a:α}(e:opening p=plainProg p.main.scope.names)(hN:Nat.ble 600 N=true)(f:∀ s,fenceModules? p s=some s)
  (hz:((boot_heap w.params).isNs mainGlobals,(boot_heap w.params).objs.size,(boot_heap w.params).nsMap mainGlobals "__annotations__")=(true,11,some (.ref 6)))
  (h:∀ os,∃ s,tEnd p w N os=some s∧tOk p w s.abs=true∧F s.abs=a):(openEnds treeTable p w N).map F=some a:=by
 obtain⟨⟨h1,gs,d,k,os⟩,e1,e2⟩:=Option.map_eq_some_iff.mp (boot_open e hN f w)
 obtain⟨rfl,rfl,rfl,rfl⟩ : h1=boot_heap w.params∧gs = #[]∧d=boot_drawn∧k=boot_toks:=by simpa using e2
 obtain⟨z1,z2,z3⟩ : _∧_∧_:=by simpa only[Prod.mk.injEq] using hz
 obtain⟨r,r1,r2,r3⟩:=h os
 have t1:=qQ _ _ _ _ _ _ _ _ _ r1;rw[yd]at t1
 unfold openEnds;rw[e1];show (topFrom treeTable p w N _).map F=_
 unfold topFrom
 dsimp only
 rw[z1,z2,z3];show ((topRun treeTable p w 11 (some (.ref 6)) N _ _).bind _).map F=_
 rw[t1];show (match tOk p w r.abs with | true=>some r.abs | false=>none).map F=_
 rw[r2];exact congrArg some r3
end L2
namespace L2
open PySem
def inClass(s:Stmt)(j:Nat):Stmt:=match s with
 | .ClassDef _ _ _ body _ _ _ _ _ _ _=>body.getD j (.Pass ⟨0,0,0,0⟩)
 | _=>.Pass ⟨0,0,0,0⟩
def defArgs(s:Stmt):Arguments:=match s with
 | .FunctionDef _ a _ _ _ _ _ _ _ _=>a
 | _=>{ posonlyargs:=[],args:=[],vararg:=none,kwonlyargs:=[],kw_defaults:=[],kwarg:=none,defaults:=[] }
def defBody(s:Stmt):List Stmt:=match s with
 | .FunctionDef _ _ b _ _ _ _ _ _ _=>b
 | _=>[]
def defScope(s:Stmt):Scope:=match s with
 | .FunctionDef _ _ _ _ _ _ sc _ _ _=>sc
 | _=>{ kind:=.function,names:=[],isGenerator:=false,isCoroutine:=false }
end L2
namespace K38
open PySem PySem.W
def top (i:Nat):Stmt:=PySem.Challenge.pw_usewarden_k38_whole_three_runs_alike.main.body.getD i (.Pass ⟨0,0,0,0⟩)
abbrev tUp(x:Array Value):Obj:=⟨.type "tuple", none,.seq x 0,#[]⟩
abbrev cOd(n:Str)(a b c:Nat)(l g:Int)(p q r s u:Addr)(i:Int)(d:Nat):Obj:=⟨.type "code", none,.fields #[.str n a,.str n b,.str "/claim/cut.py" c,.int l 0,.int g 0,.int 0 0,.int 0 0,.int 3 0,.ref p,.bool true,.int 181 0,.ref q,.none,.ref r,.ref s,.ref u,.int i 0,.int l 0,.str "/claim/cut.py" d],#[]⟩
abbrev fUn(n:Str)(i:Nat)(m:Str)(a:Nat)(c:Addr):Obj:=⟨.type "function", none,.func ⟨n,n,L2.defArgs (top i),.stmts (L2.defBody (top i)),L2.defScope (top i),3,[],.none,.none,.none,.str m a,none,.ref c,.none,0⟩,#[]⟩
noncomputable def KK(P:Params):Frag:=
 (nat_lit 2,⟨.none,none,.dict #[] 0,#[]⟩) ::
 (nat_lit 3,⟨.type "dict", none,.dict #[⟨PyData.keyHash P "__name__", .str "__name__" 165,.str "law_usewarden_k38_whole_three_runs_alike" 788⟩,⟨PyData.keyHash P "__doc__", .str "__doc__" 166,.none⟩,⟨PyData.keyHash P "__package__", .str "__package__" 167,.none⟩,⟨PyData.keyHash P "__loader__", .str "__loader__" 168,.builtin "__main__.__loader__#opaque"⟩,⟨PyData.keyHash P "__spec__", .str "__spec__" 169,.none⟩,⟨PyData.keyHash P "__annotations__", .str "__annotations__" 170,.ref 6⟩,⟨PyData.keyHash P "__builtins__", .str "__builtins__" 171,.ref 4⟩,⟨PyData.keyHash P "__file__", .str "__file__" 173,.str "/claim/cut.py" 172⟩,⟨PyData.keyHash P "__cached__", .str "__cached__" 174,.none⟩,⟨PyData.keyHash P "UseError", .str "UseError" 206,.ref 24⟩,⟨PyData.keyHash P "Breach", .str "Breach" 239,.ref 44⟩,⟨PyData.keyHash P "sided_text", .str "sided_text" 249,.ref 53⟩,⟨PyData.keyHash P "text_in_row", .str "text_in_row" 258,.ref 60⟩,⟨PyData.keyHash P "row_of", .str "row_of" 264,.ref 65⟩,⟨PyData.keyHash P "all_begin_tie", .str "all_begin_tie" 275,.ref 72⟩,⟨PyData.keyHash P "broken_or_gone_on", .str "broken_or_gone_on" 288,.ref 79⟩,⟨PyData.keyHash P "Run", .str "Run" 413,.ref 159⟩,⟨PyData.keyHash P "do_row", .str "do_row" 424,.ref 170⟩,⟨PyData.keyHash P "row_behind", .str "row_behind" 432,.ref 177⟩,⟨PyData.keyHash P "log_of", .str "log_of" 440,.ref 184⟩,⟨PyData.keyHash P "run_code", .str "run_code" 448,.ref 191⟩,⟨PyData.keyHash P "PARTS", .str "PARTS" 483,.ref 192⟩,⟨PyData.keyHash P "CLOSERS", .str "CLOSERS" 494,.ref 201⟩,⟨PyData.keyHash P "closers_of", .str "closers_of" 501,.ref 211⟩,⟨PyData.keyHash P "head_of", .str "head_of" 508,.ref 218⟩,⟨PyData.keyHash P "blocks_of", .str "blocks_of" 515,.ref 225⟩,⟨PyData.keyHash P "steps_within", .str "steps_within" 525,.ref 232⟩,⟨PyData.keyHash P "names_in", .str "names_in" 536,.ref 239⟩,⟨PyData.keyHash P "lines_of", .str "lines_of" 542,.ref 244⟩,⟨PyData.keyHash P "names_of", .str "names_of" 549,.ref 251⟩,⟨PyData.keyHash P "NumberedStep", .str "NumberedStep" 585,.ref 268⟩,⟨PyData.keyHash P "line_behind", .str "line_behind" 593,.ref 279⟩,⟨PyData.keyHash P "numbered_step", .str "numbered_step" 605,.ref 286⟩,⟨PyData.keyHash P "numbered_steps", .str "numbered_steps" 615,.ref 293⟩,⟨PyData.keyHash P "lend_lines", .str "lend_lines" 623,.ref 298⟩,⟨PyData.keyHash P "slots_of", .str "slots_of" 633,.ref 305⟩,⟨PyData.keyHash P "simple_row", .str "simple_row" 639,.ref 310⟩,⟨PyData.keyHash P "lend_rows", .str "lend_rows" 656,.ref 317⟩,⟨PyData.keyHash P "if_rows", .str "if_rows" 671,.ref 324⟩,⟨PyData.keyHash P "loop_rows", .str "loop_rows" 682,.ref 331⟩,⟨PyData.keyHash P "while_rows", .str "while_rows" 695,.ref 338⟩,⟨PyData.keyHash P "rows_of", .str "rows_of" 708,.ref 345⟩,⟨PyData.keyHash P "rows_and_end", .str "rows_and_end" 717,.ref 352⟩,⟨PyData.keyHash P "code_of", .str "code_of" 724,.ref 359⟩,⟨PyData.keyHash P "turned_code", .str "turned_code" 731,.ref 366⟩,⟨PyData.keyHash P "do_simple", .str "do_simple" 743,.ref 373⟩,⟨PyData.keyHash P "do_lend", .str "do_lend" 752,.ref 380⟩,⟨PyData.keyHash P "do_if", .str "do_if" 760,.ref 387⟩,⟨PyData.keyHash P "do_while", .str "do_while" 768,.ref 394⟩,⟨PyData.keyHash P "do_steps", .str "do_steps" 777,.ref 401⟩,⟨PyData.keyHash P "run_plain", .str "run_plain" 787,.ref 408⟩,⟨PyData.keyHash P "_law_cell_at", .str "_law_cell_at" 797,.ref 415⟩,⟨PyData.keyHash P "_law_names", .str "_law_names" 803,.ref 420⟩,⟨PyData.keyHash P "_law_bound", .str "_law_bound" 811,.ref 427⟩,⟨PyData.keyHash P "_law_step", .str "_law_step" 823,.ref 434⟩,⟨PyData.keyHash P "_law_begun", .str "_law_begun" 838,.ref 441⟩,⟨PyData.keyHash P "_law_program", .str "_law_program" 844,.ref 446⟩,⟨PyData.keyHash P "_law_inputs", .str "_law_inputs" 850,.ref 451⟩,⟨PyData.keyHash P "_law_drawn", .str "_law_drawn" 861,.ref 458⟩,⟨PyData.keyHash P "_law_whole", .str "_law_whole" 868,.ref 465⟩,⟨PyData.keyHash P "_law_is_log", .str "_law_is_log" 876,.ref 472⟩,⟨PyData.keyHash P "law", .str "law" 895,.ref 479⟩] 62,#[]⟩) ::
 (nat_lit 15,tUp #[.type "ValueError"]) ::
 (nat_lit 22,tUp #[]) ::
 (nat_lit 23,⟨.type "dict", none,.dict #[⟨PyData.keyHash P "__module__", .str "__module__" 196,.str "usewarden.errors" 187⟩,⟨PyData.keyHash P "__firstlineno__", .str "__firstlineno__" 200,.int 2 199⟩,⟨PyData.keyHash P "__static_attributes__", .str "__static_attributes__" 201,.ref 22⟩,⟨PyData.keyHash P "__weakref__", .str "__weakref__" 203,.ref 25⟩,⟨PyData.keyHash P "__doc__", .str "__doc__" 204,.none⟩] 3,#[]⟩) ::
 (nat_lit 24,⟨.type "type", none,.cls ⟨"UseError", [.type "ValueError"],[.ref 24,.type "ValueError", .type "Exception", .type "BaseException", .type "object"],23, "UseError", true,[],[.ref 44],false,none,false⟩,#[some (.ref 15),none,some (.str "UseError" 189),some (.str "UseError" 197),some (.builtin "ValueError.__new__"),some (.bool true)]⟩) ::
 (nat_lit 25,⟨.type "getset_descriptor", none,.fields #[.str "__weakref__" 202,.ref 24,.builtin "ExceptionGroup.__weakref__", .none],#[]⟩) ::
 (nat_lit 28,tUp #[.ref 24]) ::
 (nat_lit 35,tUp #[]) ::
 (nat_lit 37,tUp #[.str "self" 222,.str "rule" 223,.str "line" 224,.str "handles" 225,.str "row" 226,.str "log" 227]) ::
 (nat_lit 38,tUp #[]) ::
 (nat_lit 40,⟨.type "code", none,.fields #[.str "__init__" 219,.str "Breach.__init__" 220,.str "/claim/cut.py" 221,.int 6 0,.int 6 0,.int 0 0,.int 0 0,.int 3 0,.ref 35,.bool true,.int 181 0,.ref 36,.none,.ref 37,.ref 38,.ref 39,.int 228 0,.int 6 0,.str "/claim/cut.py" 229],#[]⟩) ::
 (nat_lit 41,⟨.type "function", none,.func ⟨"__init__", "Breach.__init__", L2.defArgs (L2.inClass (top 2) 0),.stmts (L2.defBody (L2.inClass (top 2) 0)),L2.defScope (L2.inClass (top 2) 0),3,[],.none,.none,.none,.str "usewarden.errors" 187,none,.ref 40,.none,0⟩,#[]⟩) ::
 (nat_lit 42,tUp #[.str "handles" 231,.str "line" 232,.str "log" 233,.str "row" 234,.str "rule" 235]) ::
 (nat_lit 43,⟨.type "dict", none,.dict #[⟨PyData.keyHash P "__module__", .str "__module__" 214,.str "usewarden.errors" 187⟩,⟨PyData.keyHash P "__firstlineno__", .str "__firstlineno__" 218,.int 4 217⟩,⟨PyData.keyHash P "__init__", .str "__init__" 230,.ref 41⟩,⟨PyData.keyHash P "__static_attributes__", .str "__static_attributes__" 236,.ref 42⟩,⟨PyData.keyHash P "__doc__", .str "__doc__" 237,.none⟩] 2,#[]⟩) ::
 (nat_lit 44,⟨.type "type", none,.cls ⟨"Breach", [.ref 24],[.ref 44,.ref 24,.type "ValueError", .type "Exception", .type "BaseException", .type "object"],43, "Breach", true,[],[],false,none,false⟩,#[some (.ref 28),none,some (.str "Breach" 207),some (.str "Breach" 215),some (.builtin "ValueError.__new__"),some (.bool true)]⟩) ::
 (nat_lit 47,tUp #[]) ::
 (nat_lit 49,tUp #[.str "side" 245,.str "word" 246]) ::
 (nat_lit 50,tUp #[]) ::
 (nat_lit 52,cOd "sided_text" 242 243 244 14 2 47 48 49 50 51 247 248) ::
 (nat_lit 53,fUn "sided_text" 4 "usewarden.watches" 240 52) ::
 (nat_lit 54,tUp #[]) ::
 (nat_lit 56,tUp #[.str "handles" 253,.str "handle" 254,.str "word" 255]) ::
 (nat_lit 57,tUp #[]) ::
 (nat_lit 59,cOd "text_in_row" 250 251 252 16 3 54 55 56 57 58 256 257) ::
 (nat_lit 60,fUn "text_in_row" 5 "usewarden.watches" 240 59) ::
 (nat_lit 61,tUp #[]) ::
 (nat_lit 64,⟨.type "code", none,.fields #[.str "row_of" 259,.str "row_of" 260,.str "/claim/cut.py" 261,.int 18 0,.int 2 0,.int 0 0,.int 0 0,.int 3 0,.ref 61,.bool true,.int 181 0,.ref 62,.none,.none,.none,.ref 63,.int 262 0,.int 18 0,.str "/claim/cut.py" 263],#[]⟩) ::
 (nat_lit 65,fUn "row_of" 6 "usewarden.watches" 240 64) ::
 (nat_lit 66,tUp #[]) ::
 (nat_lit 68,tUp #[.str "watches" 268,.str "one" 269,.str "other" 270,.str "start" 271,.str "watch" 272]) ::
 (nat_lit 69,tUp #[]) ::
 (nat_lit 71,cOd "all_begin_tie" 265 266 267 21 4 66 67 68 69 70 273 274) ::
 (nat_lit 72,fUn "all_begin_tie" 7 "usewarden.watches" 240 71) ::
 (nat_lit 73,tUp #[]) ::
 (nat_lit 75,tUp #[.str "watches" 279,.str "at" 280,.str "handle" 281,.str "word" 282,.str "broken" 283,.str "watch" 284,.str "first" 285]) ::
 (nat_lit 76,tUp #[]) ::
 (nat_lit 78,cOd "broken_or_gone_on" 276 277 278 24 4 73 74 75 76 77 286 287) ::
 (nat_lit 79,fUn "broken_or_gone_on" 8 "usewarden.watches" 240 78) ::
 (nat_lit 87,tUp #[]) ::
 (nat_lit 89,tUp #[.str "self" 306,.str "inputs" 307,.str "watches" 308]) ::
 (nat_lit 90,tUp #[]) ::
 (nat_lit 92,⟨.type "code", none,.fields #[.str "__init__" 303,.str "Run.__init__" 304,.str "/claim/cut.py" 305,.int 39 0,.int 3 0,.int 0 0,.int 0 0,.int 3 0,.ref 87,.bool true,.int 181 0,.ref 88,.none,.ref 89,.ref 90,.ref 91,.int 309 0,.int 39 0,.str "/claim/cut.py" 310],#[]⟩) ::
 (nat_lit 93,⟨.type "function", none,.func ⟨"__init__", "Run.__init__", L2.defArgs (L2.inClass (top 10) 0),.stmts (L2.defBody (L2.inClass (top 10) 0)),L2.defScope (L2.inClass (top 10) 0),3,[],.none,.none,.none,.str "usewarden.runs" 289,none,.ref 92,.none,0⟩,#[]⟩) ::
 (nat_lit 94,tUp #[]) ::
 (nat_lit 96,tUp #[.str "self" 315,.str "at" 316]) ::
 (nat_lit 97,tUp #[]) ::
 (nat_lit 99,⟨.type "code", none,.fields #[.str "come_to" 312,.str "Run.come_to" 313,.str "/claim/cut.py" 314,.int 49 0,.int 2 0,.int 0 0,.int 0 0,.int 3 0,.ref 94,.bool true,.int 181 0,.ref 95,.none,.ref 96,.ref 97,.ref 98,.int 317 0,.int 49 0,.str "/claim/cut.py" 318],#[]⟩) ::
 (nat_lit 100,⟨.type "function", none,.func ⟨"come_to", "Run.come_to", L2.defArgs (L2.inClass (top 10) 1),.stmts (L2.defBody (L2.inClass (top 10) 1)),L2.defScope (L2.inClass (top 10) 1),3,[],.none,.none,.none,.str "usewarden.runs" 289,none,.ref 99,.none,0⟩,#[]⟩) ::
 (nat_lit 101,tUp #[]) ::
 (nat_lit 103,tUp #[.str "self" 323,.str "bound" 324]) ::
 (nat_lit 104,tUp #[]) ::
 (nat_lit 106,⟨.type "code", none,.fields #[.str "takes_more" 320,.str "Run.takes_more" 321,.str "/claim/cut.py" 322,.int 52 0,.int 2 0,.int 0 0,.int 0 0,.int 3 0,.ref 101,.bool true,.int 181 0,.ref 102,.none,.ref 103,.ref 104,.ref 105,.int 325 0,.int 52 0,.str "/claim/cut.py" 326],#[]⟩) ::
 (nat_lit 107,⟨.type "function", none,.func ⟨"takes_more", "Run.takes_more", L2.defArgs (L2.inClass (top 10) 2),.stmts (L2.defBody (L2.inClass (top 10) 2)),L2.defScope (L2.inClass (top 10) 2),3,[],.none,.none,.none,.str "usewarden.runs" 289,none,.ref 106,.none,0⟩,#[]⟩) ::
 (nat_lit 108,tUp #[]) ::
 (nat_lit 110,tUp #[.str "self" 331,.str "holder" 332]) ::
 (nat_lit 111,tUp #[]) ::
 (nat_lit 113,⟨.type "code", none,.fields #[.str "handle_of" 328,.str "Run.handle_of" 329,.str "/claim/cut.py" 330,.int 59 0,.int 2 0,.int 0 0,.int 0 0,.int 3 0,.ref 108,.bool true,.int 181 0,.ref 109,.none,.ref 110,.ref 111,.ref 112,.int 333 0,.int 59 0,.str "/claim/cut.py" 334],#[]⟩) ::
 (nat_lit 114,⟨.type "function", none,.func ⟨"handle_of", "Run.handle_of", L2.defArgs (L2.inClass (top 10) 3),.stmts (L2.defBody (L2.inClass (top 10) 3)),L2.defScope (L2.inClass (top 10) 3),3,[],.none,.none,.none,.str "usewarden.runs" 289,none,.ref 113,.none,0⟩,#[]⟩) ::
 (nat_lit 115,tUp #[]) ::
 (nat_lit 117,tUp #[.str "self" 339,.str "holder" 340,.str "handle" 341]) ::
 (nat_lit 118,tUp #[]) ::
 (nat_lit 120,⟨.type "code", none,.fields #[.str "hold" 336,.str "Run.hold" 337,.str "/claim/cut.py" 338,.int 62 0,.int 3 0,.int 0 0,.int 0 0,.int 3 0,.ref 115,.bool true,.int 181 0,.ref 116,.none,.ref 117,.ref 118,.ref 119,.int 342 0,.int 62 0,.str "/claim/cut.py" 343],#[]⟩) ::
 (nat_lit 121,⟨.type "function", none,.func ⟨"hold", "Run.hold", L2.defArgs (L2.inClass (top 10) 4),.stmts (L2.defBody (L2.inClass (top 10) 4)),L2.defScope (L2.inClass (top 10) 4),3,[],.none,.none,.none,.str "usewarden.runs" 289,none,.ref 120,.none,0⟩,#[]⟩) ::
 (nat_lit 122,tUp #[]) ::
 (nat_lit 124,tUp #[.str "self" 348,.str "line" 349,.str "handle" 350,.str "word" 351,.str "entry" 352,.str "broken" 353]) ::
 (nat_lit 125,tUp #[]) ::
 (nat_lit 127,⟨.type "code", none,.fields #[.str "deed" 345,.str "Run.deed" 346,.str "/claim/cut.py" 347,.int 65 0,.int 4 0,.int 0 0,.int 0 0,.int 3 0,.ref 122,.bool true,.int 181 0,.ref 123,.none,.ref 124,.ref 125,.ref 126,.int 354 0,.int 65 0,.str "/claim/cut.py" 355],#[]⟩) ::
 (nat_lit 128,⟨.type "function", none,.func ⟨"deed", "Run.deed", L2.defArgs (L2.inClass (top 10) 5),.stmts (L2.defBody (L2.inClass (top 10) 5)),L2.defScope (L2.inClass (top 10) 5),3,[],.none,.none,.none,.str "usewarden.runs" 289,none,.ref 127,.none,0⟩,#[]⟩) ::
 (nat_lit 129,tUp #[]) ::
 (nat_lit 131,tUp #[.str "self" 360,.str "entry" 361,.str "broken" 362,.str "name" 363,.str "start" 364,.str "handles" 365]) ::
 (nat_lit 132,tUp #[]) ::
 (nat_lit 134,⟨.type "code", none,.fields #[.str "refuse" 357,.str "Run.refuse" 358,.str "/claim/cut.py" 359,.int 74 0,.int 3 0,.int 0 0,.int 0 0,.int 3 0,.ref 129,.bool true,.int 181 0,.ref 130,.none,.ref 131,.ref 132,.ref 133,.int 366 0,.int 74 0,.str "/claim/cut.py" 367],#[]⟩) ::
 (nat_lit 135,⟨.type "function", none,.func ⟨"refuse", "Run.refuse", L2.defArgs (L2.inClass (top 10) 6),.stmts (L2.defBody (L2.inClass (top 10) 6)),L2.defScope (L2.inClass (top 10) 6),3,[],.none,.none,.none,.str "usewarden.runs" 289,none,.ref 134,.none,0⟩,#[]⟩) ::
 (nat_lit 136,tUp #[]) ::
 (nat_lit 138,tUp #[.str "self" 372,.str "line" 373,.str "holder" 374,.str "handle" 375]) ::
 (nat_lit 139,tUp #[]) ::
 (nat_lit 141,⟨.type "code", none,.fields #[.str "new_handle" 369,.str "Run.new_handle" 370,.str "/claim/cut.py" 371,.int 80 0,.int 3 0,.int 0 0,.int 0 0,.int 3 0,.ref 136,.bool true,.int 181 0,.ref 137,.none,.ref 138,.ref 139,.ref 140,.int 376 0,.int 80 0,.str "/claim/cut.py" 377],#[]⟩) ::
 (nat_lit 142,⟨.type "function", none,.func ⟨"new_handle", "Run.new_handle", L2.defArgs (L2.inClass (top 10) 7),.stmts (L2.defBody (L2.inClass (top 10) 7)),L2.defScope (L2.inClass (top 10) 7),3,[],.none,.none,.none,.str "usewarden.runs" 289,none,.ref 141,.none,0⟩,#[]⟩) ::
 (nat_lit 143,tUp #[]) ::
 (nat_lit 145,tUp #[.str "self" 382,.str "line" 383,.str "one" 384,.str "other" 385]) ::
 (nat_lit 146,tUp #[]) ::
 (nat_lit 148,⟨.type "code", none,.fields #[.str "tie" 379,.str "Run.tie" 380,.str "/claim/cut.py" 381,.int 86 0,.int 4 0,.int 0 0,.int 0 0,.int 3 0,.ref 143,.bool true,.int 181 0,.ref 144,.none,.ref 145,.ref 146,.ref 147,.int 386 0,.int 86 0,.str "/claim/cut.py" 387],#[]⟩) ::
 (nat_lit 149,⟨.type "function", none,.func ⟨"tie", "Run.tie", L2.defArgs (L2.inClass (top 10) 8),.stmts (L2.defBody (L2.inClass (top 10) 8)),L2.defScope (L2.inClass (top 10) 8),3,[],.none,.none,.none,.str "usewarden.runs" 289,none,.ref 148,.none,0⟩,#[]⟩) ::
 (nat_lit 150,tUp #[]) ::
 (nat_lit 152,tUp #[.str "self" 392,.str "line" 393,.str "handle" 394]) ::
 (nat_lit 153,tUp #[]) ::
 (nat_lit 155,⟨.type "code", none,.fields #[.str "end_all" 389,.str "Run.end_all" 390,.str "/claim/cut.py" 391,.int 91 0,.int 2 0,.int 0 0,.int 0 0,.int 3 0,.ref 150,.bool true,.int 181 0,.ref 151,.none,.ref 152,.ref 153,.ref 154,.int 395 0,.int 91 0,.str "/claim/cut.py" 396],#[]⟩) ::
 (nat_lit 156,⟨.type "function", none,.func ⟨"end_all", "Run.end_all", L2.defArgs (L2.inClass (top 10) 9),.stmts (L2.defBody (L2.inClass (top 10) 9)),L2.defScope (L2.inClass (top 10) 9),3,[],.none,.none,.none,.str "usewarden.runs" 289,none,.ref 155,.none,0⟩,#[]⟩) ::
 (nat_lit 157,tUp #[.str "at" 398,.str "held" 399,.str "inputs" 400,.str "last" 401,.str "log" 402,.str "opened" 403,.str "taken" 404,.str "watches" 405]) ::
 (nat_lit 158,⟨.type "dict", none,.dict #[⟨PyData.keyHash P "__module__", .str "__module__" 298,.str "usewarden.runs" 289⟩,⟨PyData.keyHash P "__firstlineno__", .str "__firstlineno__" 302,.int 37 301⟩,⟨PyData.keyHash P "__init__", .str "__init__" 311,.ref 93⟩,⟨PyData.keyHash P "come_to", .str "come_to" 319,.ref 100⟩,⟨PyData.keyHash P "takes_more", .str "takes_more" 327,.ref 107⟩,⟨PyData.keyHash P "handle_of", .str "handle_of" 335,.ref 114⟩,⟨PyData.keyHash P "hold", .str "hold" 344,.ref 121⟩,⟨PyData.keyHash P "deed", .str "deed" 356,.ref 128⟩,⟨PyData.keyHash P "refuse", .str "refuse" 368,.ref 135⟩,⟨PyData.keyHash P "new_handle", .str "new_handle" 378,.ref 142⟩,⟨PyData.keyHash P "tie", .str "tie" 388,.ref 149⟩,⟨PyData.keyHash P "end_all", .str "end_all" 397,.ref 156⟩,⟨PyData.keyHash P "__static_attributes__", .str "__static_attributes__" 406,.ref 157⟩,⟨PyData.keyHash P "__dict__", .str "__dict__" 408,.ref 160⟩,⟨PyData.keyHash P "__weakref__", .str "__weakref__" 410,.ref 161⟩,⟨PyData.keyHash P "__doc__", .str "__doc__" 411,.none⟩] 4,#[]⟩) ::
 (nat_lit 159,⟨.type "type", none,.cls ⟨"Run", [.type "object"],[.ref 159,.type "object"],158, "Run", true,[],[],false,none,false⟩,#[none,none,some (.str "Run" 291),some (.str "Run" 299),some (.builtin "object.__new__"),some (.bool true)]⟩) ::
 (nat_lit 160,⟨.type "getset_descriptor", none,.fields #[.str "__dict__" 407,.ref 159,.builtin "function.__dict__", .builtin "function.__dict__#set"],#[]⟩) ::
 (nat_lit 161,⟨.type "getset_descriptor", none,.fields #[.str "__weakref__" 409,.ref 159,.builtin "ExceptionGroup.__weakref__", .none],#[]⟩) ::
 (nat_lit 164,tUp #[]) ::
 (nat_lit 166,tUp #[.str "run" 419,.str "row" 420,.str "line" 421]) ::
 (nat_lit 167,tUp #[]) ::
 (nat_lit 169,cOd "do_row" 416 417 418 95 2 164 165 166 167 168 422 423) ::
 (nat_lit 170,fUn "do_row" 12 "usewarden.coderuns" 414 169) ::
 (nat_lit 171,tUp #[]) ::
 (nat_lit 173,tUp #[.str "run" 428,.str "row" 429]) ::
 (nat_lit 174,tUp #[]) ::
 (nat_lit 176,cOd "row_behind" 425 426 427 107 2 171 172 173 174 175 430 431) ::
 (nat_lit 177,fUn "row_behind" 13 "usewarden.coderuns" 414 176) ::
 (nat_lit 178,tUp #[]) ::
 (nat_lit 180,tUp #[.str "code" 436,.str "run" 437]) ::
 (nat_lit 181,tUp #[]) ::
 (nat_lit 183,cOd "log_of" 433 434 435 114 2 178 179 180 181 182 438 439) ::
 (nat_lit 184,fUn "log_of" 14 "usewarden.coderuns" 414 183) ::
 (nat_lit 185,tUp #[]) ::
 (nat_lit 187,tUp #[.str "code" 444,.str "inputs" 445]) ::
 (nat_lit 188,tUp #[]) ::
 (nat_lit 190,cOd "run_code" 441 442 443 119 2 185 186 187 188 189 446 447) ::
 (nat_lit 191,fUn "run_code" 15 "usewarden.coderuns" 414 190) ::
 (nat_lit 192,⟨.type "dict", none,.dict #[⟨PyData.keyHash P "open", .str "open" 451,.ref 193⟩,⟨PyData.keyHash P "do", .str "do" 453,.ref 194⟩,⟨PyData.keyHash P "copy", .str "copy" 456,.ref 195⟩,⟨PyData.keyHash P "drop", .str "drop" 459,.ref 196⟩,⟨PyData.keyHash P "tie", .str "tie" 461,.ref 197⟩,⟨PyData.keyHash P "lend", .str "lend" 464,.ref 198⟩,⟨PyData.keyHash P "if", .str "if" 468,.ref 199⟩,⟨PyData.keyHash P "while", .str "while" 472,.ref 200⟩] 8,#[]⟩) ::
 (nat_lit 193,tUp #[.str "name" 452]) ::
 (nat_lit 194,tUp #[.str "word" 454,.str "name" 455]) ::
 (nat_lit 195,tUp #[.str "name" 457,.str "name" 458]) ::
 (nat_lit 196,tUp #[.str "name" 460]) ::
 (nat_lit 197,tUp #[.str "name" 462,.str "name" 463]) ::
 (nat_lit 198,tUp #[.str "name" 465,.str "name" 466,.str "steps" 467]) ::
 (nat_lit 199,tUp #[.str "bound" 469,.str "steps" 470,.str "steps" 471]) ::
 (nat_lit 200,tUp #[.str "bound" 473,.str "steps" 474]) ::
 (nat_lit 201,⟨.type "dict", none,.dict #[⟨PyData.keyHash P "lend", .str "lend" 484,.ref 202⟩,⟨PyData.keyHash P "if", .str "if" 486,.ref 203⟩,⟨PyData.keyHash P "while", .str "while" 489,.ref 204⟩] 3,#[]⟩) ::
 (nat_lit 202,tUp #[.str "back" 485]) ::
 (nat_lit 203,tUp #[.str "else" 487,.str "fi" 488]) ::
 (nat_lit 204,tUp #[.str "done" 490]) ::
 (nat_lit 205,tUp #[]) ::
 (nat_lit 207,tUp #[.str "kind" 498]) ::
 (nat_lit 208,tUp #[]) ::
 (nat_lit 210,cOd "closers_of" 495 496 497 124 1 205 206 207 208 209 499 500) ::
 (nat_lit 211,fUn "closers_of" 19 "usewarden.programs" 449 210) ::
 (nat_lit 212,tUp #[]) ::
 (nat_lit 214,tUp #[.str "step" 505]) ::
 (nat_lit 215,tUp #[]) ::
 (nat_lit 217,cOd "head_of" 502 503 504 126 1 212 213 214 215 216 506 507) ::
 (nat_lit 218,fUn "head_of" 20 "usewarden.programs" 449 217) ::
 (nat_lit 219,tUp #[]) ::
 (nat_lit 221,tUp #[.str "step" 512]) ::
 (nat_lit 222,tUp #[]) ::
 (nat_lit 224,cOd "blocks_of" 509 510 511 128 1 219 220 221 222 223 513 514) ::
 (nat_lit 225,fUn "blocks_of" 21 "usewarden.programs" 449 224) ::
 (nat_lit 226,tUp #[]) ::
 (nat_lit 228,tUp #[.str "program" 519,.str "steps" 520,.str "step" 521,.str "block" 522]) ::
 (nat_lit 229,tUp #[]) ::
 (nat_lit 231,cOd "steps_within" 516 517 518 130 1 226 227 228 229 230 523 524) ::
 (nat_lit 232,fUn "steps_within" 22 "usewarden.programs" 449 231) ::
 (nat_lit 233,tUp #[]) ::
 (nat_lit 235,tUp #[.str "steps" 529,.str "names" 530,.str "step" 531,.str "part" 532,.str "kind" 533]) ::
 (nat_lit 236,tUp #[]) ::
 (nat_lit 238,cOd "names_in" 526 527 528 137 1 233 234 235 236 237 534 535) ::
 (nat_lit 239,fUn "names_in" 23 "usewarden.programs" 449 238) ::
 (nat_lit 240,tUp #[]) ::
 (nat_lit 243,⟨.type "code", none,.fields #[.str "lines_of" 537,.str "lines_of" 538,.str "/claim/cut.py" 539,.int 144 0,.int 1 0,.int 0 0,.int 0 0,.int 3 0,.ref 240,.bool true,.int 181 0,.ref 241,.none,.none,.none,.ref 242,.int 540 0,.int 144 0,.str "/claim/cut.py" 541],#[]⟩) ::
 (nat_lit 244,fUn "lines_of" 24 "usewarden.programs" 449 243) ::
 (nat_lit 245,tUp #[]) ::
 (nat_lit 247,tUp #[.str "program" 546]) ::
 (nat_lit 248,tUp #[]) ::
 (nat_lit 250,cOd "names_of" 543 544 545 152 1 245 246 247 248 249 547 548) ::
 (nat_lit 251,fUn "names_of" 25 "usewarden.programs" 449 250) ::
 (nat_lit 259,tUp #[]) ::
 (nat_lit 261,tUp #[.str "self" 567,.str "head" 568,.str "lines" 569,.str "blocks" 570]) ::
 (nat_lit 262,tUp #[]) ::
 (nat_lit 264,⟨.type "code", none,.fields #[.str "__init__" 564,.str "NumberedStep.__init__" 565,.str "/claim/cut.py" 566,.int 157 0,.int 4 0,.int 0 0,.int 0 0,.int 3 0,.ref 259,.bool true,.int 181 0,.ref 260,.none,.ref 261,.ref 262,.ref 263,.int 571 0,.int 157 0,.str "/claim/cut.py" 572],#[]⟩) ::
 (nat_lit 265,⟨.type "function", none,.func ⟨"__init__", "NumberedStep.__init__", L2.defArgs (L2.inClass (top 27) 0),.stmts (L2.defBody (L2.inClass (top 27) 0)),L2.defScope (L2.inClass (top 27) 0),3,[],.none,.none,.none,.str "usewarden.numbered" 550,none,.ref 264,.none,0⟩,#[]⟩) ::
 (nat_lit 266,tUp #[.str "blocks" 574,.str "kind" 575,.str "lines" 576,.str "parts" 577]) ::
 (nat_lit 267,⟨.type "dict", none,.dict #[⟨PyData.keyHash P "__module__", .str "__module__" 559,.str "usewarden.numbered" 550⟩,⟨PyData.keyHash P "__firstlineno__", .str "__firstlineno__" 563,.int 155 562⟩,⟨PyData.keyHash P "__init__", .str "__init__" 573,.ref 265⟩,⟨PyData.keyHash P "__static_attributes__", .str "__static_attributes__" 578,.ref 266⟩,⟨PyData.keyHash P "__dict__", .str "__dict__" 580,.ref 269⟩,⟨PyData.keyHash P "__weakref__", .str "__weakref__" 582,.ref 270⟩,⟨PyData.keyHash P "__doc__", .str "__doc__" 583,.none⟩] 4,#[]⟩) ::
 (nat_lit 268,⟨.type "type", none,.cls ⟨"NumberedStep", [.type "object"],[.ref 268,.type "object"],267, "NumberedStep", true,[],[],false,none,false⟩,#[none,none,some (.str "NumberedStep" 552),some (.str "NumberedStep" 560),some (.builtin "object.__new__"),some (.bool true)]⟩) ::
 (nat_lit 269,⟨.type "getset_descriptor", none,.fields #[.str "__dict__" 579,.ref 268,.builtin "function.__dict__", .builtin "function.__dict__#set"],#[]⟩) ::
 (nat_lit 270,⟨.type "getset_descriptor", none,.fields #[.str "__weakref__" 581,.ref 268,.builtin "ExceptionGroup.__weakref__", .none],#[]⟩) ::
 (nat_lit 273,tUp #[]) ::
 (nat_lit 275,tUp #[.str "steps" 589,.str "line" 590]) ::
 (nat_lit 276,tUp #[]) ::
 (nat_lit 278,cOd "line_behind" 586 587 588 162 2 273 274 275 276 277 591 592) ::
 (nat_lit 279,fUn "line_behind" 28 "usewarden.numbered" 550 278) ::
 (nat_lit 280,tUp #[]) ::
 (nat_lit 282,tUp #[.str "step" 597,.str "line" 598,.str "lines" 599,.str "blocks" 600,.str "block" 601,.str "steps" 602]) ::
 (nat_lit 283,tUp #[]) ::
 (nat_lit 285,cOd "numbered_step" 594 595 596 164 2 280 281 282 283 284 603 604) ::
 (nat_lit 286,fUn "numbered_step" 29 "usewarden.numbered" 550 285) ::
 (nat_lit 287,tUp #[]) ::
 (nat_lit 289,tUp #[.str "steps" 609,.str "line" 610,.str "numbered" 611,.str "step" 612]) ::
 (nat_lit 290,tUp #[]) ::
 (nat_lit 292,cOd "numbered_steps" 606 607 608 172 2 287 288 289 290 291 613 614) ::
 (nat_lit 293,fUn "numbered_steps" 30 "usewarden.numbered" 550 292) ::
 (nat_lit 294,tUp #[]) ::
 (nat_lit 297,⟨.type "code", none,.fields #[.str "lend_lines" 618,.str "lend_lines" 619,.str "/claim/cut.py" 620,.int 178 0,.int 1 0,.int 0 0,.int 0 0,.int 3 0,.ref 294,.bool true,.int 181 0,.ref 295,.none,.none,.none,.ref 296,.int 621 0,.int 178 0,.str "/claim/cut.py" 622],#[]⟩) ::
 (nat_lit 298,fUn "lend_lines" 32 "usewarden.codes" 616 297) ::
 (nat_lit 299,tUp #[]) ::
 (nat_lit 301,tUp #[.str "program" 627,.str "slots" 628,.str "slot" 629,.str "holder" 630]) ::
 (nat_lit 302,tUp #[]) ::
 (nat_lit 304,cOd "slots_of" 624 625 626 180 1 299 300 301 302 303 631 632) ::
 (nat_lit 305,fUn "slots_of" 33 "usewarden.codes" 616 304) ::
 (nat_lit 306,tUp #[]) ::
 (nat_lit 309,⟨.type "code", none,.fields #[.str "simple_row" 634,.str "simple_row" 635,.str "/claim/cut.py" 636,.int 185 0,.int 2 0,.int 0 0,.int 0 0,.int 3 0,.ref 306,.bool true,.int 181 0,.ref 307,.none,.none,.none,.ref 308,.int 637 0,.int 185 0,.str "/claim/cut.py" 638],#[]⟩) ::
 (nat_lit 310,fUn "simple_row" 34 "usewarden.codes" 616 309) ::
 (nat_lit 311,tUp #[]) ::
 (nat_lit 313,tUp #[.str "step" 643,.str "at" 644,.str "slots" 645,.str "turned" 646,.str "line" 647,.str "back" 648,.str "giver" 649,.str "taker" 650,.str "lent" 651,.str "ahead" 652,.str "within" 653]) ::
 (nat_lit 314,tUp #[]) ::
 (nat_lit 316,cOd "lend_rows" 640 641 642 190 4 311 312 313 314 315 654 655) ::
 (nat_lit 317,fUn "lend_rows" 35 "usewarden.codes" 616 316) ::
 (nat_lit 318,tUp #[]) ::
 (nat_lit 320,tUp #[.str "step" 660,.str "at" 661,.str "slots" 662,.str "turned" 663,.str "more" 664,.str "jump" 665,.str "rest" 666,.str "behind" 667,.str "test" 668]) ::
 (nat_lit 321,tUp #[]) ::
 (nat_lit 323,cOd "if_rows" 657 658 659 199 4 318 319 320 321 322 669 670) ::
 (nat_lit 324,fUn "if_rows" 36 "usewarden.codes" 616 323) ::
 (nat_lit 325,tUp #[]) ::
 (nat_lit 327,tUp #[.str "step" 675,.str "at" 676,.str "slots" 677,.str "within" 678,.str "behind" 679]) ::
 (nat_lit 328,tUp #[]) ::
 (nat_lit 330,cOd "loop_rows" 672 673 674 206 3 325 326 327 328 329 680 681) ::
 (nat_lit 331,fUn "loop_rows" 37 "usewarden.codes" 616 330) ::
 (nat_lit 332,tUp #[]) ::
 (nat_lit 334,tUp #[.str "step" 686,.str "at" 687,.str "slots" 688,.str "turned" 689,.str "first" 690,.str "loop" 691,.str "behind" 692]) ::
 (nat_lit 335,tUp #[]) ::
 (nat_lit 337,cOd "while_rows" 683 684 685 210 4 332 333 334 335 336 693 694) ::
 (nat_lit 338,fUn "while_rows" 38 "usewarden.codes" 616 337) ::
 (nat_lit 339,tUp #[]) ::
 (nat_lit 341,tUp #[.str "steps" 699,.str "at" 700,.str "slots" 701,.str "turned" 702,.str "rows" 703,.str "step" 704,.str "place" 705]) ::
 (nat_lit 342,tUp #[]) ::
 (nat_lit 344,cOd "rows_of" 696 697 698 217 4 339 340 341 342 343 706 707) ::
 (nat_lit 345,fUn "rows_of" 39 "usewarden.codes" 616 344) ::
 (nat_lit 346,tUp #[]) ::
 (nat_lit 348,tUp #[.str "program" 712,.str "turned" 713,.str "steps" 714]) ::
 (nat_lit 349,tUp #[]) ::
 (nat_lit 351,cOd "rows_and_end" 709 710 711 230 2 346 347 348 349 350 715 716) ::
 (nat_lit 352,fUn "rows_and_end" 40 "usewarden.codes" 616 351) ::
 (nat_lit 353,tUp #[]) ::
 (nat_lit 355,tUp #[.str "program" 721]) ::
 (nat_lit 356,tUp #[]) ::
 (nat_lit 358,cOd "code_of" 718 719 720 233 1 353 354 355 356 357 722 723) ::
 (nat_lit 359,fUn "code_of" 41 "usewarden.codes" 616 358) ::
 (nat_lit 360,tUp #[]) ::
 (nat_lit 362,tUp #[.str "program" 728]) ::
 (nat_lit 363,tUp #[]) ::
 (nat_lit 365,cOd "turned_code" 725 726 727 235 1 360 361 362 363 364 729 730) ::
 (nat_lit 366,fUn "turned_code" 42 "usewarden.codes" 616 365) ::
 (nat_lit 367,tUp #[]) ::
 (nat_lit 369,tUp #[.str "run" 737,.str "step" 738,.str "line" 739,.str "parts" 740]) ::
 (nat_lit 370,tUp #[]) ::
 (nat_lit 372,cOd "do_simple" 734 735 736 238 2 367 368 369 370 371 741 742) ::
 (nat_lit 373,fUn "do_simple" 44 "usewarden.plainruns" 732 372) ::
 (nat_lit 374,tUp #[]) ::
 (nat_lit 376,tUp #[.str "run" 747,.str "step" 748,.str "lent" 749]) ::
 (nat_lit 377,tUp #[]) ::
 (nat_lit 379,cOd "do_lend" 744 745 746 251 2 374 375 376 377 378 750 751) ::
 (nat_lit 380,fUn "do_lend" 45 "usewarden.plainruns" 732 379) ::
 (nat_lit 381,tUp #[]) ::
 (nat_lit 383,tUp #[.str "run" 756,.str "step" 757]) ::
 (nat_lit 384,tUp #[]) ::
 (nat_lit 386,cOd "do_if" 753 754 755 258 2 381 382 383 384 385 758 759) ::
 (nat_lit 387,fUn "do_if" 46 "usewarden.plainruns" 732 386) ::
 (nat_lit 388,tUp #[]) ::
 (nat_lit 390,tUp #[.str "run" 764,.str "step" 765]) ::
 (nat_lit 391,tUp #[]) ::
 (nat_lit 393,cOd "do_while" 761 762 763 263 2 388 389 390 391 392 766 767) ::
 (nat_lit 394,fUn "do_while" 47 "usewarden.plainruns" 732 393) ::
 (nat_lit 395,tUp #[]) ::
 (nat_lit 397,tUp #[.str "run" 772,.str "steps" 773,.str "step" 774]) ::
 (nat_lit 398,tUp #[]) ::
 (nat_lit 400,cOd "do_steps" 769 770 771 266 2 395 396 397 398 399 775 776) ::
 (nat_lit 401,fUn "do_steps" 48 "usewarden.plainruns" 732 400) ::
 (nat_lit 402,tUp #[]) ::
 (nat_lit 404,tUp #[.str "program" 781,.str "inputs" 782,.str "steps" 783,.str "run" 784]) ::
 (nat_lit 405,tUp #[]) ::
 (nat_lit 407,cOd "run_plain" 778 779 780 276 2 402 403 404 405 406 785 786) ::
 (nat_lit 408,fUn "run_plain" 49 "usewarden.plainruns" 732 407) ::
 (nat_lit 409,tUp #[]) ::
 (nat_lit 411,tUp #[.str "_law_script" 793,.str "_law_k" 794]) ::
 (nat_lit 412,tUp #[]) ::
 (nat_lit 414,cOd "_law_cell_at" 790 791 792 283 2 409 410 411 412 413 795 796) ::
 (nat_lit 415,fUn "_law_cell_at" 51 "law_usewarden_k38_whole_three_runs_alike" 788 414) ::
 (nat_lit 416,tUp #[]) ::
 (nat_lit 419,⟨.type "code", none,.fields #[.str "_law_names" 798,.str "_law_names" 799,.str "/claim/cut.py" 800,.int 287 0,.int 1 0,.int 0 0,.int 0 0,.int 3 0,.ref 416,.bool true,.int 181 0,.ref 417,.none,.none,.none,.ref 418,.int 801 0,.int 287 0,.str "/claim/cut.py" 802],#[]⟩) ::
 (nat_lit 420,fUn "_law_names" 52 "law_usewarden_k38_whole_three_runs_alike" 788 419) ::
 (nat_lit 421,tUp #[]) ::
 (nat_lit 423,tUp #[.str "_law_cell" 807,.str "_law_way" 808]) ::
 (nat_lit 424,tUp #[]) ::
 (nat_lit 426,cOd "_law_bound" 804 805 806 302 1 421 422 423 424 425 809 810) ::
 (nat_lit 427,fUn "_law_bound" 53 "law_usewarden_k38_whole_three_runs_alike" 788 426) ::
 (nat_lit 428,tUp #[]) ::
 (nat_lit 430,tUp #[.str "_law_cell" 815,.str "_law_x" 816,.str "_law_y" 817,.str "_law_names_here" 818,.str "_law_kind" 819,.str "_law_words" 820]) ::
 (nat_lit 431,tUp #[]) ::
 (nat_lit 433,cOd "_law_step" 812 813 814 309 4 428 429 430 431 432 821 822) ::
 (nat_lit 434,fUn "_law_step" 54 "law_usewarden_k38_whole_three_runs_alike" 788 433) ::
 (nat_lit 435,tUp #[]) ::
 (nat_lit 437,tUp #[.str "_law_here" 827,.str "_law_pile" 828,.str "_law_lines" 829,.str "_law_cell" 830,.str "_law_x" 831,.str "_law_y" 832,.str "_law_inner" 833,.str "_law_bound_here" 834,.str "_law_others" 835]) ::
 (nat_lit 438,tUp #[]) ::
 (nat_lit 440,cOd "_law_begun" 824 825 826 321 6 435 436 437 438 439 836 837) ::
 (nat_lit 441,fUn "_law_begun" 55 "law_usewarden_k38_whole_three_runs_alike" 788 440) ::
 (nat_lit 442,tUp #[]) ::
 (nat_lit 445,⟨.type "code", none,.fields #[.str "_law_program" 839,.str "_law_program" 840,.str "/claim/cut.py" 841,.int 340 0,.int 2 0,.int 0 0,.int 0 0,.int 3 0,.ref 442,.bool true,.int 181 0,.ref 443,.none,.none,.none,.ref 444,.int 842 0,.int 340 0,.str "/claim/cut.py" 843],#[]⟩) ::
 (nat_lit 446,fUn "_law_program" 56 "law_usewarden_k38_whole_three_runs_alike" 788 445) ::
 (nat_lit 447,tUp #[]) ::
 (nat_lit 450,⟨.type "code", none,.fields #[.str "_law_inputs" 845,.str "_law_inputs" 846,.str "/claim/cut.py" 847,.int 366 0,.int 2 0,.int 0 0,.int 0 0,.int 3 0,.ref 447,.bool true,.int 181 0,.ref 448,.none,.none,.none,.ref 449,.int 848 0,.int 366 0,.str "/claim/cut.py" 849],#[]⟩) ::
 (nat_lit 451,fUn "_law_inputs" 57 "law_usewarden_k38_whole_three_runs_alike" 788 450) ::
 (nat_lit 452,tUp #[]) ::
 (nat_lit 454,tUp #[.str "_law_script" 854,.str "_law_names_here" 855,.str "_law_cut" 856,.str "_law_program_here" 857,.str "_law_lines" 858]) ::
 (nat_lit 455,tUp #[]) ::
 (nat_lit 457,cOd "_law_drawn" 851 852 853 375 1 452 453 454 455 456 859 860) ::
 (nat_lit 458,fUn "_law_drawn" 58 "law_usewarden_k38_whole_three_runs_alike" 788 457) ::
 (nat_lit 459,tUp #[]) ::
 (nat_lit 461,tUp #[.str "_law_found" 865]) ::
 (nat_lit 462,tUp #[]) ::
 (nat_lit 464,cOd "_law_whole" 862 863 864 380 1 459 460 461 462 463 866 867) ::
 (nat_lit 465,fUn "_law_whole" 59 "law_usewarden_k38_whole_three_runs_alike" 788 464) ::
 (nat_lit 466,tUp #[]) ::
 (nat_lit 468,tUp #[.str "_law_found" 872,.str "_law_entry" 873]) ::
 (nat_lit 469,tUp #[]) ::
 (nat_lit 471,cOd "_law_is_log" 869 870 871 382 1 466 467 468 469 470 874 875) ::
 (nat_lit 472,fUn "_law_is_log" 60 "law_usewarden_k38_whole_three_runs_alike" 788 471) ::
 (nat_lit 473,tUp #[]) ::
 (nat_lit 475,tUp #[.str "_law_script" 880,.str "_law_program_here" 881,.str "_law_lines" 882,.str "_law_inputs_here" 883,.str "_law_code" 884,.str "_law_turned" 885,.str "_law_kept" 886,.str "_law_handed" 887,.str "_law_plain" 888,.str "_law_by_code" 889,.str "_law_by_turned" 890,.str "_law_found" 891,.str "_law_due" 892]) ::
 (nat_lit 476,tUp #[]) ::
 (nat_lit 478,cOd "law" 877 878 879 393 1 473 474 475 476 477 893 894) ::
 (nat_lit 479,fUn "law" 61 "law_usewarden_k38_whole_three_runs_alike" 788 478)::[]
def kk:List Addr:=[2,3,15,22,23,24,25,28,35,37,38,40,41,42,43,44,47,49,50,52,53,54,56,57,59,60,61,64,65,66,68,69,71,72,73,75,76,78,79,87,89,90,92,93,94,96,97,99,100,101,103,104,106,107,108,110,111,113,114,115,117,118,120,121,122,124,125,127,128,129,131,132,134,135,136,138,139,141,142,143,145,146,148,149,150,152,153,155,156,157,158,159,160,161,164,166,167,169,170,171,173,174,176,177,178,180,181,183,184,185,187,188,190,191,192,193,194,195,196,197,198,199,200,201,202,203,204,205,207,208,210,211,212,214,215,217,218,219,221,222,224,225,226,228,229,231,232,233,235,236,238,239,240,243,244,245,247,248,250,251,259,261,262,264,265,266,267,268,269,270,273,275,276,278,279,280,282,283,285,286,287,289,290,292,293,294,297,298,299,301,302,304,305,306,309,310,311,313,314,316,317,318,320,321,323,324,325,327,328,330,331,332,334,335,337,338,339,341,342,344,345,346,348,349,351,352,353,355,356,358,359,360,362,363,365,366,367,369,370,372,373,374,376,377,379,380,381,383,384,386,387,388,390,391,393,394,395,397,398,400,401,402,404,405,407,408,409,411,412,414,415,416,419,420,421,423,424,426,427,428,430,431,433,434,435,437,438,440,441,442,445,446,447,450,451,452,454,455,457,458,459,461,462,464,465,466,468,469,471,472,473,475,476,478,479]
theorem kk_eq:∀ P,kk=(KK P).map (·.1):=fun _=>by kernel_rfl
noncomputable abbrev HH:Hook:=kHook KK kk kk_eq
def qq:Program:=view PySem.Challenge.pw_usewarden_k38_whole_three_runs_alike [1,2,4,5,6,7,8,10,12,13,14,15,17,18,19,20,21,22,23,24,25,27,28,29,30,32,33,34,35,36,37,38,39,40,41,42,44,45,46,47,48,49,51,52,53,54,55,56,57,58,59,60,61]
def loo:List Str:=["PARTS", "CLOSERS"]
noncomputable def xt(s:Shared):Bool:=xlAt qq [] s&&recOk (RowW.records (OpenRow.toRowW (OpenLaw.row PySem.Challenge.rw_usewarden_k38_whole_three_runs_alike))) s
noncomputable def yM(s:Shared):=openSeen qq loo (importedModules (Program.main PySem.Challenge.pw_usewarden_k38_whole_three_runs_alike).body) xt true s
noncomputable def tE(w:World)(os:OsState):Option Shared:=(L2.tEnd PySem.Challenge.pw_usewarden_k38_whole_three_runs_alike w 3067 os).map SharedT.abs
noncomputable def tM(w:World):Prop:=∀ os,(tE w os).map (fun s=>(L2.tOk PySem.Challenge.pw_usewarden_k38_whole_three_runs_alike w s,Hook.obs HH s))=some (true,Hook.val HH w)
set_option maxRecDepth 1000000 in
theorem Hl(w:World):tM (w.withFollow "special-get-raises" false):=by unfold tM; intro os; kernel_rfl
set_option maxRecDepth 1000000 in
theorem Jn(w:World):tM (w.withFollow "special-get-raises" true):=by unfold tM; intro os; kernel_rfl
theorem Gu(w:World):tM w:=byRow2 "special-get-raises" (P:=tM) Hl Jn w
noncomputable def uu(w:World):Prop:=∀ os,(tE w os).map (fun s=>(yM s).1)=some (openGood qq loo).1
set_option maxRecDepth 1000000 in
theorem Jq(w:World):uu (w.withFollow "special-get-raises" false):=by unfold uu; intro os; kernel_rfl
set_option maxRecDepth 1000000 in
theorem F7(w:World):uu (w.withFollow "special-get-raises" true):=by unfold uu; intro os; kernel_rfl
theorem Jh(w:World):uu w:=byRow2 "special-get-raises" (P:=uu) Jq F7 w
noncomputable def tI(w:World):Prop:=∀ os,(tE w os).map (fun s=>(yM s).2)=some (openGood qq loo).2
set_option maxRecDepth 1000000 in
theorem Hy(w:World):tI (w.withFollow "special-get-raises" false):=by unfold tI; intro os; kernel_rfl
set_option maxRecDepth 1000000 in
theorem IB(w:World):tI (w.withFollow "special-get-raises" true):=by unfold tI; intro os; kernel_rfl
theorem Gq(w:World):tI w:=byRow2 "special-get-raises" (P:=tI) Hy IB w
theorem hl(w:World):(openEnds treeTable PySem.Challenge.pw_usewarden_k38_whole_three_runs_alike w 3067).map (fun s=>(yM s,Hook.obs HH s))=some (openGood qq loo,Hook.val HH w):=by
 refine L2.tLeft (by kernel_rfl) (by decide) (fun _=>by kernel_rfl) (by kernel_rfl) fun os=>?_
 obtain⟨s,e,h⟩:=Option.map_eq_some_iff.mp (Gu w os)
 have h2:=Jh w os;have h3:=Gq w os;rw[e]at h2 h3
 obtain⟨r,r1,rfl⟩:=Option.map_eq_some_iff.mp e
 exact⟨r,r1,(Prod.mk.inj h).1,congr (congrArg Prod.mk (Prod.ext (Option.some.inj h2) (Option.some.inj h3))) (Prod.mk.inj h).2⟩
end K38
-- CHANGE: your row's module here, as the last of these rows
namespace L2
open PySem PySem.Spec PyProof.Rows
abbrev aF:=Sum Int Str
def j9:aF→Value→Bool
 | .inl k,v=>Value.isInt k v
 | .inr x,v=>Value.isStrOf x v
def JB(w:World):aF→Int
 | .inl k=>hashInt k
 | .inr x=>hashStr w x
theorem cV:∀ {k:aF} {v:Value},j9 k v=true→(∃ i t,k=Sum.inl i∧v=Value.int i t)∨(∃ x t,k=Sum.inr x∧v=Value.str x t)
 | .inl i,v,h=>by
  obtain⟨t,e⟩:=Value.isInt_shape (k:=i) (v:=v) h
  exact .inl ⟨i,t,rfl,e⟩
 | .inr x,v,h=>by
  obtain⟨t,e⟩:=Value.isStrOf_shape (x:=x) (v:=v) h
  exact .inr ⟨x,t,rfl,e⟩
theorem yq(i:Int)(t:Tok):j9 (.inl i) (.int i t)=true:=by simp[j9,Value.isInt]
theorem wD(x:Str)(t:Tok):j9 (.inr x) (.str x t)=true:=by simp[j9,Value.isStrOf]
theorem C0(a b:Int):decide ((Sum.inl a:aF)=Sum.inl b)=(a == b):=by
 by_cases e:a=b
 ·subst e; simp
 ·have h:¬ (Sum.inl a:aF)=Sum.inl b:=fun q=>e (Sum.inl.inj q)
  rw[decide_eq_false h];exact(beq_eq_false_iff_ne.mpr e).symm
theorem EO(a b:Str):decide ((Sum.inr a:aF)=Sum.inr b)=decide (a=b):=by
 by_cases e:a=b
 ·subst e; simp
 ·have h:¬ (Sum.inr a:aF)=Sum.inr b:=fun q=>e (Sum.inr.inj q)
  rw[decide_eq_false h,decide_eq_false e]
theorem E7(a:Int)(b:Str):decide ((Sum.inl a:aF)=Sum.inr b)=false:=decide_eq_false (fun q=>nomatch q)
theorem DK(a:Str)(b:Int):decide ((Sum.inr a:aF)=Sum.inl b)=false:=decide_eq_false (fun q=>nomatch q)
def cJ(prog:Program)(w:World):PySem.KeyKind prog w aF where
 is:=j9
 hash:=JB w
 inj:=fun v a b ha hb=>by
  rcases cV ha with ⟨i,t,rfl,rfl⟩ | ⟨x,t,rfl,rfl⟩
  ·rcases cV hb with ⟨j,u,rfl,e⟩ | ⟨y,u,rfl,e⟩
   ·injection e with e1 _; rw[e1]
   ·exact nomatch e
  ·rcases cV hb with ⟨j,u,rfl,e⟩ | ⟨y,u,rfl,e⟩
   ·exact nomatch e
   ·injection e with e1 _; rw[e1]
 byValue:=fun k v h=>by
  rcases cV h with ⟨i,t,rfl,rfl⟩ | ⟨x,t,rfl,rfl⟩ <;> rfl
 pyHash:=fun hv h=>by
  rcases cV hv with ⟨i,t,rfl,rfl⟩ | ⟨x,t,rfl,rfl⟩
  ·exact wpAny_pyHash_int h
  ·exact wpAny_pyHash_str h
 eqBool:=fun hu hv h=>by
  rcases cV hu with ⟨i,t,rfl,rfl⟩ | ⟨x,t,rfl,rfl⟩
  ·rcases cV hv with ⟨j,u,rfl,rfl⟩ | ⟨y,u,rfl,rfl⟩
   ·rw[C0]at h; exact wpAny_eqBool_int h
   ·rw[E7]at h; exact SeqAt.EqAt.int_str i t y u _ _ _ _ h
  ·rcases cV hv with ⟨j,u,rfl,rfl⟩ | ⟨y,u,rfl,rfl⟩
   ·rw[DK]at h; exact SeqAt.EqAt.str_int x t j u _ _ _ _ h
   ·rw[EO]at h; exact wpAny_eqBool_str h
 «strs»:=fun k x t v h=>by
  rcases cV h with ⟨i,u,rfl,e⟩ | ⟨y,u,rfl,e⟩
  ·exact nomatch e
  ·injection e with e1 _
   subst e1
   cases v <;> rfl
theorem sg(prog:Program)(w:World)(i:Int)(t:Tok):(cJ prog w).is (.inl i) (.int i t)=true:=yq i t
theorem rV(prog:Program)(w:World)(x:Str)(t:Tok):(cJ prog w).is (.inr x) (.str x t)=true:=wD x t
end L2
namespace L2
open PySem PySem.Spec PyProof.Rows
set_option genSizeOf false in
inductive V where
 | non | bl (b:Bool) | int (i:Int) | str (x:Str) | byt (b:Array UInt8) | flt (b:UInt64) | ref (a:Addr) | ty (n:String)
 deriving DecidableEq
def RelV:V→Value→Prop
 | .non,u=>u=Value.none
 | .bl b,u=>u=Value.bool b
 | .int i,u=>∃ t,u=Value.int i t
 | .str x,u=>∃ t,u=Value.str x t
 | .byt b,u=>∃ t,u=Value.bytes b t
 | .flt b,u=>∃ t,u=Value.float b t
 | .ref a,u=>u=Value.ref a
 | .ty n,u=>u=Value.type n
abbrev Vals:List V→List Value→Prop:=Paired RelV
theorem Vals.length{xs:List V}{us:List Value}(r:Vals xs us):xs.length=us.length:=Paired.length r
theorem Vals.get:∀ {xs:List V} {us:List Value} {i:Nat} {x:V},Vals xs us→xs[i]? = some x→∃ u,us[i]? = some u∧RelV x u
 | _,_,_,_,.nil,e=>by simp at e
 | _,_,0,_,.cons r _,e=>by simp at e; subst e; exact⟨_,rfl,r⟩
 | _,_,i+1,x,.cons _ t,e=>by
  obtain⟨u,h1,h2⟩:=Vals.get (i:=i) (x:=x) t (by simpa using e)
  exact⟨u,by simpa using h1,h2⟩
theorem Vals.append:∀ {xs ys:List V} {us ws:List Value},Vals xs us→Vals ys ws→Vals (xs++ys) (us++ws)
 | _,_,_,_,.nil,s=>s
 | _,_,_,_,.cons r t,s=>.cons r (Vals.append t s)
theorem Vals.take:∀ {xs:List V} {us:List Value} (n:Nat),Vals xs us→Vals (xs.take n) (us.take n)
 | _,_,0,_=>.nil
 | _,_,_+1,.nil=>.nil
 | _,_,n+1,.cons r t=>.cons r (Vals.take n t)
theorem Vals.drop:∀ {xs:List V} {us:List Value} (n:Nat),Vals xs us→Vals (xs.drop n) (us.drop n)
 | _,_,0,r=>r
 | _,_,_+1,.nil=>.nil
 | _,_,n+1,.cons _ t=>Vals.drop n t
def RelO:Option V→Option Value→Prop
 | some v,some u=>RelV v u
 | none,none=>True
 | _,_=>False
def KV{κ : Type}:List (κ × V)→List (κ × Value)→Prop:=Paired fun (p:κ × V) (q:κ × Value)=>p.1=q.1∧RelV p.2 q.2
def kV:aF→V
 | .inl i=>.int i
 | .inr x=>.str x
set_option genSizeOf false in
inductive HO where
 /-- a list -/
 | lst (xs:List V)
 /-- a tuple (never changes) -/
 | tup (xs:List V)
 /-- a dict whose keys are ints and texts; one whose keys are tuples of ints and texts (the empty one is both) -/
 | dK (kvs:List (aF × V)) | dT (kvs:List (List aF × V))
 /-- a set of ints: its members, its size -/
 | set (S:Int→Bool) (n:Nat)
 /-- an instance of the class at C, its dict at dx, its attributes -/
 | ins (C dx:Addr) (fs:List (Str × V))
 /-- the dict of the instance at x -/
 | own (x:Addr)
 /-- the dict of an exception -/
 | xd (fs:List (Str × V))
 /-- a bound method, f of x -/
 | met (f x:Addr)
 /-- a range object lo, lo+1, .. below hi -/
 | rng (lo hi:Int)
 /-- a thing that is known to the object (the script; a dict while a loop walks it): read, never written while it is so -/
 | frz (o:Obj) (u:HO)
 /-- a code object's table -/
 | tbl (ps:Array Value)
 /-- any other thing, by what is true of its one object (a def of one's own: SetO a S n := HO.ext fun h => ..) -/
 | ext (φ : Heap→Prop)
abbrev Hp:=Addr→Option HO
def upd(H:Hp)(a:Addr)(o:HO):Hp:=fun b=>if b=a then some o else H b
theorem ah{H:Hp}{a:Addr}{o:HO}:upd H a o a=some o:=by unfold upd; rw[if_pos rfl]
theorem ai{H:Hp}{a b:Addr}{o:HO}(h:b≠a):upd H a o b=H b:=by unfold upd; rw[if_neg h]
theorem bW{H:Hp}{a b:Addr}{o u:HO}(h:H a=some o)(h':H b=some u)(d:o≠u):a≠b:=by
 intro e; subst e; rw[h]at h'; exact d (Option.some.inj h')
theorem av{H:Hp}{a b:Addr}{o:HO}(h:H a=some o)(h':H b=none):a≠b:=by
 intro e; subst e; rw[h]at h'; cases h'
def IsTupN(h:Heap)(a:Addr)(items:Array Value):Prop:=∃ o,h.get? a=some o∧o.cls = .type "tuple" ∧ o.dict=none∧∃ n,o.data = .seq items n
theorem IsTupN.tup{h:Heap}{a:Addr}{items:Array Value}(x:IsTupN h a items):IsTup h a items:=let ⟨o,e,c,_,d⟩:=x; ⟨o,e,c,d⟩
theorem IsTupN.lt{h:Heap}{a:Addr}{items:Array Value}(x:IsTupN h a items):a<h.objs.size:=let ⟨_,e,_⟩:=x; Heap.lt_size e
theorem IsTupN.new(h:Heap)(items:Array Value):IsTupN (h.push { cls:=.type "tuple", data:=.seq items }) h.objs.size items:=⟨_,Heap.get?_push_size _ rfl,rfl,rfl,_,rfl⟩
section
variable(P:Program)(w:World)
def ObjOk(H:Hp)(h:Heap)(a:Addr):HO→Prop
 | .lst xs=>xs.length≤sizeLine∧∃ (its:List Value) (n:Nat),Vals xs its∧h.get? a=some { cls:=.type "list", data:=.seq its.toArray n }
 | .tup xs=>xs.length≤sizeLine∧∃ its:List Value,Vals xs its∧IsTupN h a its.toArray
 | .dK kvs=>kvs.length≤sizeLine∧(a == sysModules)=false∧∃ vs,KV kvs vs∧h.DictOf (cJ P w) a vs
 | .dT kvs=>kvs.length≤sizeLine∧(a == sysModules)=false∧∃ xs:List (List aF × Addr × Value),
   Paired (fun (p:List aF × V) (q:List aF × Addr × Value)=>p.1=q.1∧H q.2.1=some (.tup (p.1.map kV))∧RelV p.2 q.2.2) kvs xs∧
   ∃ o es ep,h.get? a=some o∧o.ExactDict∧o.data = .dict es ep∧es.toList=xs.map (entryOfKey (tupleKind (cJ P w)))∧(xs.map (·.1)).Nodup
 | .set S n=>h.SetOf (intKind P w) a S n
 | .ins C dx fs=>H dx=some (.own a)∧fs.length≤1000∧dx≠a∧h.get? a=some (PySem.W.instObj C dx)∧
   ∃ mA,h.Ns1 dx mA∧(∀ f,RelO (fs.lookup f) (mA f))∧PySem.Within mA (fs.map (·.1))
 | .own _=>∃ o,h.get? a=some o
 | .xd fs=>∃ mA,h.Ns1 a mA∧∀ f,RelO (fs.lookup f) (mA f)
 | .rng lo hi=>∃ t u v,h.get? a=some { cls:=.type "range", data:=.fields #[.int lo t,.int hi u,.int 1 v] }
 | .frz o u=>h.get? a=some o∧ObjOk H h a u
 | .tbl ps=>h.get? a=some { cls:=.none,data:=.fields ps }
 | .met f x=>h.get? a=some (PySem.W.methodObj (.ref f) (.ref x))
 | .ext φ=>φ h∧(∃ o,h.get? a=some o)∧∀ h1 h2:Heap,φ h1→(∀ o,h1.get? a=some o→h2.get? a=some o)→φ h2
def HOk(H:Hp)(h:Heap):Prop:=∀ a o,H a=some o→ObjOk P w H h a o
end
section
variable{P:Program}{w:World}{H H':Hp}{h h':Heap}{a:Addr}{o:HO}
theorem ObjOk.lt(x:ObjOk P w H h a o):a<h.objs.size:=by
 cases o with
 | lst xs=>obtain⟨_,_,_,_,e⟩:=x; exact Heap.lt_size e
 | tup xs=>obtain⟨_,_,_,p⟩:=x; exact p.lt
 | dK kvs=>obtain⟨_,_,_,_,o,_,_,e,_⟩:=x; exact Heap.lt_size e
 | dT kvs=>obtain⟨_,_,_,_,o,_,_,e,_⟩:=x; exact Heap.lt_size e
 | set S n=>obtain⟨o,_,_,_,e,_⟩:=x; exact Heap.lt_size e
 | ins C dx fs=>obtain⟨_,_,_,e,_⟩:=x; exact Heap.lt_size e
 | own y=>obtain⟨_,e⟩:=x; exact Heap.lt_size e
 | xd fs=>obtain⟨_,⟨_,_,_,e,_⟩,_⟩:=x; exact Heap.lt_size e
 | rng lo hi=>obtain⟨_,_,_,e⟩:=x; exact Heap.lt_size e
 | frz ob u=>obtain⟨e,_⟩:=x; exact Heap.lt_size e
 | tbl ps=>exact Heap.lt_size (show h.get? a=some _ from x)
 | met f y=>exact Heap.lt_size (show h.get? a=some _ from x)
 | ext φ=>obtain⟨_,⟨_,e⟩,_⟩:=x; exact Heap.lt_size e
theorem Paired.mapP{α β : Type}{F G:α→β→Prop}:∀ {l₁:List α} {l₂:List β},Paired F l₁ l₂→(∀ a b,F a b→G a b)→Paired G l₁ l₂
 | _,_,.nil,_=>.nil
 | _,_,.cons r t,f=>.cons (f _ _ r) (Paired.mapP t f)
theorem Paired.imp'{α β : Type}{F G:α→β→Prop}(f:∀ a b,F a b→G a b){l₁:List α}{l₂:List β}(r:Paired F l₁ l₂):Paired G l₁ l₂:=Paired.mapP r f
theorem ObjOk.stay(x:ObjOk P w H h a o)(k:∀ b u,(b=a∨H b=some (.own a))→h.get? b=some u→h'.get? b=some u)
  (ho:∀ b,H b=some (.own a)→H' b=some (.own a)) (ht:∀ b xs,H b=some (.tup xs)→H' b=some (.tup xs)):ObjOk P w H' h' a o:=by
 induction o with
 | lst xs=>obtain⟨z,its,n,r,e⟩:=x; exact⟨z,its,n,r,k _ _ (.inl rfl) e⟩
 | tup xs=>obtain⟨z,its,r,ob,e,c⟩:=x; exact⟨z,its,r,ob,k _ _ (.inl rfl) e,c⟩
 | dK kvs=>obtain⟨z,y,vs,r,ob,es,ep,e,c⟩:=x; exact⟨z,y,vs,r,ob,es,ep,k _ _ (.inl rfl) e,c⟩
 | dT kvs=>
  obtain⟨z,y,xs,r,ob,es,ep,e,c⟩:=x
  exact⟨z,y,xs,Paired.mapP r fun p q z=>⟨z.1,ht _ _ z.2.1,z.2.2⟩,ob,es,ep,k _ _ (.inl rfl) e,c⟩
 | set S n=>obtain⟨ob,es,ep,t,e,c⟩:=x; exact⟨ob,es,ep,t,k _ _ (.inl rfl) e,c⟩
 | ins C dx fs=>
  obtain⟨d,z,ne,e,mA,⟨od,es,ep,e2,c⟩,r⟩:=x
  exact⟨ho _ d,z,ne,k _ _ (.inl rfl) e,mA,⟨od,es,ep,k _ _ (.inr d) e2,c⟩,r⟩
 | own y=>obtain⟨ob,e⟩:=x; exact⟨ob,k _ _ (.inl rfl) e⟩
 | xd fs=>obtain⟨mA,⟨od,es,ep,e,c⟩,r⟩:=x; exact⟨mA,⟨od,es,ep,k _ _ (.inl rfl) e,c⟩,r⟩
 | rng lo hi=>obtain⟨t,u,v,e⟩:=x; exact⟨t,u,v,k _ _ (.inl rfl) e⟩
 | frz ob u ih=>obtain⟨e,q⟩:=x; exact⟨k _ _ (.inl rfl) e,ih q⟩
 | tbl ps=>
  have e:h.get? a=some { cls:=.none,data:=.fields ps }:=x
  show h'.get? a=some { cls:=.none,data:=.fields ps }
  exact k a _ (.inl rfl) e
 | met f y=>
  have e:h.get? a=some (PySem.W.methodObj (.ref f) (.ref y)):=x
  show h'.get? a=some (PySem.W.methodObj (.ref f) (.ref y))
  exact k a _ (.inl rfl) e
 | ext φ=>obtain⟨p,⟨o,e⟩,st⟩:=x; exact⟨st _ _ p fun o q=>k _ _ (.inl rfl) q,⟨o,k _ _ (.inl rfl) e⟩,st⟩
theorem HOk.lt(x:HOk P w H h)(e:H a=some o):a<h.objs.size:=(x a o e).lt
theorem HOk.fresh(x:HOk P w H h)(e:h.objs.size≤a):H a=none:=by
 cases q:H a with
 | none=>rfl
 | some u=>exact absurd (Nat.lt_of_lt_of_le (x.lt q) e) (Nat.lt_irrefl _)
theorem HOk.kept(x:HOk P w H h)(k:∀ b u,h.get? b=some u→h'.get? b=some u):HOk P w H h':=fun a o e=>
 (x a o e).stay (fun b u _ q=>k b u q) (fun _ q=>q) fun _ _ q=>q
theorem HOk.laid(x:HOk P w H h)(k:∀ b u,h.get? b=some u→h'.get? b=some u)(hp:h.objs.size≤a)(new:ObjOk P w (upd H a o) h' a o):HOk P w (upd H a o) h':=fun b u e=>by
 have hn:=x.fresh hp
 by_cases hb:b=a
 ·subst hb; rw[ah]at e; cases e; exact new
 ·rw[ai hb]at e
  exact(x b u e).stay (fun c v _ q=>k c v q) (fun c q=>by rw[ai (av q hn)]; exact q) fun c xs q=>by rw[ai (av q hn)]; exact q
end
def Rd(H:Hp)(a:Addr)(u:HO):Prop:=H a=some u∨∃ o,H a=some (.frz o u)
theorem Rd.ok{P:Program}{w:World}{H:Hp}{h:Heap}{a:Addr}{u:HO}(r:Rd H a u)(x:HOk P w H h):ObjOk P w H h a u:=by
 rcases r with r | ⟨o,r⟩
 ·exact x a u r
 ·obtain⟨_,q⟩:=x a _ r
  exact q
def xi:Option HO→Prop
 | some (.lst _)=>True
 | some (.dK _)=>True
 | some (.dT _)=>True
 | some (.set _ _)=>True
 | some (.ins _ _ _)=>True
 | some (.ext _)=>True
 | _=>False
section
variable{P:Program}{w:World}{H:Hp}{h h':Heap}{x e:Addr}{o':HO}
theorem HOk.write(ok:HOk P w H h)(mu:xi (H x))(he:e=x∨H e=some (.own x))(k:∀ b u,b≠e→h.get? b=some u→h'.get? b=some u)(heo:∃ u,h'.get? e=some u)
  (new:ObjOk P w (upd H x o') h' x o'):HOk P w (upd H x o') h':=fun b u q=>by
 have nown:∀ c y,H c=some (.own y)→c≠x:=fun c y r z=>by subst z; rw[r]at mu; exact mu
 have ntup:∀ c xs,H c=some (.tup xs)→c≠x:=fun c xs r z=>by subst z; rw[r]at mu; exact mu
 by_cases hb:b=x
 ·subst hb; rw[ah]at q; cases q; exact new
 ·rw[ai hb]at q
  by_cases hbe:b=e
  ·have q':H b=some (.own x):=by
    rcases he with z | z
    ·exact absurd (hbe.trans z) hb
    ·rw[hbe]; exact z
   rw[q]at q'; cases q'
   obtain⟨v,hv⟩:=heo
   exact⟨v,by rw[hbe]; exact hv⟩
  ·refine(ok b u q).stay (fun c v hc r=>k c v ?_ r) (fun c r=>by rw[ai (nown c b r)]; exact r) fun c xs r=>by rw[ai (ntup c xs r)]; exact r
   rcases hc with rfl | hc
   ·exact hbe
   ·rintro rfl
    rcases he with z | z
    ·exact nown c b hc z
    ·rw[hc]at z; cases z; exact hb rfl
end
structure Un (fs ex:List Addr) (H H':Hp) (h h':Heap):Prop where
 keep:∀ b o,h.get? b=some o→H b=none→b∉fs→b∉ex→h'.get? b=some o
 slot:∀ b o,h.get? b=some o→H b=none→b∈fs→b∉ex→∃ sl,h'.get? b=some { o with slots:=sl }
 free:∀ b o,h.get? b=some o→H b=none→b∉ex→H' b=none
 there:∀ b o,h.get? b=some o→b∉ex→∃ o',h'.get? b=some o'
 tups:∀ b xs,H b=some (.tup xs)→H' b=some (.tup xs)
 frzs:∀ b o u,H b=some (.frz o u)→H' b=some (.frz o u)
 tbls:∀ b ps,H b=some (.tbl ps)→∃ more,H' b=some (.tbl (ps++more))
section
variable{fs fs' ex ex':List Addr}{H H1 H2:Hp}{h h1 h2 h':Heap}{a x e:Addr}{o:HO}
theorem Un.any(u:Un fs ex H H1 h h1){b:Addr}{ob:Obj}(q:h.get? b=some ob)(n:H b=none)(hx:b∉ex):∃ sl,h1.get? b=some { ob with slots:=sl }:=by
 by_cases hb:b∈fs
 ·exact u.slot b ob q n hb hx
 ·exact⟨ob.slots,u.keep b ob q n hb hx⟩
theorem Un.kept(k:∀ b u,h.get? b=some u→h'.get? b=some u):Un fs ex H H h h':=
 ⟨fun b ob q _ _ _=>k b ob q,fun b ob q _ _ _=>⟨ob.slots,k b ob q⟩,fun _ _ _ n _=>n,fun b ob q _=>⟨ob,k b ob q⟩,fun _ _ q=>q,fun _ _ _ q=>q,fun _ ps q=>⟨#[],by rw[q]; simp⟩⟩
theorem Un.refl:Un fs ex H H h h:=Un.kept fun _ _ q=>q
theorem Un.laid(k:∀ b u,h.get? b=some u→h'.get? b=some u)(hp:h.objs.size≤a)(hn:H a=none):Un fs ex H (upd H a o) h h' where
 keep:=fun b u q _ _ _=>k b u q
 slot:=fun b u q _ _ _=>⟨u.slots,k b u q⟩
 free:=fun b u q n _=>by rw[ai (Nat.ne_of_lt (Nat.lt_of_lt_of_le (Heap.lt_size q) hp))]; exact n
 there:=fun b u q _=>⟨u,k b u q⟩
 tups:=fun b xs q=>by rw[ai (av q hn)]; exact q
 frzs:=fun b u xs q=>by rw[ai (av q hn)]; exact q
 tbls:=fun b ps q=>⟨#[],by rw[ai (av q hn),q]; simp⟩
theorem Un.write(mu:xi (H x))(he:e=x∨H e=some (.own x))(k:∀ b u,b≠e→h.get? b=some u→h'.get? b=some u)(heo:∃ u,h'.get? e=some u):Un fs ex H (upd H x o) h h':=by
 have hx:∀ b,H b=none→b≠x:=fun b n z=>by subst z; rw[n]at mu; exact mu
 have hb:∀ b,H b=none→b≠e:=fun b n z=>by
  subst z;rcases he with r | r
  ·exact hx b n r
  ·rw[n]at r; cases r
 have hm:∀ b u,H b=some u→¬ xi (some u)→b≠x:=fun b u q nm z=>by subst z; rw[q]at mu; exact nm mu
 refine⟨fun b u q n _ _=>k b u (hb b n) q,fun b u q n _ _=>⟨u.slots,k b u (hb b n) q⟩,fun b u q n _=>by rw[ai (hx b n)]; exact n,fun b u q _=>?_,
  fun b xs q=>by rw[ai (hm b _ q fun z=>z)]; exact q,fun b u xs q=>by rw[ai (hm b _ q fun z=>z)]; exact q,fun b ps q=>⟨#[],by rw[ai (hm b _ q fun z=>z),q]; simp⟩⟩
 by_cases hbe:b=e
 ·subst hbe; exact heo
 ·exact⟨u,k b u hbe q⟩
end
def A2(h:Heap)(H:Hp):List Addr:=(List.range h.objs.size).filter fun a=>(H a).isSome
def iM(h:Heap)(H:Hp):Heap:=PySem.W.hideAll h (A2 h H)
theorem wW(h:Heap)(H:Hp):(iM h H).objs.size=h.objs.size:=PySem.W.hideAll_size _ _
theorem AC{h:Heap}{H:Hp}{b:Addr}{o:Obj}(e:h.get? b=some o)(n:H b=none):(iM h H).get? b=some o:=
 PySem.W.hideAll_get _ e fun hm=>by
  have q:(H b).isSome=true:=(List.mem_filter.mp hm).2
  rw[n]at q; simp at q
theorem B9{h:Heap}{H:Hp}{b:Addr}{o:Obj}(e:(iM h H).get? b=some o):h.get? b=some o∧H b=none:=by
 have e':h.get? b=some o:=PySem.W.of_hideAll (A2 h H) e
 refine⟨e',?_⟩
 cases q:H b with
 | none=>rfl
 | some x=>
  have hm:b∈A2 h H:=List.mem_filter.mpr ⟨List.mem_range.mpr (Heap.lt_size e'),by simp[q]⟩
  have z:(iM h H).get? b=none:=PySem.W.hideAll_none (A2 h H) hm
  rw[z]at e; cases e
def Ct(g h:Heap)(L:Addr):List (Addr × Obj):=(List.range h.objs.size).filterMap fun a=>if a=L∨(g.get? a).isSome=true then none else (h.get? a).map fun o=>(a,o)
def rest(g h:Heap)(L d:Addr):List (Addr × Obj):=(Ct g h L).filter fun p=>decide (p.1≠d)
end L2
namespace L2
open PySem PySem.Spec PyProof.Rows
structure Mod (K:PySem.W.Frag) (mg:Str→Option Value) (base:Heap):Prop where
 kin:K.In base
 glob:base.Ns mainGlobals mg
 blt:∃ mb,base.Ns builtinsNs mb∧∀ x:Str,x ≠ "__name__" → mb x=bootBuiltins x
 nolimit:base.NoLimit
set_option genInjectivity false in
set_option genSizeOf false in
structure Cx where
 prog:Program
 w:World
 K:PySem.W.Frag
 mg:Str→Option Value
 base:Heap
 A:Around
 N:List Str
 s₀ : Shared
 H₀ : Hp
 env:Env
 outer:List Env
 stack:List Env
 ex:List Addr
 fn:Str→Bool
 calm:Bool
 pn:List (Addr × Obj)
 xe:Value→Shared→Prop
def i_(l:List Env):List Addr:=l.filterMap (·.frame)
abbrev Cx.fs (X:Cx):List Addr:=i_ X.outer
def am(sc:Scope)(x:Str):Prop:=sc.names.lookup x=some .local∨sc.names.lookup x=some .cell∨sc.names.lookup x=some .free
def aN(sc:Scope)(x:Str):Prop:=sc.names.lookup x=some .local∨sc.names.lookup x=some .cell
def IJ(env:Env)(h:Heap)(m:Str→Option Value)(x:Str)(u:Value):Prop:=
 (env.kindOf x=some .local∧m x=some u)∨((env.kindOf x=some .cell∨env.kindOf x=some .free)∧∃ c,env.cells.lookup x=some c∧h.IsCell c (some u))
structure Cx.Ok (X:Cx):Prop where
 mod:Mod X.K X.mg X.base
 kind:X.env.scope.kind = .function
 glob:X.env.globals=mainGlobals
 blt:X.env.builtins=builtinsNs
 above:X.s₀.heap.objs.size≤X.env.locals
 inj:∀ x y c,X.env.cells.lookup x=some c→X.env.cells.lookup y=some c→x=y
 has:∀ x,(X.env.kindOf x=some .cell∨X.env.kindOf x=some .free)→∃ c,X.env.cells.lookup x=some c
 cab:∀ x c,X.fn x=true→X.env.cells.lookup x=some c→X.s₀.heap.objs.size≤c
 hd:X.calm=true→X.A.handled=none
 frames:X.A.frames=some X.stack
 stk:X.stack=X.outer∨(X.stack=X.env::X.outer∧X.env.frame=some X.env.locals)
 exf:∀ b∈X.ex,b≠X.env.locals∧∀ x c,X.env.cells.lookup x=some c→c≠b
 bs:∀ b o,X.base.get? b=some o→X.s₀.heap.get? b=some o∧X.H₀ b=none
 bsz:X.base.objs.size≤X.s₀.heap.objs.size
 noex:∀ b o,X.base.get? b=some o→b∉X.ex
 exfs:∀ b∈X.ex,b∉X.fs
 funs:X.s₀.heap.FunFrames X.base X.outer
 frf:∀ b∈X.fs,X.H₀ b=none
structure Inv (X:Cx) (pins:List (Addr × Obj)) (σ : List (Option V)) (H:Hp) (s:Shared):Prop where
 ok:X.Ok
 os:s.os=X.s₀.os
 bare:AllBare s.gens
 base:Un X.fs X.ex X.H₀ H X.s₀.heap s.heap
 loc:∃ m,s.heap.Ns X.env.locals m∧∀ (i:Nat) (x:Str) (v:V),X.N[i]? = some x→σ[i]? = some (some v)→am X.env.scope x→∃ u,RelV v u∧IJ X.env s.heap m x u
 cell:∀ x c,X.env.cells.lookup x=some c→∃ v,s.heap.IsCell c v
 free:H X.env.locals=none
 freeC:∀ x c,X.env.cells.lookup x=some c→H c=none
 pin:∀ p∈X.pn++pins,s.heap.get? p.1=some p.2∧H p.1=none∧p.1≠X.env.locals∧p.1∉X.fs∧∀ v,p.2.data ≠ .cell v
 hok:HOk X.prog X.w H s.heap
 len:σ.length=X.N.length
section
variable{X:Cx}{pins:List (Addr × Obj)}{σ : List (Option V)}{H H':Hp}{s:Shared}{h':Heap}
theorem Cx.Ok.nofr(ok:X.Ok){b:Addr}{o:Obj}(e:X.base.get? b=some o):b∉X.fs:=fun hb=>by
 have:=(ok.funs.mem hb).1
 rw[e]at this; cases this
theorem Inv.bs(I:Inv X pins σ H s):∀ b o,X.base.get? b=some o→s.heap.get? b=some o∧H b=none:=fun b o e=>
 ⟨I.base.keep b o (I.ok.bs b o e).1 (I.ok.bs b o e).2 (I.ok.nofr e) (I.ok.noex b o e),I.base.free b o (I.ok.bs b o e).1 (I.ok.bs b o e).2 (I.ok.noex b o e)⟩
theorem Inv.bk(I:Inv X pins σ H s):∀ b o,X.base.get? b=some o→s.heap.get? b=some o:=fun b o e=>(I.bs b o e).1
theorem Inv.mod(I:Inv X pins σ H s):Mod X.K X.mg X.base:=I.ok.mod
theorem Inv.kIn(I:Inv X pins σ H s):X.K.In s.heap:=I.ok.mod.kin.keeps I.bk
theorem Inv.lt(I:Inv X pins σ H s):X.env.locals<s.heap.objs.size:=let ⟨_,hn,_⟩:=I.loc; hn.lt
theorem Inv.sz(I:Inv X pins σ H s):X.s₀.heap.objs.size≤s.heap.objs.size:=Nat.le_trans I.ok.above (Nat.le_of_lt I.lt)
theorem Inv.nofs(I:Inv X pins σ H s){a:Addr}(h:s.heap.objs.size≤a):a∉X.fs:=fun hb=>by
 obtain⟨_,o,ho,_⟩:=I.ok.funs.mem hb
 exact absurd (Nat.lt_of_lt_of_le (Heap.lt_size ho) (Nat.le_trans I.sz h)) (Nat.lt_irrefl _)
theorem Inv.cne(I:Inv X pins σ H s):∀ x c,X.env.cells.lookup x=some c→c≠X.env.locals:=fun x c e z=>by
 obtain⟨v,o,ho,hd⟩:=I.cell x c e
 obtain⟨m,⟨o',es,ep,ho',hd',_⟩,_⟩:=I.loc
 rw[z,ho']at ho; cases ho; rw[hd']at hd; cases hd
theorem Inv.funs(I:Inv X pins σ H s):s.heap.FunFrames X.base X.outer:=by
 have all:∀ (l:List Env),(∀ b∈i_ l,b∈X.fs)→X.s₀.heap.FunFrames X.base l→s.heap.FunFrames X.base l:=by
  intro l
  induction l with
  | nil=>intro _ _; trivial
  | cons env r ih=>
   intro hs hl
   obtain⟨hk,⟨L,o,hf,hn,ho,hd⟩,hr⟩:=hl
   have hL:L∈X.fs:=hs L (by unfold i_; rw[List.filterMap_cons,hf]; exact List.mem_cons_self)
   obtain⟨sl,e⟩:=I.base.slot L o ho (I.ok.frf L hL) hL fun z=>I.ok.exfs L z hL
   exact⟨hk,⟨L,_,hf,hn,e,hd⟩,ih (fun b hb=>hs b (by unfold i_; rw[List.filterMap_cons,hf]; exact List.mem_cons_of_mem _ hb)) hr⟩
 exact all X.outer (fun _ hb=>hb) I.ok.funs
theorem Inv.stack(I:Inv X pins σ H s):s.heap.FunFrames X.base X.stack:=by
 rcases I.ok.stk with e | ⟨e,hf⟩
 ·rw[e]; exact I.funs
 ·rw[e]
  obtain⟨m,hn,_⟩:=I.loc
  refine .cons (by rw[I.ok.kind]; decide) hf hn ?_ I.funs
  exact Heap.get?_none_of_le (Nat.le_trans I.ok.bsz I.ok.above)
theorem Inv.stkSub(I:Inv X pins σ H s):∀ b∈i_ X.stack,b∈X.env.locals::X.fs:=fun b hb=>by
 rcases I.ok.stk with e | ⟨e,hf⟩
 ·rw[e]at hb; exact List.mem_cons_of_mem _ hb
 ·rw[e]at hb
  unfold i_ at hb;rw[List.filterMap_cons,hf]at hb
  exact hb
theorem Inv.stkFree(I:Inv X pins σ H s):∀ b∈i_ X.stack,H b=none:=fun b hb=>by
 rcases List.mem_cons.mp (I.stkSub b hb) with e | hb
 ·rw[e]; exact I.free
 ·obtain⟨_,o,ho,_⟩:=I.ok.funs.mem hb
  exact I.base.free b o ho (I.ok.frf b hb) fun z=>I.ok.exfs b z hb
theorem Inv.step{g':Array GenState}{t':Nat}{d':Drawn}{ch:List Addr}(I:Inv X pins σ H s)
  (hch:∀ b∈ch,(b∈X.ex∨X.s₀.heap.objs.size≤b)∧b≠X.env.locals∧(∀ x c,X.env.cells.lookup x=some c→c≠b)∧∀ p∈X.pn++pins,p.1≠b)
  (keep:∀ b o,b≠X.env.locals→b∉X.fs→b∉ch→s.heap.get? b=some o→H b=none→h'.get? b=some o)
  (slot:∀ b o,b≠X.env.locals→b∈X.fs→b∉ch→s.heap.get? b=some o→H b=none→∃ sl,h'.get? b=some { o with slots:=sl }) (free:∀ b o,b∉ch→s.heap.get? b=some o→H b=none→H' b=none)
  (there:∀ b o,b∉ch→s.heap.get? b=some o→∃ o',h'.get? b=some o')
  (tups:∀ b xs,H b=some (.tup xs)→H' b=some (.tup xs)) (frzs:∀ b o u,H b=some (.frz o u)→H' b=some (.frz o u)) (tbls:∀ b ps,H b=some (.tbl ps)→∃ more,H' b=some (.tbl (ps++more)))
  (ns:∀ m,s.heap.Ns X.env.locals m→h'.Ns X.env.locals m) (hok:HOk X.prog X.w H' h') (hg:AllBare g') :
  Inv X pins σ H' { s with heap:=h',gens:=g',drawn:=d',toks:=t' }:=by
 have neL:∀ b o,X.s₀.heap.get? b=some o→b≠X.env.locals:=fun b o e=>Nat.ne_of_lt (Nat.lt_of_lt_of_le (Heap.lt_size e) I.ok.above)
 have neC:∀ b o,X.s₀.heap.get? b=some o→b∉X.ex→b∉ch:=fun b o e hx hb=>by
  rcases(hch b hb).1 with z | z
  ·exact hx z
  ·exact absurd (Nat.lt_of_lt_of_le (Heap.lt_size e) z) (Nat.lt_irrefl _)
 have cellK:∀ x c,X.env.cells.lookup x=some c→∀ v,s.heap.IsCell c v→h'.IsCell c v:=fun x c e v ⟨o,ho,hd⟩=>by
  have nch:c∉ch:=fun z=>(hch c z).2.2.1 x c e rfl
  by_cases hc:c∈X.fs
  ·obtain⟨sl,q⟩:=slot c o (I.cne x c e) hc nch ho (I.freeC x c e)
   exact⟨_,q,hd⟩
  ·exact⟨o,keep c o (I.cne x c e) hc nch ho (I.freeC x c e),hd⟩
 refine⟨I.ok,I.os,hg,⟨fun b o e n hb hx=>?_,fun b o e n hb hx=>?_,fun b o e n hx=>?_,fun b o e hx=>?_,fun b xs e=>tups b xs (I.base.tups b xs e),fun b o xs e=>frzs b o xs (I.base.frzs b o xs e),fun b ps e=>?_⟩,?_,fun x c e=>?_,?_,fun x c e=>?_,fun p hp=>?_,hok,I.len⟩
 ·exact keep b o (neL b o e) hb (neC b o e hx) (I.base.keep b o e n hb hx) (I.base.free b o e n hx)
 ·obtain⟨sl,e1⟩:=I.base.slot b o e n hb hx
  obtain⟨sl',e2⟩:=slot b _ (neL b o e) hb (neC b o e hx) e1 (I.base.free b o e n hx)
  exact⟨sl',e2⟩
 ·obtain⟨o',e1⟩:=I.base.there b o e hx
  exact free b o' (neC b o e hx) e1 (I.base.free b o e n hx)
 ·obtain⟨o',e1⟩:=I.base.there b o e hx
  exact there b o' (neC b o e hx) e1
 ·obtain⟨m1,e1⟩:=I.base.tbls b ps e
  obtain⟨m2,e2⟩:=tbls b _ e1
  exact⟨m1++m2,by rw[e2,Array.append_assoc]⟩
 ·obtain⟨m,hn,hl⟩:=I.loc
  refine⟨m,ns m hn,fun i x v e1 e2 e3=>?_⟩
  obtain⟨u,r,l⟩:=hl i x v e1 e2 e3
  refine⟨u,r,?_⟩
  rcases l with l | ⟨k,c,e,z⟩
  ·exact .inl l
  ·exact .inr ⟨k,c,e,cellK x c e _ z⟩
 ·obtain⟨v,z⟩:=I.cell x c e
  exact⟨v,cellK x c e v z⟩
 ·obtain⟨m,⟨o,_,_,ho,_⟩,_⟩:=I.loc
  exact free _ o (fun z=>(hch _ z).2.1 rfl) ho I.free
 ·obtain⟨v,o,ho,hd⟩:=I.cell x c e
  exact free c o (fun z=>(hch c z).2.2.1 x c e rfl) ho (I.freeC x c e)
 ·obtain⟨e,n,ne,nf,d⟩:=I.pin p hp
  have nch:p.1∉ch:=fun z=>(hch p.1 z).2.2.2 p hp rfl
  exact⟨keep p.1 p.2 ne nf nch e n,free p.1 p.2 nch e n,ne,nf,d⟩
theorem Inv.un{t':Nat}(I:Inv X pins σ H s)(u:Un X.fs [] H H' s.heap h')(hok:HOk X.prog X.w H' h'):Inv X pins σ H' { s with heap:=h',toks:=t' }:=by
 obtain⟨m,⟨o,es,ep,ho,r⟩,_⟩:=id I.loc
 obtain⟨sl,hL⟩:=u.any ho I.free (by simp)
 exact I.step (g':=s.gens) (d':=s.drawn) (ch:=[]) (fun _ z=>nomatch z) (fun b o _ hb _ e n=>u.keep b o e n hb (by simp)) (fun b o _ hb _ e n=>u.slot b o e n hb (by simp)) (fun b o _ e n=>u.free b o e n (by simp)) (fun b o _ e=>u.there b o e (by simp)) u.tups u.frzs u.tbls (fun m' hm=>by
  obtain⟨o',es',ep',ho',r'⟩:=hm
  rw[ho]at ho'; cases ho'
  exact⟨_,es',ep',hL,r'⟩) hok I.bare
theorem Inv.call{g':Array GenState}{t':Nat}{d':Drawn}{ch:List Addr}(I:Inv X pins σ H s)(u:Un (i_ X.stack) ch H H' s.heap h')(hok:HOk X.prog X.w H' h')(hg:AllBare g')
  (hch:∀ b∈ch,(b∈X.ex∨X.s₀.heap.objs.size≤b)∧b≠X.env.locals∧(∀ x c,X.env.cells.lookup x=some c→c≠b)∧∀ p∈X.pn++pins,p.1≠b) :
  Inv X pins σ H' { s with heap:=h',gens:=g',drawn:=d',toks:=t' }:=by
 obtain⟨m,⟨o,es,ep,ho,r⟩,_⟩:=id I.loc
 obtain⟨sl,hL⟩:=u.any ho I.free fun z=>(hch _ z).2.1 rfl
 exact I.step (ch:=ch) hch (fun b o hL hb hc e n=>u.keep b o e n (fun z=>(List.mem_cons.mp (I.stkSub b z)).elim hL hb) hc) (fun b o _ _ hc e n=>u.any e n hc) (fun b o hc e n=>u.free b o e n hc) (fun b o hc e=>u.there b o e hc) u.tups u.frzs u.tbls (fun m' hm=>by
  obtain⟨o',es',ep',ho',r'⟩:=hm
  rw[ho]at ho'; cases ho'
  exact⟨_,es',ep',hL,r'⟩) hok hg
theorem Inv.turned{t':Nat}{it:Addr}(I:Inv X pins σ H s)(k:∀ b o,b≠it→s.heap.get? b=some o→h'.get? b=some o)(hn:H it=none)(hL:it≠X.env.locals)
  (h1:it∈X.ex∨X.s₀.heap.objs.size≤it) (h2:∀ x c,X.env.cells.lookup x=some c→c≠it) (h3:∀ p∈X.pn++pins,p.1≠it):Inv X pins σ H { s with heap:=h',toks:=t' }:=by
 have nit:∀ b u,H b=some u→b≠it:=fun b u e z=>by rw[z,hn]at e; cases e
 refine I.step (g':=s.gens) (d':=s.drawn) (ch:=[it]) (fun b hb=>?_) (fun b o _ _ hc e _=>k b o (fun z=>hc (by simp[z])) e) (fun b o _ _ hc e _=>⟨o.slots,k b o (fun z=>hc (by simp[z])) e⟩) (fun _ _ _ _ n=>n)
  (fun b o hc e=>⟨o,k b o (fun z=>hc (by simp[z])) e⟩) (fun _ _ e=>e) (fun _ _ _ e=>e) (fun b ps e=>⟨#[],by rw[e]; simp⟩) (fun m hm=>?_) (fun b u e=>?_) I.bare
 ·have e:b=it:=by simpa using hb
  subst e;exact⟨h1,hL,h2,h3⟩
 ·obtain⟨o,es,ep,ho,r⟩:=hm
  exact⟨o,es,ep,k _ o (Ne.symm hL) ho,r⟩
 ·refine(I.hok b u e).stay (fun c v hc q=>k c v ?_ q) (fun _ q=>q) fun _ _ q=>q
  rcases hc with z | z
  ·rw[z]; exact nit b u e
  ·exact nit c _ z
theorem Inv.tok(I:Inv X pins σ H s)(t:Nat):Inv X pins σ H { s with toks:=t }:=I.un (h':=s.heap) (t':=t) Un.refl I.hok
theorem Inv.kept{t':Nat}(I:Inv X pins σ H s)(k:∀ b u,s.heap.get? b=some u→h'.get? b=some u):Inv X pins σ H { s with heap:=h',toks:=t' }:=I.un (Un.kept k) (I.hok.kept k)
theorem Inv.laid{a:Addr}{o:HO}{t':Nat}(I:Inv X pins σ H s)(k:∀ b u,s.heap.get? b=some u→h'.get? b=some u)(hp:s.heap.objs.size≤a)(new:ObjOk X.prog X.w (upd H a o) h' a o) :
  Inv X pins σ (upd H a o) { s with heap:=h',toks:=t' }:=I.un (Un.laid k hp (I.hok.fresh hp)) (I.hok.laid k hp new)
theorem Inv.write{x e:Addr}{o:HO}{t':Nat}(I:Inv X pins σ H s)(mu:xi (H x))(he:e=x∨H e=some (.own x))(k:∀ b u,b≠e→s.heap.get? b=some u→h'.get? b=some u)(heo:∃ u,h'.get? e=some u)
  (new:ObjOk X.prog X.w (upd H x o) h' x o):Inv X pins σ (upd H x o) { s with heap:=h',toks:=t' }:=I.un (Un.write mu he k heo) (I.hok.write mu he k heo new)
theorem Inv.weak{σ':List (Option V)}(I:Inv X pins σ H s)(hl:σ'.length=σ.length)(w:∀ (i:Nat) v,σ'[i]? = some (some v)→σ[i]? = some (some v)):Inv X pins σ' H s:=
 ⟨I.ok,I.os,I.bare,I.base,let ⟨m,hn,hl'⟩:=I.loc; ⟨m,hn,fun i x v e1 e2 e3=>hl' i x v e1 (w i v e2) e3⟩,I.cell,I.free,I.freeC,I.pin,I.hok,hl.trans I.len⟩
theorem Inv.pins_of{pins':List (Addr × Obj)}(I:Inv X pins σ H s)(h:∀ p∈pins',s.heap.get? p.1=some p.2∧H p.1=none∧p.1≠X.env.locals∧p.1∉X.fs∧∀ v,p.2.data ≠ .cell v):Inv X pins' σ H s:=
 ⟨I.ok,I.os,I.bare,I.base,I.loc,I.cell,I.free,I.freeC,fun p hp=>(List.mem_append.mp hp).elim (fun z=>I.pin p (List.mem_append_left _ z)) (h p),I.hok,I.len⟩
theorem qL{N:List Str}(hN:N.Nodup){i j:Nat}{x:Str}(a:N[i]? = some x)(b:N[j]? = some x):i=j:=by
 obtain⟨h1,e1⟩:=List.getElem?_eq_some_iff.mp a
 obtain⟨h2,e2⟩:=List.getElem?_eq_some_iff.mp b
 exact(List.getElem_inj hN).mp (e1.trans e2.symm)
theorem w_{M:Model}{A:Around}{E:Value→Shared→Prop}{i:Nat}{x:Str}{v:V}{u:Value}{Q:Unit→Shared→Prop}(I:Inv X pins σ H s)(hN:X.N.Nodup)(hi:X.N[i]? = some x)(hx:aN X.env.scope x)(r:RelV v u)
  (h:∀ s',Inv X pins (σ.set i (some v)) H s'→(∃ a,Heap.SameBut a s.heap s'.heap∧(a=X.env.locals∨X.env.cells.lookup x=some a))→Q () s') (hf:X.fn x=true∨X.env.scope.names.lookup x=some .local:=by first | exact .inl rfl | exact .inr rfl | assumption):wpAny M A (storeName X.env x u) Q E s:=by
 obtain⟨m,hn,hl⟩:=id I.loc
 have hcls:(X.env.scope.kind == .class||(X.env.scope.kind == .module&&X.env.locals != X.env.globals))=false:=by rw[I.ok.kind]; rfl
 have hiσ : i<σ.length:=by rw[I.len]; exact(List.getElem?_eq_some_iff.mp hi).1
 have cne:=I.cne
 have tracked:∀ {a:Addr} {h':Heap},(∃ o,s.heap.get? a=some o∧H a=none)→Heap.SameBut a s.heap h'→HOk X.prog X.w H h':=fun {a h'} ha hs b ob e=>by
  obtain⟨_,_,hfree⟩:=ha
  refine(I.hok b ob e).stay (fun c w' hc q=>(hs.2 c ?_).trans q) (fun _ q=>q) fun _ _ q=>q
  rintro rfl
  rcases hc with rfl | hc
  ·rw[hfree]at e; cases e
  ·rw[hfree]at hc; cases hc
 rcases hx with hk | hk
 ·refine wpAny_storeName_local hk hn (fun h' hn' hs=>?_) hcls
  obtain⟨oL,_,_,hoL,_⟩:=id hn
  refine h _ ⟨I.ok,I.os,I.bare,⟨fun b o e n hb hx=>?_,fun b o e n hb hx=>?_,I.base.free,fun b o e hx=>?_,I.base.tups,I.base.frzs,I.base.tbls⟩,⟨_,hn',fun j y v' e1 e2 e3=>?_⟩,fun y c e=>?_,I.free,I.freeC,fun p hp=>?_,tracked ⟨oL,hoL,I.free⟩ hs,by simpa using I.len⟩ ⟨_,hs,.inl rfl⟩
  ·exact(hs.2 b (Nat.ne_of_lt (Nat.lt_of_lt_of_le (Heap.lt_size e) I.ok.above))).trans (I.base.keep b o e n hb hx)
  ·obtain⟨sl,e1⟩:=I.base.slot b o e n hb hx
   exact⟨sl,(hs.2 b (Nat.ne_of_lt (Nat.lt_of_lt_of_le (Heap.lt_size e) I.ok.above))).trans e1⟩
  ·obtain⟨o',e1⟩:=I.base.there b o e hx
   exact⟨o',(hs.2 b (Nat.ne_of_lt (Nat.lt_of_lt_of_le (Heap.lt_size e) I.ok.above))).trans e1⟩
  ·by_cases hj:j=i
   ·subst hj
    rw[hi]at e1; cases e1
    rw[List.getElem?_set_self hiσ]at e2
    cases e2;exact⟨u,r,.inl ⟨hk,by simp⟩⟩
   ·rw[List.getElem?_set_ne (Ne.symm hj)]at e2
    obtain⟨u',r',q⟩:=hl j y v' e1 e2 e3
    refine⟨u',r',?_⟩
    rcases q with ⟨k,e⟩ | ⟨k,c,e,z⟩
    ·refine .inl ⟨k,?_⟩
     have:y≠x:=fun e=>hj (qL hN e1 (e ▸ hi))
     simp[this,e]
    ·exact .inr ⟨k,c,e,z.sameBut hs (cne y c e)⟩
  ·obtain⟨w',z⟩:=I.cell y c e
   exact⟨w',z.sameBut hs (cne y c e)⟩
  ·obtain⟨e,n,ne,nf,d⟩:=I.pin p hp
   exact⟨(hs.2 p.1 ne).trans e,n,ne,nf,d⟩
 ·have hfn:X.fn x=true:=by
   rcases hf with z | z
   ·exact z
   ·rw[z]at hk; cases hk
  obtain⟨c,hc⟩:=I.ok.has x (.inl hk)
  obtain⟨w',z⟩:=I.cell x c hc
  refine wpAny_storeName_cell I.ok.kind hk hc z (fun h' hc' hs=>?_)
  obtain⟨oc,hoc,hocd⟩:=id z
  refine h { s with heap:=h' } ⟨I.ok,I.os,I.bare,⟨fun b o e n hb hx=>?_,fun b o e n hb hx=>?_,I.base.free,fun b o e hx=>?_,I.base.tups,I.base.frzs,I.base.tbls⟩,⟨m,hn.sameBut hs (Ne.symm (cne x c hc)),fun j y v' e1 e2 e3=>?_⟩,fun y c' e=>?_,I.free,I.freeC,fun p hp=>?_,tracked ⟨oc,hoc,I.freeC x c hc⟩ hs,by simpa using I.len⟩ ⟨c,hs,.inr hc⟩
  ·exact(hs.2 b (Nat.ne_of_lt (Nat.lt_of_lt_of_le (Heap.lt_size e) (I.ok.cab x c hfn hc)))).trans (I.base.keep b o e n hb hx)
  ·obtain⟨sl,e1⟩:=I.base.slot b o e n hb hx
   exact⟨sl,(hs.2 b (Nat.ne_of_lt (Nat.lt_of_lt_of_le (Heap.lt_size e) (I.ok.cab x c hfn hc)))).trans e1⟩
  ·obtain⟨o',e1⟩:=I.base.there b o e hx
   exact⟨o',(hs.2 b (Nat.ne_of_lt (Nat.lt_of_lt_of_le (Heap.lt_size e) (I.ok.cab x c hfn hc)))).trans e1⟩
  ·by_cases hj:j=i
   ·subst hj
    rw[hi]at e1; cases e1
    rw[List.getElem?_set_self hiσ]at e2
    cases e2;exact⟨u,r,.inr ⟨.inl hk,c,hc,hc'⟩⟩
   ·rw[List.getElem?_set_ne (Ne.symm hj)]at e2
    obtain⟨u',r',q⟩:=hl j y v' e1 e2 e3
    refine⟨u',r',?_⟩
    rcases q with q | ⟨k,c',e,z'⟩
    ·exact .inl q
    ·refine .inr ⟨k,c',e,z'.sameBut hs ?_⟩
     rintro rfl
     exact hj (qL hN e1 (I.ok.inj _ _ _ e hc ▸ hi))
  ·by_cases hcc:c'=c
   ·subst hcc; exact⟨_,hc'⟩
   ·obtain⟨w2,z2⟩:=I.cell y c' e
    exact⟨w2,z2.sameBut hs hcc⟩
  ·obtain⟨e,n,ne,nf,d⟩:=I.pin p hp
   refine⟨(hs.2 p.1 ?_).trans e,n,ne,nf,d⟩
   intro q
   rw[q,hoc]at e
   have q':oc=p.2:=Option.some.inj e
   exact d w' (by rw[← q']; exact hocd)
theorem qK{M:Model}{A:Around}{E:Value→Shared→Prop}{i:Nat}{x:Str}{v:V}{u:Value}{Q:Unit→Shared→Prop}(I:Inv X pins σ H s)(hN:X.N.Nodup)(hi:X.N[i]? = some x)(hx:aN X.env.scope x)(r:RelV v u)
  (h:∀ s',Inv X pins (σ.set i (some v)) H s'→Q () s') (hf:X.fn x=true∨X.env.scope.names.lookup x=some .local:=by first | exact .inl rfl | exact .inr rfl | assumption):wpAny M A (storeName X.env x u) Q E s:=
 w_ I hN hi hx r (fun s' I' _=>h s' I') hf
theorem Inv.call'{s':Shared}{ch:List Addr}(I:Inv X pins σ H s)(ho:s'.os=s.os)(u:Un (i_ X.stack) ch H H' s.heap s'.heap)(hok:HOk X.prog X.w H' s'.heap)(hg:AllBare s'.gens)
  (hch:∀ b∈ch,(b∈X.ex∨X.s₀.heap.objs.size≤b)∧b≠X.env.locals∧(∀ x c,X.env.cells.lookup x=some c→c≠b)∧∀ p∈X.pn++pins,p.1≠b):Inv X pins σ H' s':=by
 obtain⟨h',g',d',t',o'⟩:=s'
 have e:o'=s.os:=ho
 subst e;exact I.call (g':=g') (t':=t') (d':=d') u hok hg hch
end
abbrev XK:=Value→Option Addr→Hp→Prop
abbrev St:=List (Option V)
abbrev VK:=V→Hp→Prop
abbrev TE:=St→Hp→VK→Prop
abbrev TT:=St→Hp→(Bool→Hp→Prop)→Prop
abbrev TA:=St→Hp→(List V→Hp→Prop)→Prop
set_option genInjectivity false in
set_option genSizeOf false in
structure dM where
 nx:St→Hp→Prop
 rt:VK
 bk:St→Hp→Prop:=fun _ _=>False
 ct:St→Hp→Prop:=fun _ _=>False
abbrev TS:=dM→St→Hp→Prop
def EP(X:Cx)(pins:List (Addr × Obj))(σ : St)(Q:VK)(u:Value)(s':Shared):Prop:=∃ v H',Inv X pins σ H' s'∧RelV v u∧Q v H'
def TP(X:Cx)(pins:List (Addr × Obj))(σ : St)(Q:Bool→Hp→Prop)(b:Bool)(s':Shared):Prop:=∃ H',Inv X pins σ H' s'∧Q b H'
def AP(X:Cx)(pins:List (Addr × Obj))(σ : St)(Q:List V→Hp→Prop)(us:List Value)(s':Shared):Prop:=∃ vs H',Inv X pins σ H' s'∧Vals vs us∧Q vs H'
def SP(X:Cx)(pins:List (Addr × Obj))(D:dM)(f:Flow)(s':Shared):Prop:=
 match f with
 | .next=>∃ σ' H',Inv X pins σ' H' s'∧D.nx σ' H'
 | .brk=>∃ σ' H',Inv X pins σ' H' s'∧D.bk σ' H'
 | .cont=>∃ σ' H',Inv X pins σ' H' s'∧D.ct σ' H'
 | .ret u=>∃ v σ' H',Inv X pins σ' H' s'∧RelV v u∧D.rt v H'
def PE(X:Cx)(e:Expr)(t:TE):Prop:=
 ∀ (pins:List (Addr × Obj)) (s:Shared) (σ : St) (H:Hp) (Q:VK),Inv X pins σ H s→t σ H Q→wpAny (model X.prog X.w) X.A (eval e X.env) (EP X pins σ Q) X.xe s
def PT(X:Cx)(e:Expr)(t:TT):Prop:=
 ∀ (pins:List (Addr × Obj)) (s:Shared) (σ : St) (H:Hp) (Q:Bool→Hp→Prop),Inv X pins σ H s→t σ H Q→wpAny (model X.prog X.w) X.A (isTrue e X.env (eval e X.env)) (TP X pins σ Q) X.xe s
def PW(X:Cx)(e:Expr)(t:TT):Prop:=
 ∀ (whole:Sem Value) (pins:List (Addr × Obj)) (s:Shared) (σ : St) (H:Hp) (Q:Bool→Hp→Prop),Inv X pins σ H s→t σ H Q→wpAny (model X.prog X.w) X.A (isTrue e X.env whole) (TP X pins σ Q) X.xe s
theorem PW.pt{X:Cx}{e:Expr}{t:TT}(h:PW X e t):PT X e t:=h _
def PA(X:Cx)(es:List Expr)(t:TA):Prop:=
 ∀ (pos:Pos) (pins:List (Addr × Obj)) (s:Shared) (σ : St) (H:Hp) (Q:List V→Hp→Prop),Inv X pins σ H s→t σ H Q→wpAny (model X.prog X.w) X.A (spliced (backTo pos (starEach es X.env))) (AP X pins σ Q) X.xe s
def PS(X:Cx)(st:Stmt)(t:TS):Prop:=
 ∀ (pins:List (Addr × Obj)) (s:Shared) (σ : St) (H:Hp) (D:dM),Inv X pins σ H s→t D σ H→wpAny (model X.prog X.w) X.A (exec st X.env) (SP X pins D) X.xe s
def PSs(X:Cx)(st:List Stmt)(t:TS):Prop:=
 ∀ (pins:List (Addr × Obj)) (s:Shared) (σ : St) (H:Hp) (D:dM),Inv X pins σ H s→t D σ H→wpAny (model X.prog X.w) X.A (execs st X.env) (SP X pins D) X.xe s
theorem aZ{α : Type}{t:Sem α}{Q Q':α→Shared→Prop}{M:Model}{A:Around}{E:Value→Shared→Prop}{s:Shared}(h:wpAny M A t Q E s)(hQ:∀ a s,Q a s→Q' a s):wpAny M A t Q' E s:=wpAny_mono h hQ fun _ _ x=>x
end L2
namespace L2
open PySem PySem.Spec PyProof.Rows
section
variable{X:Cx}
def Ai(i:Nat):TE:=fun σ H Q=>∃ v,σ[i]? = some (some v)∧Q v H
def tC(v:V):TE:=fun _ H Q=>Q v H
theorem EQ{i:Nat}{x:Str}{pos:Pos}(hN:X.N[i]? = some x)(hv:am X.env.scope x)(hd:(x == ("__debug__" : Str))=false:=by decide) (hcd:(x == ("__classdict__" : Str))=false:=by decide):PE X (.Name x pos) (Ai i):=by
 intro pins s σ H Q I h
 obtain⟨v,e,h⟩:=h
 obtain⟨m,hn,hl⟩:=I.loc
 obtain⟨u,r,l⟩:=hl i x v hN e hv
 have fin:EP X pins σ Q u s:=⟨v,H,I,r,h⟩
 rcases l with ⟨hk,hm⟩ | ⟨hk,c,hc,hcell⟩
 ·exact wpAny_Name (wpAny_loadName_local I.ok.kind hk hn hm fin) hd
 ·rcases hk with hk | hk
  ·exact wpAny_Name (wpAny_loadName_cell I.ok.kind hk hc hcell fin) hd
  ·exact wpAny_Name (wpAny_loadName_free I.ok.kind hk hc hcell fin hcd) hd
theorem af{i j pos}:PE X (.Constant (.int i) j pos) (tC (.int i)):=fun _ _ _ H _ I h=>wpAny_Constant_int ⟨.int i,H,I.tok _,⟨_,rfl⟩,h⟩
theorem eX{b j pos}:PE X (.Constant (.bool b) j pos) (tC (.bl b)):=fun _ _ _ H _ I h=>Constant_bool ⟨.bl b,H,I,rfl,h⟩
theorem gu{j pos}:PE X (.Constant .none j pos) (tC .non):=fun _ _ _ H _ I h=>Constant_none ⟨.non,H,I,rfl,h⟩
theorem au{x j pos}:PE X (.Constant (.str x) j pos) (tC (.str x)):=fun _ _ _ H _ I h=>Calls.Constant_str ⟨.str x,H,I.tok _,⟨_,rfl⟩,h⟩
def Gl(X:Cx)(x:Str):Prop:=X.env.kindOf x=some .globalImplicit
theorem vSs{s:Stmt}{x:Str}(h:(L2.defScope s).names.lookup x=some .local):am (L2.defScope s) x:=Or.inl h
theorem vLl{s:Stmt}{x:Str}(h:(L2.defScope s).names.lookup x=some .local):aN (L2.defScope s) x:=Or.inl h
theorem vGg{s:Stmt}{x:Str}(h:(L2.defScope s).names.lookup x=some .globalImplicit):(L2.defScope s).names.lookup x=some .globalImplicit:=h
theorem mP{E:Value→Shared→Prop}{pins:List (Addr × Obj)}{s:Shared}{σ : St}{H:Hp}{x:Str}{u:Value}{pos:Pos}{Q:Value→Shared→Prop}(I:Inv X pins σ H s)(hg:Gl X x)(hm:X.mg x=some u)(h:Q u s)
  (hd:(x == ("__debug__" : Str))=false:=by decide):wpAny (model X.prog X.w) X.A (eval (.Name x pos) X.env) Q E s:=
 Calls.Name_function_global I.ok.kind hg (Calls.loadGlobal_global (by rw[I.ok.glob]; exact I.mod.glob.keeps I.bk) hm h) hd
theorem gX{E:Value→Shared→Prop}{pins:List (Addr × Obj)}{s:Shared}{σ : St}{H:Hp}{x:Str}{u:Value}{pos:Pos}{Q:Value→Shared→Prop}(I:Inv X pins σ H s)(hg:Gl X x)(hm:X.mg x=none)(hv:bootBuiltins x=some u)(h:Q u s)
  (hn:x ≠ "__name__" := by decide) (hd:(x == ("__debug__" : Str))=false:=by decide):wpAny (model X.prog X.w) X.A (eval (.Name x pos) X.env) Q E s:=by
 obtain⟨mb,h1,h2⟩:=I.mod.blt
 exact Calls.Name_function_global I.ok.kind hg (Calls.loadGlobal_builtin (by rw[I.ok.glob]; exact I.mod.glob.keeps I.bk) hm (by rw[I.ok.blt]; exact h1.keeps I.bk) ((h2 x hn).trans hv) h) hd
theorem BG{x:Str}{v:V}{u:Value}{pos:Pos}(hg:Gl X x)(hm:X.mg x=some u)(r:RelV v u)(hd:(x == ("__debug__" : Str))=false:=by decide):PE X (.Name x pos) (tC v):=
 fun _ _ _ H _ I h=>mP I hg hm ⟨v,H,I,r,h⟩ hd
theorem CA{x:Str}{v:V}{u:Value}{pos:Pos}(hg:Gl X x)(hm:X.mg x=none)(hv:bootBuiltins x=some u)(r:RelV v u)(hn:x ≠ "__name__" := by decide) (hd:(x == ("__debug__" : Str))=false:=by decide):PE X (.Name x pos) (tC v):=
 fun _ _ _ H _ I h=>gX I hg hm hv ⟨v,H,I,r,h⟩ hn hd
variable{a b:Expr}{ta tb:TE}{pos:Pos}
def tB(t:TE):TT:=fun σ H Q=>t σ H fun x H1=>∃ c,x = .bl c∧Q c H1
theorem eK{e:Expr}{t:TE}(h:PE X e t)(he:∀ whole,isTrue e X.env whole=(do let v ← whole; standAt e.pos; holding [v] (truthy v)):=by intro _; rfl):PT X e (tB t):=by
 intro pins s σ H Q I hw
 refine isTrue_plain (aZ (h pins s σ H _ I hw) fun v s1 ⟨x,H1,I1,r1,q1⟩=>?_) (he _)
 obtain⟨d,rfl,q⟩:=q1
 cases r1;exact wpAny_truthy_bool ⟨H1,I1,q⟩
variable{tA tB':TT}{rest:List Expr}
def D8(t u:TT):TT:=fun σ H Q=>t σ H fun c H1=>if c=true then u σ H1 Q else Q false H1
def FW(t u:TT):TT:=fun σ H Q=>t σ H fun c H1=>if c=true then Q true H1 else u σ H1 Q
def Fb(t:TT):TT:=fun σ H Q=>t σ H fun c H1=>Q (!c) H1
theorem iC(ha:PT X a tA):PW X (.BoolOp .And [a] pos) tA:=by
 intro wh pins s σ H Q I h
 refine isTrue_and (aZ (ha pins s σ H Q I h) fun c s1 e=>?_)
 cases c with
 | true=>exact isTrue_and_nil e
 | false=>exact e
theorem iB(ha:PT X a tA):PW X (.BoolOp .Or [a] pos) tA:=by
 intro wh pins s σ H Q I h
 refine isTrue_or (aZ (ha pins s σ H Q I h) fun c s1 e=>?_)
 cases c with
 | false=>exact isTrue_or_nil e
 | true=>exact e
theorem gw(ha:PT X a tA)(hb:PW X (.BoolOp .And (b::rest) pos) tB'):PW X (.BoolOp .And (a::b::rest) pos) (D8 tA tB'):=by
 intro wh pins s σ H Q I h
 refine isTrue_and (aZ (ha pins s σ H _ I h) fun c s1 ⟨H1,I1,q1⟩=>?_)
 cases c with
 | true=>exact hb wh pins s1 σ H1 Q I1 q1
 | false=>exact⟨H1,I1,q1⟩
theorem iG(ha:PT X a tA)(hb:PW X (.BoolOp .Or (b::rest) pos) tB'):PW X (.BoolOp .Or (a::b::rest) pos) (FW tA tB'):=by
 intro wh pins s σ H Q I h
 refine isTrue_or (aZ (ha pins s σ H _ I h) fun c s1 ⟨H1,I1,q1⟩=>?_)
 cases c with
 | true=>exact⟨H1,I1,q1⟩
 | false=>exact hb wh pins s1 σ H1 Q I1 q1
theorem gp(ha:PT X a tA):PT X (.UnaryOp .Not a pos) (Fb tA):=by
 intro pins s σ H Q I h
 exact isTrue_not (ha pins s σ H (fun c H1=>Q (!c) H1) I h)
def Bh(ta tb:TE):TE:=fun σ H Q=>ta σ H fun x H1=>∃ c,x = .bl c∧if c=true then tb σ H1 Q else Q (.bl false) H1
def AN(ta:TE):TE:=fun σ H Q=>ta σ H fun x H1=>∃ c,x = .bl c∧Q (.bl (!c)) H1
theorem EW{op}{t:TE}(h:PE X a t):PE X (.BoolOp op [a] pos) t:=fun pins s σ H Q I hw=>BoolOp_one (h pins s σ H Q I hw)
theorem DZ(ha:PE X a ta)(hb:PE X (.BoolOp .And (b::rest) pos) tb):PE X (.BoolOp .And (a::b::rest) pos) (Bh ta tb):=by
 intro pins s σ H Q I h
 refine BoolOp_and (aZ (ha pins s σ H _ I h) fun v s1 ⟨x,H1,I1,r1,q1⟩=>?_)
 obtain⟨c,rfl,q1⟩:=q1
 cases r1;refine wpAny_truthy_bool ?_
 cases c with
 | true=>exact hb pins s1 σ H1 Q I1 q1
 | false=>exact⟨.bl false,H1,I1,rfl,q1⟩
theorem ES(ha:PE X a ta):PE X (.UnaryOp .Not a pos) (AN ta):=by
 intro pins s σ H Q I h
 refine UnaryOp_ (aZ (ha pins s σ H _ I h) fun v s1 ⟨x,H1,I1,r1,q1⟩=>?_)
 obtain⟨c,rfl,q1⟩:=q1
 cases r1;exact not_of (wpAny_truthy_bool ⟨.bl (!c),H1,I1,rfl,q1⟩)
def FT(t:TT)(ta tb:TE):TE:=fun σ H Q=>t σ H fun c H1=>if c=true then ta σ H1 Q else tb σ H1 Q
theorem pP{c:Expr}(hc:PT X c tA)(ha:PE X a ta)(hb:PE X b tb):PE X (.IfExp c a b pos) (FT tA ta tb):=by
 intro pins s σ H Q I h
 refine wpAny_IfExp (aZ (hc pins s σ H _ I h) fun d s1 ⟨H1,I1,q1⟩=>?_)
 cases d with
 | true=>exact ha pins s1 σ H1 Q I1 q1
 | false=>exact hb pins s1 σ H1 Q I1 q1
end
end L2
namespace L2
open PySem PySem.Spec PyProof.Rows
def SqL(K:PySem.W.Frag)(H:Hp)(a:Addr)(xs:List V):Prop:=
 Rd H a (.lst xs)∨
  ∃ (o:Obj) (its:Array Value) (n:Nat),K.lookup a=some o∧o.cls = .type "list" ∧ o.dict=none∧o.data = .seq its n∧its.size≤sizeLine∧Vals xs its.toList
def SqT(K:PySem.W.Frag)(H:Hp)(a:Addr)(xs:List V):Prop:=
 Rd H a (.tup xs)∨
  ∃ (o:Obj) (its:Array Value) (n:Nat),K.lookup a=some o∧o.cls = .type "tuple" ∧ o.data = .seq its n∧its.size≤sizeLine∧Vals xs its.toList
def HZ:Value→Option V
 | .none=>some .non
 | .bool b=>some (.bl b)
 | .int i _=>some (.int i)
 | .str x _=>some (.str x)
 | .bytes b _=>some (.byt b)
 | .float b _=>some (.flt b)
 | .ref a=>some (.ref a)
 | .type n=>some (.ty n)
 | _=>none
theorem RelV.abs{x:V}{u:Value}(r:RelV x u):HZ u=some x:=by
 cases x with
 | non=>cases r; rfl
 | bl _=>cases r; rfl
 | int _=>obtain⟨t,rfl⟩:=r; rfl
 | str _=>obtain⟨t,rfl⟩:=r; rfl
 | byt _=>obtain⟨t,rfl⟩:=r; rfl
 | flt _=>obtain⟨t,rfl⟩:=r; rfl
 | ref _=>cases r; rfl
 | ty _=>cases r; rfl
theorem RelV.inj{x y:V}{u:Value}(r:RelV x u)(q:RelV y u):x=y:=Option.some.inj (r.abs.symm.trans q.abs)
theorem Vals.inj:∀ {xs ys:List V} {us:List Value},Vals xs us→Vals ys us→xs=ys
 | _,_,_,.nil,.nil=>rfl
 | _,_,_,.cons r t,.cons r' t'=>by rw[r.inj r',Vals.inj t t']
section
variable{X:Cx}{pins:List (Addr × Obj)}{σ : St}{H:Hp}{s:Shared}{a:Addr}{xs ys:List V}
theorem SqL.of{K:PySem.W.Frag}(h:H a=some (.lst xs)):SqL K H a xs:=.inl (.inl h)
theorem SqT.of{K:PySem.W.Frag}(h:H a=some (.tup xs)):SqT K H a xs:=.inl (.inl h)
theorem Inv.list(I:Inv X pins σ H s)(h:SqL X.K H a xs):∃ its:List Value,Vals xs its∧PlainL s.heap a its.toArray∧xs.length≤sizeLine:=by
 rcases h with h | ⟨o,its,n,hk,hc,hd,hs,hz,r⟩
 ·obtain⟨z,its,n,r,e⟩:=h.ok I.hok
  exact⟨its,r,⟨_,n,e,rfl,rfl,rfl⟩,z⟩
 ·refine⟨its.toList,r,⟨o,n,I.kIn a o hk,hc,hd,by simpa using hs⟩,?_⟩
  have e:=r.length;simp only[Array.length_toList]at e
  omega
theorem Inv.tuple(I:Inv X pins σ H s)(h:SqT X.K H a xs):∃ its:List Value,Vals xs its∧IsTup s.heap a its.toArray∧xs.length≤sizeLine:=by
 rcases h with h | ⟨o,its,n,hk,hc,hs,hz,r⟩
 ·obtain⟨z,its,r,p⟩:=h.ok I.hok
  exact⟨its,r,p.tup,z⟩
 ·refine⟨its.toList,r,⟨o,I.kIn a o hk,hc,n,by simpa using hs⟩,?_⟩
  have e:=r.length;simp only[Array.length_toList]at e
  omega
theorem Inv.list_inj(I:Inv X pins σ H s)(h:SqL X.K H a xs)(h':SqL X.K H a ys):xs=ys:=by
 obtain⟨its,r,⟨o,n,e,_,_,d⟩,_⟩:=I.list h
 obtain⟨its',r',⟨o',n',e',_,_,d'⟩,_⟩:=I.list h'
 rw[e]at e'; cases e'
 rw[d]at d'
 injection d' with d1 _
 have:its=its':=by simpa using congrArg Array.toList d1
 subst this;exact r.inj r'
theorem Inv.tuple_inj(I:Inv X pins σ H s)(h:SqT X.K H a xs)(h':SqT X.K H a ys):xs=ys:=by
 obtain⟨its,r,⟨o,e,_,n,d⟩,_⟩:=I.tuple h
 obtain⟨its',r',⟨o',e',_,n',d'⟩,_⟩:=I.tuple h'
 rw[e]at e'; cases e'
 rw[d]at d'
 injection d' with d1 _
 have:its=its':=by simpa using congrArg Array.toList d1
 subst this;exact r.inj r'
end
abbrev Cx.wish (X:Cx) (E:Value→Shared→Prop):Cx:={ X with xe:=E }
abbrev Cx.nox (X:Cx):Cx:=X.wish fun _ _=>False
theorem Cx.Ok.wish{X:Cx}(ok:X.Ok)(E:Value→Shared→Prop):(X.wish E).Ok:=
 ⟨ok.mod,ok.kind,ok.glob,ok.blt,ok.above,ok.inj,ok.has,ok.cab,ok.hd,ok.frames,ok.stk,ok.exf,ok.bs,ok.bsz,ok.noex,ok.exfs,ok.funs,ok.frf⟩
theorem Cx.Ok.unwish{X:Cx}{E:Value→Shared→Prop}(ok:(X.wish E).Ok):X.Ok:=
 ⟨ok.mod,ok.kind,ok.glob,ok.blt,ok.above,ok.inj,ok.has,ok.cab,ok.hd,ok.frames,ok.stk,ok.exf,ok.bs,ok.bsz,ok.noex,ok.exfs,ok.funs,ok.frf⟩
section
variable{X:Cx}{pins:List (Addr × Obj)}{σ : St}{H:Hp}{s:Shared}{E:Value→Shared→Prop}
theorem Inv.wish(I:Inv X pins σ H s)(E:Value→Shared→Prop):Inv (X.wish E) pins σ H s:=⟨I.ok.wish E,I.os,I.bare,I.base,I.loc,I.cell,I.free,I.freeC,I.pin,I.hok,I.len⟩
theorem Inv.unwish(I:Inv (X.wish E) pins σ H s):Inv X pins σ H s:=⟨I.ok.unwish,I.os,I.bare,I.base,I.loc,I.cell,I.free,I.freeC,I.pin,I.hok,I.len⟩
theorem SP.unwish{D:dM}{f:Flow}{s':Shared}(h:SP (X.wish E) pins D f s'):SP X pins D f s':=by
 cases f with
 | next=>obtain⟨σ',H',I,q⟩:=h; exact⟨σ',H',I.unwish,q⟩
 | brk=>obtain⟨σ',H',I,q⟩:=h; exact⟨σ',H',I.unwish,q⟩
 | cont=>obtain⟨σ',H',I,q⟩:=h; exact⟨σ',H',I.unwish,q⟩
 | ret u=>obtain⟨v,σ',H',I,r,q⟩:=h; exact⟨v,σ',H',I.unwish,r,q⟩
theorem PSs.nox{st:List Stmt}{t:TS}(h:PSs X.nox st t):PSs X st t:=fun pins s σ H D I hw=>
 wpAny_mono (h pins s σ H D (I.wish _) hw) (fun _ _ q=>q.unwish) fun _ _ z=>False.elim z
end
section
variable{X:Cx}{st:Stmt}{rest:List Stmt}{t u:TS}{e:Expr}{te:TE}{pos:Pos}
def BC:TS:=fun D σ H=>D.nx σ H
def Ek(t u:TS):TS:=fun D σ H=>t { D with nx:=u D } σ H
theorem bt:PSs X [] BC:=fun _ _ σ H _ I h=>wpAny_execs_nil ⟨σ,H,I,h⟩
theorem ae(h1:PS X st t)(h2:PSs X rest u):PSs X (st::rest) (Ek t u):=by
 intro pins s σ H D I h
 refine wpAny_execs_cons (aZ (h1 pins s σ H { D with nx:=u D } I h) fun f s1 q=>?_)
 cases f with
 | next=>
  obtain⟨σ',H',I',q⟩:=q
  exact h2 pins s1 σ' H' D I' q
 | ret v=>exact q
 | brk=>exact q
 | cont=>exact q
theorem ak(h1:PS X st t):PSs X [st] t:=by
 intro pins s σ H D I h
 refine wpAny_execs_cons (aZ (h1 pins s σ H D I h) fun f s1 q=>?_)
 cases f with
 | next=>exact wpAny_execs_nil q
 | ret v=>exact q
 | brk=>exact q
 | cont=>exact q
theorem Inv.quiet{pins:List (Addr × Obj)}{σ : St}{H:Hp}{s:Shared}(I:Inv X pins σ H s):interactive X.env=false:=by simp[interactive,I.ok.kind]
def Bo(te:TE):TS:=fun D σ H=>te σ H fun _ H1=>D.nx σ H1
theorem ay(he:PE X e te)(hs:swapsWith e none pos.line X.env=pure false:=by rfl):PS X (.Expr e pos) (Bo te):=by
 intro pins s σ H D I h
 exact wpAny_Expr_any (aZ (he pins s σ H _ I h) fun v s1 ⟨x,H1,I1,r1,q1⟩=>⟨σ,H1,I1,q1⟩) I.quiet hs
def CI(te:TE):TS:=fun D σ H=>te σ H D.rt
theorem aE(he:PE X e te):PS X (.Return (some e) pos) (CI te):=by
 intro pins s σ H D I h
 exact wpAny_Return_some (aZ (he pins s σ H _ I h) fun v s1 ⟨x,H1,I1,r1,q1⟩=>⟨x,σ,H1,I1,r1,q1⟩)
def Bm:TS:=fun D _ H=>D.rt .non H
theorem BR:PS X (.Return none pos) Bm:=fun _ _ σ H _ I h=>wpAny_Return_none ⟨.non,σ,H,I,rfl,h⟩
def CT(c:TT)(t u:TS):TS:=fun D σ H=>c σ H fun b H1=>if b=true then t D σ H1 else u D σ H1
theorem a_{c:Expr}{a b:List Stmt}{tc:TT}(hc:PT X c tc)(ha:PSs X a t)(hb:PSs X b u):PS X (.If c a b pos) (CT tc t u):=by
 intro pins s σ H D I h
 refine wpAny_If (aZ (hc pins s σ H _ I h) fun d s1 ⟨H1,I1,q1⟩=>?_)
 cases d with
 | true=>exact ha pins s1 σ H1 D I1 q1
 | false=>exact hb pins s1 σ H1 D I1 q1
def xG:TS:=fun _ _ _=>False
theorem kS:PS X st xG:=fun _ _ _ _ _ _ h=>h.elim
theorem jA{sts:List Stmt}:PSs X sts xG:=fun _ _ _ _ _ _ h=>h.elim
end
abbrev TG:=V→St→Hp→(St→Hp→Prop)→Prop
abbrev gT:=List V→St→Hp→(St→Hp→Prop)→Prop
def PG(X:Cx)(target:Expr)(t:TG):Prop:=
 ∀ (pins:List (Addr × Obj)) (s:Shared) (σ : St) (H:Hp) (v:V) (u:Value) (Q:St→Hp→Prop),Inv X pins σ H s→RelV v u→t v σ H Q→
  wpAny (model X.prog X.w) X.A (assign target X.env u) (fun _ s'=>∃ σ' H',Inv X pins σ' H' s'∧Q σ' H') X.xe s
def PGs(X:Cx)(ts:List Expr)(t:gT):Prop:=
 ∀ (pins:List (Addr × Obj)) (s:Shared) (σ : St) (H:Hp) (vs:List V) (us:List Value) (Q:St→Hp→Prop),Inv X pins σ H s→Vals vs us→t vs σ H Q→
  wpAny (model X.prog X.w) X.A (assignInOrder ((assignEach ts X.env).map (·.2)) us) (fun _ s'=>∃ σ' H',Inv X pins σ' H' s'∧Q σ' H') X.xe s
abbrev pe:=V→V→V→Hp→(Hp→Prop)→Prop
def PSet(X:Cx)(t:pe):Prop:=
 ∀ (pins:List (Addr × Obj)) (s:Shared) (σ : St) (H:Hp) (o i v:V) (ov iv u:Value) (Q:Hp→Prop),Inv X pins σ H s→RelV o ov→RelV i iv→RelV v u→t o i v H Q→
  wpAny (model X.prog X.w) X.A (setItem ov iv u) (fun _ s'=>∃ H',Inv X pins σ H' s'∧Q H') X.xe s
section
variable{X:Cx}{pos:Pos}
def iT(i:Nat):TG:=fun v σ H Q=>Q (σ.set i (some v)) H
theorem BU{i:Nat}{x:Str}(hN:X.N.Nodup)(hi:X.N[i]? = some x)(hx:aN X.env.scope x)(hf:X.fn x=true∨X.env.scope.names.lookup x=some .local:=by first | exact .inl rfl | exact .inr rfl | assumption):PG X (.Name x pos) (iT i):=by
 intro pins s σ H v u Q I r h
 exact wpAny_assign_Name (qK I hN hi hx r (fun s' I'=>⟨_,H,I',h⟩) hf)
def vQ:gT:=fun vs σ H Q=>vs=[]∧Q σ H
def oJ(t:TG)(u:gT):gT:=fun vs σ H Q=>∃ v r,vs=v::r∧t v σ H fun σ' H'=>u r σ' H' Q
theorem fO:PGs X [] vQ:=by
 intro pins s σ H vs us Q I r h
 obtain⟨e,h⟩:=h
 subst e
 cases r;exact assignInOrder_nil ⟨σ,H,I,h⟩
theorem cj{e:Expr}{es:List Expr}{t:TG}{u:gT}(h1:PG X e t)(h2:PGs X es u)
  (hs:(assignEach (e::es) X.env).map (·.2)=assign e X.env::(assignEach es X.env).map (·.2):=by rfl):PGs X (e::es) (oJ t u):=by
 intro pins s σ H vs us Q I r h
 obtain⟨v,vr,e1,h⟩:=h
 subst e1
 cases r with
 | cons r rr=>
  rw[hs];refine assignInOrder_cons (aZ (h1 pins s σ H _ _ _ I r h) fun _ s1 ⟨σ1,H1,I1,q1⟩=>?_)
  exact h2 pins s1 σ1 H1 _ _ Q I1 rr q1
def vG(K:PySem.W.Frag)(n:Nat)(t:gT):TG:=fun v σ H Q=>∃ a xs,v = .ref a∧SqT K H a xs∧xs.length=n∧t xs σ H Q
theorem Eg{es:List Expr}{k:Nat}{t:gT}{n:Nat}(hc:X.calm=true)(h:PGs X es t)
  (hn:(assignEach es X.env).length=n:=by rfl) (hst:(assignEach es X.env).findIdx? (·.1)=none:=by rfl):PG X (.Tuple es k pos) (vG X.K n t):=by
 intro pins s σ H v u Q I r hw
 obtain⟨a,xs,e1,hq,hl,hw⟩:=hw
 subst e1
 cases r;obtain⟨its,rv,ht,hz⟩:=I.tuple hq
 refine assign_Tuple_tuple (I.ok.hd hc) ht (by simp[hn,← hl,rv.length]) hst fun h' hx=>?_
 have I1:Inv X pins σ H { s with heap:=h' }:=I.kept (t':=s.toks) fun b o e=>hx b o (Nat.ne_of_lt (Heap.lt_size e)) e
 exact h pins _ σ H xs _ Q I1 (by simpa using rv) hw
def CY(to ti:TE)(t:pe):TG:=fun v σ H Q=>to σ H fun o H1=>ti σ H1 fun i H2=>t o i v H2 fun H3=>Q σ H3
theorem ra{o i:Expr}{to ti:TE}{t:pe}(ho:PE X o to)(hi:PE X i ti)(hs:PSet X t)
  (ha:∀ v,assign (.Subscript o i pos) X.env v=(do
   let ov ← holding [v] (eval o X.env)
   let iv ← holding [v,ov] (eval i X.env)
   standAt pos
   holding [v,ov,iv] (setItem ov iv v)
   release [v,ov,iv] []):=by intro _; rfl):PG X (.Subscript o i pos) (CY to ti t):=by
 intro pins s σ H v u Q I r h
 rw[ha];refine wpAny_bind (wpAny_holding (aZ (ho pins s σ H _ I h) fun ov s1 ⟨x,H1,I1,r1,q1⟩=>?_))
 refine wpAny_bind (wpAny_holding (aZ (hi pins s1 σ H1 _ I1 q1) fun iv s2 ⟨y,H2,I2,r2,q2⟩=>?_))
 refine wpAny_bind (wpAny_standAt (wpAny_bind (wpAny_holding (aZ (hs pins s2 σ H2 x y v ov iv u _ I2 r1 r2 r q2) fun _ s3 ⟨H3,I3,q3⟩=>?_))))
 exact wpAny_release ⟨σ,H3,I3,q3⟩
def wf(te:TE)(g:TG):TS:=fun D σ H=>te σ H fun x H1=>g x σ H1 D.nx
theorem ix{tg e:Expr}{te:TE}{g:TG}(he:PE X e te)(hg:PG X tg g)(hs:swapsWithSole [tg] e pos.line X.env=pure false:=by rfl)(hw:swappedStores [tg] e X.env=pure none:=by rfl)
  (h1:(assignEach [tg] X.env).map (·.2)=[assign tg X.env]:=by rfl):PS X (.Assign [tg] e pos) (wf te g):=by
 intro pins s σ H D I h
 refine wpAny_Assign_stores (aZ (he pins s σ H _ I h) fun v s1 ⟨x,H1,I1,r1,q1⟩=>?_) hs hw
 rw[h1];exact aZ (hg pins s1 σ H1 x v _ I1 r1 q1) fun _ s2 q=>q
theorem E1{i:Nat}{x:Str}{e:Expr}{te:TE}{pos':Pos}(hN:X.N.Nodup)(hi:X.N[i]? = some x)(hx:aN X.env.scope x)(he:PE X e te)(hs:swapsWith e (some (.Name x pos')) pos.line X.env=pure false:=by rfl)(hf:X.fn x=true∨X.env.scope.names.lookup x=some .local:=by first | exact .inl rfl | exact .inr rfl | assumption) :
  PS X (.Assign [.Name x pos'] e pos) (wf te (iT i)):=by
 intro pins s σ H D I h
 refine wpAny_Assign_Name (aZ (he pins s σ H _ I h) fun v s1 ⟨y,H1,I1,r1,q1⟩=>?_) hs
 exact qK I1 hN hi hx r1 (fun s2 I2=>⟨_,H1,I2,q1⟩) hf
end
section
variable{X:Cx}{pos:Pos}
def Df(c:TT)(tb:TS):TS:=fun D σ H=>∃ W:Nat→St→Hp→Prop,(∃ m,W m σ H)∧∀ m σ H,W m σ H→
 c σ H fun b H1=>if b=true then ∃ N:St→Hp→Prop,(∀ σ' H',N σ' H'→∃ m',m'<m∧W m' σ' H')∧tb { D with nx:=N,ct:=N,bk:=D.nx } σ H1 else D.nx σ H1
theorem oW{c:Expr}{body:List Stmt}{tc:TT}{tb:TS}(hp:PassesOwn (model X.prog X.w) X.A X.env X.xe)(hc:PT X c tc)(hb:PSs X body tb):PS X (.While c body [] pos) (Df tc tb):=by
 intro pins s σ H D I h
 obtain⟨W,⟨m0,w0⟩,turn⟩:=h
 refine wpAny_While (codeAny_whileLoop (fun n s'=>∃ σ' H',Inv X pins σ' H' s'∧W n σ' H') ?_ m0 ⟨σ,H,I,w0⟩)
 rintro n s1 ⟨σ1,H1,I1,w1⟩
 refine wpAny_passesOwn hp (aZ (hc pins s1 σ1 H1 _ I1 (turn n σ1 H1 w1)) fun b s2 ⟨H2,I2,q2⟩=>?_)
 cases b with
 | true=>
  obtain⟨N,hN,q2⟩:=q2
  rw[if_pos rfl];refine wpAny_passesOwn hp (aZ (hb pins s2 σ1 H2 _ I2 q2) fun f s3 q3=>?_)
  cases f with
  | next=>
   obtain⟨σ3,H3,I3,n3⟩:=q3
   obtain⟨m',hm,w3⟩:=hN σ3 H3 n3
   exact⟨m',hm,σ3,H3,I3,w3⟩
  | cont=>
   obtain⟨σ3,H3,I3,n3⟩:=q3
   obtain⟨m',hm,w3⟩:=hN σ3 H3 n3
   exact⟨m',hm,σ3,H3,I3,w3⟩
  | brk=>exact q3
  | ret v=>exact q3
 | false=>
  rw[if_neg Bool.false_ne_true];exact wpAny_execs_nil ⟨σ1,H2,I2,q2⟩
end
set_option genInjectivity false in
set_option genSizeOf false in
structure It where
 go:Nat→Hp→Prop
 yld:Nat→Hp→V→Hp→Prop
 stop:Nat→Hp→Prop
def gP(X:Cx)(pins:List (Addr × Obj))(H:Hp)(b:Addr):Prop:=
 H b=none∧b≠X.env.locals∧b∉X.fs∧(b∈X.ex∨X.s₀.heap.objs.size≤b)∧(∀ x c,X.env.cells.lookup x=some c→c≠b)∧∀ p∈X.pn++pins,p.1≠b
theorem Inv.fpOk{X:Cx}{pins:List (Addr × Obj)}{σ : St}{H H':Hp}{s:Shared}{b:Addr}(I:Inv X pins σ H s)(hb:s.heap.objs.size≤b)(hn:H' b=none):gP X pins H' b:=by
 refine⟨hn,Nat.ne_of_gt (Nat.lt_of_lt_of_le I.lt hb),I.nofs hb,.inr (Nat.le_trans I.sz hb),fun x c e z=>?_,fun p hp z=>?_⟩
 ·obtain⟨v,q⟩:=I.cell x c e
  exact absurd (Nat.lt_of_lt_of_le q.lt (by rw[z]; exact hb)) (Nat.lt_irrefl _)
 ·exact absurd (Nat.lt_of_lt_of_le (Heap.lt_size (I.pin p hp).1) (by rw[z]; exact hb)) (Nat.lt_irrefl _)
structure js (P:Program) (w:World) (K:PySem.W.Frag) (tg:Expr) (J:It) (fp:List Addr) (it:Addr) (tn:Nat→Heap→Prop):Prop where
 mem:it∈fp
 obj:∀ i h,tn i h→∀ b∈fp,∃ o,h.get? b=some o∧∀ v,o.data ≠ .cell v
 keep:∀ i h h',tn i h→(∀ b∈fp,∀ o,h.get? b=some o→h'.get? b=some o)→tn i h'
 item:∀ (X:Cx),X.prog=P→X.w=w→X.K=K→X.calm=true→∀ (i:Nat) (pins:List (Addr × Obj)) (s:Shared) (σ : St) (H:Hp) (E:Value→Shared→Prop),Inv X pins σ H s→(∀ b∈fp,gP X pins H b)→tn i s.heap→J.go i H→
  wpAny (model P w) X.A (pyNext (.ref it)) (fun r s1=>∃ u,r=some u∧
   wpAny (model P w) X.A (letOwnedTupleGo tg (.ref it) u) (fun _ s2=>∃ x H',Inv X pins σ H' s2∧RelV x u∧J.yld i H x H'∧tn (i+1) s2.heap∧∀ b∈fp,H' b=none) E s1) E s
 done:∀ (X:Cx),X.prog=P→X.w=w→X.K=K→X.calm=true→∀ (i:Nat) (pins:List (Addr × Obj)) (s:Shared) (σ : St) (H:Hp) (E:Value→Shared→Prop),Inv X pins σ H s→(∀ b∈fp,gP X pins H b)→tn i s.heap→J.stop i H→
  wpAny (model P w) X.A (pyNext (.ref it)) (fun r s1=>r=none∧Inv X pins σ H s1) E s
 self:∀ (A:Around) (i:Nat) (s:Shared) (Q:Value→Shared→Prop) (E:Value→Shared→Prop),tn i s.heap→Q (.ref it) s→wpAny (model P w) A (pyIter (.ref it)) Q E s
abbrev TI:=St→Hp→(It→Hp→Prop)→Prop
def FZ(X:Cx)(pins:List (Addr × Obj))(σ : St)(tg:Expr)(R:It→Hp→Prop)(itv:Value)(s2:Shared):Prop:=
 ∃ (it:Addr) (fp:List Addr) (tn:Nat→Heap→Prop) (J:It) (H':Hp),itv = .ref it∧Inv X pins σ H' s2∧js X.prog X.w X.K tg J fp it tn∧tn 0 s2.heap∧(∀ b∈fp,gP X pins H' b)∧R J H'
def PI(X:Cx)(tg iter:Expr)(wi:TI):Prop:=
 ∀ (pins:List (Addr × Obj)) (s:Shared) (σ : St) (H:Hp) (R:It→Hp→Prop),Inv X pins σ H s→wi σ H R→
  wpAny (model X.prog X.w) X.A (eval iter X.env) (fun v s1=>wpAny (model X.prog X.w) X.A (pyIter v) (FZ X pins σ tg R) X.xe s1) X.xe s
theorem oO{M:Model}{A:Around}{E:Value→Shared→Prop}{s:Shared}{tg:Expr}{it:Addr}{u:Value}{o:Obj}{n:String}{vs:Array Value}{Q:Unit→Shared→Prop}(ho:s.heap.get? it=some o)(hc:o.cls = .type n)(hd:o.data = .fields vs)
    (hn:["enumerate", "zip", "dict_itemiterator", "dict_reverseitemiterator", "odict_iterator", "itertools.zip_longest", "itertools.pairwise"].contains n=false) (hQ:Q () s):wpAny M A (letOwnedTupleGo tg (.ref it) u) Q E s:=by
  unfold letOwnedTupleGo
  cases tg <;> first
    | exact wpAny_pure hQ
    | (cases u <;> first
        | exact wpAny_pure hQ
        | (refine wpAny_bind (wpAny_load ho ?_)
           rw[hc,hd];show wpAny M A (if (["enumerate", "zip", "dict_itemiterator", "dict_reverseitemiterator", "odict_iterator", "itertools.zip_longest", "itertools.pairwise"].contains n&&vs[0]? == some (rawInt _))=true then _ else _) Q E s
           rw[if_neg (by intro h; rw[hn,Bool.false_and]at h; cases h)]
           exact wpAny_pure hQ))
def lX(K:PySem.W.Frag)(a:Addr):It:=
 ⟨fun i H=>∃ xs x,SqL K H a xs∧xs[i]? = some x,fun i H x H'=>H'=H∧∀ xs,SqL K H a xs→xs[i]? = some x,fun i H=>∃ xs,SqL K H a xs∧xs.length≤i⟩
def xT(K:PySem.W.Frag)(a:Addr):It:=
 ⟨fun i H=>∃ xs x,SqT K H a xs∧xs[i]? = some x,fun i H x H'=>H'=H∧∀ xs,SqT K H a xs→xs[i]? = some x,fun i H=>∃ xs,SqT K H a xs∧xs.length≤i⟩
def lO(lo:Int)(n:Nat):It:=⟨fun i _=>i<n,fun i H x H'=>H'=H∧x = .int (lo+i),fun i _=>n≤i⟩
theorem w9{P:Program}{w:World}{K:PySem.W.Frag}{tg:Expr}(a it:Addr):js P w K tg (lX K a) [it] it (fun i h=>h.IsListIter it a i) where
 mem:=by simp
 obj:=fun i h st b hb=>by
  have e:b=it:=by simpa using hb
  subst e;obtain⟨o,e,c,d⟩:=st
  exact⟨o,e,fun v z=>by rw[d]at z; cases z⟩
 keep:=fun i h h' st k=>st.at fun o e=>k it (by simp) o e
 item:=by
  intro X hP hw hK hc i pins s σ H E I hf st hg
  subst hP hw hK;obtain⟨xs,x,hq,hx⟩:=hg
  obtain⟨its,rv,p,hz⟩:=I.list hq
  obtain⟨u,hu,ru⟩:=rv.get hx
  obtain⟨f0,f1,f2,f3,f4,f5⟩:=hf it (by simp)
  refine wpAny_pyNext_list_item st p.isList (x:=u) (by simpa using hu) fun h' st' sb=>?_
  have I1:Inv X pins σ H { s with heap:=h' }:=I.turned (t':=s.toks) (fun b o hb e=>(sb.2 b hb).trans e) f0 f1 f3 f4 f5
  obtain⟨o,e,c,d⟩:=id st'
  exact⟨u,rfl,oO (s:={ s with heap:=h' }) e c d (by decide) ⟨x,H,I1,ru,⟨rfl,fun ys hy=>by rw[I.list_inj hy hq]; exact hx⟩,st',fun b hb=>(hf b hb).1⟩⟩
 done:=by
  intro X hP hw hK hc i pins s σ H E I hf st hg
  subst hP hw hK;obtain⟨xs,hq,hx⟩:=hg
  obtain⟨its,rv,p,hz⟩:=I.list hq
  obtain⟨f0,f1,f2,f3,f4,f5⟩:=hf it (by simp)
  have hl:=rv.length;exact wpAny_pyNext_list_end (I.ok.hd hc) st p.isList (by simp; omega) fun h' eb=>⟨rfl,I.turned (t':=s.toks) (fun b o hb e=>eb b o hb e) f0 f1 f3 f4 f5⟩
 self:=fun _ _ _ _ _ st h=>wpAny_pyIter_listiter st h
theorem vW{P:Program}{w:World}{K:PySem.W.Frag}{tg:Expr}(a it:Addr):js P w K tg (xT K a) [it] it (fun i h=>h.IsTupleIter it a i) where
 mem:=by simp
 obj:=fun i h st b hb=>by
  have e:b=it:=by simpa using hb
  subst e;obtain⟨o,e,c,d⟩:=st
  exact⟨o,e,fun v z=>by rw[d]at z; cases z⟩
 keep:=fun i h h' st k=>st.at fun o e=>k it (by simp) o e
 item:=by
  intro X hP hw hK hc i pins s σ H E I hf st hg
  subst hP hw hK;obtain⟨xs,x,hq,hx⟩:=hg
  obtain⟨its,rv,p,hz⟩:=I.tuple hq
  obtain⟨u,hu,ru⟩:=rv.get hx
  obtain⟨f0,f1,f2,f3,f4,f5⟩:=hf it (by simp)
  refine wpAny_pyNext_tuple_item st (show s.heap.IsTuple a its.toArray from p) (x:=u) (by simpa using hu) fun h' st' sb=>?_
  have I1:Inv X pins σ H { s with heap:=h' }:=I.turned (t':=s.toks) (fun b o hb e=>(sb.2 b hb).trans e) f0 f1 f3 f4 f5
  obtain⟨o,e,c,d⟩:=id st'
  exact⟨u,rfl,oO (s:={ s with heap:=h' }) e c d (by decide) ⟨x,H,I1,ru,⟨rfl,fun ys hy=>by rw[I.tuple_inj hy hq]; exact hx⟩,st',fun b hb=>(hf b hb).1⟩⟩
 done:=by
  intro X hP hw hK hc i pins s σ H E I hf st hg
  subst hP hw hK;obtain⟨xs,hq,hx⟩:=hg
  obtain⟨its,rv,p,hz⟩:=I.tuple hq
  obtain⟨f0,f1,f2,f3,f4,f5⟩:=hf it (by simp)
  have hl:=rv.length;exact wpAny_pyNext_tuple_end (I.ok.hd hc) st (show s.heap.IsTuple a its.toArray from p) (by simp; omega) fun h' eb=>⟨rfl,I.turned (t':=s.toks) (fun b o hb e=>eb b o hb e) f0 f1 f3 f4 f5⟩
 self:=fun _ _ _ _ _ st h=>wpAny_pyIter_tupleiter st h
theorem uJ{P:Program}{w:World}{K:PySem.W.Frag}{tg:Expr}(it:Addr)(lo:Int)(n:Nat):js P w K tg (lO lo n) [it] it (fun i h=>IsRangeIter h it (lo+(i:Nat) * 1) ((n:Int) - (i:Nat)) 1) where
 mem:=by simp
 obj:=fun i h st b hb=>by
  have e:b=it:=by simpa using hb
  subst e
  exact⟨_,st,fun v z=>by
   have z':Data.fields _=Data.cell v:=z
   cases z'⟩
 keep:=fun i h h' st k=>k it (by simp) _ st
 item:=by
  intro X hP hw hK hc i pins s σ H E I hf st hg
  subst hP hw hK;obtain⟨f0,f1,f2,f3,f4,f5⟩:=hf it (by simp)
  have W:=Walks.range (prog:=X.prog) (w:=X.w) (I.ok.hd hc) it lo 1 n;refine W.item i s _ _ hg st fun v h' tk hv st' kk=>?_
  obtain⟨t,rfl⟩:=hv
  have I1:Inv X pins σ H { s with heap:=h',toks:=tk }:=I.turned (fun b o hb e=>kk b o (by simpa using hb) e) f0 f1 f3 f4 f5
  refine⟨_,rfl,oO (s:={ s with heap:=h',toks:=tk }) (n := "range_iterator") st' rfl rfl (by decide) ⟨.int (lo+i),H,I1,⟨t,?_⟩,⟨rfl,rfl⟩,st',fun b hb=>(hf b hb).1⟩⟩
  rw[Int.mul_one]
 done:=by
  intro X hP hw hK hc i pins s σ H E I hf st hg
  subst hP hw hK;obtain⟨f0,f1,f2,f3,f4,f5⟩:=hf it (by simp)
  exact wpAny_pyNext_range_end (I.ok.hd hc) st (by have:n≤i:=hg; omega) fun h' eb=>⟨rfl,I.turned (t':=s.toks) (fun b o hb e=>eb b o hb e) f0 f1 f3 f4 f5⟩
 self:=fun _ _ _ _ _ st h=>wpAny_pyIter_rangeiter st h
end L2
namespace L2
open PySem PySem.Spec PyProof.Rows
section
variable{X:Cx}{tg:Expr}
def vm(K:PySem.W.Frag)(tl:TE):TI:=fun σ H R=>tl σ H fun x H1=>∃ a,x = .ref a∧(∃ xs,SqL K H1 a xs)∧R (lX K a) H1
def Aj(K:PySem.W.Frag)(tl:TE):TI:=fun σ H R=>tl σ H fun x H1=>∃ a,x = .ref a∧(∃ xs,SqT K H1 a xs)∧R (xT K a) H1
theorem Cz{l:Expr}{tl:TE}(hl:PE X l tl):PI X tg l (vm X.K tl):=by
 intro pins s σ H R I h
 refine aZ (hl pins s σ H _ I h) fun v s1 ⟨x,H1,I1,r1,q1⟩=>?_
 obtain⟨a,e,⟨xs,hq⟩,q⟩:=q1
 subst e
 cases r1;obtain⟨its,rv,p,hz⟩:=I1.list hq
 refine wpAny_pyIter_list p.isList ?_
 refine⟨s1.heap.objs.size,[s1.heap.objs.size],_,_,H1,rfl,I1.kept (t':=s1.toks) fun b o e=>Heap.get?_push_of_some _ e,w9 a _,⟨_,Heap.get?_push_size _ rfl,rfl,rfl⟩,fun b hb=>?_,q⟩
 have e:b=s1.heap.objs.size:=by simpa using hb
 subst e;exact I1.fpOk (Nat.le_refl _) (I1.hok.fresh (Nat.le_refl _))
theorem ER{l:Expr}{tl:TE}(hl:PE X l tl):PI X tg l (Aj X.K tl):=by
 intro pins s σ H R I h
 refine aZ (hl pins s σ H _ I h) fun v s1 ⟨x,H1,I1,r1,q1⟩=>?_
 obtain⟨a,e,⟨xs,hq⟩,q⟩:=q1
 subst e
 cases r1;obtain⟨its,rv,p,hz⟩:=I1.tuple hq
 refine wpAny_pyIter_tuple (show s1.heap.IsTuple a its.toArray from p) ?_
 refine⟨s1.heap.objs.size,[s1.heap.objs.size],_,_,H1,rfl,I1.kept (t':=s1.toks) fun b o e=>Heap.get?_push_of_some _ e,vW a _,⟨_,Heap.get?_push_size _ rfl,rfl,rfl⟩,fun b hb=>?_,q⟩
 have e:b=s1.heap.objs.size:=by simpa using hb
 subst e;exact I1.fpOk (Nat.le_refl _) (I1.hok.fresh (Nat.le_refl _))
theorem zG{pins:List (Addr × Obj)}{σ : St}{H:Hp}{s:Shared}{R:It→Hp→Prop}{E:Value→Shared→Prop}{lo hi:Int}{t u v:Tok}{tk:Nat}(I:Inv X pins σ H s)(h1:-(2 ^ 62)≤lo)(h2:lo<2 ^ 62)(h3:-(2 ^ 62)≤hi)(h4:hi<2 ^ 62)
  (q:R (lO lo (hi - lo).toNat) H):wpAny (model X.prog X.w) X.A (pyIter (.ref s.heap.objs.size)) (FZ X pins σ tg R) E { s with heap:=s.heap.push { cls:=.type "range", data:=.fields #[.int lo t,.int hi u,.int 1 v] },toks:=tk }:=by
 refine wpAny_pyIter_range (IsRange.new ..) (small_one h1 h2 h3 h4) ?_
 have I1:Inv X pins σ H { s with heap:=s.heap.push { cls:=.type "range", data:=.fields #[.int lo t,.int hi u,.int 1 v] },toks:=tk }:=I.kept fun b o e=>Heap.get?_push_of_some _ e
 refine⟨(s.heap.push { cls:=.type "range", data:=.fields #[.int lo t,.int hi u,.int 1 v] }).objs.size,[(s.heap.push { cls:=.type "range", data:=.fields #[.int lo t,.int hi u,.int 1 v] }).objs.size],_,_,H,rfl,
  I1.kept (t':=tk) fun b o e=>Heap.get?_push_of_some _ e,uJ _ lo (hi - lo).toNat,?_,fun b hb=>?_,q⟩
 ·have e1:lo+((0:Nat):Int) * 1=lo:=by simp
  have e2:(((hi - lo).toNat:Nat):Int) - ((0:Nat):Int)=Builtin.Range.rangeSize lo hi 1:=by rw[rangeSize_one]; split <;> omega
  show IsRangeIter _ _ (lo+((0:Nat):Int) * 1) ((((hi - lo).toNat:Nat):Int) - ((0:Nat):Int)) 1
  rw[e1,e2];exact Heap.get?_push_size _ rfl
 ·have e:b=(s.heap.push { cls:=.type "range", data:=.fields #[.int lo t,.int hi u,.int 1 v] }).objs.size:=by simpa using hb
  subst e;exact I1.fpOk (Nat.le_refl _) (I1.hok.fresh (Nat.le_refl _))
def Bv(ta:TA):TI:=fun σ H R=>ta σ H fun vs H1=>∃ j:Int,vs=[.int j]∧-(2 ^ 62)≤j∧j<2 ^ 62∧R (lO 0 j.toNat) H1
theorem jg{a:Expr}{ta:TA}{p pos:Pos}(hg:Gl X "range") (hm:X.mg "range" = none) (ha:PA X [a] ta) (hs:starEach [a] X.env=[(false,eval a X.env)]:=by rfl):PI X tg (.Call (.Name "range" p) [a] [] pos) (Bv ta):=by
 intro pins s σ H R I h
 refine Call_ (gX I hg hm boot_range (PyProof.Rows.callWith_type1 (aZ (ha pos pins s σ H _ I h) fun us s1 ⟨vs,H1,I1,r1,q1⟩=>?_) hs rfl))
 obtain⟨j,e,q1,q2,q⟩:=q1
 subst e
 cases r1 with
 | cons r rr=>
  cases rr;obtain⟨t,rfl⟩:=r
  exact call_range_1 (zG I1 (by omega) (by omega) q1 q2 (by simpa using q))
def EI(wi:TI)(g:TG)(tb:TS):TS:=fun D σ H=>wi σ H fun J H1=>∃ W:Nat→Nat→St→Hp→Prop,(∃ m,W 0 m σ H1)∧∀ i m σ H,W i m σ H→
 (J.stop i H∧D.nx σ H)∨(J.go i H∧∃ N:St→Hp→Prop,(∀ σ' H',N σ' H'→∃ m',m'<m∧W (i+1) m' σ' H')∧∀ x H',J.yld i H x H'→g x σ H' fun σ2 H2=>tb { D with nx:=N,ct:=N,bk:=D.nx } σ2 H2)
def jh(fp:List Addr)(h:Heap):List (Addr × Obj):=fp.filterMap fun b=>(h.get? b).map fun o=>(b,o)
theorem gE{fp:List Addr}{h:Heap}{b:Addr}{o:Obj}(hb:b∈fp)(e:h.get? b=some o):(b,o)∈jh fp h:=List.mem_filterMap.mpr ⟨b,hb,by rw[e]; rfl⟩
theorem xw{fp:List Addr}{h:Heap}{p:Addr × Obj}(hp:p∈jh fp h):p.1∈fp∧h.get? p.1=some p.2:=by
 obtain⟨b,hb,e⟩:=List.mem_filterMap.mp hp
 cases q:h.get? b with
 | none=>rw[q]at e; cases e
 | some o=>
  rw[q]at e
  have e':(b,o)=p:=Option.some.inj e
  subst e';exact⟨hb,q⟩
theorem Inv.pinned{pins:List (Addr × Obj)}{σ : St}{H:Hp}{s:Shared}{fp:List Addr}(I:Inv X pins σ H s)(hf:∀ b∈fp,gP X pins H b)(ho:∀ b∈fp,∃ o,s.heap.get? b=some o∧∀ v,o.data ≠ .cell v):Inv X (pins++jh fp s.heap) σ H s:=
 I.pins_of fun p hp=>(List.mem_append.mp hp).elim (fun z=>I.pin p (List.mem_append_right _ z)) fun z=>by
  obtain⟨hb,e⟩:=xw z
  obtain⟨f0,f1,f2,_⟩:=hf p.1 hb
  obtain⟨o,e',d⟩:=ho p.1 hb
  rw[e]at e'; cases e'
  exact⟨e,f0,f1,f2,d⟩
theorem Inv.unpinned{pins pl:List (Addr × Obj)}{σ : St}{H:Hp}{s:Shared}(I:Inv X (pins++pl) σ H s):Inv X pins σ H s:=I.pins_of fun p hp=>I.pin p (List.mem_append_right _ (List.mem_append_left _ hp))
theorem cC{iter:Expr}{body:List Stmt}{wi:TI}{g:TG}{tb:TS}{pos:Pos}(hp:PassesOwn (model X.prog X.w) X.A X.env X.xe)(hc:X.calm=true)(hi:PI X tg iter wi)(hg:PG X tg g)(hb:PSs X body tb)
  (hs:∀ x,foldedSetIterable iter X.env x=pure x:=by intro _; rfl):PS X (.For tg iter body [] pos) (EI wi g tb):=by
 intro pins s σ H D I h
 refine wpAny_For (aZ (hi pins s σ H _ I h) fun v s1 h1=>aZ h1 fun itv s2 h2=>?_) hs
 obtain⟨it,fp,tn,J,H2,e,I2,T,st2,f2,W,⟨m0,w0⟩,turn⟩:=h2
 subst e
 -- what stays true of the iterator's objects through the loop
 have stat:∀ {H':Hp},(∀ b∈fp,H' b=none)→∀ b∈fp,gP X pins H' b:=fun hn b hb=>⟨hn b hb,(f2 b hb).2⟩
 refine codeAny_forLoop_any (fun n s'=>∃ i σ' H',Inv X pins σ' H' s'∧tn i s'.heap∧(∀ b∈fp,H' b=none)∧W i n σ' H') ?_ m0 ⟨0,σ,H2,I2,st2,fun b hb=>(f2 b hb).1,w0⟩
 rintro n s3 ⟨i,σ3,H3,I3,st3,fr3,w3⟩
 rcases turn i n σ3 H3 w3 with ⟨stop,qn⟩ | ⟨go,N,hN,step⟩
 ·refine wpAny_passesOwn hp (aZ (T.done X rfl rfl rfl hc i pins s3 σ3 H3 X.xe I3 (stat fr3) st3 stop) fun r s4 ⟨hr,I4⟩=>?_)
  subst hr;exact wpAny_execs_nil ⟨σ3,H3,I4,qn⟩
 ·refine wpAny_passesOwn hp (aZ (T.item X rfl rfl rfl hc i pins s3 σ3 H3 X.xe I3 (stat fr3) st3 go) fun r s4 ⟨u,hr,h4⟩=>?_)
  subst hr;refine wpAny_passesOwn hp (aZ h4 fun _ s5 ⟨x,H5,I5,r5,y5,st5,fr5⟩=>?_)
  have I5':=I5.pinned (stat fr5) (T.obj _ _ st5);refine wpAny_passesOwn hp (aZ (hg _ s5 σ3 H5 x u _ I5' r5 (step x H5 y5)) fun _ s6 ⟨σ6,H6,I6,q6⟩=>?_)
  refine wpAny_passesOwn hp (aZ (hb _ s6 σ6 H6 _ I6 q6) fun f s7 q7=>?_)
  have again:∀ {σ7:St} {H7:Hp},Inv X (pins++jh fp s5.heap) σ7 H7 s7→N σ7 H7→∃ m,m<n∧∃ i σ' H',Inv X pins σ' H' s7∧tn i s7.heap∧(∀ b∈fp,H' b=none)∧W i m σ' H':=fun {σ7 H7} I7 n7=>by
   obtain⟨m',hm,w7⟩:=hN σ7 H7 n7
   refine⟨m',hm,i+1,σ7,H7,I7.unpinned,T.keep _ _ _ st5 fun b hb o e=>(I7.pin (b,o) (List.mem_append_right _ (List.mem_append_right _ (gE hb e)))).1,fun b hb=>?_,w7⟩
   obtain⟨o,e,d⟩:=T.obj _ _ st5 b hb
   exact(I7.pin (b,o) (List.mem_append_right _ (List.mem_append_right _ (gE hb e)))).2.1
  cases f with
  | next=>obtain⟨σ7,H7,I7,n7⟩:=q7; exact again I7 n7
  | cont=>obtain⟨σ7,H7,I7,n7⟩:=q7; exact again I7 n7
  | brk=>obtain⟨σ7,H7,I7,q7⟩:=q7; exact⟨σ7,H7,I7.unpinned,q7⟩
  | ret v=>obtain⟨x7,σ7,H7,I7,r7,q7⟩:=q7; exact⟨x7,σ7,H7,I7.unpinned,r7,q7⟩
end
theorem Au{K:PySem.W.Frag}{a:Addr}{xs:List V}{g:TG}{tb:TS}{D:dM}{σ : St}{H:Hp}(Pv:Nat→St→Hp→Prop)(h0:Pv 0 σ H)(hl:∀ i σ H,i≤xs.length→Pv i σ H→SqL K H a xs)
  (hs:∀ i x σ H,xs[i]? = some x→Pv i σ H→g x σ H fun σ2 H2=>tb { D with nx:=Pv (i+1),ct:=Pv (i+1),bk:=D.nx } σ2 H2) (hd:∀ σ H,Pv xs.length σ H→D.nx σ H) :
  ∃ W:Nat→Nat→St→Hp→Prop,(∃ m,W 0 m σ H)∧∀ i m σ H,W i m σ H→
   ((lX K a).stop i H∧D.nx σ H)∨((lX K a).go i H∧∃ N:St→Hp→Prop,(∀ σ' H',N σ' H'→∃ m',m'<m∧W (i+1) m' σ' H')∧∀ x H',(lX K a).yld i H x H'→g x σ H' fun σ2 H2=>tb { D with nx:=N,ct:=N,bk:=D.nx } σ2 H2):=by
 refine⟨fun i m σ H=>m=xs.length - i∧i≤xs.length∧Pv i σ H,⟨xs.length,by simp,Nat.zero_le _,h0⟩,?_⟩
 rintro i m σ H ⟨rfl,hi,p⟩
 have q:=hl i σ H hi p
 by_cases hlt:i<xs.length
 ·refine .inr ⟨⟨xs,xs[i],q,by simp[hlt]⟩,Pv (i+1),fun σ' H' p'=>⟨xs.length - (i+1),by omega,rfl,hlt,p'⟩,fun x H' y=>?_⟩
  obtain⟨e,y⟩:=y
  subst e;exact hs i x σ _ (y xs q) p
 ·have e:i=xs.length:=by omega
  subst e;exact .inl ⟨⟨xs,q,Nat.le_refl _⟩,hd σ H p⟩
theorem wz{lo:Int}{n:Nat}{g:TG}{tb:TS}{D:dM}{σ : St}{H:Hp}(Pv:Nat→St→Hp→Prop)(h0:Pv 0 σ H)
  (hs:∀ i σ H,i<n→Pv i σ H→g (.int (lo+i)) σ H fun σ2 H2=>tb { D with nx:=Pv (i+1),ct:=Pv (i+1),bk:=D.nx } σ2 H2) (hd:∀ σ H,Pv n σ H→D.nx σ H) :
  ∃ W:Nat→Nat→St→Hp→Prop,(∃ m,W 0 m σ H)∧∀ i m σ H,W i m σ H→
   ((lO lo n).stop i H∧D.nx σ H)∨((lO lo n).go i H∧∃ N:St→Hp→Prop,(∀ σ' H',N σ' H'→∃ m',m'<m∧W (i+1) m' σ' H')∧∀ x H',(lO lo n).yld i H x H'→g x σ H' fun σ2 H2=>tb { D with nx:=N,ct:=N,bk:=D.nx } σ2 H2):=by
 refine⟨fun i m σ H=>m=n - i∧i≤n∧Pv i σ H,⟨n,by simp,Nat.zero_le _,h0⟩,?_⟩
 rintro i m σ H ⟨rfl,hi,p⟩
 by_cases hlt:i<n
 ·refine .inr ⟨hlt,Pv (i+1),fun σ' H' p'=>⟨n - (i+1),by omega,rfl,hlt,p'⟩,fun x H' y=>?_⟩
  obtain⟨e,y⟩:=y
  subst e y;exact hs i σ _ hlt p
 ·have e:i=n:=by omega
  subst e;exact .inl ⟨Nat.le_refl _,hd σ H p⟩
end L2
namespace L2
open PySem PySem.Spec PyProof.Rows
abbrev R2:=V→V→Hp→VK→Prop
def OpR(X:Cx)(f:Value→Value→Sem Value)(r:R2):Prop:=
 ∀ (pins:List (Addr × Obj)) (s:Shared) (σ : St) (H:Hp) (x y:V) (v u:Value) (Q:VK),Inv X pins σ H s→RelV x v→RelV y u→r x y H Q→
  wpAny (model X.prog X.w) X.A (f v u) (EP X pins σ Q) X.xe s
def UnR(X:Cx)(f:Value→Sem Value)(r:V→Hp→VK→Prop):Prop:=
 ∀ (pins:List (Addr × Obj)) (s:Shared) (σ : St) (H:Hp) (x:V) (v:Value) (Q:VK),Inv X pins σ H s→RelV x v→r x H Q→
  wpAny (model X.prog X.w) X.A (f v) (EP X pins σ Q) X.xe s
def CallR(X:Cx)(f:Value)(r:List V→Hp→VK→Prop):Prop:=
 ∀ (pins:List (Addr × Obj)) (s:Shared) (σ : St) (H:Hp) (xs:List V) (us:List Value) (Q:VK),Inv X pins σ H s→Vals xs us→r xs H Q→
  wpAny (model X.prog X.w) X.A (call f us) (EP X pins σ Q) X.xe s
def xX(r:R2)(ta tb:TE):TE:=fun σ H Q=>ta σ H fun x H1=>tb σ H1 fun y H2=>r x y H2 Q
def FN(r:V→Hp→VK→Prop)(ta:TE):TE:=fun σ H Q=>ta σ H fun x H1=>r x H1 Q
def rI(C:Int→Int→Prop)(g:Int→Int→V):R2:=fun x y H Q=>∃ i j,x = .int i∧y = .int j∧C i j∧Q (g i j) H
def og(g:Int→Int→V):R2:=fun x y H Q=>∃ i j,x = .int i∧y = .int j∧Q (g i j) H
def rU(g:Int→V):V→Hp→VK→Prop:=fun x H Q=>∃ i,x = .int i∧Q (g i) H
section
variable{X:Cx}{a b c:Expr}{ta tb tc:TE}{pos:Pos}
theorem AD(ha:PE X a ta)(hb:PE X b tb){pins:List (Addr × Obj)}{s:Shared}{σ : St}{H:Hp}{R:V→V→Hp→Prop}(I:Inv X pins σ H s)
  (h:ta σ H fun x H1=>tb σ H1 fun y H2=>R x y H2) {Q:Value→Shared→Prop} {f:Value→Value→Sem Value}
  (hf:∀ v u s2 x y H2,Inv X pins σ H2 s2→RelV x v→RelV y u→R x y H2→wpAny (model X.prog X.w) X.A (f v u) Q X.xe s2) :
  wpAny (model X.prog X.w) X.A (eval a X.env) (fun v s₁=>wpAny (model X.prog X.w) X.A (eval b X.env) (fun u s₂=>wpAny (model X.prog X.w) X.A (f v u) Q X.xe s₂) X.xe s₁) X.xe s:=by
 refine aZ (ha pins s σ H _ I h) fun v s1 ⟨x,H1,I1,r1,q1⟩=>?_
 refine aZ (hb pins s1 σ H1 _ I1 q1) fun u s2 ⟨y,H2,I2,r2,q2⟩=>?_
 exact hf v u s2 x y H2 I2 r1 r2 q2
theorem ao{op:Operator}{r:R2}(ho:OpR X (binaryOp op) r)(ha:PE X a ta)(hb:PE X b tb):PE X (.BinOp a op b pos) (xX r ta tb):=by
 intro pins s σ H Q I h
 exact wpAny_BinOp (AD ha hb I h fun v u s2 x y H2 I2 rx ry q=>ho pins s2 σ H2 x y v u Q I2 rx ry q)
theorem j6{op:UnaryOp}{r:V→Hp→VK→Prop}(ho:UnR X (unaryOp op) r)(ha:PE X a ta):PE X (.UnaryOp op a pos) (FN r ta):=by
 intro pins s σ H Q I h
 exact UnaryOp_ (aZ (ha pins s σ H _ I h) fun v s1 ⟨x,H1,I1,r1,q1⟩=>ho pins s1 σ H1 x v Q I1 r1 q1)
theorem BA{f:Value→Value→Sem Value}{C:Int→Int→Prop}{g:Int→Int→Int}
  (rule:∀ (i j:Int) (t u:Tok) (s:Shared) (Q:Value→Shared→Prop) (E:Value→Shared→Prop),C i j→Q (.int (g i j) s.toks) { s with toks:=s.toks+1 }→wpAny (model X.prog X.w) X.A (f (.int i t) (.int j u)) Q E s) :
  OpR X f (rI C fun i j=>.int (g i j)):=by
 intro pins s σ H x y v u Q I rx ry h
 obtain⟨i,j,rfl,rfl,hc,q⟩:=h
 obtain⟨t,rfl⟩:=rx
 obtain⟨t',rfl⟩:=ry
 exact rule i j t t' s _ _ hc ⟨.int (g i j),H,I.tok _,⟨_,rfl⟩,q⟩
theorem Em{f:Value→Value→Sem Value}{g:Int→Int→Int}
  (rule:∀ (i j:Int) (t u:Tok) (s:Shared) (Q:Value→Shared→Prop) (E:Value→Shared→Prop),Q (.int (g i j) s.toks) { s with toks:=s.toks+1 }→wpAny (model X.prog X.w) X.A (f (.int i t) (.int j u)) Q E s) :
  OpR X f (og fun i j=>.int (g i j)):=by
 intro pins s σ H x y v u Q I rx ry h
 obtain⟨i,j,rfl,rfl,q⟩:=h
 obtain⟨t,rfl⟩:=rx
 obtain⟨t',rfl⟩:=ry
 exact rule i j t t' s _ _ ⟨.int (g i j),H,I.tok _,⟨_,rfl⟩,q⟩
theorem zu{f:Value→Value→Sem Value}{g:Int→Int→Bool}
  (rule:∀ (i j:Int) (t u:Tok) (s:Shared) (Q:Value→Shared→Prop) (E:Value→Shared→Prop),Q (.bool (g i j)) s→wpAny (model X.prog X.w) X.A (f (.int i t) (.int j u)) Q E s) :
  OpR X f (og fun i j=>.bl (g i j)):=by
 intro pins s σ H x y v u Q I rx ry h
 obtain⟨i,j,rfl,rfl,q⟩:=h
 obtain⟨t,rfl⟩:=rx
 obtain⟨t',rfl⟩:=ry
 exact rule i j t t' s _ _ ⟨.bl (g i j),H,I,rfl,q⟩
def GG(i j:Int):Prop:=0<j∧j<1073741824
def Gi(i j:Int):Prop:=0≤j∧j≤1000000∧i.natAbs<2 ^ 64
def CMul(i j:Int):Prop:=(-(2 ^ 64)<i∧i<2 ^ 64)∨(-(2 ^ 64)<j∧j<2 ^ 64)
theorem CMul.ok{i j:Int}(h:CMul i j):IntMulOk i j:=by
 rcases h with ⟨h1,h2⟩ | ⟨h1,h2⟩
 ·exact .of_left (intBits_le_64 h1 h2)
 ·exact .of_right (intBits_le_64 h1 h2)
theorem Dz:OpR X (binaryOp .Add) (og fun i j=>.int (i+j)):=Em fun _ _ _ _ _ _ _ q=>add_int q
theorem fu:OpR X (binaryOp .Sub) (og fun i j=>.int (i - j)):=Em fun _ _ _ _ _ _ _ q=>sub_int q
theorem Dq:OpR X (binaryOp .Mult) (rI CMul fun i j=>.int (i * j)):=BA fun _ _ _ _ _ _ _ hc q=>mul_int q hc.ok
theorem gg:OpR X (binaryOp .FloorDiv) (rI GG fun i j=>.int (i / j)):=BA fun i j _ _ _ _ _ hc q=>by
 have h1:(0:Int)<j:=hc.1
 have h2:j<1073741824:=hc.2
 exact floordiv_int (by omega) (by rw[Int.fdiv_eq_ediv_of_nonneg i (by omega)]; exact q) (.inl (PyProof.noPylong_small (by omega)))
theorem bK:OpR X (binaryOp .Mod) (rI (fun _ j=>0<j) fun i j=>.int (i % j)):=BA fun i j _ _ _ _ _ hc q=>by
 have h1:(0:Int)<j:=hc
 exact mod_int' (by omega) (by rw[Int.fmod_eq_emod_of_nonneg i (by omega)]; exact q)
theorem lc:OpR X (binaryOp .Pow) (rI Gi fun i j=>.int (i ^ j.toNat)):=BA fun _ _ _ _ _ _ _ hc q=>pow_int_small hc.1 hc.2.1 hc.2.2 q
theorem Ln{f:Value→Sem Value}{g:Int→Int}
  (rule:∀ (i:Int) (t:Tok) (s:Shared) (Q:Value→Shared→Prop) (E:Value→Shared→Prop),Q (.int (g i) s.toks) { s with toks:=s.toks+1 }→wpAny (model X.prog X.w) X.A (f (.int i t)) Q E s) :
  UnR X f (rU fun i=>.int (g i)):=by
 intro pins s σ H x v Q I rx h
 obtain⟨i,rfl,q⟩:=h
 obtain⟨t,rfl⟩:=rx
 exact rule i t s _ _ ⟨.int (g i),H,I.tok _,⟨_,rfl⟩,q⟩
theorem iu:UnR X (unaryOp .USub) (rU fun i=>.int (-i)):=Ln fun _ _ _ _ _ q=>neg_int q
end
def mC:V→V→Bool
 | .non,.non=>true | .non,.int _=>true | .int _,.non=>true | .non,.bl _=>true | .bl _,.non=>true | .non,.str _=>true | .str _,.non=>true
 | .int _,.int _=>true | .bl _,.bl _=>true | .str _,.str _=>true | .byt _,.byt _=>true
 | .int _,.str _=>true | .str _,.int _=>true | .bl _,.str _=>true | .str _,.bl _=>true
 | _,_=>false
def FR:R2:=fun x y H Q=>mC x y=true∧Q (.bl (decide (x=y))) H
def FQ:R2:=fun x y H Q=>mC x y=true∧Q (.bl (!decide (x=y))) H
theorem uq{i j:Int}:decide (V.int i=V.int j)=(i == j):=by
 rw[Bool.eq_iff_iff];simp
theorem xQ{i j:Bool}:decide (V.bl i=V.bl j)=(i == j):=by
 rw[Bool.eq_iff_iff];simp
theorem tL{i j:Str}:decide (V.str i=V.str j)=(i == j):=by
 rw[Bool.eq_iff_iff];simp
theorem sy{i j:Array UInt8}:decide (V.byt i=V.byt j)=(i.toList == j.toList):=by
 rw[Bool.eq_iff_iff]
 cases i
 cases j;simp
section
variable{X:Cx}{a b c:Expr}{ta tb tc:TE}{pos:Pos}
theorem br{pins:List (Addr × Obj)}{σ : St}{H:Hp}{s:Shared}{Q:VK}{k k':Bool}(I:Inv X pins σ H s)(q:Q (.bl k) H)(e:k=k'):EP X pins σ Q (.bool k') s:=by
 subst e;exact⟨.bl k,H,I,rfl,q⟩
theorem FB:OpR X (compareOp .Eq) FR:=by
 intro pins s σ H x y v u Q I rx ry h
 obtain⟨hs,q⟩:=h
 cases x with
 | non=>
  cases rx
  cases y with
  | non=>cases ry; exact PySem.EqNone.eq_none_none (br I q (by simp))
  | bl j=>cases ry; exact PySem.EqNone.eq_none_bool (br I q (by simp))
  | int j=>obtain⟨t',rfl⟩:=ry; exact PySem.EqNone.eq_none_int (br I q (by simp))
  | str j=>obtain⟨t',rfl⟩:=ry; exact PySem.EqNone.eq_none_str (br I q (by simp))
  | _=>exact absurd (show false=true from hs) Bool.false_ne_true
 | bl i=>
  cases rx
  cases y with
  | non=>cases ry; exact PySem.EqNone.eq_bool_none (br I q (by simp))
  | bl j=>cases ry; exact eq_bool (br I q xQ)
  | str j=>obtain⟨t',rfl⟩:=ry; exact PySem.EqMixed.eq_bool_str (br I q (by simp))
  | _=>exact absurd (show false=true from hs) Bool.false_ne_true
 | int i=>
  obtain⟨t,rfl⟩:=rx
  cases y with
  | non=>cases ry; exact PySem.EqNone.eq_int_none (br I q (by simp))
  | int j=>obtain⟨t',rfl⟩:=ry; exact eq_int (br I q uq)
  | str j=>obtain⟨t',rfl⟩:=ry; exact PySem.EqMixed.eq_int_str (br I q (by simp))
  | _=>exact absurd (show false=true from hs) Bool.false_ne_true
 | str i=>
  obtain⟨t,rfl⟩:=rx
  cases y with
  | non=>cases ry; exact PySem.EqNone.eq_str_none (br I q (by simp))
  | bl j=>cases ry; exact PySem.EqMixed.eq_str_bool (br I q (by simp))
  | int j=>obtain⟨t',rfl⟩:=ry; exact PySem.EqMixed.eq_str_int (br I q (by simp))
  | str j=>obtain⟨t',rfl⟩:=ry; exact eq_str (br I q tL)
  | _=>exact absurd (show false=true from hs) Bool.false_ne_true
 | byt i=>
  obtain⟨t,rfl⟩:=rx
  cases y with
  | byt j=>obtain⟨t',rfl⟩:=ry; exact PySem.W.eq_bytes (br I q sy)
  | _=>exact absurd (show false=true from hs) Bool.false_ne_true
 | _=>cases y <;> exact absurd (show false=true from hs) Bool.false_ne_true
theorem Fi:OpR X (compareOp .NotEq) FQ:=by
 intro pins s σ H x y v u Q I rx ry h
 obtain⟨hs,q⟩:=h
 cases x with
 | non=>
  cases rx
  cases y with
  | non=>cases ry; exact PySem.EqNone.ne_none_none (br I q (by simp))
  | bl j=>cases ry; exact PySem.EqNone.ne_none_bool (br I q (by simp))
  | int j=>obtain⟨t',rfl⟩:=ry; exact PySem.EqNone.ne_none_int (br I q (by simp))
  | str j=>obtain⟨t',rfl⟩:=ry; exact PySem.EqNone.ne_none_str (br I q (by simp))
  | _=>exact absurd (show false=true from hs) Bool.false_ne_true
 | bl i=>
  cases rx
  cases y with
  | non=>cases ry; exact PySem.EqNone.ne_bool_none (br I q (by simp))
  | bl j=>cases ry; exact ne_bool (br I q (congrArg not xQ))
  | str j=>obtain⟨t',rfl⟩:=ry; exact PySem.EqMixed.ne_bool_str (br I q (by simp))
  | _=>exact absurd (show false=true from hs) Bool.false_ne_true
 | int i=>
  obtain⟨t,rfl⟩:=rx
  cases y with
  | non=>cases ry; exact PySem.EqNone.ne_int_none (br I q (by simp))
  | int j=>obtain⟨t',rfl⟩:=ry; exact ne_int (br I q (congrArg not uq))
  | str j=>obtain⟨t',rfl⟩:=ry; exact PySem.EqMixed.ne_int_str (br I q (by simp))
  | _=>exact absurd (show false=true from hs) Bool.false_ne_true
 | str i=>
  obtain⟨t,rfl⟩:=rx
  cases y with
  | non=>cases ry; exact PySem.EqNone.ne_str_none (br I q (by simp))
  | bl j=>cases ry; exact PySem.EqMixed.ne_str_bool (br I q (by simp))
  | int j=>obtain⟨t',rfl⟩:=ry; exact PySem.EqMixed.ne_str_int (br I q (by simp))
  | str j=>obtain⟨t',rfl⟩:=ry; exact ne_str (br I q (congrArg not tL))
  | _=>exact absurd (show false=true from hs) Bool.false_ne_true
 | byt i=>
  obtain⟨t,rfl⟩:=rx
  cases y with
  | byt j=>obtain⟨t',rfl⟩:=ry; exact PySem.W.ne_bytes (br I q (congrArg not sy))
  | _=>exact absurd (show false=true from hs) Bool.false_ne_true
 | _=>cases y <;> exact absurd (show false=true from hs) Bool.false_ne_true
theorem FC:OpR X (compareOp .Lt) (og fun i j=>.bl (decide (i<j))):=zu fun _ _ _ _ _ _ _ q=>lt_int q
theorem A9:OpR X (compareOp .LtE) (og fun i j=>.bl (decide (i≤j))):=zu fun _ _ _ _ _ _ _ q=>le_int q
theorem jT:OpR X (compareOp .Gt) (og fun i j=>.bl (decide (j<i))):=zu fun _ _ _ _ _ _ _ q=>gt_int q
theorem xn:OpR X (compareOp .Lt) (fun x y H Q=>∃ i j,x = .str i∧y = .str j∧Q (.bl (decide (i.cps.toList<j.cps.toList))) H):=by
 intro pins s σ H x y v u Q I rx ry h
 obtain⟨i,j,rfl,rfl,q⟩:=h
 obtain⟨t,rfl⟩:=rx
 obtain⟨t',rfl⟩:=ry
 exact lt_str (br I q rfl)
theorem yi:OpR X (compareOp .In) (fun x y H Q=>∃ i j,x = .str i∧y = .str j∧Q (.bl (!(Builtin.Str.occurrences j i 0 j.length 1).isEmpty)) H):=by
 intro pins s σ H x y v u Q I rx ry h
 obtain⟨i,j,rfl,rfl,q⟩:=h
 obtain⟨t,rfl⟩:=rx
 obtain⟨t',rfl⟩:=ry
 exact in_str (br I q rfl)
theorem Ew:OpR X (compareOp .Is) (fun x y H Q=>y = .non∧Q (.bl (decide (x = .non))) H):=by
 intro pins s σ H x y v u Q I rx ry h
 obtain⟨rfl,q⟩:=h
 cases ry;refine is_none_gen (br I q ?_)
 cases x <;> first
  | (cases rx; rfl)
  | (obtain⟨t,rfl⟩:=rx; rfl)
theorem BZ:OpR X (compareOp .IsNot) (fun x y H Q=>y = .non∧Q (.bl (!decide (x = .non))) H):=by
 intro pins s σ H x y v u Q I rx ry h
 obtain⟨rfl,q⟩:=h
 cases ry;refine isnot_none_gen (br I q ?_)
 cases x <;> first
  | (cases rx; rfl)
  | (obtain⟨t,rfl⟩:=rx; rfl)
theorem qP:OpR X (compareOp .NotIn) (fun x y H Q=>∃ i j,x = .str i∧y = .str j∧Q (.bl (!(!(Builtin.Str.occurrences j i 0 j.length 1).isEmpty))) H):=by
 intro pins s σ H x y v u Q I rx ry h
 obtain⟨i,j,rfl,rfl,q⟩:=h
 obtain⟨t,rfl⟩:=rx
 obtain⟨t',rfl⟩:=ry
 exact notIn_str (br I q rfl)
theorem aH(b:Expr){op:CmpOp}(h:op ≠ .In:=by decide)(h2:op ≠ .NotIn:=by decide):behindInMarks op b=false:=by
 have e1:(op == CmpOp.In)=false:=by cases op <;> first | rfl | exact absurd rfl h
 have e2:(op == CmpOp.NotIn)=false:=by cases op <;> first | rfl | exact absurd rfl h2
 cases b <;> simp[behindInMarks,e1,e2]
theorem jZ{op:CmpOp}{r:R2}(ho:OpR X (compareOp op) r)(ha:PE X a ta)(hb:PE X b tb)(hm:behindInMarks op b=false):PE X (.Compare a [op] [b] pos) (xX r ta tb):=by
 intro pins s σ H Q I h
 exact wpAny_Compare1 (AD ha hb I h fun v u s2 x y H2 I2 rx ry q=>ho pins s2 σ H2 x y v u Q I2 rx ry q) hm
def uR(t:TE):TT:=fun σ H Q=>t σ H fun x H'=>∃ k,x = .bl k∧Q k H'
theorem aC{op:CmpOp}{r:R2}(ho:OpR X (compareOp op) r)(ha:PE X a ta)(hb:PE X b tb)(hm:behindInMarks op b=false):PT X (.Compare a [op] [b] pos) (uR (xX r ta tb)):=by
 intro pins s σ H Q I h
 refine wpAny_isTrue_Compare1 (aZ (ha pins s σ H _ I h) fun v s1 ⟨x,H1,I1,r1,q1⟩=>aZ (hb pins s1 σ H1 _ I1 q1) fun u s2 ⟨y,H2,I2,r2,q2⟩=>
  aZ (ho pins s2 σ H2 x y v u _ I2 r1 r2 q2) fun c s3 ⟨z,H3,I3,r3,k,e,q3⟩=>?_) hm
 subst e
 cases r3;exact wpAny_truthy_bool ⟨H3,I3,q3⟩
def yE(r r':R2)(ta tb tc:TE):TE:=fun σ H Q=>ta σ H fun x H1=>tb σ H1 fun y H2=>r x y H2 fun z H3=>∃ k,z = .bl k∧
 (if k=true then tc σ H3 fun w' H4=>r' y w' H4 Q else Q (.bl false) H3)
theorem Ag{op op':CmpOp}{r r':R2}(ho:OpR X (compareOp op) r)(ho':OpR X (compareOp op') r')(ha:PE X a ta)(hb:PE X b tb)(hc:PE X c tc)
  (hm:lastMarks [op,op'] [b,c]=false:=by with_unfolding_all rfl):PT X (.Compare a [op,op'] [b,c] pos) (uR (yE r r' ta tb tc)):=by
 intro pins s σ H Q I h
 refine isTrue_chain (aZ (ha pins s σ H _ I h) fun v s1 ⟨x,H1,I1,r1,q1⟩=>test_link (aZ (hb pins s1 σ H1 _ I1 q1) fun u s2 ⟨y,H2,I2,r2,q2⟩=>
  aZ (ho pins s2 σ H2 x y v u _ I2 r1 r2 q2) fun d s3 ⟨z,H3,I3,r3,k,e,q3⟩=>?_)) hm
 subst e
 cases r3;refine wpAny_truthy_bool ?_
 cases k with
 | false=>
  obtain⟨k',e',q'⟩:=q3
  cases e';exact ite_ff ⟨H3,I3,q'⟩
 | true=>
  refine ite_tt (test_last (aZ (hc pins s3 σ H3 _ I3 q3) fun w' s4 ⟨z',H4,I4,r4,q4⟩=>aZ (ho' pins s4 σ H4 y z' u w' _ I4 r2 r4 q4) fun d' s5 ⟨z2,H5,I5,r5,k2,e2,q5⟩=>?_))
  subst e2
  cases r5;exact wpAny_truthy_bool ⟨H5,I5,q5⟩
theorem ji:(sizeLine:Nat)<2 ^ 63:=by rw[sizeLine_eq]; decide
theorem v6:OpR X (binaryOp .Add) (fun x y H Q=>∃ i j,x = .str i∧y = .str j∧i.length+j.length≤sizeLine∧Q (.str (i++j)) H):=by
 intro pins s σ H x y v u Q I rx ry h
 obtain⟨i,j,rfl,rfl,hz,q⟩:=h
 obtain⟨t,rfl⟩:=rx
 obtain⟨t',rfl⟩:=ry
 exact add_str (fun t' tk=>⟨.str (i++j),H,I.tok _,⟨_,rfl⟩,q⟩) hz
theorem dH{x:V}{us:List Value}(r:Vals [x] us):∃ u,us=[u]∧RelV x u:=by
 cases r with
 | cons r1 r2=>cases r2; exact⟨_,rfl,r1⟩
theorem oG{x y:V}{us:List Value}(r:Vals [x,y] us):∃ u w',us=[u,w']∧RelV x u∧RelV y w':=by
 cases r with
 | cons r1 r2=>
  cases r2 with
  | cons r3 r4=>cases r4; exact⟨_,_,rfl,r1,r3⟩
theorem yx(hc:X.calm=true):CallR X (.builtin "max") (fun xs H Q=>∃ i j,xs=[.int i,.int j]∧Q (.int (if j>i then j else i)) H):=by
 intro pins s σ H xs us Q I r h
 obtain⟨i,j,rfl,q⟩:=h
 obtain⟨u,w',rfl,⟨t,rfl⟩,⟨t',rfl⟩⟩:=oG r
 refine max_two_ints (I.ok.hd hc) fun h' tk k=>⟨_,H,I.kept k,?_,q⟩
 by_cases hj:j>i
 ·rw[if_pos hj,if_pos hj]; exact⟨_,rfl⟩
 ·rw[if_neg hj,if_neg hj]; exact⟨_,rfl⟩
theorem xv:CallR X (.type "int") (fun xs H Q=>(∃ i,xs=[.int i]∧Q (.int i) H)∨∃ k,xs=[.bl k]∧Q (.int (if k then 1 else 0)) H):=by
 intro pins s σ H xs us Q I r h
 rcases h with ⟨i,rfl,q⟩ | ⟨k,rfl,q⟩
 ·obtain⟨u,rfl,t,rfl⟩:=dH r
  exact call_int_int ⟨.int i,H,I,⟨_,rfl⟩,q⟩
 ·obtain⟨u,rfl,r1⟩:=dH r
  cases r1;exact call_int_bool ⟨.int (if k then 1 else 0),H,I.tok _,⟨_,rfl⟩,q⟩
theorem jr:CallR X (.type "str") (fun xs H Q=>∃ i,xs=[.int i]∧i.natAbs.log2<1920∧Q (.str (toString i)) H):=by
 intro pins s σ H xs us Q I r h
 obtain⟨i,rfl,hz,q⟩:=h
 obtain⟨u,rfl,t,rfl⟩:=dH r
 exact PySem.P.str_of_int hz ⟨.str _,H,I.tok _,⟨_,rfl⟩,q⟩
end
end L2
namespace L2
open PySem PySem.Spec PyProof.Rows
structure ObjM (h:Heap) (x dx C:Addr) (mA:Str→Option Value):Prop where
 obj:h.get? x=some (PySem.W.instObj C dx)
 ns:h.Ns1 dx mA
 ne:dx≠x
theorem wH{h:Heap}{dx:Addr}{mA:Str→Option Value}(n:h.Ns1 dx mA):∃ od,h.get? dx=some od∧∀ name,PySem.W.lookIn name od=some (mA name):=by
 obtain⟨o,es,ep,ho,hd,hk,_,hm⟩:=n
 refine⟨o,ho,fun name=>?_⟩
 have e:=hm name;unfold nsFind findBy at e;rw[← Array.find?_toList]at e
 unfold PySem.W.lookIn;rw[hd]
 dsimp only
 split
 ·rename_i y q
  rw[q]at e
  exact congrArg some e
 ·rename_i q
  rw[q]at e
  have a:es.toList.any (·.refKey)=false:=by
   rw[List.any_eq_false];intro y hy
   obtain⟨z,t,hkey⟩:=hk y (Array.mem_toList_iff.mp hy)
   simp[DictEntry.refKey,hkey]
  have a':¬ es.toList.any (·.refKey)=true:=by rw[a]; exact Bool.false_ne_true
  rw[if_neg a'];exact congrArg some e
theorem ObjM.look{h:Heap}{x dx C:Addr}{mA:Str→Option Value}(I:ObjM h x dx C mA):∃ od,PySem.W.InstAt h x (PySem.W.instObj C dx) C (some od)∧∀ name,PySem.W.lookIn name od=some (mA name):=
 let ⟨od,ho,hl⟩:=wH I.ns
 ⟨od,⟨I.obj,rfl,rfl,ho⟩,hl⟩
section
variable{prog:Program}{w:World}{A:Around}{E:Value→Shared→Prop}{s:Shared}{K:PySem.W.Frag}{x dx C f:Addr}{mA:Str→Option Value}{name:Str}{v:Value}
theorem Cu{expr:Bool}{Q:Value→Shared→Prop}(X:K.In s.heap)(I:ObjM s.heap x dx C mA)(hg:PySem.W.plainGet K C name=true)(hh:PySem.W.hasDictIn K C=true)
  (ha:PySem.W.findIn K (.ref C) name=some none) (hv:mA name=some v) (hv':PySem.W.handedIn v=true) (h:Q v { s with toks:=s.toks+1 }) :
  wpAny (model prog w) A (getAttr (.ref x) name expr) Q E s:=by
 obtain⟨od,J,hl⟩:=I.look
 exact PySem.W.get_value X J (PySem.W.plainGet_of hg).1 (PySem.W.findObj_own hh ha rfl (by rw[hl,hv])) hv' h
theorem y8{pl:Sem Bool}{Q:Value × List Value→Shared→Prop}(X:K.In s.heap)(I:ObjM s.heap x dx C mA)(hg:PySem.W.plainGet K C name=true)
  (hf:PySem.W.findIn K (.ref C) name=some (some (.ref f))) (ht:PySem.W.isFn K (.ref f)=true) (hv:mA name=none) (h:Q (.ref f,[.ref x]) s) :
  wpAny (model prog w) A (getMethod (.ref x) name pl) Q E s:=by
 obtain⟨od,J,hl⟩:=I.look
 exact PySem.W.method_fn X J (PySem.W.plainGet_of hg).1 (PySem.W.plainGet_of hg).2 hf (beq_iff_eq.mp ht) (by show (PySem.W.lookIn name od).map (·.isSome)=some false; rw[hl,hv]; rfl) h
theorem BN{ns:List Str}{Q:Unit→Shared→Prop}(X:K.In s.heap)(I:ObjM s.heap x dx C mA)
  (hs:PySem.W.findIn K (.ref C) "__setattr__" = some (some (.builtin "object.__setattr__"))) (hp:PySem.W.plainOver K C=true) (ht:PySem.W.takerIn K C name=some none) (hh:PySem.W.hasDictIn K C=true)
  (hw:PySem.Within mA ns) (hsz:ns.length≤sizeLine)
  (h:∀ h',ObjM h' x dx C (fun y=>if y=name then some v else mA y)→Heap.SameBut dx s.heap h'→Q () { s with heap:=h',toks:=s.toks+2 }) :
  wpAny (model prog w) A (setAttr (.ref x) name v) Q E s:=by
 obtain⟨od,J,hl⟩:=I.look
 refine PySem.W.set_plain X J hs (PySem.W.osa_open (s:={ s with toks:=s.toks+1 }) (r:=none) X J hp ht fun b=>?_)
 obtain⟨cd,hc,hd'⟩:=PySem.W.any_some hh
 have hx:s.heap.get? x=some ⟨.ref C,some dx,.plain,#[]⟩:=I.obj
 refine wpAny_bind (wpAny_pure (wpAny_bind (wpAny_bind (wpAny_loadPart hx (wpAny_bind (PySem.W.Looks.here (s:={ s with toks:=s.toks+1 }) (PySem.W.looks_clsIn X hc) ?_))))))
 rw[hd'];refine wpAny_pure (a:=some dx) (wpAny_bind (wpAny_pure (wpAny_bind ?_)))
 refine wpAny_nsSet1 (s:={ s with toks:=s.toks+1 }) I.ns fun h' hn2 hs2=>?_
 obtain⟨oD,esD,epD,hoD,hdD,hcD⟩:=hn2.count (PySem.Within.cons name v hw)
 refine wpAny_bind (wpAny_lookBehind hoD (by rw[hdD]; exact pastItsLine_dict (Nat.le_trans hcD (by rw[List.length_cons]; omega))) ?_)
 exact wpAny_pure (h _ ⟨(hs2.2 _ (Ne.symm I.ne)).trans I.obj,hn2,I.ne⟩ hs2)
theorem zY{R:Result→Shared→Prop}{vs:List Value}{kw:List (Str × Value)}(X:K.In s.heap)(hm:PySem.W.makesIn K C=true)
  (hi:PySem.W.findIn K (.ref C) "__init__" = some (some (.ref f))) (hf:PySem.W.typeIn K (.ref f)=some (.type "function"))
  (h:codeAny (model prog w) (A.under (.builtin "type.__call__" ⟨.ref C::vs,kw⟩)) (.call (.ref f) ⟨.ref (s.heap.objs.size+1)::vs,kw⟩) (PySem.W.InitBack (s.heap.objs.size+1) R)
   { s with heap:=(s.heap.push PySem.W.emptyDict).push (PySem.W.instObj C s.heap.objs.size) }) :
  codeAny (model prog w) A (.call (.ref C) ⟨vs,kw⟩) R s:=by
 obtain⟨hh,g,d,t,os⟩:=s
 exact PySem.W.make_core (PySem.W.makes_of X hm) (PySem.W.looks_findIn X hi) (fun self=>PySem.W.bind_fn X self hf) (.inl rfl) h
end
def cN(f:Str)(v:V):List (Str × V)→List (Str × V)
 | []=>[(f,v)]
 | (g,x)::r=>if g=f then (g,v)::r else (g,x)::cN f v r
theorem kB(f g:Str)(v:V):∀ fs:List (Str × V),(cN f v fs).lookup g=if g=f then some v else fs.lookup g
 | []=>by
  show List.lookup g [(f,v)]=_
  by_cases h:g=f
  ·have hb:(g == f)=true:=beq_iff_eq.mpr h
   simp only[List.lookup,hb,if_pos h]
  ·have hb:(g == f)=false:=beq_eq_false_iff_ne.mpr h
   simp only[List.lookup,hb,if_neg h]
 | (k,x)::r=>by
  have ih:=kB f g v r;rw[show cN f v ((k,x)::r)=(if k=f then (k,v)::r else (k,x)::cN f v r) from rfl]
  by_cases hk:k=f
  ·rw[if_pos hk]
   by_cases h:g=k
   ·have hb:(g == k)=true:=beq_iff_eq.mpr h
    simp only[List.lookup,hb,if_pos (h.trans hk)]
   ·have hb:(g == k)=false:=beq_eq_false_iff_ne.mpr h
    simp only[List.lookup,hb,if_neg (fun e:g=f=>h (e.trans hk.symm))]
  ·rw[if_neg hk]
   by_cases h:g=k
   ·have hb:(g == k)=true:=beq_iff_eq.mpr h
    simp only[List.lookup,hb,if_neg (fun e:g=f=>hk (h.symm.trans e))]
   ·have hb:(g == k)=false:=beq_eq_false_iff_ne.mpr h
    simp only[List.lookup,hb]
    exact ih
theorem jl(f:Str)(v:V):∀ fs:List (Str × V),f∈(cN f v fs).map (·.1)∧∀ g,g∈fs.map (·.1)→g∈(cN f v fs).map (·.1)
 | []=>⟨by simp[cN],fun g h=>by simp at h⟩
 | (k,x)::r=>by
  obtain⟨i1,i2⟩:=jl f v r
  rw[show cN f v ((k,x)::r)=(if k=f then (k,v)::r else (k,x)::cN f v r) from rfl]
  by_cases hk:k=f
  ·rw[if_pos hk]
   subst hk;exact⟨by simp,fun g h=>by simpa using h⟩
  ·rw[if_neg hk]
   refine⟨?_,fun g h=>?_⟩
   ·rw[List.map_cons]
    exact List.mem_cons_of_mem _ i1
   ·rw[List.map_cons]at h ⊢
    rcases List.mem_cons.mp h with e | e
    ·exact List.mem_cons.mpr (.inl e)
    ·exact List.mem_cons_of_mem _ (i2 g e)
theorem kD(f:Str)(v:V):∀ fs:List (Str × V),(cN f v fs).length≤fs.length+1
 | []=>by simp[cN]
 | (k,x)::r=>by
  have ih:=kD f v r;rw[show cN f v ((k,x)::r)=(if k=f then (k,v)::r else (k,x)::cN f v r) from rfl]
  by_cases hk:k=f
  ·rw[if_pos hk,List.length_cons,List.length_cons]; omega
  ·rw[if_neg hk,List.length_cons,List.length_cons]; omega
theorem RelO.some_of{v:V}{o:Option Value}(r:RelO (some v) o):∃ u,o=some u∧RelV v u:=by
 cases o with
 | none=>exact(show False from r).elim
 | some u=>exact⟨u,rfl,r⟩
theorem RelO.none_of{o:Option Value}(r:RelO none o):o=none:=by
 cases o with
 | none=>rfl
 | some u=>exact(show False from r).elim
theorem wL{v:V}{u:Value}(r:RelV v u):PySem.W.handedIn u=true:=by
 cases v with
 | non=>cases (show u=Value.none from r); rfl
 | bl b=>cases (show u=Value.bool b from r); rfl
 | int i=>obtain⟨t,e⟩:=(show ∃ t,u=Value.int i t from r); cases e; rfl
 | str x=>obtain⟨t,e⟩:=(show ∃ t,u=Value.str x t from r); cases e; rfl
 | byt b=>obtain⟨t,e⟩:=(show ∃ t,u=Value.bytes b t from r); cases e; rfl
 | flt b=>obtain⟨t,e⟩:=(show ∃ t,u=Value.float b t from r); cases e; rfl
 | ref a=>cases (show u=Value.ref a from r); rfl
 | ty n=>cases (show u=Value.type n from r); rfl
section
variable{P:Program}{w:World}{H H':Hp}{h h':Heap}{a C dx:Addr}{fs fs':List (Str × V)}
theorem jQ(hok:HOk P w H h)(e:H a=some (.ins C dx fs)):∃ mA,ObjM h a dx C mA∧(∀ f,RelO (fs.lookup f) (mA f))∧PySem.Within mA (fs.map (·.1))∧fs.length≤1000∧H dx=some (.own a):=by
 obtain⟨d,z,ne,ob,mA,n,r,q⟩:=(show ObjOk P w H h a (.ins C dx fs) from hok a _ e)
 exact⟨mA,⟨ob,n,ne⟩,r,q,z,d⟩
end
structure Cls (K:PySem.W.Frag) (C:Addr):Prop where
 pg:PySem.W.plainGet K C Str.empty=true
 hd:PySem.W.hasDictIn K C=true
 po:PySem.W.plainOver K C=true
 sa:PySem.W.findIn K (.ref C) "__setattr__" = some (some (.builtin "object.__setattr__"))
theorem Cls.get{K:PySem.W.Frag}{C:Addr}(c:Cls K C)(f:Str):PySem.W.plainGet K C f=true:=c.pg
def NoAttr(K:PySem.W.Frag)(C:Addr)(f:Str):Prop:=PySem.W.findIn K (.ref C) f=some none
theorem NoAttr.taker{K:PySem.W.Frag}{C:Addr}{f:Str}(n:NoAttr K C f):PySem.W.takerIn K C f=some none:=by
 unfold PySem.W.takerIn;rw[show PySem.W.findIn K (.ref C) f=some none from n]
 rfl
structure zi (K:PySem.W.Frag) (C:Addr) (m:Str) (f:Addr):Prop where
 at_:PySem.W.findIn K (.ref C) m=some (some (.ref f))
 fn:PySem.W.isFn K (.ref f)=true
 kp:PySem.W.keepIn K (.ref f)=true
section
variable{X:Cx}{pins:List (Addr × Obj)}{σ : St}{H:Hp}{s:Shared}{a C dx:Addr}{fs:List (Str × V)}{f:Str}{v:V}{A:Around}{E:Value→Shared→Prop}
theorem vH{b:Bool}{Q:Value→Shared→Prop}(I:Inv X pins σ H s)(e:H a=some (.ins C dx fs))(c:Cls X.K C)(n:NoAttr X.K C f)(l:fs.lookup f=some v)
  (h:∀ u s',Inv X pins σ H s'→RelV v u→Q u s'):wpAny (model X.prog X.w) A (getAttr (.ref a) f b) Q E s:=by
 obtain⟨mA,O,r,_,_,_⟩:=jQ I.hok e
 obtain⟨u,hu,ru⟩:=RelO.some_of (v:=v) (o:=mA f) (by rw[← l]; exact r f)
 exact Cu I.kIn O (c.get f) c.hd n hu (wL ru) (h u _ (I.tok _) ru)
theorem vB{m:Str}{g:Addr}{pl:Sem Bool}{Q:Value × List Value→Shared→Prop}(I:Inv X pins σ H s)(e:H a=some (.ins C dx fs))(c:Cls X.K C)(k:zi X.K C m g)(l:fs.lookup m=none)
  (h:Q (.ref g,[.ref a]) s):wpAny (model X.prog X.w) A (getMethod (.ref a) m pl) Q E s:=by
 obtain⟨mA,O,r,_,_,_⟩:=jQ I.hok e
 have hn:mA m=none:=RelO.none_of (by rw[← l]; exact r m)
 exact y8 I.kIn O (c.get m) k.at_ k.fn hn h
theorem vU{y:V}{u:Value}{Q:Unit→Shared→Prop}(I:Inv X pins σ H s)(e:H a=some (.ins C dx fs))(c:Cls X.K C)(n:NoAttr X.K C f)(hl:fs.length<1000)(ry:RelV y u)
  (h:∀ s',Inv X pins σ (upd H a (.ins C dx (cN f y fs))) s'→Q () s'):wpAny (model X.prog X.w) A (setAttr (.ref a) f u) Q E s:=by
 obtain⟨mA,O,r,wi,_,ho⟩:=jQ I.hok e
 have hz:(fs.map (·.1)).length≤sizeLine:=by rw[List.length_map,sizeLine_eq]; omega
 refine BN I.kIn O c.sa c.po n.taker c.hd wi hz fun h' O' sb=>h _ ?_
 have hd:∃ o,h'.get? dx=some o:=let ⟨o,_,_,e',_⟩:=O'.ns; ⟨o,e'⟩
 refine I.write (x:=a) (e:=dx) (by rw[e]; exact True.intro) (.inr ho) (fun b q hb z=>(sb.2 b hb).trans z) hd ?_
 refine⟨by rw[ai O.ne]; exact ho,?_,O.ne,O'.obj,_,O'.ns,fun g=>?_,fun g hg=>?_⟩
 ·have:=kD f y fs; omega
 ·show RelO ((cN f y fs).lookup g) (if g=f then some u else mA g)
  rw[kB]
  by_cases q:g=f
  ·rw[if_pos q,if_pos q]; exact ry
  ·rw[if_neg q,if_neg q]; exact r g
 ·by_cases q:g=f
  ·rw[q]; exact(jl f y fs).1
  ·refine(jl f y fs).2 g (wi g fun z=>hg ?_)
   show (if g=f then some u else mA g)=none
   rw[if_neg q]; exact z
theorem Inv.made(I:Inv X pins σ H s):Inv X pins σ (upd (upd H s.heap.objs.size (.own (s.heap.objs.size+1))) (s.heap.objs.size+1) (.ins C s.heap.objs.size []))
  { s with heap:=(s.heap.push PySem.W.emptyDict).push (PySem.W.instObj C s.heap.objs.size) }:=by
 have e1:(s.heap.push PySem.W.emptyDict).get? s.heap.objs.size=some PySem.W.emptyDict:=Heap.get?_push_size s.heap rfl
 have e2:((s.heap.push PySem.W.emptyDict).push (PySem.W.instObj C s.heap.objs.size)).get? (s.heap.objs.size+1)=some (PySem.W.instObj C s.heap.objs.size):=by
  have:=Heap.get?_push_size (s.heap.push PySem.W.emptyDict) (o:=PySem.W.instObj C s.heap.objs.size) rfl
  rwa [Heap.size_push]at this
 have e3:(s.heap.push PySem.W.emptyDict).Ns s.heap.objs.size (fun _=>none):=⟨PySem.W.emptyDict,#[],_,e1,rfl,(fun e he=>absurd he (by simp)),fun _=>rfl⟩
 have I1:=I.laid (a:=s.heap.objs.size) (o:=.own (s.heap.objs.size+1)) (h':=s.heap.push PySem.W.emptyDict) (t':=s.toks) (fun b u q=>Heap.get?_push_of_some _ q) (Nat.le_refl _) ⟨_,e1⟩
 refine I1.laid (a:=s.heap.objs.size+1) (o:=.ins C s.heap.objs.size []) (t':=s.toks) (fun b u q=>Heap.get?_push_of_some _ q) (Nat.le_of_eq (Heap.size_push _ _)) ?_
 have ne:s.heap.objs.size≠s.heap.objs.size+1:=Nat.ne_of_lt (Nat.lt_succ_self _)
 refine⟨by rw[ai ne,ah],Nat.zero_le _,ne,e2,fun _=>none,(Heap.Ns1.of_empty e3).at fun o q=>Heap.get?_push_of_some _ q,fun _=>True.intro,fun y hy=>absurd rfl hy⟩
theorem B7{prog:Program}{w:World}{env:Env}{e:Expr}{f:Str}{pos:Pos}{s:Shared}{Q:Value→Shared→Prop}(hb:attributeBase e f env (eval e env)=eval e env)
  (h:wpAny (model prog w) A (eval e env) (fun o s₁=>wpAny (model prog w) A (getAttr o f true) Q E s₁) E s):wpAny (model prog w) A (eval (.Attribute e f pos) env) Q E s:=
 Attribute_any_ h (by rw[arm_eval_Attribute,hb])
end
section
variable{X:Cx}{o e value:Expr}{f:Str}{pos pos' tpos:Pos}{ta tv:TE}
end
section
variable{X:Cx}{pins:List (Addr × Obj)}{σ : St}{H:Hp}{s:Shared}{A:Around}{E:Value→Shared→Prop}{Q:Value→Shared→Prop}{c:Value}{b:Bool}
inductive ga (K:PySem.W.Frag) (H:Hp):V→Value→Prop where
 | non:ga K H .non (.type "NoneType")
 | bl (x:Bool):ga K H (.bl x) (.type "bool")
 | int (i:Int):ga K H (.int i) (.type "int")
 | str (x:Str):ga K H (.str x) (.type "str")
 | flt (x:UInt64):ga K H (.flt x) (.type "float")
 | lst {a:Addr} {xs:List V} (e:H a=some (.lst xs)):ga K H (.ref a) (.type "list")
 | frz {a:Addr} {o:Obj} {xs:List V} (e:H a=some (.frz o (.lst xs))):ga K H (.ref a) (.type "list")
 | tup {a:Addr} {xs:List V} (e:H a=some (.tup xs)):ga K H (.ref a) (.type "tuple")
 | dK {a:Addr} {kvs:List (aF × V)} (e:H a=some (.dK kvs)):ga K H (.ref a) (.type "dict")
 | dT {a:Addr} {kvs:List (List aF × V)} (e:H a=some (.dT kvs)):ga K H (.ref a) (.type "dict")
 | ins {a C dx:Addr} {fs:List (Str × V)} (e:H a=some (.ins C dx fs)) (cl:Cls K C) (ha:PySem.W.findIn K (.ref C) "__class__" = some (some (.builtin "object.__class__")))
   (hn:PySem.W.specialIn K (.builtin "object.__class__") "__get__" = some (some (.builtin "getset_descriptor.__get__"))) (htk:PySem.W.takesIn K (.builtin "object.__class__")=some true)
   (hm:PySem.W.mroIn K C (.type "object")=some true):ga K H (.ref a) (.ref C)
theorem yn{x:V}{u t:Value}(I:Inv X pins σ H s)(rx:RelV x u)(ty:ga X.K H x t)(e:PySem.W.kitOne X.K t c=some b)(h:∀ tk,Q (.bool b) { s with toks:=tk }) :
  wpAny (model X.prog X.w) A (call (.builtin "isinstance") [u,c]) Q E s:=by
 cases ty with
 | non=>cases (show u=Value.none from rx); exact PySem.W.kia_one PySem.W.kitx_none I.kIn True.intro e (fun z=>nomatch z) h
 | bl y=>cases (show u=Value.bool y from rx); exact PySem.W.kia_one PySem.W.kitx_bool I.kIn True.intro e (fun z=>nomatch z) h
 | int i=>obtain⟨t,q⟩:=(show ∃ t,u=Value.int i t from rx); cases q; exact PySem.W.kia_one PySem.W.kitx_int I.kIn True.intro e (fun z=>nomatch z) h
 | str y=>obtain⟨t,q⟩:=(show ∃ t,u=Value.str y t from rx); cases q; exact PySem.W.kia_one PySem.W.kitx_str I.kIn True.intro e (fun z=>nomatch z) h
 | flt y=>obtain⟨t,q⟩:=(show ∃ t,u=Value.float y t from rx); cases q; exact PySem.W.kia_one PySem.W.kitx_float I.kIn True.intro e (fun z=>nomatch z) h
 | @lst a xs ea=>
  cases (show u=Value.ref a from rx)
  obtain⟨_,_,n,_,h1⟩:=(show ObjOk X.prog X.w H s.heap a (.lst xs) from I.hok a _ ea)
  exact PySem.W.kia_one PySem.W.kitx_list I.kIn ⟨_,h1,rfl⟩ e (fun z=>nomatch z) h
 | @frz a ob xs ea=>
  cases (show u=Value.ref a from rx)
  obtain⟨_,_,_,n,_,h1⟩:=(show ObjOk X.prog X.w H s.heap a (.frz ob (.lst xs)) from I.hok a _ ea)
  exact PySem.W.kia_one PySem.W.kitx_list I.kIn ⟨_,h1,rfl⟩ e (fun z=>nomatch z) h
 | @tup a xs ea=>
  cases (show u=Value.ref a from rx)
  obtain⟨_,_,_,p⟩:=(show ObjOk X.prog X.w H s.heap a (.tup xs) from I.hok a _ ea)
  obtain⟨o,h1,h2,_⟩:=p
  exact PySem.W.kia_one PySem.W.kitx_tuple I.kIn ⟨o,h1,h2⟩ e (fun z=>nomatch z) h
 | @dK a kvs ea=>
  cases (show u=Value.ref a from rx)
  obtain⟨_,_,vs,_,p⟩:=(show ObjOk X.prog X.w H s.heap a (.dK kvs) from I.hok a _ ea)
  obtain⟨o,es,ep,h1,h2,_⟩:=p
  exact PySem.W.kia_one PySem.W.kitx_dict I.kIn ⟨o,h1,h2.1⟩ e (fun z=>nomatch z) h
 | @dT a kvs ea=>
  cases (show u=Value.ref a from rx)
  obtain⟨_,_,xs,_,o,es,ep,h1,h2,_⟩:=(show ObjOk X.prog X.w H s.heap a (.dT kvs) from I.hok a _ ea)
  exact PySem.W.kia_one PySem.W.kitx_dict I.kIn ⟨o,h1,h2.1⟩ e (fun z=>nomatch z) h
 | @ins a C dx fs ea cl ha hn htk hm=>
  cases (show u=Value.ref a from rx)
  obtain⟨mA,O,_⟩:=jQ I.hok ea
  obtain⟨od,J,_⟩:=O.look
  exact PySem.W.kia_one (PySem.W.kitx_own (cl.get _) cl.hd ha hn htk hm) I.kIn J e (fun z=>nomatch z) h
end
end L2
namespace L2
open PySem PySem.Spec PyProof.Rows
structure Room (k:Nat) (A:Around):Prop where
 hd:A.handled=none
 dp:A.depth+3 * k+5<recursionLimit
 un:A.units+16 * k+200<cLine
theorem Room.mono{j k:Nat}{A:Around}(r:Room k A)(h:j≤k):Room j A:=⟨r.hd,by have:=r.dp; omega,by have:=r.un; omega⟩
theorem Room.deeper{k:Nat}{A:Around}(r:Room (k+1) A)(env:Env):Room k (A.deeper env):=
 ⟨r.hd,by have:=r.dp; show A.depth+1+3 * k+5<_; omega,by have:=r.un; show A.units+3+16 * k+200<_; omega⟩
theorem uE{A:Around}{C:Addr}{us:List Value}{kw:List (Str × Value)}:(A.under (.builtin "type.__call__" ⟨.ref C::us,kw⟩)).depth=A.depth+1:=by
 first | rfl | simp[Around.under,Code.weight,Code.isCreation,Code.isGuard,Code.isCaller,Code.frames,Code.isFrame,guardIds]
theorem vb{A:Around}{C:Addr}{us:List Value}{kw:List (Str × Value)}:(A.under (.builtin "type.__call__" ⟨.ref C::us,kw⟩)).units=A.units+1:=by
 first | rfl | simp[Around.under,Code.cUnits,Code.frames,Code.isFrame]
theorem Room.make{k:Nat}{A:Around}(r:Room (k+1) A)(C:Addr)(us:List Value)(kw:List (Str × Value)):Room k (A.under (.builtin "type.__call__" ⟨.ref C::us,kw⟩)):=
 ⟨r.hd,by have:=r.dp; rw[uE]; omega,by have:=r.un; rw[vb]; omega⟩
theorem Room.depth{k:Nat}{A:Around}(r:Room k A):A.depth<recursionLimit:=by have:=r.dp; omega
theorem Room.units{k:Nat}{A:Around}(r:Room k A):A.units+64<cLine:=by have:=r.un; omega
def C5:TA:=fun _ H Q=>Q [] H
def Bi(ta:TE)(tr:TA):TA:=fun σ H Q=>ta σ H fun x H1=>tr σ H1 fun xs H2=>Q (x::xs) H2
section
variable{X:Cx}{e:Expr}{es:List Expr}{te:TE}{t:TA}{pos:Pos}
theorem ac:PA X [] C5:=fun _ _ _ _ H Q I h=>Calls.spliced_nil ⟨[],H,I,.nil,h⟩
theorem aa(ha:PE X e te)(hr:PA X es t)(hs:starEach (e::es) X.env=(false,eval e X.env)::starEach es X.env:=by rfl):PA X (e::es) (Bi te t):=by
 intro pos pins s σ H Q I h
 rw[hs];show wpAny _ _ (spliced ((false,eval e X.env)::backTo pos (starEach es X.env))) _ _ s
 refine Calls.spliced_cons (aZ (ha pins s σ H _ I h) fun u s1 ⟨x,H1,I1,r1,q1⟩=>?_)
 exact aZ (hr pos pins s1 σ H1 _ I1 q1) fun us s2 ⟨xs,H2,I2,r2,q2⟩=>⟨x::xs,H2,I2,.cons r1 r2,q2⟩
def EZ(t:TA):TE:=fun σ H Q=>t σ H fun xs H1=>xs.length≤sizeLine∧∀ p,H1 p=none→Q (.ref p) (upd H1 p (.tup xs))
def Ec(t:TA):TE:=fun σ H Q=>t σ H fun xs H1=>xs.length≤sizeLine∧∀ p,H1 p=none→Q (.ref p) (upd H1 p (.lst xs))
theorem bm{x1}(h:PA X es t):PE X (.Tuple es x1 pos) (EZ t):=by
 intro pins s σ H Q I hq
 refine wpAny_Tuple_spliced (aZ (h pos pins s σ H _ I hq) fun us s1 ⟨xs,H1,I1,r,z,q⟩=>⟨by rw[← r.length]; exact z,?_⟩)
 have hf:H1 s1.heap.objs.size=none:=I1.hok.fresh (Nat.le_refl _)
 refine⟨.ref s1.heap.objs.size,upd H1 s1.heap.objs.size (.tup xs),I1.laid (t':=s1.toks) (fun b u e=>Heap.get?_push_of_some _ e) (Nat.le_refl _) ?_,rfl,q _ hf⟩
 exact⟨z,us,r,⟨_,Heap.get?_push_size _ rfl,rfl,rfl,_,rfl⟩⟩
theorem bi(h:PA X es t):PE X (.List es pos) (Ec t):=by
 intro pins s σ H Q I hq
 refine wpAny_List_spliced (aZ (h pos pins s σ H _ I hq) fun us s1 ⟨xs,H1,I1,r,z,q⟩=>⟨by rw[← r.length]; exact z,?_⟩)
 have hf:H1 s1.heap.objs.size=none:=I1.hok.fresh (Nat.le_refl _)
 refine⟨.ref s1.heap.objs.size,upd H1 s1.heap.objs.size (.lst xs),I1.laid (t':=s1.toks) (fun b u e=>Heap.get?_push_of_some _ e) (Nat.le_refl _) ?_,rfl,q _ hf⟩
 exact⟨z,us,0,r,Heap.get?_push_size _ rfl⟩
end
abbrev Sp:=List V→Hp→VK→XK→Prop
abbrev ii:=List Env→Hp→Shared→XK→Value→Shared→Prop
structure Env0 (P:Program) (w:World) (K:PySem.W.Frag) (mg:Str→Option Value) (base:Heap) (A:Around) (outer:List Env) (s:Shared) (H:Hp):Prop where
 frames:A.frames=some outer
 mod:Mod K mg base
 bs:∀ b o,base.get? b=some o→s.heap.get? b=some o∧H b=none
 bsz:base.objs.size≤s.heap.objs.size
 funs:s.heap.FunFrames base outer
 frf:∀ b∈i_ outer,H b=none
 hok:HOk P w H s.heap
 bare:AllBare s.gens
def CE(outer:List Env)(P:Program)(w:World)(H:Hp)(s:Shared)(Q:VK)(u:Value)(s':Shared):Prop:=
 ∃ v H',s'.os=s.os∧AllBare s'.gens∧Un (i_ outer) [] H H' s.heap s'.heap∧HOk P w H' s'.heap∧RelV v u∧Q v H'
def CR(CX:ii)(outer:List Env)(P:Program)(w:World)(H:Hp)(s:Shared)(Q:VK)(E:XK)(r:Result)(s':Shared):Prop:=
 match r with
 | .ok (.ret u)=>CE outer P w H s Q u s'
 | .ok _=>False
 | .error e=>CX outer H s E e s'
structure FnOk (P:Program) (w:World) (K:PySem.W.Frag) (mg:Str→Option Value) (base:Heap) (CX:ii) (k:Nat) (f:Addr) (fd:FuncData) (ps:List Str) (sp:Sp):Prop where
 len:∀ vs H Q E,sp vs H Q E→vs.length=ps.length
 run:∀ (A:Around) (outer:List Env) (s:Shared) (H:Hp) (args:Args) (us:List Value) (vs:List V) (Q:VK) (E:XK),Room k A→Env0 P w K mg base A outer s H→BindsTo s fd args (ps.zip us)→Vals vs us→sp vs H Q E→
  codeAny (model P w) A (.call (.ref f) args) (CR CX outer P w H s Q E) s
theorem FnOk.mono{P:Program}{w:World}{K:PySem.W.Frag}{mg:Str→Option Value}{base:Heap}{CX:ii}{j k:Nat}{f:Addr}{fd:FuncData}{ps:List Str}{sp:Sp}(F:FnOk P w K mg base CX j f fd ps sp)(h:j≤k) :
  FnOk P w K mg base CX k f fd ps sp:=⟨F.len,fun A outer s H args us vs Q E hr=>F.run A outer s H args us vs Q E (hr.mono h)⟩
theorem FnOk.imp{P:Program}{w:World}{K:PySem.W.Frag}{mg:Str→Option Value}{base:Heap}{CX:ii}{k:Nat}{f:Addr}{fd:FuncData}{ps:List Str}{sp sp':Sp}(F:FnOk P w K mg base CX k f fd ps sp)
  (h:∀ vs H Q E,sp' vs H Q E→sp vs H Q E):FnOk P w K mg base CX k f fd ps sp':=
 ⟨fun vs H Q E q=>F.len vs H Q E (h _ _ _ _ q),fun A outer s H args us vs Q E hr he hb hv hs=>F.run A outer s H args us vs Q E hr he hb hv (h _ _ _ _ hs)⟩
theorem Env0.make{P:Program}{w:World}{K:PySem.W.Frag}{mg:Str→Option Value}{base:Heap}{A:Around}{outer:List Env}{s:Shared}{H:Hp}(e:Env0 P w K mg base A outer s H)(C:Addr)(us:List Value)(kw:List (Str × Value)) :
  Env0 P w K mg base (A.under (.builtin "type.__call__" ⟨.ref C::us,kw⟩)) outer s H:=⟨by first | exact e.frames | (simpa [Around.under,Code.envs,Code.isFrame,pushEnvs] using e.frames),e.mod,e.bs,e.bsz,e.funs,e.frf,e.hok,e.bare⟩
section
variable{X:Cx}{pins:List (Addr × Obj)}{σ : St}{H:Hp}{s s':Shared}
theorem Inv.env0(I:Inv X pins σ H s):Env0 X.prog X.w X.K X.mg X.base X.A X.stack s H:=
 ⟨I.ok.frames,I.ok.mod,I.bs,Nat.le_trans I.ok.bsz I.sz,I.stack,I.stkFree,I.hok,I.bare⟩
theorem Inv.after{Q:VK}{u:Value}(I:Inv X pins σ H s)(h:CE X.stack X.prog X.w H s Q u s'):EP X pins σ Q u s':=by
 obtain⟨v,H',os,bare,un,hok,r,q⟩:=h
 obtain⟨hh,g,d,t,os'⟩:=s'
 obtain rfl:os'=s.os:=os
 exact⟨v,H',I.call (h':=hh) (g':=g) (d':=d) (t':=t) (ch:=[]) un hok bare (fun b z=>absurd z (by simp)),r,q⟩
end
def v0(sp:Sp)(dvs:List V)(E:XK)(t:TA):TE:=fun σ H Q=>t σ H fun vs H1=>sp (vs++dvs) H1 Q E
def Binds(K:PySem.W.Frag)(fd:FuncData)(ps:List Str)(ds:List Value):Prop:=
 ∀ (s:Shared) (us:List Value),K.In s.heap→(us++ds).length=ps.length→BindsTo s fd ⟨us,[]⟩ (ps.zip (us++ds))
theorem Binds.all{K:PySem.W.Frag}{fd:FuncData}{ps:List Str}(h:∀ us:List Value,us.length=ps.length→bindArgs fd ⟨us,[]⟩=pure (ps.zip us)):Binds K fd ps []:=fun s us _ hl=>by
 rw[List.append_nil]at hl ⊢
 exact .of_eq (h us hl)
def lr(CX:ii)(X:Cx)(E:XK):Prop:=∀ (pins:List (Addr × Obj)) (σ : St) (H:Hp) (s:Shared) (e:Value) (s':Shared),Inv X pins σ H s→CX X.stack H s E e s'→X.xe e s'
section
variable{X:Cx}{CX:ii}{k:Nat}{f C:Addr}{fd:FuncData}{ps:List Str}{sp:Sp}{dvs:List V}{ds:List Value}{E:XK}{x m:Str}{p pos apos:Pos}{e o:Expr}{es:List Expr}{ta:TE}{t:TA}
theorem ya{pins:List (Addr × Obj)}{σ : St}{H:Hp}{s:Shared}{Q:VK}{us:List Value}{vs:List V}(F:FnOk X.prog X.w X.K X.mg X.base CX k f fd ps sp)(hr:Room k X.A)(hb:Binds X.K fd ps ds)(hd:Vals dvs ds)(hx:lr CX X E)
  (I:Inv X pins σ H s) (r:Vals vs us) (h:sp (vs++dvs) H Q E):wpAny (model X.prog X.w) X.A (call (.ref f) us) (EP X pins σ Q) X.xe s:=by
 have r2:Vals (vs++dvs) (us++ds):=r.append hd
 have hl:(us++ds).length=ps.length:=by rw[← r2.length]; exact F.len _ _ _ _ h
 refine wpAny_call (codeAny_mono (F.run X.A X.stack s H ⟨us,[]⟩ (us++ds) (vs++dvs) Q E hr I.env0 (hb s us I.kIn hl) r2 h) fun r s' hq=>?_)
 cases r with
 | error e=>exact hx pins σ H s e s' I hq
 | ok fl=>
  cases fl with
  | ret u=>exact I.after hq
  | next=>exact False.elim hq
  | brk=>exact False.elim hq
  | cont=>exact False.elim hq
theorem CG(F:FnOk X.prog X.w X.K X.mg X.base CX k f fd ps sp)(hr:Room k X.A)(hg:Gl X x)(hm:X.mg x=some (.ref f))(hk:PySem.W.keepIn X.K (.ref f)=true)(hb:Binds X.K fd ps ds)(hd:Vals dvs ds)(hx:lr CX X E)
  (ha:PA X (e::es) t) (hdb:(x == ("__debug__" : Str))=false:=by decide) (he:starEach (e::es) X.env=(false,eval e X.env)::starEach es X.env:=by rfl) (hpl:(backTo pos (starEach es X.env)).any (·.1)=false:=by rfl) :
  PE X (.Call (.Name x p) (e::es) [] pos) (v0 sp dvs E t):=by
 intro pins s σ H Q I h
 refine wpAny_Call_Name_kw (mP I hg hm ?_ hdb)
 refine PySem.W.callWith_K (h₀:=X.base) I.ok.mod.kin hk (aZ (ha pos pins s σ H _ I h) fun us s1 ⟨vs,H1,I1,r,q⟩=>⟨I1.kIn,?_⟩) he hpl
 exact ya F hr hb hd hx I1 r q
structure Mk (K:PySem.W.Frag) (C f:Addr):Prop where
 makes:PySem.W.makesIn K C=true
 init:PySem.W.findIn K (.ref C) "__init__" = some (some (.ref f))
 fn:PySem.W.isFn K (.ref f)=true
 kp:PySem.W.keepIn K (.ref C)=true
theorem yY{pins:List (Addr × Obj)}{σ : St}{H:Hp}{s:Shared}{Q:VK}{us:List Value}{vs:List V}(M:Mk X.K C f)(F:FnOk X.prog X.w X.K X.mg X.base CX k f fd ps sp)(hr:Room (k+1) X.A)(hb:Binds X.K fd ps ds)(hd:Vals dvs ds)
  (hx:lr CX X E) (I:Inv X pins σ H s) (r:Vals vs us)
  (h:∀ x dx,H x=none→H dx=none→dx≠x→sp (.ref x::(vs++dvs)) (upd (upd H dx (.own x)) x (.ins C dx [])) (fun v H2=>v = .non∧Q (.ref x) H2) E) :
  wpAny (model X.prog X.w) X.A (call (.ref C) us) (EP X pins σ Q) X.xe s:=by
 have hq:=h (s.heap.objs.size+1) s.heap.objs.size (I.hok.fresh (Nat.le_succ _)) (I.hok.fresh (Nat.le_refl _)) (Nat.ne_of_lt (Nat.lt_succ_self _));have I2:=Inv.made (C:=C) I;have r2:Vals (V.ref (s.heap.objs.size+1)::(vs++dvs)) (Value.ref (s.heap.objs.size+1)::(us++ds)):=.cons rfl (r.append hd)
 have hl:(Value.ref (s.heap.objs.size+1)::us++ds).length=ps.length:=by
  have e:=r2.length;rw[F.len _ _ _ _ hq]at e
  exact e.symm
 refine wpAny_call (zY (f:=f) I.kIn M.makes M.init (beq_iff_eq.mp M.fn) (codeAny_mono (F.run _ X.stack _ _ ⟨Value.ref (s.heap.objs.size+1)::us,[]⟩ (Value.ref (s.heap.objs.size+1)::(us++ds)) _ _ E (hr.make C us [])
  (I2.env0.make C us []) (hb _ (Value.ref (s.heap.objs.size+1)::us) I2.kIn hl) r2 hq) fun r s' hq'=>?_))
 cases r with
 | error e=>exact hx pins σ _ _ e s' I2 hq'
 | ok fl=>
  cases fl with
  | ret u=>
   obtain⟨v,H',I3,rv,ev,q3⟩:=I2.after hq'
   subst ev;exact⟨rv,⟨V.ref (s.heap.objs.size+1),H',I3,rfl,q3⟩⟩
  | next=>exact False.elim hq'
  | brk=>exact False.elim hq'
  | cont=>exact False.elim hq'
end
section
variable{X:Cx}{CX:ii}{k:Nat}{f C:Addr}{fd:FuncData}{ps ks:List Str}{sp:Sp}{E:XK}{x m:Str}{p pos apos kpos:Pos}{e o:Expr}{es:List Expr}{kws:List Keyword}{te ta:TE}{t tk:TA}{nm:Option Str}
variable{g:List Value→List Value→List Value}{gV:List V→List V→List V}
end
structure aA (N P:List Str) (sc:Scope):Prop where
 kind:sc.kind = .function
 co:sc.isCoroutine=false
 gen:sc.isGenerator=false
 nd:N.Nodup
 pre:N.take P.length=P
 par:∀ x∈P,sc.names.lookup x=some .local∨sc.names.lookup x=some .cell
 nofree:∀ y∈sc.names,y.2 ≠ .free
theorem mKk{N P:List Str}{s:Stmt}(h1:(L2.defScope s).kind = .function:=by rfl)(h2:(L2.defScope s).isCoroutine=false:=by rfl)(h3:(L2.defScope s).isGenerator=false:=by rfl)(h4:N.Nodup:=by decide +kernel)(h5:N.take P.length=P:=by rfl)(h6:∀ x∈P,(L2.defScope s).names.lookup x=some .local∨(L2.defScope s).names.lookup x=some .cell:=by decide +kernel)(h7:∀ y∈(L2.defScope s).names,y.2 ≠ .free:=by decide +kernel):aA N P (L2.defScope s):=⟨h1,h2,h3,h4,h5,h6,h7⟩
theorem nC{kindOf:Str→Option NameKind}{x:Str}:∀ {binds:List (Str × Value)} {m:Str→Option Value},(∀ v,(x,v)∉binds)→bindL kindOf binds m x=m x
 | [],_,_=>rfl
 | (n,v)::r,m,h=>by
  unfold bindL;rw[nC fun w hw=>h w (List.mem_cons_of_mem _ hw)]
  split
  ·have:x≠n:=by rintro rfl; exact h v List.mem_cons_self
   simp[this]
  ·rfl
theorem nW{kindOf:Str→Option NameKind}{x:Str}:∀ {binds:List (Str × Value)} {m:Str→Option Value},(∀ v,(x,v)∉binds)→bindC kindOf binds m x=m x
 | [],_,_=>rfl
 | (n,v)::r,m,h=>by
  unfold bindC;rw[nW fun w hw=>h w (List.mem_cons_of_mem _ hw)]
  split
  ·rfl
  ·have:x≠n:=by rintro rfl; exact h v List.mem_cons_self
   simp[this]
theorem nN{kindOf:Str→Option NameKind}{x:Str}{v:Value}:∀ {P:List Str} {vs:List Value} {i:Nat} {m:Str→Option Value},P.Nodup→P[i]? = some x→vs[i]? = some v→kindOf x=some .local→
  bindL kindOf (P.zip vs) m x=some v
 | [],_,_,_,_,h,_,_=>by simp at h
 | _::_,[],_,_,_,_,h,_=>by simp at h
 | p::P,w::vs,0,m,nd,h1,h2,hk=>by
  simp at h1 h2; subst h1; subst h2
  show bindL kindOf ((p,w)::P.zip vs) m p=_
  unfold bindL;rw[nC fun v hv=>(List.nodup_cons.mp nd).1 (List.of_mem_zip hv).1,if_pos hk]
  simp
 | p::P,w::vs,i+1,m,nd,h1,h2,hk=>by
  show bindL kindOf ((p,w)::P.zip vs) m x=_
  unfold bindL;exact nN (i:=i) (List.nodup_cons.mp nd).2 (by simpa using h1) (by simpa using h2) hk
theorem oi{kindOf:Str→Option NameKind}{x:Str}{v:Value}:∀ {P:List Str} {vs:List Value} {i:Nat} {m:Str→Option Value},P.Nodup→P[i]? = some x→vs[i]? = some v→kindOf x≠some .local→
  bindC kindOf (P.zip vs) m x=some v
 | [],_,_,_,_,h,_,_=>by simp at h
 | _::_,[],_,_,_,_,h,_=>by simp at h
 | p::P,w::vs,0,m,nd,h1,h2,hk=>by
  simp at h1 h2; subst h1; subst h2
  show bindC kindOf ((p,w)::P.zip vs) m p=_
  unfold bindC;rw[nW fun v hv=>(List.nodup_cons.mp nd).1 (List.of_mem_zip hv).1,if_neg hk]
  simp
 | p::P,w::vs,i+1,m,nd,h1,h2,hk=>by
  show bindC kindOf ((p,w)::P.zip vs) m x=_
  unfold bindC;exact oi (i:=i) (List.nodup_cons.mp nd).2 (by simpa using h1) (by simpa using h2) hk
def start(N:List Str)(vs:List V):St:=vs.map some++List.replicate (N.length - vs.length) none
def iE(CX:ii)(P:Program)(w:World)(K:PySem.W.Frag)(mg:Str→Option Value)(base:Heap)(N:List Str)(qual:Str)(scope:Scope)(f:Addr)(cd:Value)(A:Around)(outer:List Env)(s:Shared)(H:Hp)(E:XK):Cx where
 prog:=P
 w:=w
 K:=K
 mg:=mg
 base:=base
 A:=A.deeper (envOfC qual scope s.heap.objs.size f cd)
 N:=N
 s₀:=s
 H₀:=H
 env:=envOfC qual scope s.heap.objs.size f cd
 outer:=outer
 stack:=envOfC qual scope s.heap.objs.size f cd::outer
 ex:=[]
 calm:=true
 fn:=fun _=>true
 pn:=[]
 xe:=fun e s'=>wpAny (model P w) (A.deeper (envOfC qual scope s.heap.objs.size f cd)) (leaving (envOfC qual scope s.heap.objs.size f cd) e) (fun _ s''=>CX outer H s E e s'') (fun e' s''=>CX outer H s E e' s'') s'
theorem qg{sc:Scope}{n:Nat}{x:Str}(h:sc.names.lookup x=some .cell):∃ c,(cellsFrom n sc.names []).lookup x=some c:=by
 have q:=PySem.W.cellsFrom_some sc.names n [] (.inl h);exact Option.isSome_iff_exists.mp q
theorem wK{CX:ii}{P:Program}{w:World}{K:PySem.W.Frag}{mg:Str→Option Value}{base:Heap}{N ps:List Str}{qual:Str}{scope:Scope}{f:Addr}{cd:Value}{A:Around}{outer:List Env}{s s1:Shared}{H:Hp}{E:XK}{us:List Value}{vs:List V}
  (S:aA N ps scope) (hd:A.handled=none) (e0:Env0 P w K mg base A outer s H) (hl:vs.length=ps.length) (r:Vals vs us)
  (x:InCallC s s.heap.objs.size (bindL (envOfC qual scope s.heap.objs.size f cd).kindOf (ps.zip us) fun _=>none) (cellsFrom (s.heap.objs.size+1) scope.names []) (bindC (envOfC qual scope s.heap.objs.size f cd).kindOf (ps.zip us) fun _=>none) s1) :
  Inv (iE CX P w K mg base N qual scope f cd A outer s H E) [] (start N vs) H s1:=by
 have hpl:ps.length≤N.length:=by have:=congrArg List.length S.pre; rw[List.length_take]at this; omega
 obtain⟨h1,tk,rfl,hk⟩:=x.done
 have noA:∀ b:Addr,b∉(iE CX P w K mg base N qual scope f cd A outer s H E).ex:=fun b z=>absurd (show b∈([]:List Addr) from z) (by simp)
 refine⟨⟨e0.mod,S.kind,rfl,rfl,Nat.le_refl _,fun y z c h1 h2=>?_,fun y hy=>?_,fun y c _ h=>?_,fun _=>hd,Around.frames_deeper e0.frames,.inr ⟨rfl,rfl⟩,fun b z=>absurd z (noA b),e0.bs,e0.bsz,fun b _ _=>noA b,fun b z=>absurd z (noA b),e0.funs,e0.frf⟩,
  rfl,e0.bare,Un.kept hk,⟨_,x.toInCall.ns,fun i y v h1 h2 h3=>?_⟩,fun y c h=>⟨_,x.cell y c h⟩,e0.hok.fresh (Nat.le_refl _),fun y c h=>?_,fun p hp=>absurd (show p∈([]:List (Addr × Obj)) from hp) (by simp),e0.hok.kept hk,?_⟩
 ·exact name_of_addr x.apart (PySem.mem_of_lookup h1) (PySem.mem_of_lookup h2)
 ·have hy:scope.names.lookup y=some .cell∨scope.names.lookup y=some .free:=hy
  rcases hy with hy | hy
  ·exact qg hy
  ·exact absurd rfl (S.nofree _ (PySem.mem_of_lookup hy))
 ·exact Nat.le_of_lt (x.above y c (PySem.mem_of_lookup h))
 ·have hi:i<vs.length:=by
   unfold start at h2
   by_cases hi:i<vs.length
   ·exact hi
   ·rw[List.getElem?_append_right (by simpa using hi)]at h2
    rw[List.getElem?_replicate]at h2
    split at h2 <;> cases h2
  have ha:vs[i]? = some v:=by
   unfold start at h2;rw[List.getElem?_append_left (by simpa using hi),List.getElem?_map]at h2
   cases e:vs[i]? with
   | none=>rw[e]at h2; cases h2
   | some a=>rw[e]at h2; cases h2; rfl
  obtain⟨u,hu,rv⟩:=r.get ha
  have hp:ps[i]? = some y:=by
   rw[← S.pre,List.getElem?_take_of_lt (by omega)]; exact h1
  have ndP:ps.Nodup:=by rw[← S.pre]; exact S.nd.sublist (List.take_sublist _ _)
  refine⟨u,rv,?_⟩
  rcases S.par y (List.mem_of_getElem? hp) with k | k
  ·exact .inl ⟨k,nN ndP hp hu k⟩
  ·obtain⟨c,e⟩:=qg (n:=s.heap.objs.size+1) k
   refine .inr ⟨.inl k,c,e,?_⟩
   have q:=x.cell y c e;rw[oi ndP hp hu (by show scope.names.lookup y≠_; rw[k]; decide)]at q
   exact q
 ·exact e0.hok.fresh (Nat.le_of_lt (x.above y c (PySem.mem_of_lookup h)))
 ·unfold start
  show _=N.length
  rw[List.length_append,List.length_map,List.length_replicate];omega
theorem FJ{CX:ii}{P:Program}{w:World}{K:PySem.W.Frag}{mg:Str→Option Value}{base:Heap}{k:Nat}{f:Addr}{name qual:Str}{params:Arguments}{body:List Stmt}{scope:Scope}{dV kV doc pm cdv ct oc:Value}{an od:Option Addr}
  {osl:Array (Option Value)} {N ps:List Str} {sp:Sp} (lk:K.lookup f=some ⟨oc,od,.func (PySem.W.fnOf name qual params body scope dV kV doc pm an cdv ct),osl⟩) (hcd:PySem.W.codeIn K cdv qual=true) (S:aA N ps scope)
  (len:∀ vs H Q E,sp vs H Q E→vs.length=ps.length)
  (hbody:∀ (A:Around) (outer:List Env) (s:Shared) (H:Hp) (vs:List V) (Q:VK) (E:XK),Room k (A.deeper (envOfC qual scope s.heap.objs.size f cdv))→sp vs H Q E→
   ∃ t,PSs (iE CX P w K mg base N qual scope f cdv A outer s H E) body t∧t { nx:=fun _ H'=>Q .non H',rt:=Q } (start N vs) H) :
  FnOk P w K mg base CX (k+1) f (PySem.W.fnOf name qual params body scope dV kV doc pm an cdv ct) ps sp:=by
 refine⟨len,fun A outer s H args us vs Q E hr e0 hb r hsp=>?_⟩
 have hl:=len _ _ _ _ hsp;have KX:K.In s.heap:=e0.mod.kin.keeps fun b o e=>(e0.bs b o e).1
 have lim:s.heap.NoLimit:=e0.mod.nolimit.keeps fun b o e=>(e0.bs b o e).1
 have hkind:∀ y∈ps.zip us,scope.names.lookup y.1=some .local∨(scope.names.lookup y.1=some .cell∧((cellsFrom (s.heap.objs.size+1) scope.names []).lookup y.1).isSome=true):=fun ⟨n,v⟩ hy=>by
  rcases S.par n (List.of_mem_zip hy).1 with q | q
  ·exact .inl q
  ·exact .inr ⟨q,PySem.W.cellsFrom_some _ _ _ (.inl q)⟩
 refine codeAny_call_function hr.depth (KX _ _ lk) rfl S.co S.gen rfl (PySem.W.codeRec_of KX hcd) (hb _ _ _ _ ?_)
 refine wpAny_newFunctionEnv_cells S.kind hkind fun env he s1 x=>?_
 subst he;refine⟨lim.keeps x.toInCall.keep,codeAny_func ?_⟩
 obtain⟨t,ht,hq⟩:=hbody A outer s H vs Q E (hr.deeper _) hsp
 have I:Inv (iE CX P w K mg base N qual scope f cdv A outer s H E) [] (start N vs) H s1:=wK S hr.hd e0 hl r x
 refine wpAny_mono (ht [] s1 (start N vs) H _ I hq) (fun fl s' hs=>?_) fun e s' hs=>hs
 have fin:∀ {σ':St} {H':Hp} {v:V} {u:Value},Inv (iE CX P w K mg base N qual scope f cdv A outer s H E) [] σ' H' s'→RelV v u→Q v H'→CE outer P w H s Q u s':=
  fun {σ' H' v u} J rv q=>⟨v,H',J.os,J.bare,J.base,J.hok,rv,q⟩
 cases fl with
 | ret u=>
  obtain⟨v,σ',H',J,rv,q⟩:=hs
  exact fin J rv q
 | next=>
  obtain⟨σ',H',J,q⟩:=hs
  exact fin (v:=V.non) (u:=Value.none) J rfl q
 | brk=>
  obtain⟨_,_,_,q⟩:=hs
  exact False.elim q
 | cont=>
  obtain⟨_,_,_,q⟩:=hs
  exact False.elim q
end L2
namespace L2
open PySem PySem.Spec PyProof.Rows
section
variable{X:Cx}{x:Str}{p pos:Pos}{e:Expr}{es:List Expr}{t:TA}{id T:String}{r:List V→Hp→VK→Prop}
def yp(r:List V→Hp→VK→Prop)(t:TA):TE:=fun σ H Q=>t σ H fun vs H1=>r vs H1 Q
theorem yS(hc:CallR X (.builtin id) r)(hg:Gl X x)(hm:X.mg x=none)(hv:bootBuiltins x=some (.builtin id))(ha:PA X (e::es) t)(hn:x ≠ "__name__" := by decide) (hdb:(x == ("__debug__" : Str))=false:=by decide)
  (he:starEach (e::es) X.env=(false,eval e X.env)::starEach es X.env:=by rfl) (hpl:(backTo pos (starEach es X.env)).any (·.1)=false:=by rfl):PE X (.Call (.Name x p) (e::es) [] pos) (yp r t):=by
 intro pins s σ H Q I h
 refine wpAny_Call_Name_kw (gX I hg hm hv ?_ hn hdb)
 exact PyProof.Rows.callWith_builtin1 (aZ (ha pos pins s σ H _ I h) fun us s1 ⟨vs,H1,I1,r1,q1⟩=>hc pins s1 σ H1 vs us Q I1 r1 q1) he hpl
theorem ye(hc:CallR X (.type T) r)(hg:Gl X x)(hm:X.mg x=none)(hv:bootBuiltins x=some (.type T))(ha:PA X (e::es) t)(hn:x ≠ "__name__" := by decide) (hdb:(x == ("__debug__" : Str))=false:=by decide)
  (he:starEach (e::es) X.env=(false,eval e X.env)::starEach es X.env:=by rfl) (hpl:(backTo pos (starEach es X.env)).any (·.1)=false:=by rfl):PE X (.Call (.Name x p) (e::es) [] pos) (yp r t):=by
 intro pins s σ H Q I h
 refine wpAny_Call_Name_kw (gX I hg hm hv ?_ hn hdb)
 exact PyProof.Rows.callWith_type1 (aZ (ha pos pins s σ H _ I h) fun us s1 ⟨vs,H1,I1,r1,q1⟩=>hc pins s1 σ H1 vs us Q I1 r1 q1) he hpl
end
end L2
namespace HT
open PySem PyProof.Rows
section
open PySem.SeqAt
open PySem.AutoSeq1 (wpAny_loadPart')
open PySem.MeetsSeq PySem.MeetsSeq2 PySem.MeetsSeq3
end
section
variable{prog:Program}{w:World}{A:Around}{E:Value→Shared→Prop}{s:Shared}
theorem cat_tup{t b:Addr}{vs ws:List Value}{Q:Value→Shared→Prop}(ht:IsTup s.heap t vs.toArray)(hb:IsTup s.heap b ws.toArray)(hv:vs≠[])
  (h1:ws=[]→Q (.ref t) s) (h2:ws≠[]→Q (.ref s.heap.objs.size) { s with heap:=s.heap.push { cls:=.type "tuple", data:=.seq (vs++ws).toArray } })
  (hsz:vs.length+ws.length≤sizeLine):wpAny (model prog w) A (binaryOp .Add (.ref t) (.ref b)) Q E s:=by
 obtain⟨⟨cls,dd,data,sl⟩,ho,hc,n,hd⟩:=id ht
 obtain⟨⟨cls2,dd2,data2,sl2⟩,ho2,hc2,n2,hd2⟩:=id hb
 simp only at hc hd hc2 hd2
 subst hc hd hc2 hd2;have e:vs.toArray++ws.toArray=(vs++ws).toArray:=by simp
 by_cases hw:ws=[]
 ·exact concat_meets ⟨_,ho,rfl⟩ ⟨_,ho2,rfl⟩ noFill_tuple_add seq_tuple_add PySem.F.slot_tuple_add PySem.F.entry_tuple_add (PySem.F.args_tuple_add_2 _ _)
   (tuple_addW1 t b vs.toArray ws.toArray n n2 dd dd2 sl sl2 (by simpa using hv) (by simp[hw])) ⟨ho,ho2,h1 hw⟩
 ·refine concat_meets ⟨_,ho,rfl⟩ ⟨_,ho2,rfl⟩ noFill_tuple_add seq_tuple_add PySem.F.slot_tuple_add PySem.F.entry_tuple_add (PySem.F.args_tuple_add_2 _ _)
   (tuple_addW2 t b vs.toArray ws.toArray n n2 dd dd2 sl sl2 (by simpa using hv) (by simpa using hw) (by rw[List.size_toArray,List.size_toArray]; exact hsz)) ⟨ho,ho2,?_⟩
  rw[e];exact h2 hw
def sIx(n d:Nat):Option Int→Nat
 | none=>d
 | some v=>if v<0 then (v+(n:Int)).toNat else min v.toNat n
theorem sIx_none(n d:Nat):sIx n d none=d:=rfl
theorem sIx_nat(n d k:Nat):sIx n d (some (k:Int))=min k n:=by
 show (if (k:Int)<0 then ((k:Int)+(n:Int)).toNat else min (k:Int).toNat n)=min k n
 rw[if_neg (by omega),Int.toNat_natCast]
theorem sIx_le(n d:Nat)(hd:d≤n)(o:Option Int):sIx n d o≤n:=by
 cases o with
 | none=>exact hd
 | some v=>
  show (if v<0 then (v+(n:Int)).toNat else min v.toNat n)≤n
  by_cases hv:v<0
  ·rw[if_pos hv]; omega
  ·rw[if_neg hv]; exact Nat.min_le_right _ _
theorem tN(v:Int)(n d:Nat):(if v<0 then max (v+(n:Int)) 0 else min v (n:Int))=((sIx n d (some v):Nat):Int):=by
 show (if v<0 then max (v+(n:Int)) 0 else min v (n:Int))=(((if v<0 then (v+(n:Int)).toNat else min v.toNat n):Nat):Int)
 by_cases hv:v<0
 ·simp only[if_pos hv]; omega
 ·simp only[if_neg hv]; omega
theorem uZ(lo hi:Option Int)(n:Nat):Builtin.Slice.sliceAdjust lo hi 1 (n:Int)=(((sIx n 0 lo:Nat):Int),((sIx n n hi:Nat):Int)):=by
 have h1:¬ ((1:Int)<0):=by omega
 unfold Builtin.Slice.sliceAdjust;simp only[h1,if_false]
 refine Prod.ext ?_ ?_
 ·cases lo with
  | none=>rfl
  | some v=>exact tN v n 0
 ·cases hi with
  | none=>rfl
  | some v=>exact tN v n n
theorem wg(i j:Nat):Builtin.Slice.slicePlaces (i:Int) (j:Int) 1=j - i:=by
 unfold Builtin.Slice.slicePlaces;have h1:(1:Int)>0:=by omega
 simp only[h1,if_true,Int.ediv_one]
 split <;> omega
theorem lY{v:Value}{o:Option Int}{Q:Option Int→Shared→Prop}(p:IsPart v o)(h:Q o s):wpAny (model prog w) A (Builtin.Slice.slicePartIndex v) Q E s:=by
 cases p with
 | none=>exact slicePart_none h
 | int i t=>exact slicePart_int h
theorem sliceApplied_gen{sl:Addr}{vl vu:Value}{lo hi:Option Int}{n:Nat}{Q:Int × Int × Nat→Shared→Prop}(hs:s.heap.IsSliceOf sl vl vu .none)(pl:IsPart vl lo)(pu:IsPart vu hi)
  (h:Q (((sIx n 0 lo:Nat):Int),1,sIx n n hi - sIx n 0 lo) s):wpAny (model prog w) A (Builtin.Slice.sliceApplied (.ref sl) (pure (n:Int))) Q E s:=by
 obtain⟨os,hos,hcs,hds⟩:=id hs
 unfold Builtin.Slice.sliceApplied Builtin.Slice.sliceFields;refine wpAny_bind (wpAny_bind (wpAny_field hos hds (x:=vl) rfl (wpAny_bind (wpAny_field hos hds (x:=vu) rfl (wpAny_bind (wpAny_field hos hds (x:=.none) rfl (wpAny_pure ?_)))))))
 refine wpAny_bind (slicePart_none ?_)
 show wpAny _ _ (if ((1:Int) == 0)=true then _ else _) _ _ s
 rw[if_neg (by decide)]
 refine wpAny_bind (lY pl (wpAny_bind (lY pu (wpAny_bind (wpAny_pure ?_)))))
 show wpAny _ _ (match Builtin.Slice.sliceAdjust lo hi 1 (n:Int) with | (lo,hi)=>pure (lo,(1:Int),Builtin.Slice.slicePlaces lo hi 1)) _ _ s
 rw[uZ lo hi n];show wpAny _ _ (pure (((sIx n 0 lo:Nat):Int),(1:Int),Builtin.Slice.slicePlaces ((sIx n 0 lo:Nat):Int) ((sIx n n hi:Nat):Int) 1)) _ _ s
 rw[wg];exact wpAny_pure h
theorem zv(xs:Array Value)(i k:Nat):((List.range k).filterMap fun (m:Nat)=>xs[((i:Int)+(m:Int) * 1).toNat]?).toArray=((xs.toList.drop i).take k).toArray:=by
 have e:(fun (m:Nat)=>xs[((i:Int)+(m:Int) * 1).toNat]?)=fun m=>xs[i+m]?:=by
  funext m
  have:((i:Int)+(m:Int) * 1).toNat=i+m:=by omega
  rw[this]
 rw[e];have:=pick_run xs i k
 rw[List.filterMap_map]at this
 have e2:((fun x=>xs[x]?) ∘ fun x=>i+x)=fun m=>xs[i+m]?:=rfl
 rw[e2]at this
 rw[this]
theorem getItem_tuple_cut{t sl:Addr}{items:Array Value}{vl vu:Value}{lo hi:Option Int}{Q:Value→Shared→Prop}(ht:IsTup s.heap t items)(hs:s.heap.IsSliceOf sl vl vu .none)(pl:IsPart vl lo)(pu:IsPart vu hi)
  (hw:¬ (sIx items.size 0 lo=0∧sIx items.size items.size hi=items.size))
  (h:Q (.ref s.heap.objs.size) { s with heap:=s.heap.push { cls:=.type "tuple", data:=.seq ((items.toList.drop (sIx items.size 0 lo)).take (sIx items.size items.size hi - sIx items.size 0 lo)).toArray } })
  (hsz:items.size≤sizeLine):wpAny (model prog w) A (getItem (.ref t) (.ref sl)) Q E s:=by
 have htake:sizeOk (.seq ((items.toList.drop (sIx items.size 0 lo)).take (sIx items.size items.size hi - sIx items.size 0 lo)).toArray):=by
  show ((items.toList.drop (sIx items.size 0 lo)).take (sIx items.size items.size hi - sIx items.size 0 lo)).toArray.size≤sizeLine
  rw[List.size_toArray,List.length_take,List.length_drop,Array.length_toList];omega
 have hj:sIx items.size items.size hi≤items.size:=sIx_le _ _ (Nat.le_refl _) hi
 obtain⟨os,hos,hcs,hds⟩:=id hs
 have hTs:s.TypeIs (.ref sl) "slice" := ⟨os,hos,hcs⟩
 unfold getItem
 try with_reducible refine wpAny_holding ?_
 first | refine wpAny_bind (wpAny_pure ?_) | skip
 refine wpAny_bind (wpAny_sequenceKey ht.typeIs (by decide) ?_)
 refine wpAny_bind (wpAny_callSpecial?_slot (name:=Str.ofString "__getitem__") ht.typeIs PyProof.Rows.slot_tuple_getitem
  (wpAny_call_entry PyProof.Rows.slot_tuple_getitem ht.typeIs entry_tuple_getitem ?_ (args_tuple_getitem _ _)))
 show wpAny _ _ (Builtin.Tuple.tupleItemsOf (.ref t) >>= _) _ _ s
 refine wpAny_bind (tupleItemsOf_ ht ?_)
 refine wpAny_bind (wpAny_typeOf hTs ?_)
 rw[if_pos (by decide)]
 refine wpAny_bind (sliceApplied_gen hs pl pu ?_)
 have hno:¬ ((((sIx items.size 0 lo:Nat):Int) == 0&&(1:Int) == 1&&(sIx items.size items.size hi - sIx items.size 0 lo) == items.size)=true):=by
  intro q
  rw[Bool.and_eq_true,Bool.and_eq_true]at q
  have q1:((sIx items.size 0 lo:Nat):Int)=0:=eq_of_beq q.1.1
  have q2:sIx items.size items.size hi - sIx items.size 0 lo=items.size:=eq_of_beq q.2
  exact hw ⟨by omega,by omega⟩
 show wpAny _ _ (if (((sIx items.size 0 lo:Nat):Int) == 0&&(1:Int) == 1&&(sIx items.size items.size hi - sIx items.size 0 lo) == items.size)=true then _ else _) _ _ s
 rw[if_neg hno,zv]
 first
  | exact wpAny_bind (m:=Builtin.Tuple.tupleExact _) (wpAny_newObj_type (wpAny_pure ⟨_,rfl,wpAny_pure h⟩) htake)
  | exact wpAny_bind (m:=Builtin.Tuple.tupleExact _) (wpAny_newObj_type (wpAny_bind (wpAny_pure (wpAny_pure ⟨_,rfl,wpAny_pure h⟩))) htake)
  | exact wpAny_bind (wpAny_bind (m:=Builtin.Tuple.tupleExact _) (wpAny_newObj_type (wpAny_pure (wpAny_pure ⟨_,rfl,wpAny_pure h⟩)) htake))
  | exact wpAny_bind (wpAny_bind (m:=Builtin.Tuple.tupleExact _) (wpAny_newObj_type (wpAny_pure ⟨_,rfl,wpAny_pure h⟩) htake))
end
end HT
namespace L2
open PySem PySem.Spec PyProof.Rows
abbrev TO:=St→Hp→(Option Int→Hp→Prop)→Prop
def PO(X:Cx)(e:Option Expr)(t:TO):Prop:=
 ∀ (pins:List (Addr × Obj)) (s:Shared) (σ : St) (H:Hp) (Q:Option Int→Hp→Prop),Inv X pins σ H s→t σ H Q→
  wpAny (model X.prog X.w) X.A (evalPart e X.env) (fun u s'=>∃ o H',Inv X pins σ H' s'∧IsPart u o∧Q o H') X.xe s
def ut:TO:=fun _ H Q=>Q none H
def AY(t:TE):TO:=fun σ H Q=>t σ H fun x H1=>∃ i,x = .int i∧Q (some i) H1
section
variable{X:Cx}{e:Expr}{te:TE}{lo hi:Option Expr}{tl th:TO}{pos p2:Pos}
theorem cQ:PO X none ut:=by
 intro pins s σ H Q I h
 rw[evalPart_none];exact wpAny_pure ⟨none,H,I,.none,h⟩
theorem ci(h:PE X e te):PO X (some e) (AY te):=by
 intro pins s σ H Q I hw
 rw[evalPart_some];refine aZ (h pins s σ H _ I hw) fun u s1 ⟨x,H1,I1,r1,q1⟩=>?_
 obtain⟨i,rfl,q⟩:=q1
 obtain⟨t,rfl⟩:=r1
 exact⟨some i,H1,I1,.int i t,q⟩
def SlR(X:Cx)(r:V→Option Int→Option Int→Hp→VK→Prop):Prop:=
 ∀ (pins:List (Addr × Obj)) (s:Shared) (σ : St) (H:Hp) (x:V) (v vl vu:Value) (lo hi:Option Int) (sl:Addr) (Q:VK),Inv X pins σ H s→RelV x v→s.heap.IsSliceOf sl vl vu .none→IsPart vl lo→IsPart vu hi→r x lo hi H Q→
  ∃ T id,typeLookup (.type T) "__getitem__" = pure (some (.builtin id))∧s.TypeIs v T∧wpAny (model X.prog X.w) X.A (getItem v (.ref sl)) (EP X pins σ Q) X.xe s
def FS(r:V→Option Int→Option Int→Hp→VK→Prop)(te:TE)(tl th:TO):TE:=fun σ H Q=>te σ H fun x H1=>tl σ H1 fun l H2=>th σ H2 fun u H3=>r x l u H3 Q
theorem b_{r:V→Option Int→Option Int→Hp→VK→Prop}(hr:SlR X r)(he:PE X e te)(hl:PO X lo tl)(hu:PO X hi th):PE X (.Subscript e (.Slice lo hi none p2) pos) (FS r te tl th):=by
 intro pins s σ H Q I h
 refine Subscript_ (aZ (he pins s σ H _ I h) fun v s1 ⟨x,H1,I1,r1,q1⟩=>?_)
 refine wpAny_Slice (aZ (hl pins s1 σ H1 _ I1 q1) fun vl s2 ⟨l,H2,I2,pl,q2⟩=>aZ (hu pins s2 σ H2 _ I2 q2) fun vu s3 ⟨u,H3,I3,pu,q3⟩=>?_)
 rw[evalPart_none];refine wpAny_pure ?_
 have I4:Inv X pins σ H3 { s3 with heap:=s3.heap.push { cls:=.type "slice", data:=.fields #[vl,vu,.none] } }:=I3.kept (t':=s3.toks) fun b ob q=>Heap.get?_push_of_some _ q
 obtain⟨T,id,hT,ht,hg⟩:=hr pins { s3 with heap:=s3.heap.push { cls:=.type "slice", data:=.fields #[vl,vu,.none] } } σ H3 x v vl vu l u s3.heap.objs.size Q I4 r1 (Heap.IsSliceOf.new ..) pl pu q3
 show wpAny (model X.prog X.w) X.A (subscriptTail e (.Slice lo hi none p2) v (.ref s3.heap.objs.size)) (EP X pins σ Q) X.xe { s3 with heap:=s3.heap.push { cls:=.type "slice", data:=.fields #[vl,vu,.none] } }
 exact tail_any (ops:=[.ref s3.heap.objs.size,v]) ht hT hg (by with_unfolding_all rfl)
def dO(xs:List V)(lo hi:Option Int):List V:=(xs.drop (HT.sIx xs.length 0 lo)).take (HT.sIx xs.length xs.length hi - HT.sIx xs.length 0 lo)
theorem kA(xs:List V)(lo hi:Option Int):(dO xs lo hi).length≤xs.length:=by
 unfold dO;rw[List.length_take,List.length_drop];omega
def G3(K:PySem.W.Frag):V→Option Int→Option Int→Hp→VK→Prop:=fun x lo hi H Q=>∃ a xs,x = .ref a∧SqT K H a xs∧
 ¬ (HT.sIx xs.length 0 lo=0∧HT.sIx xs.length xs.length hi=xs.length)∧∀ p,H p=none→Q (.ref p) (upd H p (.tup (dO xs lo hi)))
theorem Ds:SlR X (G3 X.K):=by
 intro pins s σ H x v vl vu lo hi sl Q I rx hs pl pu h
 obtain⟨a,xs,rfl,hx,hw,q⟩:=h
 cases rx;obtain⟨its,r,ht,hz⟩:=I.tuple hx
 have hlen:its.toArray.size=xs.length:=by rw[List.size_toArray]; exact r.length.symm
 refine⟨"tuple", _,PyProof.Rows.slot_tuple_getitem.lookup,ht.typeIs,?_⟩
 refine HT.getItem_tuple_cut ht hs pl pu (by rw[hlen]; exact hw) ?_ (by rw[hlen]; exact hz)
 rw[hlen];refine⟨.ref s.heap.objs.size,_,I.laid (t':=s.toks) (o:=.tup (dO xs lo hi)) (fun b ob q=>Heap.get?_push_of_some _ q) (Nat.le_refl _) ?_,rfl,q _ (I.hok.fresh (Nat.le_refl _))⟩
 exact⟨Nat.le_trans (kA xs lo hi) hz,_,(r.drop (HT.sIx xs.length 0 lo)).take (HT.sIx xs.length xs.length hi - HT.sIx xs.length 0 lo),IsTupN.new _ _⟩
def vw(K:PySem.W.Frag):R2:=fun x y H Q=>∃ a b xs ys,x = .ref a∧y = .ref b∧SqT K H a xs∧SqT K H b ys∧xs≠[]∧xs.length+ys.length≤sizeLine∧
 (ys=[]→Q (.ref a) H)∧(ys≠[]→∀ p,H p=none→Q (.ref p) (upd H p (.tup (xs++ys))))
theorem Vals.nil_iff{xs:List V}{us:List Value}(r:Vals xs us):us=[] ↔ xs=[]:=by
 cases r with
 | nil=>simp
 | cons _ _=>simp
theorem Ce:OpR X (binaryOp .Add) (vw X.K):=by
 intro pins s σ H x y v u Q I rx ry h
 obtain⟨a,b,xs,ys,rfl,rfl,ha,hb,hx,hz,q1,q2⟩:=h
 cases rx
 cases ry;obtain⟨its,r1,p1,_⟩:=I.tuple ha
 obtain⟨its2,r2,p2,_⟩:=I.tuple hb
 refine HT.cat_tup p1 p2 (fun z=>hx (r1.nil_iff.mp z)) (fun z=>⟨.ref a,H,I,rfl,q1 (r2.nil_iff.mp z)⟩) (fun z=>?_) (by rw[← r1.length,← r2.length]; exact hz)
 refine⟨.ref s.heap.objs.size,_,I.laid (t':=s.toks) (o:=.tup (xs++ys)) (fun b ob q=>Heap.get?_push_of_some _ q) (Nat.le_refl _) ?_,rfl,q2 (fun w=>z (r2.nil_iff.mpr w)) _ (I.hok.fresh (Nat.le_refl _))⟩
 exact⟨by rw[List.length_append]; exact hz,_,r1.append r2,IsTupN.new _ _⟩
end
end L2
namespace L2
open PySem PySem.Spec PyProof.Rows
def kt(n:Nat)(i:Int):Option Nat:=if 0≤i then (if i<n then some i.toNat else none) else if -(n:Int)≤i then some (i+n).toNat else none
def eY{α : Type}(xs:List α)(i:Int):Option α:=(kt xs.length i).bind fun j=>xs[j]?
theorem Cp{n:Nat}{i:Int}{j:Nat}(h:kt n i=some j):seqIndex? i n=some j∧j<n∧-(n:Int)≤i∧i<n:=by
 unfold kt at h
 by_cases h0:0≤i
 ·rw[if_pos h0]at h
  by_cases h1:i<n
  ·rw[if_pos h1]at h
   have e:i.toNat=j:=Option.some.inj h
   exact⟨by rw[seqIndex_of h0 h1,e],by omega,by omega,h1⟩
  ·rw[if_neg h1]at h; cases h
 ·rw[if_neg h0]at h
  by_cases h1:-(n:Int)≤i
  ·rw[if_pos h1]at h
   have e:(i+n).toNat=j:=Option.some.inj h
   exact⟨by rw[seqIndex_neg (by omega) h1,e],by omega,h1,by omega⟩
  ·rw[if_neg h1]at h; cases h
theorem mS{α : Type}{xs:List α}{i:Int}{v:α}(h:eY xs i=some v):∃ j,seqIndex? i xs.length=some j∧xs[j]? = some v∧j<xs.length∧-(xs.length:Int)≤i∧i<xs.length:=by
 unfold eY at h
 cases e:kt xs.length i with
 | none=>rw[e]at h; cases h
 | some j=>
  rw[e]at h
  obtain⟨h1,h2,h3,h4⟩:=Cp e
  exact⟨j,h1,h,h2,h3,h4⟩
theorem aR{α : Type}{xs:List α}{j:Nat}{v:α}(h:xs[j]? = some v):eY xs (j:Int)=some v:=by
 have hj:j<xs.length:=(List.getElem?_eq_some_iff.mp h).1
 have e:kt xs.length (j:Int)=some j:=by
  unfold kt;rw[if_pos (by omega),if_pos (by omega)]; simp
 unfold eY; rw[e]; exact h
def B6(b:Expr):Prop:=∀ o i,subscripted b false o i=operate [o,i] (getItem o i)
def IxR(X:Cx)(r:R2):Prop:=
 ∀ (value slice:Expr) (pins:List (Addr × Obj)) (s:Shared) (σ : St) (H:Hp) (x y:V) (v u:Value) (Q:VK),Inv X pins σ H s→RelV x v→RelV y u→r x y H Q→
  subscripted slice false v u=operate [v,u] (getItem v u)→wpAny (model X.prog X.w) X.A (subscriptTail value slice v u) (EP X pins σ Q) X.xe s
def MtR(X:Cx)(id:String)(r:V→List V→Hp→VK→Prop):Prop:=
 ∀ (pins:List (Addr × Obj)) (s:Shared) (σ : St) (H:Hp) (x:V) (xs:List V) (v:Value) (us:List Value) (Q:VK),Inv X pins σ H s→RelV x v→Vals xs us→r x xs H Q→
  wpAny (model X.prog X.w) X.A (call (.builtin id) (v::us)) (EP X pins σ Q) X.xe s
section
variable{X:Cx}{a b:Expr}{ta tb:TE}{pos:Pos}
theorem IxR.or{r r':R2}(h:IxR X r)(h':IxR X r'):IxR X (fun x y H Q=>r x y H Q∨r' x y H Q):=by
 intro value slice pins s σ H x y v u Q I rx ry q hs
 rcases q with q | q
 ·exact h value slice pins s σ H x y v u Q I rx ry q hs
 ·exact h' value slice pins s σ H x y v u Q I rx ry q hs
theorem ax{r:R2}(hr:IxR X r)(ha:PE X a ta)(hb:PE X b tb)(hs:B6 b):PE X (.Subscript a b pos) (xX r ta tb):=by
 intro pins s σ H Q I h
 exact Subscript_ (AD ha hb I h fun v u s2 x y H2 I2 rx ry q=>hr a b pins s2 σ H2 x y v u Q I2 rx ry q (hs _ _))
def EU(K:PySem.W.Frag):R2:=fun x y H Q=>∃ p xs i v,x = .ref p∧y = .int i∧SqL K H p xs∧eY xs i=some v∧Q v H
def D3(K:PySem.W.Frag):R2:=fun x y H Q=>∃ p xs i v,x = .ref p∧y = .int i∧SqT K H p xs∧eY xs i=some v∧Q v H
def Ej:R2:=fun x y H Q=>∃ z i c,x = .str z∧y = .int i∧z.length≤sizeLine∧eY z.cps.toList i=some c∧Q (.str ⟨#[c]⟩) H
theorem ix_list:IxR X (EU X.K):=by
 intro value slice pins s σ H x y v u Q I rx ry h hs
 obtain⟨p,xs,i,z,rfl,rfl,hq,he,q⟩:=h
 cases rx;obtain⟨t,rfl⟩:=ry
 obtain⟨its,r,pl,hz⟩:=I.list hq
 obtain⟨j,h1,h2,h3,h4,h5⟩:=mS he
 obtain⟨w,ew,rw'⟩:=r.get h2
 have hl:=r.length;have hn:=ji;have fin:EP X pins σ Q w s:=⟨z,H,I,rw',q⟩
 by_cases h0:0≤i
 ·have hj:i.toNat=j:=by
   rw[seqIndex_of h0 h5]at h1
   exact Option.some.inj h1
  exact item_listR pl.isList h0 (by omega) (by rw[hj]; simpa using ew) fin hs
 ·have hj:(i+(its.toArray.size:Int)).toNat=j:=by
   rw[seqIndex_neg (by omega) h4]at h1
   rw[List.size_toArray,← hl];exact Option.some.inj h1
  exact subscriptTail_builtinR (x:=w) pl.isList.typeIs slot_list_getitem.lookup
   (wpAny_getItem_list_neg (Q:=fun r s'=>r=w∧EP X pins σ Q r s') pl.isList (by omega) (by rw[List.size_toArray] <;> omega) (by omega) (by rw[hj]; simpa using ew) ⟨rfl,fin⟩) hs
theorem ix_tup:IxR X (D3 X.K):=by
 intro value slice pins s σ H x y v u Q I rx ry h hs
 obtain⟨p,xs,i,z,rfl,rfl,hq,he,q⟩:=h
 cases rx;obtain⟨t,rfl⟩:=ry
 obtain⟨its,r,pl,hz⟩:=I.tuple hq
 obtain⟨j,h1,h2,h3,h4,h5⟩:=mS he
 obtain⟨w,ew,rw'⟩:=r.get h2
 have hl:=r.length;have hn:=ji;have fin:EP X pins σ Q w s:=⟨z,H,I,rw',q⟩
 exact subscriptTail_builtinR (x:=w) pl.typeIs slot_tuple_getitem.lookup
  (getItem_tuple (j:=j) (Q:=fun r s'=>r=w∧EP X pins σ Q r s') pl (by omega) (by omega) (by rw[List.size_toArray,← hl]; exact h1) (by simpa using ew) ⟨rfl,fin⟩) hs
theorem C8:IxR X Ej:=by
 intro value slice pins s σ H x y v u Q I rx ry h hs
 obtain⟨z,i,c,rfl,rfl,hz,he,q⟩:=h
 obtain⟨t,rfl⟩:=rx
 obtain⟨t',rfl⟩:=ry
 obtain⟨j,h1,h2,h3,h4,h5⟩:=mS he
 have hl:z.cps.toList.length=z.length:=by simp[Str.length]
 rw[hl]at h1 h4 h5
 have hn:=ji
 exact tail_any (typeIs_str s z t) slot_str_getitem.lookup (getItem_str (c:=c) (by
  have e1:decide (i < -(2 ^ 63:Int))=false:=decide_eq_false (by omega)
  have e2:decide (i≥2 ^ 63)=false:=decide_eq_false (by omega)
  rw[e1,e2,Bool.or_false]) (by rw[h1]; simpa using h2) ⟨.str ⟨#[c]⟩,H,I.tok _,⟨_,rfl⟩,q⟩) hs
def Kt(K:PySem.W.Frag):R2:=fun x y H Q=>EU K x y H Q∨D3 K x y H Q∨Ej x y H Q
theorem CP:IxR X (Kt X.K):=ix_list.or (ix_tup.or C8)
theorem jx(lo hi:Option Int)(n:Nat):(sliceBounds lo hi none n).1=((HT.sIx n 0 lo:Nat):Int)∧(sliceBounds lo hi none n).2.1=((HT.sIx n n hi:Nat):Int)∧(sliceBounds lo hi none n).2.2=1:=by
 refine⟨?_,?_,rfl⟩
 ·cases lo with
  | none=>simp[sliceBounds,HT.sIx]
  | some i=>
   simp only[sliceBounds,HT.sIx,Option.getD_none,show (1:Int)>0 by decide,if_true]
   by_cases h:i<0
   ·simp only[h,if_true] <;> omega
   ·simp only[h,if_false] <;> omega
 ·cases hi with
  | none=>simp[sliceBounds,HT.sIx]
  | some i=>
   simp only[sliceBounds,HT.sIx,Option.getD_none,show (1:Int)>0 by decide,if_true]
   by_cases h:i<0
   ·simp only[h,if_true] <;> omega
   ·simp only[h,if_false] <;> omega
theorem oC(its:List Value)(lo hi:Option Int):slicePick its.toArray lo hi none=((its.drop (HT.sIx its.length 0 lo)).take (HT.sIx its.length its.length hi - HT.sIx its.length 0 lo)).toArray:=by
 obtain⟨h1,h2,h3⟩:=jx lo hi its.toArray.size
 unfold slicePick;rw[h1,h2,h3];simp only[sliceRange_one,pick_run,List.size_toArray] <;> rfl
def zO(K:PySem.W.Frag):V→Option Int→Option Int→Hp→VK→Prop:=fun x lo hi H Q=>∃ a xs,x = .ref a∧SqL K H a xs∧∀ p,H p=none→Q (.ref p) (upd H p (.lst (dO xs lo hi)))
theorem CH:SlR X (zO X.K):=by
 intro pins s σ H x v vl vu lo hi sl Q I rx hs pl pu h
 obtain⟨a,xs,rfl,hx,q⟩:=h
 cases rx;obtain⟨its,r,ht,hz⟩:=I.list hx
 have hlen:=r.length;refine⟨"list", _,slot_list_getitem.lookup,ht.isList.typeIs,?_⟩
 refine wpAny_getItem_list_slice ht.isList hs pl pu .none (by simp) ?_ (by rw[List.size_toArray] <;> omega)
 rw[oC,← hlen];refine⟨.ref s.heap.objs.size,_,I.laid (t':=s.toks) (o:=.lst (dO xs lo hi)) (fun b ob q=>Heap.get?_push_of_some _ q) (Nat.le_refl _) ?_,rfl,q _ (I.hok.fresh (Nat.le_refl _))⟩
 exact⟨Nat.le_trans (kA xs lo hi) hz,_,0,(r.drop (HT.sIx xs.length 0 lo)).take (HT.sIx xs.length xs.length hi - HT.sIx xs.length 0 lo),Heap.get?_push_size _ rfl⟩
def bU:V→Bool
 | .non=>true
 | .bl _=>true
 | .int _=>true
 | .str _=>true
 | _=>false
def fL:V→V→Bool
 | .non,.non=>true
 | .bl a,.bl b=>a == b
 | .bl a,.int b=>(if a then 1 else 0) == b
 | .int a,.bl b=>a == (if b then 1 else 0)
 | .int a,.int b=>a == b
 | .str a,.str b=>a == b
 | _,_=>false
theorem lG{A:Around}{s:Shared}{y x:V}{u v:Value}(ry:RelV y u)(rx:RelV x v)(fy:bU y=true)(fx:bU x=true):SeqAt.EqAt A s u v (fL y x):=by
 cases y with
 | non=>
  cases ry
  cases x with
  | non=>cases rx; exact SeqAt.EqAt.same _
  | bl b=>cases rx; exact SeqAt.EqAt.none_bool b
  | int b=>obtain⟨t,rfl⟩:=rx; exact SeqAt.EqAt.none_int b t
  | str b=>obtain⟨t,rfl⟩:=rx; exact SeqAt.EqAt.none_str b t
  | _=>exact absurd (show false=true from fx) Bool.false_ne_true
 | bl a=>
  cases ry
  cases x with
  | non=>cases rx; exact SeqAt.EqAt.bool_none a
  | bl b=>cases rx; exact SeqAt.EqAt.bool_bool a b
  | int b=>obtain⟨t,rfl⟩:=rx; exact SeqAt.EqAt.bool_int a b t
  | str b=>obtain⟨t,rfl⟩:=rx; exact SeqAt.EqAt.bool_str a b t
  | _=>exact absurd (show false=true from fx) Bool.false_ne_true
 | int a=>
  obtain⟨t',rfl⟩:=ry
  cases x with
  | non=>cases rx; exact SeqAt.EqAt.int_none a t'
  | bl b=>cases rx; exact SeqAt.EqAt.int_bool a t' b
  | int b=>obtain⟨t,rfl⟩:=rx; exact SeqAt.EqAt.int_int a t' b t
  | str b=>obtain⟨t,rfl⟩:=rx; exact SeqAt.EqAt.int_str a t' b t
  | _=>exact absurd (show false=true from fx) Bool.false_ne_true
 | str a=>
  obtain⟨t',rfl⟩:=ry
  cases x with
  | non=>cases rx; exact SeqAt.EqAt.str_none a t'
  | bl b=>cases rx; exact SeqAt.EqAt.str_bool a t' b
  | int b=>obtain⟨t,rfl⟩:=rx; exact SeqAt.EqAt.str_int a t' b t
  | str b=>obtain⟨t,rfl⟩:=rx; exact SeqAt.EqAt.str_str a t' b t
  | _=>exact absurd (show false=true from fx) Bool.false_ne_true
 | _=>exact absurd (show false=true from fy) Bool.false_ne_true
def hU(x:V)(u:Value):Bool:=match u with
 | .none=>fL .non x
 | .bool b=>fL (.bl b) x
 | .int i _=>fL (.int i) x
 | .str z _=>fL (.str z) x
 | _=>false
theorem xh{x y:V}{u:Value}(r:RelV y u)(f:bU y=true):hU x u=fL y x:=by
 cases y with
 | non=>cases r; rfl
 | bl b=>cases r; rfl
 | int i=>obtain⟨t,rfl⟩:=r; rfl
 | str z=>obtain⟨t,rfl⟩:=r; rfl
 | _=>exact absurd (show false=true from f) Bool.false_ne_true
theorem ir{x:V}:∀ {xs:List V} {us:List Value},Vals xs us→xs.all bU=true→us.any (hU x)=xs.any fun y=>fL y x
 | _,_,.nil,_=>rfl
 | y::xs,u::us,.cons r t,f=>by
  rw[List.all_cons,Bool.and_eq_true]at f
  rw[List.any_cons,List.any_cons,xh r f.1,ir t f.2]
theorem gR{A:Around}{s:Shared}{x:V}{v:Value}(rx:RelV x v)(fx:bU x=true):∀ {xs:List V} {us:List Value},Vals xs us→xs.all bU=true→∀ u∈us,SeqAt.EqAt A s u v (hU x u)
 | _,_,.nil,_=>fun u hu=>by cases hu
 | y::xs,u::us,.cons r t,f=>fun u' hu=>by
  rw[List.all_cons,Bool.and_eq_true]at f
  rcases List.mem_cons.mp hu with rfl | hu
  ·rw[xh r f.1]; exact lG r rx f.1 fx
  ·exact gR rx fx t f.2 u' hu
def ja(x:V)(xs:List V):Bool:=xs.any fun y=>fL y x
def FY(K:PySem.W.Frag)(neg:Bool):R2:=fun x y H Q=>∃ p xs,y = .ref p∧(SqL K H p xs∨SqT K H p xs)∧bU x=true∧xs.all bU=true∧Q (.bl (if neg then !ja x xs else ja x xs)) H
theorem wN:OpR X (compareOp .In) (FY X.K false):=by
 intro pins s σ H x y v u Q I rx ry h
 obtain⟨p,xs,rfl,hq,fx,fs,q⟩:=h
 cases ry;rcases hq with hq | hq
 ·obtain⟨its,r,pl,hz⟩:=I.list hq
  refine SeqAt.in_listAt (hU x) pl.isList (fun w hw=>gR rx fx r fs w (by simpa using hw)) ⟨.bl _,H,I,rfl,?_⟩
  rw[show its.toArray.any (hU x)=its.any (hU x) by simp,ir r fs]
  exact q
 ·obtain⟨its,r,pl,hz⟩:=I.tuple hq
  refine SeqAt.in_tupleAt (hU x) pl (fun w hw=>gR rx fx r fs w (by simpa using hw)) ⟨.bl _,H,I,rfl,?_⟩
  rw[show its.toArray.any (hU x)=its.any (hU x) by simp,ir r fs]
  exact q
theorem oT:OpR X (compareOp .NotIn) (FY X.K true):=by
 intro pins s σ H x y v u Q I rx ry h
 obtain⟨p,xs,rfl,hq,fx,fs,q⟩:=h
 cases ry;rcases hq with hq | hq
 ·obtain⟨its,r,pl,hz⟩:=I.list hq
  refine SeqAt.notIn_listAt (hU x) pl.isList (fun w hw=>gR rx fx r fs w (by simpa using hw)) ⟨.bl _,H,I,rfl,?_⟩
  rw[show its.toArray.any (hU x)=its.any (hU x) by simp,ir r fs]
  exact q
 ·obtain⟨its,r,pl,hz⟩:=I.tuple hq
  refine SeqAt.notIn_tupleAt (hU x) pl (fun w hw=>gR rx fx r fs w (by simpa using hw)) ⟨.bl _,H,I,rfl,?_⟩
  rw[show its.toArray.any (hU x)=its.any (hU x) by simp,ir r fs]
  exact q
theorem pd:CallR X (.builtin "len") (fun xs H Q=>∃ p ys,xs=[.ref p]∧(SqL X.K H p ys∨SqT X.K H p ys)∧Q (.int ys.length) H):=by
 intro pins s σ H xs us Q I r h
 obtain⟨p,ys,rfl,hq,q⟩:=h
 obtain⟨u,rfl,rx⟩:=dH r
 cases rx;have hn:=ji;rcases hq with hq | hq
 ·obtain⟨its,r',pl,hz⟩:=I.list hq
  have hlen:=r'.length;exact Calls.call_len_list pl.isList (by simp only[List.size_toArray] <;> omega) ⟨.int ys.length,H,I.tok _,⟨s.toks+1,by rw[List.size_toArray,hlen]⟩,q⟩
 ·obtain⟨its,r',pl,hz⟩:=I.tuple hq
  have hlen:=r'.length;exact len_tuple pl (by simp only[List.size_toArray] <;> omega) ⟨.int ys.length,H,I.tok _,⟨s.toks+1,by rw[List.size_toArray,hlen]⟩,q⟩
theorem pU:CallR X (.builtin "len") (fun xs H Q=>∃ z,xs=[.str z]∧z.length≤sizeLine∧Q (.int z.length) H):=by
 intro pins s σ H xs us Q I r h
 obtain⟨z,rfl,hz,q⟩:=h
 obtain⟨u,rfl,t,rfl⟩:=dH r
 have hn:=ji;exact len_str (by omega) ⟨.int z.length,H,I.tok _,⟨_,rfl⟩,q⟩
theorem pG:CallR X (.type "list") (fun xs H Q=>∃ p ys,xs=[.ref p]∧(SqL X.K H p ys∨SqT X.K H p ys)∧∀ l,H l=none→Q (.ref l) (upd H l (.lst ys))):=by
 intro pins s σ H xs us Q I r h
 obtain⟨p,ys,rfl,hq,q⟩:=h
 obtain⟨u,rfl,rx⟩:=dH r
 cases rx
 have fin:∀ (its:List Value),Vals ys its→ys.length≤sizeLine→∀ (h':Heap) (c':Nat),(∀ b o',s.heap.get? b=some o'→h'.get? b=some o')→
   h'.get? s.heap.objs.size=some { cls:=.type "list", dict:=none,data:=.seq its.toArray c',slots:=#[] }→EP X pins σ Q (.ref s.heap.objs.size) { s with heap:=h' }:=fun its r' hz h' c' kp e=>
  ⟨.ref s.heap.objs.size,_,I.laid (t':=s.toks) kp (Nat.le_refl _) (show ObjOk X.prog X.w _ h' _ (.lst ys) from ⟨hz,its,c',r',e⟩),rfl,q _ (I.hok.fresh (Nat.le_refl _))⟩
 rcases hq with hq | hq
 ·obtain⟨its,r',pl,hz⟩:=I.list hq
  have hlen:=r'.length;obtain⟨o,ho,hc,n,hd⟩:=pl.isList
  exact call_list_seq p (.inl rfl) ho hc hd (fun h' c' kp e=>fin its r' hz h' c' kp e) (by simp only[List.size_toArray] <;> omega)
 ·obtain⟨its,r',pl,hz⟩:=I.tuple hq
  have hlen:=r'.length;obtain⟨o,ho,hc,n,hd⟩:=pl
  exact call_list_seq p (.inr rfl) ho hc hd (fun h' c' kp e=>fin its r' hz h' c' kp e) (by simp only[List.size_toArray] <;> omega)
theorem ox:CallR X (.type "tuple") (fun xs H Q=>∃ p ys,xs=[.ref p]∧((SqL X.K H p ys∧∀ l,H l=none→Q (.ref l) (upd H l (.tup ys)))∨(SqT X.K H p ys∧Q (.ref p) H))):=by
 intro pins s σ H xs us Q I r h
 obtain⟨p,ys,rfl,h⟩:=h
 obtain⟨u,rfl,rx⟩:=dH r
 cases rx;rcases h with ⟨hq,q⟩ | ⟨hq,q⟩
 ·obtain⟨its,r',pl,hz⟩:=I.list hq
  have hlen:=r'.length;refine call_tuple_list pl.isList (fun h' kp=>?_) (by simp only[List.size_toArray] <;> omega)
  have I1:Inv X pins σ H { s with heap:=h' }:=I.kept (t':=s.toks) kp
  have I2:Inv X pins σ (upd H h'.objs.size (.tup ys)) { s with heap:=h'.push { cls:=.type "tuple", data:=.seq its.toArray } }:=
   I1.laid (t':=s.toks) (fun b o e=>Heap.get?_push_of_some _ e) (Nat.le_refl _) (show ObjOk X.prog X.w _ _ _ (.tup ys) from ⟨hz,its,r',IsTupN.new _ _⟩)
  exact⟨.ref h'.objs.size,_,I2,rfl,q _ (I1.hok.fresh (Nat.le_refl _))⟩
 ·obtain⟨its,r',pl,hz⟩:=I.tuple hq
  exact call_tuple_same pl ⟨.ref p,H,I,rfl,q⟩
def qo(K:PySem.W.Frag)(T:String)(x:V)(H:Hp):Prop:=match x with
 | .str _=>T = "str"
 | .int _=>T = "int"
 | .ref p=>(T = "list" ∧ ∃ xs,SqL K H p xs)∨(T = "tuple" ∧ ∃ o,K.lookup p=some o∧o.cls = .type "tuple" ∧ o.dict=none)∨
   (T = "dict" ∧ ((∃ kvs,H p=some (.dK kvs))∨∃ kvs,H p=some (.dT kvs)))∨(T = "set" ∧ ∃ S n,H p=some (.set S n))
 | _=>False
theorem xk{pins:List (Addr × Obj)}{σ : St}{H:Hp}{s:Shared}{T:String}{x:V}{v:Value}(I:Inv X pins σ H s)(r:RelV x v)(ty:qo X.K T x H) :
  s.TypeIs v T∧∀ a,v = .ref a→∃ ob,s.heap.get? a=some ob∧ob.dict=none:=by
 cases x with
 | str z=>
  obtain⟨t,rfl⟩:=r
  cases (show T = "str" from ty)
  exact⟨typeIs_str s z t,fun _ e=>nomatch e⟩
 | int i=>
  obtain⟨t,rfl⟩:=r
  cases (show T = "int" from ty)
  exact⟨typeIs_int s i t,fun _ e=>nomatch e⟩
 | ref p=>
  cases r;rcases ty with ⟨rfl,xs,hq⟩ | ⟨rfl,o,hk,hc,hd⟩ | ⟨rfl,hk⟩ | ⟨rfl,S,n,hk⟩
  ·obtain⟨its,_,pl,_⟩:=I.list hq
   refine⟨pl.isList.typeIs,fun a e=>?_⟩
   cases e;obtain⟨o,n,e,c,hd,_⟩:=pl
   exact⟨o,e,hd⟩
  ·refine⟨⟨o,I.kIn p o hk,hc⟩,fun a e=>?_⟩
   cases e;exact⟨o,I.kIn _ o hk,hd⟩
  ·have z:∃ o,s.heap.get? p=some o∧o.ExactDict:=by
    rcases hk with ⟨kvs,hk⟩ | ⟨kvs,hk⟩
    ·obtain⟨_,_,_,_,o,_,_,e,ex,_⟩:=I.hok p _ hk
     exact⟨o,e,ex⟩
    ·obtain⟨_,_,_,_,o,_,_,e,ex,_⟩:=I.hok p _ hk
     exact⟨o,e,ex⟩
   obtain⟨o,e,ex⟩:=z
   refine⟨⟨o,e,ex.1⟩,fun a e2=>?_⟩
   cases e2;exact⟨o,e,ex.2.1⟩
  ·obtain⟨o,_,_,_,e,ex,_⟩:=I.hok p _ hk
   refine⟨⟨o,e,ex.1⟩,fun a e2=>?_⟩
   cases e2;exact⟨o,e,ex.2.1⟩
 | _=>exact False.elim ty
def zX(K:PySem.W.Frag)(T:String)(r:V→List V→Hp→VK→Prop)(to:TE):TE:=fun σ H Q=>to σ H fun x H1=>qo K T x H1∧r x [] H1 Q
def D9(K:PySem.W.Frag)(T:String)(r:V→List V→Hp→VK→Prop)(to:TE)(t:TA):TE:=fun σ H Q=>to σ H fun x H1=>qo K T x H1∧t σ H1 fun xs H2=>r x xs H2 Q
variable{o e:Expr}{es:List Expr}{to:TE}{t:TA}{name:Str}{apos cpos:Pos}{T id:String}{r:V→List V→Hp→VK→Prop}
theorem Do(pa:PlainAttrs T)(slot:Slot T name id)(hty:typeOf (.builtin id)=pure (.type "method_descriptor")) (hm:MtR X id r) (ho:PE X o to)
  (hbase:attributeBase o name X.env (eval o X.env)=eval o X.env:=by rfl) (hline:(apos.endLine == cpos.line)=true:=by rfl):PE X (.Call (.Attribute o name apos) [] [] cpos) (zX X.K T r to):=by
 intro pins s σ H Q I h
 refine wpAny_Call_method0_late hbase hline (aZ (ho pins s σ H _ I h) fun v s1 ⟨x,H1,I1,r1,ty,q1⟩=>?_)
 obtain⟨h1,h2⟩:=xk I1 r1 ty
 exact⟨T,id,pa,slot,hty,h1,h2,Calls.callWith_builtin rfl (PySem.evalArgs_none (hm pins s1 σ H1 x [] v [] Q I1 r1 .nil q1))⟩
theorem FI(pa:PlainAttrs T)(slot:Slot T name id)(hty:typeOf (.builtin id)=pure (.type "method_descriptor")) (hm:MtR X id r) (ho:PE X o to) (ha:PA X (e::es) t)
  (hbase:attributeBase o name X.env (eval o X.env)=eval o X.env:=by rfl)
  (hfew:((backTo cpos (starEach (e::es) X.env)).all (fun x=>!x.1)&&(backToKw cpos (keywordEach [] X.env)).all (fun x=>x.1.isSome)
   && decide ((e::es).length+([]:List Keyword).length+(if ([]:List Keyword).isEmpty then 0 else 1)<30))=true:=by rfl)
  (hline:(apos.endLine == cpos.line)=true:=by rfl) (hs:starEach (e::es) X.env=(false,eval e X.env)::starEach es X.env:=by rfl) (hplain:(backTo cpos (starEach es X.env)).any (·.1)=false:=by rfl) :
  PE X (.Call (.Attribute o name apos) (e::es) [] cpos) (D9 X.K T r to t):=by
 intro pins s σ H Q I h
 refine wpAny_Call_method_late hbase hfew hline rfl (aZ (ho pins s σ H _ I h) fun v s1 ⟨x,H1,I1,r1,ty,q1⟩=>?_)
 obtain⟨h1,h2⟩:=xk I1 r1 ty
 refine⟨T,id,pa,slot,hty,h1,h2,?_⟩
 have hA:=ha cpos pins s1 σ H1 _ I1 q1;rw[hs]at hA ⊢
 refine Calls.callWith_builtin (by show (false||(backTo cpos (starEach es X.env)).any (·.1))=false; rw[hplain] <;> rfl) (Calls.evalArgs_plain ?_)
 exact aZ hA fun us s2 ⟨vs,H2,I2,r2,q2⟩=>hm pins s2 σ H2 x vs v us Q I2 r1 r2 q2
/- xs.append(e), list.index on a module's tuple .. are MtR facts of 06m -/
end
end L2
namespace L2
open PySem PySem.Spec PyProof.Rows
def Bw(X:Cx)(id:String)(r:V→List V→Hp→VK→Prop):Prop:=
 ∀ (pins:List (Addr × Obj)) (s:Shared) (σ : St) (H:Hp) (x:V) (xs:List V) (v:Value) (us:List Value) (Q:VK),Inv X pins σ H s→RelV x v→Vals xs us→r x xs H Q→
  wpAny (model X.prog X.w) X.A (call (.builtin id) (v::us)) (EP X pins σ Q) X.xe s
theorem Vals.one:∀ {x:V} {us:List Value},Vals [x] us→∃ u,us=[u]∧RelV x u
 | _,_,.cons r .nil=>⟨_,rfl,r⟩
theorem Vals.zero:∀ {us:List Value},Vals [] us→us=[]
 | _,.nil=>rfl
theorem Vals.dropLast{xs:List V}{us:List Value}(h:Vals xs us):Vals xs.dropLast us.dropLast:=by
 induction h with
 | nil=>exact .nil
 | cons r t ih=>
  cases t with
  | nil=>exact .nil
  | cons q t'=>exact .cons r ih
theorem vy{α : Type}(l:List α):l.eraseIdx (l.length - 1)=l.dropLast:=by
 induction l with
 | nil=>rfl
 | cons a r ih=>
  cases r with
  | nil=>rfl
  | cons b r=>
   have e:(a::b::r).length - 1=((b::r).length - 1)+1:=by
    have h1:(a::b::r).length=r.length+2:=rfl
    have h2:(b::r).length=r.length+1:=rfl
    omega
   rw[e,List.eraseIdx_cons_succ,ih]
   all_goals rfl
section
variable{X:Cx}{pins:List (Addr × Obj)}{σ : St}{H:Hp}{s:Shared}{l b:Addr}{xs ys zs:List V}
theorem Inv.lset{its its':List Value}{n:Nat}{f:Array Value→Array Value}{t':Nat}(I:Inv X pins σ H s)(hH:H l=some (.lst xs))
  (e:s.heap.get? l=some { cls:=.type "list", data:=.seq its.toArray n }) (hf:f its.toArray=its'.toArray) (hv:Vals ys its') (hz:ys.length≤sizeLine) :
  Inv X pins σ (upd H l (.lst ys)) { s with heap:=s.heap.update l (Obj.mapSeq f),toks:=t' }:=by
 have q:=PySem.IsL.update e f;rw[hf]at q
 refine I.write (x:=l) (e:=l) (by rw[hH]; exact trivial) (.inl rfl) (fun b' u hb hu=>(Heap.get?_update_other s.heap (Obj.mapSeq f) (Ne.symm hb)).trans hu) ⟨_,q⟩ ?_
 exact⟨hz,its',_,hv,q⟩
theorem Inv.lnew{its:List Value}{t':Nat}(I:Inv X pins σ H s)(hv:Vals ys its)(hz:ys.length≤sizeLine) :
  Inv X pins σ (upd H s.heap.objs.size (.lst ys)) { s with heap:=s.heap.push { cls:=.type "list", data:=.seq its.toArray },toks:=t' }:=
 I.laid (fun _ _ q=>Heap.get?_push_of_some _ q) (Nat.le_refl _) ⟨hz,its,0,hv,Heap.get?_push_size _ rfl⟩
theorem Inv.fresh(I:Inv X pins σ H s):H s.heap.objs.size=none:=I.hok.fresh (Nat.le_refl _)
theorem Inv.lstM(I:Inv X pins σ H s)(hH:H l=some (.lst xs)):xs.length≤sizeLine∧∃ (its:List Value) (n:Nat),Vals xs its∧xs.length=its.length∧s.heap.get? l=some { cls:=.type "list", data:=.seq its.toArray n }:=by
 obtain⟨z,its,n,r,e⟩:=I.hok l _ hH
 exact⟨z,its,n,r,r.length,e⟩
theorem za{n:Nat}(h:n≤sizeLine):Builtin.List.listTooLong n=false:=by
 unfold Builtin.List.listTooLong;exact decide_eq_false (by omega)
end
section
variable{X:Cx}
def mY:V→List V→Hp→VK→Prop:=fun x vs H Q=>∃ l xs y,x = .ref l∧vs=[y]∧H l=some (.lst xs)∧xs.length<sizeLine∧Q .non (upd H l (.lst (xs++[y])))
theorem n6:Bw X "list.append" mY:=by
 intro pins s σ H x vs v us Q I rx rv h
 obtain⟨l,xs,y,rfl,rfl,hH,hz,q⟩:=h
 cases rx;obtain⟨u,rfl,ru⟩:=rv.one
 obtain⟨z,its,n,r,hl,e⟩:=I.lstM hH
 refine call_meets F.slot_list_append ⟨_,e,rfl⟩ F.entry_list_append (F.args_list_append_2 _ _) (PySem.list_append l its.toArray n u (by rw[List.size_toArray]; omega)) ⟨e,?_⟩
 refine⟨.non,_,I.lset (its':=its++[u]) hH e (by simp) (r.append (.cons ru .nil)) ?_,rfl,q⟩
 rw[List.length_append,List.length_singleton];omega
def mO:V→List V→Hp→VK→Prop:=fun x vs H Q=>∃ l b xs zs,x = .ref l∧vs=[.ref b]∧H l=some (.lst xs)∧H b=some (.lst zs)∧xs.length+zs.length≤sizeLine∧Q .non (upd H l (.lst (xs++zs)))
theorem xr:Bw X "list.extend" mO:=by
 intro pins s σ H x vs v us Q I rx rv h
 obtain⟨l,b,xs,zs,rfl,rfl,hH,hB,hz,q⟩:=h
 cases rx;obtain⟨u,rfl,ru⟩:=rv.one
 cases ru;obtain⟨z,its,n,r,hl,e⟩:=I.lstM hH
 obtain⟨z2,its2,n2,r2,hl2,e2⟩:=I.lstM hB
 have hsz:its.toArray.size+its2.toArray.size≤sizeLine:=by rw[List.size_toArray,List.size_toArray]; omega
 have hlong:¬ (!its.toArray.isEmpty&&Builtin.List.listTooLong (its.toArray.size+its2.toArray.size))=true:=by
  rw[za hsz,Bool.and_false];exact Bool.false_ne_true
 refine call_meets F.slot_list_extend ⟨_,e,rfl⟩ F.entry_list_extend (F.args_list_extend_2 _ _)
  (AutoSeq1.list_extend_list_list_0 l its.toArray n b its2.toArray n2 hlong (by rw[List.size_toArray]; omega) (by omega)) ⟨e,e2,?_⟩
 refine⟨.non,_,I.lset (its':=its++its2) hH e (by simp) (r.append r2) ?_,rfl,q⟩
 rw[List.length_append];omega
def An:V→List V→Hp→VK→Prop:=fun x vs H Q=>∃ l xs y,x = .ref l∧vs=[]∧H l=some (.lst xs)∧xs[xs.length - 1]? = some y∧Q y (upd H l (.lst xs.dropLast))
theorem DH:Bw X "list.pop" An:=by
 intro pins s σ H x vs v us Q I rx rv h
 obtain⟨l,xs,y,rfl,rfl,hH,hy,q⟩:=h
 cases rx;have hus:=rv.zero;subst hus;obtain⟨z,its,n,r,hl,e⟩:=I.lstM hH
 obtain⟨u,hu,ru⟩:=r.get hy
 have hy':its.toArray[its.toArray.size - 1]? = some u:=by
  show its.toArray[its.length - 1]? = some u
  rw[← Array.getElem?_toList,← hl];exact hu
 refine call_meets F.slot_list_pop ⟨_,e,rfl⟩ F.entry_list_pop (F.args_list_pop_1 _) (MeetsSeq.list_pop_last l its.toArray n u hy' (by rw[List.size_toArray]; omega)) ⟨e,?_⟩
 refine⟨y,_,I.lset (its':=its.dropLast) hH e ?_ r.dropLast ?_,ru,q⟩
 ·show its.toArray.eraseIdxIfInBounds (its.toArray.size - 1)=its.dropLast.toArray
  rw[List.size_toArray,List.eraseIdxIfInBounds_toArray,vy]
 ·rw[List.length_dropLast]
  omega
def qi:V→List V→Hp→VK→Prop:=fun x vs H Q=>∃ l xs,x = .ref l∧vs=[]∧H l=some (.lst xs)∧Q .non (upd H l (.lst []))
theorem Ab:Bw X "list.clear" qi:=by
 intro pins s σ H x vs v us Q I rx rv h
 obtain⟨l,xs,rfl,rfl,hH,q⟩:=h
 cases rx;have hus:=rv.zero;subst hus;obtain⟨z,its,n,r,hl,e⟩:=I.lstM hH
 refine call_meets F.slot_list_clear ⟨_,e,rfl⟩ F.entry_list_clear (F.args_list_clear_1 _) (AutoSeq1.list_clear_list_0 l its.toArray n (by rw[List.size_toArray]; omega)) ⟨e,?_⟩
 exact⟨.non,_,I.lset (its':=[]) (ys:=[]) hH e rfl .nil (Nat.zero_le _),rfl,q⟩
def Jf:R2:=fun x y H Q=>∃ l b xs zs,x = .ref l∧y = .ref b∧H l=some (.lst xs)∧H b=some (.lst zs)∧xs.length+zs.length≤sizeLine∧∀ p,H p=none→Q (.ref p) (upd H p (.lst (xs++zs)))
theorem EL:OpR X (binaryOp .Add) Jf:=by
 intro pins s σ H x y v u Q I rx ry h
 obtain⟨l,b,xs,zs,rfl,rfl,hH,hB,hz,q⟩:=h
 cases rx
 cases ry;obtain⟨z,its,n,r,hl,e⟩:=I.lstM hH
 obtain⟨z2,its2,n2,r2,hl2,e2⟩:=I.lstM hB
 refine PySem.P.add_list e e2 ?_ (by rw[List.size_toArray,List.size_toArray]; omega)
 have ea:its.toArray++its2.toArray=(its++its2).toArray:=by simp
 rw[ea];exact⟨.ref _,_,I.lnew (t':=s.toks) (r.append r2) (by rw[List.length_append]; omega),rfl,q _ I.fresh⟩
end
section
variable{prog:Program}{w:World}{A:Around}{E:Value→Shared→Prop}{s:Shared}
end
section
variable{X:Cx}
end
end L2
namespace L2
open PySem PySem.Spec PyProof.Rows
section
variable{κ : Type}[DecidableEq κ]
def bN(kvs:List (κ × V))(k:κ):Option V:=(kvs.find? fun kv=>decide (kv.1=k)).map (·.2)
def cU(kvs:List (κ × V))(k:κ)(v:V):List (κ × V):=
 if (kvs.any fun kv=>decide (kv.1=k))=true then kvs.map (fun kv=>if kv.1=k then (kv.1,v) else kv) else kvs++[(k,v)]
theorem di{p:κ × V}{r:List (κ × V)}{k:κ}(e:p.1=k):bN (p::r) k=some p.2:=by simp[bN,List.find?_cons,e]
theorem dj{p:κ × V}{r:List (κ × V)}{k:κ}(e:¬ p.1=k):bN (p::r) k=bN r k:=by simp[bN,List.find?_cons,e]
theorem iS(k:κ):∀ kvs:List (κ × V),(kvs.any fun kv=>decide (kv.1=k))=(bN kvs k).isSome
 | []=>rfl
 | p::r=>by
  rw[List.any_cons]
  by_cases e:p.1=k
  ·simp only[di e,decide_eq_true e,Bool.true_or,Option.isSome_some]
  ·rw[dj e,decide_eq_false e,Bool.false_or]; exact iS k r
theorem pN(k j:κ)(y:V):∀ kvs:List (κ × V),bN (kvs.map fun kv=>if kv.1=k then (kv.1,y) else kv) j=(bN kvs j).map fun x=>if j=k then y else x
 | []=>rfl
 | p::r=>by
  have ih:=pN k j y r;rw[List.map_cons]
  by_cases h:p.1=k
  ·rw[if_pos h]
   by_cases e:p.1=j
   ·rw[di (p:=(p.1,y)) e,di e,Option.map_some,if_pos (e.symm.trans h)]
   ·rw[dj (p:=(p.1,y)) e,dj e,ih]
  ·rw[if_neg h]
   by_cases e:p.1=j
   ·rw[di (p:=p) e,di e,Option.map_some,if_neg (fun z=>h (e.trans z))]
   ·rw[dj (p:=p) e,dj e,ih]
theorem n8(k j:κ)(y:V):∀ kvs:List (κ × V),bN kvs k=none→bN (kvs++[(k,y)]) j=if j=k then some y else bN kvs j
 | [],_=>by
  by_cases e:k=j
  ·rw[if_pos e.symm]; exact di (p:=(k,y)) e
  ·rw[if_neg (fun z=>e z.symm)]; exact dj (p:=(k,y)) e
 | p::r,hn=>by
  rw[List.cons_append];have hk:¬ p.1=k:=fun z=>by rw[di z]at hn; cases hn
  rw[dj hk]at hn
  have ih:=n8 k j y r hn
  by_cases e:p.1=j
  ·rw[di e,di e,if_neg (fun z=>hk (e.trans z))]
  ·rw[dj e,dj e,ih]
theorem gd(kvs:List (κ × V))(k j:κ)(y:V):bN (cU kvs k y) j=if j=k then some y else bN kvs j:=by
 unfold cU
 by_cases a:(kvs.any fun kv=>decide (kv.1=k))=true
 ·rw[if_pos a,pN]
  rw[iS]at a
  by_cases e:j=k
  ·obtain⟨x,hx⟩:=Option.isSome_iff_exists.mp a
   rw[if_pos e,e,hx,Option.map_some,if_pos rfl]
  ·rw[if_neg e]
   cases bN kvs j with
   | none=>rfl
   | some x=>rw[Option.map_some,if_neg e]
 ·rw[if_neg a]
  refine n8 k j y kvs ?_
  rw[iS]at a
  cases q:bN kvs k with
  | none=>rfl
  | some x=>rw[q]at a; exact(a rfl).elim
theorem ig(kvs:List (κ × V))(k:κ)(v:V):(cU kvs k v).length≤kvs.length+1:=by
 unfold cU;split
 ·rw[List.length_map]; omega
 ·rw[List.length_append,List.length_cons,List.length_nil]; omega
theorem RelO.isSome_eq{o:Option V}{u:Option Value}(r:RelO o u):o.isSome=u.isSome:=by
 cases o with
 | none=>cases u with
  | none=>rfl
  | some _=>exact(show False from r).elim
 | some _=>cases u with
  | none=>exact(show False from r).elim
  | some _=>rfl
theorem RelO.getD{o:Option V}{u:Option Value}{d:V}{d':Value}(r:RelO o u)(rd:RelV d d'):RelV (o.getD d) (u.getD d'):=by
 cases o with
 | none=>cases u with
  | none=>exact rd
  | some _=>exact(show False from r).elim
 | some _=>cases u with
  | none=>exact(show False from r).elim
  | some _=>exact r
theorem KV.val{kvs:List (κ × V)}{vs:List (κ × Value)}(r:KV kvs vs)(k:κ):RelO (bN kvs k) (valueAt vs k):=by
 unfold KV at r
 induction r with
 | nil=>exact True.intro
 | @cons p q ps qs h t ih=>
  obtain⟨h1,h2⟩:=h
  by_cases e:p.1=k
  ·have e':q.1=k:=h1.symm.trans e
   have b:valueAt (q::qs) k=some q.2:=by simp[valueAt,List.find?_cons,e']
   rw[di e,b]; exact h2
  ·have e':¬ q.1=k:=fun z=>e (h1.trans z)
   have b:valueAt (q::qs) k=valueAt qs k:=by simp[valueAt,List.find?_cons,e']
   rw[dj e,b]; exact ih
theorem KV.any{kvs:List (κ × V)}{vs:List (κ × Value)}(r:KV kvs vs)(k:κ):(kvs.any fun kv=>decide (kv.1=k))=vs.any fun kv=>decide (kv.1=k):=by
 unfold KV at r
 induction r with
 | nil=>rfl
 | cons h t ih=>rw[List.any_cons,List.any_cons,ih,h.1]
theorem KV.repl{kvs:List (κ × V)}{vs:List (κ × Value)}(r:KV kvs vs)(k:κ){y:V}{u:Value}(ry:RelV y u) :
  KV (kvs.map fun kv=>if kv.1=k then (kv.1,y) else kv) (vs.map fun kv=>if kv.1=k then (kv.1,u) else kv):=by
 unfold KV at r ⊢
 induction r with
 | nil=>exact .nil
 | @cons p q ps qs h t ih=>
  rw[List.map_cons,List.map_cons];refine .cons ?_ ih
  obtain⟨h1,h2⟩:=h
  by_cases e:p.1=k
  ·rw[if_pos e,if_pos (h1.symm.trans e)]; exact⟨h1,ry⟩
  ·rw[if_neg e,if_neg (fun z=>e (h1.trans z))]; exact⟨h1,h2⟩
theorem KV.put{kvs:List (κ × V)}{vs:List (κ × Value)}(r:KV kvs vs)(k:κ){y:V}{u:Value}(ry:RelV y u):KV (cU kvs k y) (stored vs k u):=by
 unfold cU stored;rw[r.any k]
 by_cases e:(vs.any fun kv=>decide (kv.1=k))=true
 ·rw[if_pos e,if_pos e]; exact r.repl k ry
 ·rw[if_neg e,if_neg e]; exact Paired.snoc r ⟨rfl,ry⟩
theorem KV.length{kvs:List (κ × V)}{vs:List (κ × Value)}(r:KV kvs vs):kvs.length=vs.length:=Paired.length r
end
theorem oK{P:Program}{w:World}{k:aF}{u:Value}(r:RelV (kV k) u):(cJ P w).is k u=true:=by
 cases k with
 | inl i=>obtain⟨t,e⟩:=(show ∃ t,u=Value.int i t from r); subst e; exact sg P w i t
 | inr x=>obtain⟨t,e⟩:=(show ∃ t,u=Value.str x t from r); subst e; exact rV P w x t
theorem nh{P:Program}{w:World}:∀ {ks:List aF} {us:List Value},Vals (ks.map kV) us→ItemsAre (cJ P w) ks us
 | [],_,r=>by rw[List.map_nil]at r; cases r; exact .nil
 | k::ks,_,r=>by
  rw[List.map_cons]at r
  cases r with
  | cons h t=>exact .cons (oK h) (nh t)
abbrev KT (H:Hp):List (List aF × V)→List (List aF × Addr × Value)→Prop:=Paired fun p q=>p.1=q.1∧H q.2.1=some (.tup (p.1.map kV))∧RelV p.2 q.2.2
theorem KT.val{H:Hp}{kvs:List (List aF × V)}{xs:List (List aF × Addr × Value)}(r:KT H kvs xs)(k:List aF):RelO (bN kvs k) ((atKey xs k).map (·.2)):=by
 induction r with
 | nil=>exact True.intro
 | @cons p q ps qs h t ih=>
  obtain⟨h1,_,h2⟩:=h
  by_cases e:p.1=k
  ·have e':q.1=k:=h1.symm.trans e
   have b:atKey (q::qs) k=some q.2:=by simp[atKey,List.find?_cons,e']
   rw[di e,b]; exact h2
  ·have e':¬ q.1=k:=fun z=>e (h1.trans z)
   have b:atKey (q::qs) k=atKey qs k:=by simp[atKey,List.find?_cons,e']
   rw[dj e,b]; exact ih
theorem KT.repl{H:Hp}{kvs:List (List aF × V)}{xs:List (List aF × Addr × Value)}(r:KT H kvs xs)(k:List aF){y:V}{u:Value}(ry:RelV y u) :
  KT H (kvs.map fun kv=>if kv.1=k then (kv.1,y) else kv) (xs.map (putAt k u)):=by
 induction r with
 | nil=>exact .nil
 | @cons p q ps qs h t ih=>
  rw[List.map_cons,List.map_cons];refine .cons ?_ ih
  obtain⟨h1,h2,h3⟩:=h
  unfold putAt
  by_cases e:p.1=k
  ·rw[if_pos e,if_pos (h1.symm.trans e)]; exact⟨h1,h2,ry⟩
  ·rw[if_neg e,if_neg (fun z=>e (h1.trans z))]; exact⟨h1,h2,h3⟩
theorem KT.put{H:Hp}{kvs:List (List aF × V)}{xs:List (List aF × Addr × Value)}(r:KT H kvs xs)(k:List aF){b:Addr}{y:V}{u:Value}(hb:H b=some (.tup (k.map kV)))(ry:RelV y u) :
  KT H (cU kvs k y) (storedH xs k b u):=by
 have e:(kvs.any fun kv=>decide (kv.1=k))=(atKey xs k).isSome:=by
  rw[iS,(r.val k).isSome_eq,Option.isSome_map]
 unfold cU storedH;rw[e]
 by_cases q:(atKey xs k).isSome=true
 ·rw[if_pos q,if_pos q]; exact r.repl k ry
 ·rw[if_neg q,if_neg q]; exact Paired.snoc r ⟨rfl,hb,ry⟩
theorem KT.keeps{H H':Hp}{kvs:List (List aF × V)}{xs:List (List aF × Addr × Value)}(r:KT H kvs xs)(ht:∀ b ys,H b=some (.tup ys)→H' b=some (.tup ys)):KT H' kvs xs:=
 Paired.mapP r fun _ _ z=>⟨z.1,ht _ _ z.2.1,z.2.2⟩
section
variable{P:Program}{w:World}{H:Hp}{h:Heap}{a:Addr}
theorem BE{u:HO}(ok:HOk P w H h)(e:Rd H a u):ObjOk P w H h a u:=e.ok ok
theorem lA{kvs:List (aF × V)}(ok:HOk P w H h)(e:Rd H a (.dK kvs)):kvs.length≤sizeLine∧(a == sysModules)=false∧∃ vs,KV kvs vs∧h.DictOf (cJ P w) a vs:=
 show ObjOk P w H h a (.dK kvs) from BE ok e
theorem Fs{kvs:List (aF × V)}(ok:HOk P w H h)(e:H a=some (.dK kvs)):kvs.length≤sizeLine∧(a == sysModules)=false∧∃ vs,KV kvs vs∧h.DictOf (cJ P w) a vs:=lA ok (.inl e)
theorem qA{ks:List aF}(ok:HOk P w H h)(e:H a=some (.tup (ks.map kV))):(tupleKind (cJ P w)).is h ks a:=by
 obtain⟨_,its,r,o,h1,h2,_,n,h3⟩:=(show ObjOk P w H h a (.tup (ks.map kV)) from ok a _ e)
 exact⟨o,its.toArray,n,h1,h2,h3,by simpa using nh r⟩
theorem vK{kvs:List (List aF × V)}(ok:HOk P w H h)(e:Rd H a (.dT kvs)):kvs.length≤sizeLine∧(a == sysModules)=false∧
  ∃ xs,KT H kvs xs∧h.DictOfH (tupleKind (cJ P w)) a xs:=by
 obtain⟨z,y,xs,r,o,es,ep,h1,h2,h3,h4,h5⟩:=(show ObjOk P w H h a (.dT kvs) from BE ok e)
 refine⟨z,y,xs,r,o,es,ep,h1,h2,h3,h4,fun x hx=>?_,h5⟩
 have all:∀ {l:List (List aF × V)} {m:List (List aF × Addr × Value)},KT H l m→∀ x∈m,(tupleKind (cJ P w)).is h x.1 x.2.1:=by
  intro l m q
  induction q with
  | nil=>intro x hx; exact nomatch hx
  | @cons p q ps qs hq t ih=>
   intro x hx
   rcases List.mem_cons.mp hx with e | hx
   ·subst e
    exact qA ok (by rw[← hq.1]; exact hq.2.1)
   ·exact ih x hx
 exact all r x hx
theorem Fq{kvs:List (List aF × V)}(ok:HOk P w H h)(e:H a=some (.dT kvs)):kvs.length≤sizeLine∧(a == sysModules)=false∧
  ∃ xs,KT H kvs xs∧h.DictOfH (tupleKind (cJ P w)) a xs:=vK ok (.inl e)
end
def DGet(H:Hp)(a:Addr)(y:V)(r:Option V):Prop:=
 (∃ kvs k,Rd H a (.dK kvs)∧y=kV k∧r=bN kvs k)∨∃ kvs k b,Rd H a (.dT kvs)∧y = .ref b∧H b=some (.tup (k.map kV))∧r=bN kvs k
def DPut(H:Hp)(a:Addr)(y v:V)(H':Hp):Prop:=
 (∃ kvs k,H a=some (.dK kvs)∧y=kV k∧kvs.length<sizeLine∧H'=upd H a (.dK (cU kvs k v)))∨
 ∃ kvs k b,H a=some (.dT kvs)∧y = .ref b∧H b=some (.tup (k.map kV))∧kvs.length<sizeLine∧H'=upd H a (.dT (cU kvs k v))
theorem DGet.k{H:Hp}{a:Addr}{kvs:List (aF × V)}{k:aF}(e:H a=some (.dK kvs)):DGet H a (kV k) (bN kvs k):=.inl ⟨kvs,k,.inl e,rfl,rfl⟩
theorem DPut.k{H:Hp}{a:Addr}{kvs:List (aF × V)}{k:aF}{v:V}(e:H a=some (.dK kvs))(hl:kvs.length<sizeLine):DPut H a (kV k) v (upd H a (.dK (cU kvs k v))):=.inl ⟨kvs,k,e,rfl,hl,rfl⟩
section
variable{X:Cx}{pins:List (Addr × Obj)}{σ : St}{H:Hp}{s:Shared}{a:Addr}{y v:V}{u r:Value}{o:Option V}{A:Around}{E:Value→Shared→Prop}
theorem Inv.big(I:Inv X pins σ H s):sysModules<s.heap.objs.size:=by
 have h:mainGlobals<s.heap.objs.size:=(I.mod.glob.keeps I.bk).lt
 exact Nat.lt_trans (by decide) h
theorem uv{h':Heap}{t':Nat}{ob:HO}(I:Inv X pins σ H s)(mu:xi (H a))(hs:Heap.SameBut a s.heap h')(he:∃ q,h'.get? a=some q)(new:ObjOk X.prog X.w (upd H a ob) h' a ob) :
  Inv X pins σ (upd H a ob) { s with heap:=h',toks:=t' }:=
 I.write (x:=a) (e:=a) mu (.inl rfl) (fun b q hb z=>(hs.2 b hb).trans z) he new
theorem Dr{P:Program}{w:World}{H':Hp}{h':Heap}{kvs:List (aF × V)}{vs:List (aF × Value)}(z:kvs.length≤sizeLine)(hd:(a == sysModules)=false)(rel:KV kvs vs)(dd:h'.DictOf (cJ P w) a vs) :
  ObjOk P w H' h' a (.dK kvs):=⟨z,hd,vs,rel,dd⟩
theorem xP{H':Hp}{Q:Unit→Shared→Prop}(hu:A.units+1<cLine)(I:Inv X pins σ H s)(g:DPut H a y v H')(ry:RelV y u)(rv:RelV v r)(h:∀ s',Inv X pins σ H' s'→Q () s') :
  wpAny (model X.prog X.w) A (setItem (.ref a) u r) Q E s:=by
 rcases g with ⟨kvs,k,e,ey,l,eH⟩ | ⟨kvs,k,b,e,ey,eb,l,eH⟩
 ·subst ey eH
  obtain⟨z,hd,vs,rel,dd⟩:=Fs I.hok e
  have hz:vs.length≤sizeLine:=by rw[← rel.length]; exact z
  have hl:(cU kvs k v).length≤sizeLine:=by have:=ig kvs k v; omega
  refine wpAny_setItem_pairs (hsz:=hz) (oK ry) dd fun h' dd' hs=>h _ ?_
  have he:∃ q,h'.get? a=some q:=let ⟨q,_,_,hq,_⟩:=dd'; ⟨q,hq⟩
  exact uv I (by rw[e]; exact True.intro) hs he (Dr hl hd (rel.put k rv) dd')
 ·subst ey eH
  cases (show u=Value.ref b from ry)
  obtain⟨z,hd,xs,rel,dd⟩:=Fq I.hok e
  have hz:xs.length≤sizeLine:=by rw[← Paired.length rel]; exact z
  have hl:(cU kvs k v).length≤sizeLine:=by have:=ig kvs k v; omega
  refine wpAny_setItem_heap (hsz:=hz) (tupleKind_room_in1 hu) (qA I.hok eb) dd fun h' dd' hs=>h _ ?_
  obtain⟨q,es,ep,hq,h2,h3,h4,_,h5⟩:=dd'
  refine uv I (by rw[e]; exact True.intro) hs ⟨q,hq⟩ ⟨hl,hd,_,(rel.put k eb rv).keeps fun c ys ec=>?_,q,es,ep,hq,h2,h3,h4,h5⟩
  rw[ai (bW ec e (fun z=>nomatch z))]
  exact ec
end
section
variable{X:Cx}{pins:List (Addr × Obj)}{σ : St}{H:Hp}{s:Shared}{a:Addr}{kvs:List (aF × V)}{k:aF}{u:Value}{A:Around}{E:Value→Shared→Prop}
end
section
variable{X:Cx}{o i e value:Expr}{pos pos' tpos:Pos}{td ty tv:TE}
end
theorem zC{P:Program}{w:World}{H:Hp}(h:Heap)(hb:sysModules<h.objs.size):ObjOk P w H (h.push { cls:=.type "dict", data:=.dict #[] }) h.objs.size (.dK []):=
 ⟨Nat.zero_le _,beq_eq_false_iff_ne.mpr (Ne.symm (Nat.ne_of_lt hb)),[],.nil,Heap.DictOf.new h⟩
def CU:TE:=fun _ H Q=>∀ p,H p=none→Q (.ref p) (upd H p (.dK []))
section
variable{X:Cx}{pos:Pos}
theorem kZ:PE X (.Dict [] [] pos) CU:=fun pins s σ H Q I h=>
 wpAny_Dict_empty ⟨.ref s.heap.objs.size,_,I.laid (a:=s.heap.objs.size) (o:=.dK []) (t':=s.toks) (fun _ _ q=>Heap.get?_push_of_some _ q) (Nat.le_refl _) (zC s.heap I.big),rfl,h _ (I.hok.fresh (Nat.le_refl _))⟩
end
def jH:List (TE × TE)→St→Hp→(List (V × V)→Hp→Prop)→Prop
 | [],_,H,Q=>Q [] H
 | (tk,tv)::r,σ,H,Q=>tk σ H fun x H1=>tv σ H1 fun y H2=>jH r σ H2 fun ps H3=>Q ((x,y)::ps) H3
abbrev VV:List (V × V)→List (Value × Value)→Prop:=Paired fun p q=>RelV p.1 q.1∧RelV p.2 q.2
def PPs(X:Cx)(pos:Pos)(keys:List (Option Expr))(values:List Expr)(trs:List (TE × TE)):Prop:=
 ∀ (pins:List (Addr × Obj)) (s:Shared) (σ : St) (H:Hp) (Q:List (V × V)→Hp→Prop),Inv X pins σ H s→jH trs σ H Q→
  wpAny (model X.prog X.w) X.A (evalPairs (pairTrees keys values X.env pos)) (fun vs s'=>∃ ps H',Inv X pins σ H' s'∧VV ps vs∧Q ps H') X.xe s
structure M1 (X:Cx) (o:Expr) (m:Str) (apos:Pos) (e:Expr) (cpos:Pos):Prop where
 base:attributeBase o m X.env (eval o X.env)=eval o X.env
 few:((backTo cpos (starEach [e] X.env)).all (fun x=>!x.1)&&(backToKw cpos (keywordEach [] X.env)).all (fun x=>x.1.isSome)
  && decide (([e]:List Expr).length+([]:List Keyword).length+(if ([]:List Keyword).isEmpty then 0 else 1)<30))=true
 line:(apos.endLine == cpos.line)=true
 trees:backTo cpos (starEach [e] X.env)=[(false,eval e X.env)]
structure M2 (X:Cx) (o:Expr) (m:Str) (apos:Pos) (e f:Expr) (cpos:Pos):Prop where
 base:attributeBase o m X.env (eval o X.env)=eval o X.env
 few:((backTo cpos (starEach [e,f] X.env)).all (fun x=>!x.1)&&(backToKw cpos (keywordEach [] X.env)).all (fun x=>x.1.isSome)
  && decide (([e,f]:List Expr).length+([]:List Keyword).length+(if ([]:List Keyword).isEmpty then 0 else 1)<30))=true
 line:(apos.endLine == cpos.line)=true
 trees:backTo cpos (starEach [e,f] X.env)=[(false,eval e X.env),(false,eval f X.env)]
def AQ(H:Hp)(a:Addr):Prop:=(∃ kvs,Rd H a (.dK kvs))∨∃ kvs,Rd H a (.dT kvs)
theorem DG{X:Cx}{pins:List (Addr × Obj)}{σ : St}{H:Hp}{s:Shared}{a:Addr}(I:Inv X pins σ H s)(d:AQ H a) :
  s.TypeIs (.ref a) "dict" ∧ (∀ b,Value.ref a = .ref b→∃ ob,s.heap.get? b=some ob∧ob.dict=none)∧(a == sysModules)=false:=by
 rcases d with ⟨kvs,e⟩ | ⟨kvs,e⟩
 ·obtain⟨_,hd,vs,_,dd⟩:=lA I.hok e
  refine⟨dd.typeIs,fun b q=>?_,hd⟩
  cases q;obtain⟨ob,_,_,h1,h2,_⟩:=dd
  exact⟨ob,h1,h2.2.1⟩
 ·obtain⟨_,hd,xs,_,dd⟩:=vK I.hok e
  refine⟨dd.typeIs,fun b q=>?_,hd⟩
  cases q;obtain⟨ob,_,_,h1,h2,_⟩:=dd
  exact⟨ob,h1,h2.2.1⟩
section
variable{X:Cx}{pins:List (Addr × Obj)}{σ : St}{H:Hp}{s:Shared}{a:Addr}{y d:V}{u r:Value}{o:Option V}{A:Around}{E:Value→Shared→Prop}
theorem E5{Q:Value→Shared→Prop}(hu:A.units+1<cLine)(I:Inv X pins σ H s)(g:DGet H a y o)(ry:RelV y u)(h:∀ w' s',Inv X pins σ H s'→RelV (o.getD .non) w'→Q w' s') :
  wpAny (model X.prog X.w) A (call (.builtin "dict.get") [.ref a,u]) Q E s:=by
 rcases g with ⟨kvs,k,e,ey,l⟩ | ⟨kvs,k,b,e,ey,eb,l⟩
 ·subst ey
  obtain⟨z,hd,vs,rel,dd⟩:=lA I.hok e
  refine call_meetsIn PySem.F.slot_dict_get dd.typeIs PySem.F.entry_dict_get (PySem.F.args_dict_get_2 _ _) (meets_dict_get (cJ X.prog X.w) a (oK ry) hd) ⟨_,dd.mapOf,h _ _ (I.tok _) ?_⟩
  rw[l];exact(rel.val k).getD rfl
 ·subst ey
  cases (show u=Value.ref b from ry)
  obtain⟨z,hd,xs,rel,dd⟩:=vK I.hok e
  refine call_meetsIn PySem.F.slot_dict_get dd.typeIs PySem.F.entry_dict_get (PySem.F.args_dict_get_2 _ _) (meetsH_dict_get (tupleKind (cJ X.prog X.w)) a b hd) ⟨tupleKind_room_in1 hu,k,xs,qA I.hok eb,dd,h _ _ (I.tok _) ?_⟩
  rw[l];exact(rel.val k).getD rfl
end
def xD(td ty:TE):TE:=fun σ H Q=>td σ H fun x H1=>∃ a,x = .ref a∧AQ H1 a∧ty σ H1 fun y H2=>∃ o,DGet H2 a y o∧Q (o.getD .non) H2
section
variable{X:Cx}{o e f:Expr}{apos cpos:Pos}{td ty tx:TE}
theorem zj(hu:X.A.units+1<cLine)(ho:PE X o td)(he:PE X e ty)(m:M1 X o "get" apos e cpos):PE X (.Call (.Attribute o "get" apos) [e] [] cpos) (xD td ty):=by
 intro pins s σ H Q I h
 refine wpAny_Call_method m.base m.few m.line PySem.F.plainAttrs_dict PySem.F.slot_dict_get PySem.F.type_dict_get (aZ (ho pins s σ H _ I h) fun u s1 ⟨x,H1,I1,rx,a,ex,d,q1⟩=>?_)
 subst ex;obtain rfl:u=Value.ref a:=rx
 obtain⟨t1,t2,_⟩:=DG I1 d
 refine⟨t1,t2,?_⟩
 rw[m.trees];refine Calls.callWith_builtin rfl (Calls.evalArgs_plain (Calls.spliced_cons (aZ (he pins s1 σ H1 _ I1 q1) fun iv s2 ⟨y,H2,I2,ry,ov,g,q2⟩=>Calls.spliced_nil ?_)))
 exact E5 hu I2 g ry fun w' s3 I3 rw'=>⟨_,H2,I3,rw',q2⟩
end
section
variable{X:Cx}{pins:List (Addr × Obj)}{σ : St}{H:Hp}{s:Shared}{a:Addr}{kvs:List (aF × V)}{A:Around}{E:Value→Shared→Prop}
end
section
variable{X:Cx}{pins:List (Addr × Obj)}{σ : St}{H:Hp}{s:Shared}{a:Addr}{y:V}{u:Value}{A:Around}{E:Value→Shared→Prop}
end
end L2
namespace Att
open PySem PySem.W PySem.Calls PyProof.Rows
theorem lI{P:Params}{h:Heap}:∀ (ns:List Int) (vs:List Value),WellAll P h vs (ns.map WData.int)→IntsAre vs ns:=by
 intro ns
 induction ns with
 | nil=>
  intro vs w
  rw[List.map_nil]at w
  cases w;exact .nil
 | cons n ns ih=>
  intro vs w
  rw[List.map_cons]at w
  cases w with
  | cons a b=>
   cases a;exact .cons _ _ (ih _ b)
theorem xV{l:OpenLaw}{n:Nat}(hn:l.most=some n){P:Params}{h:Heap}{args:List WData}{vals:List Value}
  (hpre:l.row.toRowW.claim.pre args=true) (hwl:WellAll P h vals args) :
  ∃ a vs ns,vals=[Value.ref a]∧args=[WData.list (ns.map WData.int)]∧h.get? a=some { cls:=.type "list", data:=.seq vs.toArray }∧IntsAre vs ns∧ns.length≤n:=by
 have hsh:WShape.hasAll [] args [.list .int]=true:=(pre_splitW hpre).1
 have hc:l.pre.holds [] { args:=args }=true:=(pre_splitW hpre).2
 obtain⟨d,r,rfl,h1,h2⟩:=hasAllW_cons hsh
 obtain rfl:=hasAllW_nil h2
 obtain⟨xs,rfl,h3⟩:=hasW_list h1
 obtain⟨ns,rfl⟩:=items_int h3
 have hlen:ns.length≤n:=by
  unfold OpenLaw.pre at hc
  have h4:(WTm.not (.lt (.lit (.int (n:Int))) (.len (.arg 0)))).holds [] { args:=[.list (ns.map .int)] }=true:=by
   have h4:=(holds_andW hc).1;rw[hn]at h4
   exact h4
  have h5:=condW_of h4 (w_not (w_lt w_lit (w_len_list (w_arg rfl))));rw[List.length_map]at h5
  refine Nat.le_of_not_lt fun q=>?_
  have q':(n:Int)<((ns.length:Nat):Int):=by omega
  first
   | (rw[decide_eq_true q']at h5; exact absurd h5 (by decide))
   | (simp at h5; omega)
 cases hwl with
 | cons w1 w2=>
  cases w2
  cases w1 with
  | list ho hall=>exact⟨_,_,ns,rfl,rfl,ho,lI ns _ hall,hlen⟩
theorem yb(l:OpenLaw)(args:List WData):l.row.toRowW.claim.post args (.bool true) args=true:=
 postW_of (r:=l.row.toRowW) (X:=(true == true))
  (show WShape.has [] (.bool true) .bool=true by first | rfl | decide | simp[WShape.has,WShape.arms,WShape.armsAll])
  (show (WTm.eq .res (.lit (.bool true))).value [] { args:=args,res:=some (.bool true),after:=args }=some (.bool (true == true)) from w_eq_bool (w_res rfl) w_lit) rfl
theorem attach_call{l:OpenLaw}{n:Nat}{q:Program}{loose:List Str}{XP:(Str→Option Value)→Heap→Prop}{YP:World→Heap→Prop}{d:DefRec}
  (hn:l.most=some n) (hdf:d.params.defaults=[])
  (call:∀ (w:World) (s₀ s₁:Shared) (mg mb:Str→Option Value) (fa:Addr) (o:Obj) (pm cd doc:Value) (a:Addr) (vs:List Value) (ns:List Int),
   Ground q loose [] XP w s₀ mg mb s₁.heap→YP w s₁.heap→
   s₁.heap.get? fa=some o→o.data = .func (docDef d.name d.params d.body d.scope pm cd doc)→s₁.heap.CodeRec cd d.name→mg d.name=some (.ref fa)→
   s₁.heap.get? a=some { cls:=.type "list", data:=.seq vs.toArray }→IntsAre vs ns→ns.length≤n→s₁.gens = #[]→
   codeAny (model l.prog w) callerA (.call (.ref fa) ⟨[.ref a],[]⟩) (fun r s'=>r = .ok (.ret (.bool true))∧OldK s₁.heap s'.heap∧s'.os=s₁.os∧AllBare s'.gens) s₁) :
  WalkO q loose XP YP l.row.toRowW d [] (fun f vs=>PySem.call f vs):=by
 intro w s₀ s₁ mg mb G Y fa o pm cd doc dV kV ho hd hcd hD hmg hg args vals as hpre hlay hrd hwl hlo
 obtain rfl:dV = .none:=Dflts.none hD hdf
 obtain rfl:kV = .none:=Dflts.noKw hD
 obtain⟨a,vs,ns,rfl,rfl,hobj,hints,hlen⟩:=xV hn hpre hwl
 refine enter_call (codeAny_mono (call w s₀ s₁ mg mb fa o pm cd doc a vs ns G Y ho (fd_plain hd) hcd hmg hobj hints hlen hg) fun r s' hq=>?_)
 obtain⟨rfl,h2,h3,h4⟩:=hq
 exact⟨.inl ⟨.bool true,.bool true,[],rfl,fun _=>rfl,.bool true,yb l _,fun _=>⟨List.Pairwise.nil,fun _ hm=>(nomatch hm)⟩⟩,h2,h3,h4⟩
section
variable{prog:Program}{w:World}{A:Around}{E:Value→Shared→Prop}{s:Shared}{K:Frag}
end
end Att
namespace L2
open PySem PySem.Spec PyProof.Rows
theorem nL:∀ {vs:List Value} {ns:List Int},IntsAre vs ns→Vals (ns.map V.int) vs
 | _,_,.nil=>.nil
 | _,_,.cons n t h=>.cons ⟨t,rfl⟩ (nL h)
def zl(H:Hp):Prop:=∀ b,H b=none∨∃ o xs,H b=some (.frz o (.lst xs))
theorem zZ{P:Program}{w:World}{K:PySem.W.Frag}{mg mb:Str→Option Value}{CX:ii}{k:Nat}{fa a:Addr}{fd:FuncData}{x:Str}{sp:Sp}{s₁:Shared}{vs:List Value}{ns:List Int}
  (KX:K.In s₁.heap) (hns:s₁.heap.Ns mainGlobals mg) (hb:s₁.heap.Ns builtinsNs mb) (hbb:∀ x:Str,x ≠ "__name__" → mb x=bootBuiltins x) (hlim:s₁.heap.NoLimit) (hg:s₁.gens = #[])
  (ha:s₁.heap.get? a=some { cls:=.type "list", data:=.seq vs.toArray }) (hi:IntsAre vs ns) (hl:ns.length≤sizeLine) (hr:Room k callerA)
  (F:∀ base:Heap,K.In base→base.Ns mainGlobals mg→FnOk P w K mg base CX k fa fd [x] sp) (hbind:∀ (s:Shared) (u:Value),BindsTo s fd ⟨[u],[]⟩ [(x,u)])
  (hsp:∀ H:Hp,zl H→SqL K H a (ns.map V.int)→sp [.ref a] H (fun v _=>v = .bl true) fun _ _ _=>False)
  (hCX:∀ H e s',CX [] H s₁ (fun _ _ _=>False) e s'→False) :
  codeAny (model P w) callerA (.call (.ref fa) ⟨[.ref a],[]⟩) (fun r s'=>r = .ok (.ret (.bool true))∧OldK s₁.heap s'.heap∧s'.os=s₁.os∧AllBare s'.gens) s₁:=by
 have rv:=nL hi;have lenV:=hi.length
 -- from an abstract heap in which nothing but the script may be tracked
 have core:∀ H:Hp,zl H→SqL K H a (ns.map V.int)→HOk P w H s₁.heap→(∀ b,H b≠none→b=a)→(H a≠none→K.lookup a=none)→
   codeAny (model P w) callerA (.call (.ref fa) ⟨[.ref a],[]⟩) (fun r s'=>r = .ok (.ret (.bool true))∧OldK s₁.heap s'.heap∧s'.os=s₁.os∧AllBare s'.gens) s₁:=by
  intro H hO hS hok hA hK
  have base_of:∀ {b:Addr} {o:Obj},s₁.heap.get? b=some o→H b=none→(iM s₁.heap H).get? b=some o:=fun e n=>AC e n
  have noA:∀ {b:Addr} {o:Obj} {es:Array DictEntry} {ep:Nat},s₁.heap.get? b=some o→o.data = .dict es ep→H b=none:=fun {b o es ep} e d=>by
   cases q:H b with
   | none=>rfl
   | some u=>
    have e':b=a:=hA b (by rw[q]; simp)
    subst e';rw[ha]at e; cases e
    have d':Data.seq vs.toArray _=Data.dict es ep:=d
    cases d'
  have nsK:∀ {b:Addr} {m:Str→Option Value},s₁.heap.Ns b m→(iM s₁.heap H).Ns b m:=fun {b m} ⟨o,es,ep,e,d,r⟩=>⟨o,es,ep,base_of e (noA e d),d,r⟩
  have hKb:K.In (iM s₁.heap H):=fun b o e=>base_of (KX b o e) (by
   cases q:H b with
   | none=>rfl
   | some u=>
    have e':b=a:=hA b (by rw[q]; simp)
    subst e';rw[hK (by rw[q]; simp)]at e; cases e)
  have hM:Mod K mg (iM s₁.heap H):=⟨hKb,nsK hns,⟨mb,nsK hb,hbb⟩,let ⟨mc,h1,h2⟩:=hlim; ⟨mc,nsK h1,h2⟩⟩
  have e0:Env0 P w K mg (iM s₁.heap H) callerA [] s₁ H:=⟨rfl,hM,fun b o e=>B9 e,Nat.le_of_eq (wW _ _),trivial,fun b hb=>absurd (show b∈([]:List Addr) from hb) (by simp),hok,.of_eq hg⟩
  refine codeAny_mono ((F _ hKb (nsK hns)).run callerA [] s₁ H ⟨[.ref a],[]⟩ [.ref a] [.ref a] _ _ hr e0 (hbind s₁ (.ref a)) (.cons rfl .nil) (hsp H hO hS)) fun r s' h=>?_
  cases r with
  | error e=>exact(hCX H e s' h).elim
  | ok fl=>
   cases fl with
   | next=>exact False.elim h
   | brk=>exact False.elim h
   | cont=>exact False.elim h
   | ret u=>
    obtain⟨v,H',os,bare,un,hok',r',q⟩:=h
    have q':v = .bl true:=q
    subst q';obtain rfl:u=Value.bool true:=r'
    refine⟨rfl,OldK.of_keep fun b o e=>?_,os,bare⟩
    cases q:H b with
    | none=>exact un.keep b o e q (by intro z; exact absurd (show b∈([]:List Addr) from z) (by simp)) (by simp)
    | some u=>
     rcases hO b with z | ⟨ob,xs,z⟩
     ·rw[q]at z; cases z
     ·have z2:=un.frzs b ob _ z
      obtain⟨e1,_⟩:=hok b _ z
      obtain⟨e2,_⟩:=hok' b _ z2
      rw[e]at e1; cases e1
      exact e2
 cases hk:K.lookup a with
 | some o=>
  -- the script is one of the module's own objects
  have e:=KX a o hk;rw[ha]at e
  cases e;refine core (fun _=>none) (fun _=>.inl rfl) (.inr ⟨_,vs.toArray,_,hk,rfl,rfl,rfl,by rw[List.size_toArray,lenV]; exact hl,by simpa using rv⟩) (fun b u z=>by have z':(none:Option HO)=some u:=z; cases z') (fun b z=>absurd rfl z) fun z=>absurd rfl z
 | none=>
  refine core (fun b=>if b=a then some (.frz { cls:=.type "list", data:=.seq vs.toArray } (.lst (ns.map V.int))) else none) (fun b=>?_) (.inl (.inr ⟨{ cls:=.type "list", data:=.seq vs.toArray },if_pos rfl⟩)) (fun b u z=>?_) (fun b z=>?_) fun _=>hk
  ·by_cases hb:b=a
   ·exact .inr ⟨_,_,if_pos hb⟩
   ·exact .inl (if_neg hb)
  ·by_cases hb:b=a
   ·have z':=(if_pos hb).symm.trans z
    cases z';subst hb;exact⟨ha,by rw[List.length_map]; exact hl,vs,_,rv,ha⟩
   ·have z':=(if_neg hb).symm.trans z
    cases z'
  ·by_cases hb:b=a
   ·exact hb
   ·exact absurd (if_neg hb) z
end L2
namespace L2
open PySem PySem.Spec PyProof.Rows
abbrev KOf {K:PySem.W.Frag} {h:Heap} (_:K.In h):PySem.W.Frag:=K
theorem walk_of{l:PySem.W.OpenLaw}{n k:Nat}{q:Program}{loose:List Str}{XP:(Str→Option Value)→Heap→Prop}{YP:World→Heap→Prop}{d:DefRec}{K:Params→PySem.W.Frag}{CX:World→ii}{sp:World→Sp}{x:Str}
  (hn:l.most=some n) (hn2:n≤sizeLine) (hdf:d.params.defaults=[]) (hr:Room k callerA)
  (hY:∀ (w:World) (h:Heap),YP w h→(K w.params).In h)
  (F:∀ (w:World) (mg:Str→Option Value) (fa:Addr) (h:Heap),(K w.params).In h→h.Ns mainGlobals mg→mg d.name=some (.ref fa)→
   ∃ fd:FuncData,(∀ (s:Shared) (u:Value),BindsTo s fd ⟨[u],[]⟩ [(x,u)])∧
    ∀ base:Heap,(K w.params).In base→base.Ns mainGlobals mg→FnOk l.prog w (K w.params) mg base (CX w) k fa fd [x] (sp w))
  (hsp:∀ (w:World) (H:Hp) (a:Addr) (ns:List Int),ns.length≤n→zl H→SqL (K w.params) H a (ns.map V.int)→sp w [.ref a] H (fun v _=>v = .bl true) fun _ _ _=>False)
  (hCX:∀ (w:World) (H:Hp) (s:Shared) (e:Value) (s':Shared),CX w [] H s (fun _ _ _=>False) e s'→False) :
  PySem.W.WalkO q loose XP YP l.row.toRowW d [] (fun f vs=>PySem.call f vs):=by
 refine Att.attach_call hn hdf fun w s₀ s₁ mg mb fa o pm cd doc a vs ns G Y ho hd hcd hmg hobj hints hlen hg=>?_
 have KX:=hY w _ Y;obtain⟨fd,hb,hF⟩:=F w mg fa _ KX G.T.g hmg
 exact zZ KX G.T.g G.T.b G.T.builtins G.T.nolimit hg hobj hints (Nat.le_trans hlen hn2) hr hF hb (fun H hO hS=>hsp w H a ns hlen hO hS) fun H e s'=>hCX w H s₁ e s'
end L2
/- THE LAST THEOREM (shape; LID, My.* are yours):
   My.Adr: a structure of the addresses that your layer names (classes,functions); My.Txt K t: a structure (Prop) of the equations over K;
   My.txt_mk:{K} {implicit addresses ..} (e1:nsIn K mainGlobals "law" = some (some (.ref f))) (e2:K.lookup f=some ⟨oc,od,.func (fnOf "law" "law" params body scope dV kV doc pm an cdv ct),sl⟩) (e3:codeIn K cdv "law" = true) .. : ∃ t,My.Txt K t
set_option maxRecDepth 100000 in
set_option maxHeartbeats 0 in
theorem PySem.Challenge.cw_LID_holds : PySem.Challenge.rw_LID.Holds := by
 w_on; o_law; k_head; (case hw=>w_witness2)
 k_fill
 refine L2.walk_of (l:=PySem.Challenge.rw_LID) (n:=63) (k:=40) (x := "script") (CX:=fun w=>..) (sp:=fun _=>My.sp_law) rfl (by decide) rfl ⟨rfl,by decide,by decide⟩ (fun w h Y=>PySem.W.kIn_of Y) ?F ?S ?C
 case F=>
  intro w mg fa h KX G hmg
  have T:∃ t,My.Txt (L2.KOf KX) t:=by
   dsimp only[L2.KOf]                          -- K must stand as «<heap const> w.params» for k_is
   refine' My.txt_mk ?e1 ?e2 ?e3 ..
   (case e1=>PySem.W.k_is)                    -- in the order: a name -> its address -> its object -> its parts
   (case e2=>PySem.W.k_is)
   ..
  obtain⟨t,T⟩:=T
  have e0:=hmg.symm.trans (PySem.W.mg_of KX G T.law)
  cases e0                                       -- fa is the law's own address
  exact⟨_,fun s u=>.of_eq rfl,fun base kb nb=>My.law_fn T kb nb⟩     -- if «.of_eq rfl» comes too early: refine' ⟨_,?b,fun base kb nb=>My.law_fn T kb nb⟩; exact fun s u=>.of_eq rfl
 case S=>exact fun w H a ns hl hO hS=>..
 case C=>exact ..
(the tactic k_is has no namespace: write k_is) -/
namespace L2
open PySem PySem.Spec PyProof.Rows
abbrev ik:ii:=fun _ _ _ _ _ _=>False
abbrev E0:XK:=fun _ _ _=>False
theorem vD{X:Cx}:lr ik X E0:=fun _ _ _ _ _ _ _ h=>h.elim
structure Fun (K:PySem.W.Frag) (x qual:Str) (st:Stmt) (f:Addr) (fd:FuncData):Prop where
 ex:∃ (oc:Value) (od:Option Addr) (kV doc pm:Value) (an:Option Addr) (cdv ct:Value) (osl:Array (Option Value)),
  fd=PySem.W.fnOf x qual (defArgs st) (defBody st) (defScope st) .none kV doc pm an cdv ct∧K.lookup f=some ⟨oc,od,.func fd,osl⟩∧PySem.W.codeIn K cdv qual=true
 kp:PySem.W.keepIn K (.ref f)=true
section
variable{P:Program}{w:World}{K:PySem.W.Frag}{mg:Str→Option Value}{base:Heap}
theorem Fun.ok{x qual:Str}{st:Stmt}{f:Addr}{fd:FuncData}{N ps:List Str}{k:Nat}{sp:Sp}(F:Fun K x qual st f fd)(S:aA N ps (defScope st))(len:∀ vs H Q E,sp vs H Q E→vs.length=ps.length)
  (hbody:∀ (cdv:Value) (A:Around) (outer:List Env) (s:Shared) (H:Hp) (vs:List V) (Q:VK) (E:XK),Room k (A.deeper (envOfC qual (defScope st) s.heap.objs.size f cdv))→sp vs H Q E→
   ∃ t,PSs (iE ik P w K mg base N qual (defScope st) f cdv A outer s H E).nox (defBody st) t∧t { nx:=fun _ H'=>Q .non H',rt:=Q } (start N vs) H):FnOk P w K mg base ik (k+1) f fd ps sp:=by
 obtain⟨oc,od,kV,doc,pm,an,cdv,ct,osl,rfl,lk,hcd⟩:=F.ex
 refine FJ lk hcd S len fun A outer s H vs Q E hr hsp=>?_
 obtain⟨t,h,q⟩:=hbody cdv A outer s H vs Q E hr hsp
 exact⟨t,h.nox,q⟩
theorem Fun.binds{x qual:Str}{st:Stmt}{f:Addr}{fd:FuncData}{ps:List Str}(F:Fun K x qual st f fd)
  (h:∀ (kV doc pm:Value) (an:Option Addr) (cdv ct:Value) (us:List Value),us.length=ps.length→bindArgs (PySem.W.fnOf x qual (defArgs st) (defBody st) (defScope st) .none kV doc pm an cdv ct) ⟨us,[]⟩=pure (ps.zip us)):Binds K fd ps []:=by
 obtain⟨oc,od,kV,doc,pm,an,cdv,ct,osl,rfl,lk,hcd⟩:=F.ex
 exact .all (h kV doc pm an cdv ct)
theorem em{x qual:Str}{st:Stmt}{f:Addr}{oc:Value}{od an:Option Addr}{osl:Array (Option Value)}{kV doc pm cdv ct:Value}(l:K.lookup f=some ⟨oc,od,.func (PySem.W.fnOf x qual (defArgs st) (defBody st) (defScope st) .none kV doc pm an cdv ct),osl⟩)
  (c:PySem.W.codeIn K cdv qual=true) (k:PySem.W.keepIn K (.ref f)=true):Fun K x qual st f (PySem.W.fnOf x qual (defArgs st) (defBody st) (defScope st) .none kV doc pm an cdv ct):=⟨⟨oc,od,kV,doc,pm,an,cdv,ct,osl,rfl,l,c⟩,k⟩
end
theorem Fh{A:Around}{k:Nat}(hr:Room k A):A.units+1<cLine:=Nat.lt_of_le_of_lt (Nat.add_le_add_left (by decide:1≤64) _) hr.units
section
variable{X:Cx}
theorem pv(i:Nat){x:Str}{pos:Pos}(hN:X.N[i]? = some x:=by rfl)(hv:am X.env.scope x:=by first | exact vSs (by decide +kernel) | exact Or.inl rfl)(hd:(x == ("__debug__" : Str))=false:=by decide)
  (hcd:(x == ("__classdict__" : Str))=false:=by decide):PE X (.Name x pos) (Ai i):=EQ hN hv hd hcd
end
theorem aI{c A B:Prop}[Decidable c](h1:c→A)(h2:¬ c→B):if c then A else B:=by
 by_cases h:c
 ·rw[if_pos h]
  exact h1 h
 ·rw[if_neg h]
  exact h2 h
def Same(H H':Hp):Prop:=∀ b o,H b=some o→H' b=some o
theorem Same.refl(H:Hp):Same H H:=fun _ _ h=>h
theorem Same.trans{H H1 H2:Hp}(a:Same H H1)(b:Same H1 H2):Same H H2:=fun c o h=>b c o (a c o h)
theorem Same.free{H H':Hp}(e:Same H H'){l:Addr}(h:H' l=Option.none):H l=Option.none:=by
 cases q:H l with
 | none=>rfl
 | some o=>
  rw[e l o q]at h
  cases h
theorem Same.seq{K:PySem.W.Frag}{H H':Hp}{a:Addr}{xs:List V}(e:Same H H')(h:SqL K H a xs):SqL K H' a xs:=by
 rcases h with (h | ⟨o,h⟩) | h
 ·exact .inl (.inl (e _ _ h))
 ·exact .inl (.inr ⟨o,e _ _ h⟩)
 ·exact .inr h
section
variable{κ : Type}[DecidableEq κ]
end
end L2
namespace L2
open PySem PySem.Spec PyProof.Rows
def ee(cells:List (Str × Addr)):List (Str × NameKind)→List (Str × Addr)→List (Str × Addr)
 | [],acc=>acc
 | (n,k)::r,acc=>ee cells r (if k == .free then (n,(cells.lookup n).getD 0)::acc else acc)
theorem oV{env:Env}{f:(Str × NameKind)→List (Str × Addr)→Sem (ForInStep (List (Str × Addr)))}
  (hf:∀ n k cs,f (n,k) cs=if (k == NameKind.free)=true then (cellOf env n >>= fun c=>pure (ForInStep.yield ((n,c)::cs))) else pure (ForInStep.yield cs)) :
  ∀ (names:List (Str × NameKind)) (acc:List (Str × Addr)),(∀ x∈names,x.2 = .free→∃ c,env.cells.lookup x.1=some c)→
  forIn names acc f=(pure (ee env.cells names acc):Sem _)
 | [],acc,_=>rfl
 | (n,k)::r,acc,h=>by
  rw[List.forIn_cons,hf];have ih:=fun acc=>oV hf r acc fun x hx=>h x (List.mem_cons_of_mem _ hx)
  by_cases hk:(k == NameKind.free)=true
  ·rw[if_pos hk]
   obtain⟨c,hc⟩:=h (n,k) List.mem_cons_self (by simpa using hk)
   have e:cellOf env n=pure c:=by unfold cellOf; rw[hc]
   rw[e,pure_bind,pure_bind];show forIn r ((n,c)::acc) f=_
   rw[ih];show _=pure (ee env.cells r (if (k == NameKind.free)=true then (n,(env.cells.lookup n).getD 0)::acc else acc))
   rw[if_pos hk,hc]; rfl
  ·rw[if_neg hk,pure_bind]
   show forIn r acc f=_
   rw[ih];show _=pure (ee env.cells r (if (k == NameKind.free)=true then (n,(env.cells.lookup n).getD 0)::acc else acc))
   rw[if_neg hk]
theorem ow{env:Env}{scope:Scope}(h:∀ x∈scope.names,x.2 = .free→∃ c,env.cells.lookup x.1=some c):closureFor scope env=pure (ee env.cells scope.names []):=by
 unfold closureFor;show (forIn scope.names ([]:List (Str × Addr)) _ >>= fun cs=>pure cs)=_
 rw[oV (env:=env) (fun n k cs=>?_) _ _ h]
 ·rfl
 ·rfl
theorem ku{cells:List (Str × Addr)}:∀ {names:List (Str × NameKind)} {acc:List (Str × Addr)} {x:Str} {c:Addr},(∀ y∈names,y.2 = .free→∃ c,cells.lookup y.1=some c)→
  (∀ y c,acc.lookup y=some c→cells.lookup y=some c)→(ee cells names acc).lookup x=some c→cells.lookup x=some c
 | [],acc,x,c,_,ha,h=>ha x c h
 | (n,k)::r,acc,x,c,hn,ha,h=>by
  refine ku (names:=r) (fun y hy=>hn y (List.mem_cons_of_mem _ hy)) ?_ h
  intro y d hy
  by_cases hk:(k == NameKind.free)=true
  ·rw[if_pos hk]at hy
   obtain⟨e,he⟩:=hn (n,k) List.mem_cons_self (by simpa using hk)
   have he':cells.lookup n=some e:=he
   rw[List.lookup_cons]at hy
   by_cases hyn:(y == n)=true
   ·rw[hyn]at hy
    have hy':(cells.lookup n).getD 0=d:=Option.some.inj hy
    rw[he']at hy'
    have e1:y=n:=by simpa using hyn
    rw[e1,he',← hy']; rfl
   ·have hf:(y == n)=false:=by simpa using hyn
    rw[hf]at hy
    exact ha y d hy
  ·rw[if_neg hk]at hy
   exact ha y d hy
theorem lT{cells:List (Str × Addr)}:∀ {names:List (Str × NameKind)} {acc:List (Str × Addr)} {x:Str},(∃ c,acc.lookup x=some c)→∃ c,(ee cells names acc).lookup x=some c
 | [],_,_,h=>h
 | (n,k)::r,acc,x,h=>by
  refine lT (names:=r) ?_
  by_cases hk:(k == NameKind.free)=true
  ·rw[if_pos hk,List.lookup_cons]
   cases hx:(x == n) with
   | true=>exact⟨_,rfl⟩
   | false=>exact h
  ·rw[if_neg hk]; exact h
theorem i8{cells:List (Str × Addr)}:∀ {names:List (Str × NameKind)} {acc:List (Str × Addr)} {x:Str},(x,NameKind.free)∈names→∃ c,(ee cells names acc).lookup x=some c
 | (n,k)::r,acc,x,h=>by
  rcases List.mem_cons.mp h with e | h
  ·have e1:x=n:=congrArg (·.1) e
   have e2:NameKind.free=k:=congrArg (·.2) e
   subst e1 e2;refine lT (names:=r) ?_
   rw[if_pos (by rfl),List.lookup_cons]
   rw[beq_self_eq_true];exact⟨_,rfl⟩
  ·exact i8 (names:=r) h
theorem fc{env:Env}:∀ {names:List (Str × NameKind)} {x:Str} {k:NameKind},(∀ y∈names,y.2 ≠ .cell)→
  (names.map fun (n,k)=>if (k == NameKind.free&&env.scope.kind == .function&&env.kindOf n == some .cell) then (n,NameKind.cell) else (n,k)).lookup x=some k→(k = .cell∨k = .free)→(x,NameKind.free)∈names
 | [],_,_,_,h,_=>by simp at h
 | (n,k0)::r,x,k,hc,h,hk=>by
  have ih:=@fc env r x k (fun y hy=>hc y (List.mem_cons_of_mem _ hy))
  rw[List.map_cons]at h
  by_cases hf:(k0 == NameKind.free&&env.scope.kind == .function&&env.kindOf n == some .cell)=true
  ·have hk0:k0 = .free:=by
    have:(k0 == NameKind.free)=true:=by
     rw[Bool.and_eq_true,Bool.and_eq_true]at hf; exact hf.1.1
    simpa using this
   dsimp only at h
   rw[if_pos hf,List.lookup_cons]at h
   cases hx:(x == n) with
   | true=>
    have:x=n:=by simpa using hx
    rw[this,hk0]; exact List.mem_cons_self
   | false=>rw[hx]at h; exact List.mem_cons_of_mem _ (ih h hk)
  ·dsimp only at h
   rw[if_neg hf,List.lookup_cons]at h
   cases hx:(x == n) with
   | true=>
    rw[hx]at h
    have e:k0=k:=Option.some.inj h
    have:x=n:=by simpa using hx
    rcases hk with z | z
    ·exact absurd (e.trans z) (hc (n,k0) List.mem_cons_self)
    ·rw[this,e,z]; exact List.mem_cons_self
   | false=>rw[hx]at h; exact List.mem_cons_of_mem _ (ih h hk)
def cv(X:Cx)(N0 T:List Str)(scope:Scope)(C:Addr)(fp:List Addr)(s:Shared)(H:Hp):Cx:=
 { X with N:=N0++T,s₀:=s,H₀:=H,env:=compEnvC scope (ee X.env.cells scope.names []) C X.env,outer:=X.stack,stack:=X.stack,ex:=fp,fn:=fun _=>false,pn:=[],xe:=fun _ _=>False }
structure jq (X:Cx) (N0 T:List Str) (scope:Scope):Prop where
 kind:scope.kind = .function
 nocell:∀ y∈scope.names,y.2 ≠ .cell
 names:∀ y∈scope.names,y.2 = .local→scope.names.lookup y.1=some .local
 free:∀ y∈scope.names,y.2 = .free→X.env.kindOf y.1=some .cell∨X.env.kindOf y.1=some .free
 apart:∀ y∈scope.names,y.2 = .local→y.1∉N0
 len0:N0.length=X.N.length
 same:∀ (i:Nat) (x:Str) (k:NameKind),N0[i]? = some x→(x,k)∈scope.names→X.N[i]? = some x
theorem jb{prog:Program}{w:World}{A:Around}{R:Result→Shared→Prop}{s:Shared}{elt target iter:Expr}{ifs:List Expr}{scope:Scope}{pos:Pos}{it acc:Value}{env:Env}(I:Nat→Shared→Prop)
  (turn:∀ n s,I n s→wpAny (model prog w) A (pyNext it) (fun r s₁=>match r with
   | none=>R (.ok .next) s₁
   | some v=>wpAny (model prog w) A (letOwnedTupleGo target it v) (fun _ s₀=>wpAny (model prog w) A (assign target env v) (fun _ s₂=>
     wpAny (model prog w) A (forIn ifs true fun c r=>if r=true then do let ok ← isTrue c env (eval c env); pure (ForInStep.yield ok) else pure (ForInStep.yield r)) (fun ok s₃=>
      if ok=true then wpAny (model prog w) A (eval elt env) (fun x s₄=>
       wpAny (model prog w) A (call (.builtin "list.append") [acc,x]) (fun _ s₅=>∃ m,m<n∧I m s₅) (fun _ _=>False) s₄) (fun _ _=>False) s₃
      else ∃ m,m<n∧I m s₃) (fun _ _=>False) s₂) (fun _ _=>False) s₀) (fun _ _=>False) s₁) (fun _ _=>False) s)
  (n:Nat) (h:I n s) :
  codeAny (model prog w) A (.compLoop (.ListComp elt [⟨target,iter,ifs,0⟩] scope pos) 0 it acc env) R s:=by
 refine codeAny_loop rfl I (fun n s hI=>?_) n h
 show wpAny _ A ((compTurn (.ListComp elt [⟨target,iter,ifs,0⟩] scope pos) 0 it acc env).onRaise (fun x=>do noteFrame x env; theTreesLotGoes x)) _ _ s
 refine wpAny_noted ?_
 rw[compTurn_list];refine wpAny_bind (wpAny_standAt (wpAny_bind (wpAny_mono (turn n s hI) (fun r s₁ h₁=>?_) fun _ _ h'=>h'.elim)))
 cases r with
 | none=>exact wpAny_pure h₁
 | some v=>
  refine wpAny_bind (wpAny_mono h₁ (fun _ s₀ h₀=>?_) fun _ _ h'=>h'.elim)
  refine wpAny_bind (wpAny_mono h₀ (fun _ s₂ h₂=>wpAny_bind (wpAny_mono h₂ (fun ok s₃ h₃=>?_) fun _ _ h'=>h'.elim)) fun _ _ h'=>h'.elim)
  cases ok with
  | false=>exact wpAny_pure ⟨rfl,h₃⟩
  | true=>
   exact wpAny_bind (wpAny_bind (wpAny_mono h₃ (fun x s₄ h₄=>wpAny_bind (wpAny_mono h₄ (fun _ s₅ h₅=>wpAny_pure (wpAny_pure ⟨rfl,h₅⟩)) fun _ _ h'=>h'.elim)) fun _ _ h'=>h'.elim))
def PIfs(X:Cx)(ifs:List Expr)(tc:TT):Prop:=
 ∀ (pins:List (Addr × Obj)) (s:Shared) (σ : St) (H:Hp) (Q:Bool→Hp→Prop),Inv X pins σ H s→tc σ H Q→
  wpAny (model X.prog X.w) X.A (forIn ifs true fun c r=>if r=true then do let ok ← isTrue c X.env (eval c X.env); pure (ForInStep.yield ok) else pure (ForInStep.yield r)) (TP X pins σ Q) X.xe s
def p9:TT:=fun _ H Q=>Q true H
theorem kK{X:Cx}:PIfs X [] p9:=fun _ _ _ H _ I h=>wpAny_tests_nil ⟨H,I,h⟩
theorem kP{X:Cx}{c:Expr}{tc:TT}(hc:PT X c tc):PIfs X [c] tc:=fun pins s σ H Q I h=>wpAny_tests_one (hc pins s σ H Q I h)
def xj(g:TG)(n:Nat):Prop:=∀ x σ H Q,g x σ H Q→g x σ H fun σ' H'=>Q σ' H'∧σ'.length=σ.length∧∀ k,k<n→σ'[k]? = σ[k]?
def vo(g:gT)(n:Nat):Prop:=∀ x σ H Q,g x σ H Q→g x σ H fun σ' H'=>Q σ' H'∧σ'.length=σ.length∧∀ k,k<n→σ'[k]? = σ[k]?
theorem fB{i n:Nat}(h:n≤i):xj (iT i) n:=fun x σ H Q q=>⟨q,by simp,fun k hk=>by rw[List.getElem?_set_ne (by omega)]⟩
theorem yO{n:Nat}:vo vQ n:=fun x σ H Q q=>⟨q.1,q.2,rfl,fun _ _=>rfl⟩
def vf(g:TG):Prop:=∀ x σ H Q Q',(∀ σ' H',Q σ' H'→Q' σ' H')→g x σ H Q→g x σ H Q'
def lm(g:gT):Prop:=∀ x σ H Q Q',(∀ σ' H',Q σ' H'→Q' σ' H')→g x σ H Q→g x σ H Q'
theorem l8{i:Nat}:vf (iT i):=fun x σ H Q Q' h q=>h _ _ q
theorem sw:lm vQ:=fun x σ H Q Q' h q=>⟨q.1,h _ _ q.2⟩
theorem zA{t:TG}{u:gT}(h1:vf t)(h2:lm u):lm (oJ t u):=fun x σ H Q Q' h ⟨v,r,e,q⟩=>⟨v,r,e,h1 _ _ _ _ _ (fun σ' H' z=>h2 _ _ _ _ _ h z) q⟩
theorem nY{t:TG}{u:gT}{n:Nat}(h1:xj t n)(m1:vf t)(h2:vo u n)(m2:lm u):vo (oJ t u) n:=fun x σ H Q ⟨v,r,e,q⟩=>by
 refine⟨v,r,e,?_⟩
 refine m1 _ _ _ _ _ (fun σ' H' z=>?_) (h1 _ _ _ _ q)
 obtain⟨z,l1,k1⟩:=z
 exact m2 _ _ _ _ _ (fun σ2 H2 y=>⟨y.1,y.2.1.trans l1,fun k hk=>(y.2.2 k hk).trans (k1 k hk)⟩) (h2 _ _ _ _ z)
theorem BL{K:PySem.W.Frag}{m n:Nat}{t:gT}(h:vo t n):xj (vG K m t) n:=fun x σ H Q ⟨a,xs,e,q,l,z⟩=>⟨a,xs,e,q,l,h _ _ _ _ z⟩
def gB(J:It)(g:TG)(tc:TT)(te:TE)(nT:Nat)(σ : St)(D:Addr)(Q:VK)(H:Hp):Prop:=
 ∃ W:Nat→Nat→List V→Hp→Prop,(∃ m,W 0 m [] H)∧∀ i m ys H2,W i m ys H2→
  (J.stop i H2∧Q (.ref D) H2)∨(J.go i H2∧∀ x H',J.yld i H2 x H'→g x (σ++List.replicate nT none) H' fun σ2 H3=>tc σ2 H3 fun b H4=>
   if b=true then te σ2 H4 fun y H5=>H5 D=some (.lst ys)∧ys.length<sizeLine∧∃ m',m'<m∧W (i+1) m' (ys++[y]) (upd H5 D (.lst (ys++[y]))) else ∃ m',m'<m∧W (i+1) m' ys H4)
def A0(wi:TI)(g:TG)(tc:TT)(te:TE)(nT:Nat):TE:=fun σ H Q=>wi σ H fun J H1=>∀ D,H1 D=none→gB J g tc te nT σ D Q (upd H1 D (.lst []))
theorem HOk.sameBut{P:Program}{w:World}{H:Hp}{h h':Heap}{C:Addr}(x:HOk P w H h)(hs:Heap.SameBut C h h')(hC:H C=none):HOk P w H h':=fun a o e=>
 (x a o e).stay (fun b u hb q=>(hs.2 b (by
  rintro rfl
  rcases hb with z | z
  ·rw[z]at hC; rw[hC]at e; cases e
  ·rw[hC]at z; cases z)).trans q) (fun _ q=>q) fun _ _ q=>q
section
variable{X:Cx}{N0 T:List Str}{scope:Scope}{tg elt iter:Expr}{ifs:List Expr}{pos:Pos}{wi:TI}{g:TG}{tc:TT}{te:TE}
theorem yv{pins:List (Addr × Obj)}{σ : St}{H:Hp}{s:Shared}{E:Value→Shared→Prop}{it:Addr}{fp:List Addr}{tn:Nat→Heap→Prop}{J:It}{Q:VK}{RR:Value→Addr→Result→Shared→Prop}
  (S:jq X N0 T scope) (hc:X.calm=true)
  (hg:∀ C fp s H,PG (cv X N0 T scope C fp s H) tg g) (hfr:xj g X.N.length) (hi:∀ C fp s H,PIfs (cv X N0 T scope C fp s H) ifs tc) (he:∀ C fp s H,PE (cv X N0 T scope C fp s H) elt te)
  (I:Inv X pins σ H s) (Tn:js X.prog X.w X.K tg J fp it tn) (st:tn 0 s.heap) (hf:∀ b∈fp,gP X pins H b)
  (h:∀ D,H D=none→gB J g tc te T.length σ D Q (upd H D (.lst [])))
  (hRR:∀ D C s' H' m,s'.heap.Ns C m→H' C=none→C≠X.env.locals→(∀ x c,X.env.cells.lookup x=some c→c≠C)→(∀ p∈X.pn++pins,p.1≠C)→X.s₀.heap.objs.size≤C→Inv X pins σ H' s'→
   (∀ h',Heap.SameBut C s'.heap h'→Inv X pins σ H' { s' with heap:=h' })→Q (.ref D) H'→RR (.ref D) C (.ok .next) s') :
  wpAny (model X.prog X.w) X.A (newList []) (fun acc s₃=>wpAny (model X.prog X.w) X.A (newFunctionEnv scope X.env.globals (ee X.env.cells scope.names []) [] X.env.qual none .none (some X.env)) (fun cenv s₄=>
   codeAny (model X.prog X.w) X.A (.compStart (.ListComp elt [⟨tg,iter,ifs,0⟩] scope pos) 0 (.ref it) acc { cenv with scope:=relabel scope X.env }) (RR acc cenv.locals) s₄) E s₃) E s:=by
 refine wpAny_newObj_type (wpAny_newFunctionEnv S.nocell (by intro y hy; simp at hy) (fun h₁ hns₁ hsb₁=>?_) S.kind)
 dsimp only at hns₁ hsb₁ ⊢
 generalize hH2:s.heap.push { cls:=.type "list", dict:=none,data:=.seq ([]:List Value).toArray }=P2 at hns₁ hsb₁ ⊢;have hC:P2.objs.size=s.heap.objs.size+1:=by rw[← hH2,Heap.size_push]
 -- the new list D, the block's names C
 obtain⟨D,hD⟩ : ∃ D:Nat,D=s.heap.objs.size:=⟨_,rfl⟩
 obtain⟨C,hCC⟩ : ∃ C:Nat,C=P2.objs.size:=⟨_,rfl⟩
 rw[← hCC]at hns₁ hsb₁ hC ⊢
 rw[← hD]at hC ⊢
 have hDC:D≠C:=by omega
 have hDlt:D<C:=by omega
 have neD:∀ b o,s.heap.get? b=some o→b≠D:=fun b o e=>hD ▸ Nat.ne_of_lt (Heap.lt_size e)
 have neC:∀ b o,s.heap.get? b=some o→b≠C:=fun b o e=>Nat.ne_of_lt (Nat.lt_trans (hD ▸ Heap.lt_size e) hDlt)
 have old:∀ b o,s.heap.get? b=some o→h₁.get? b=some o:=fun b o e=>hsb₁.extBut b o (neC b o e) (Heap.get?_push_of_some _ (hH2 ▸ Heap.get?_push_of_some _ e))
 have hHD:H D=none:=I.hok.fresh (by omega)
 have hHC:H C=none:=I.hok.fresh (by omega)
 have dat:h₁.get? D=some { cls:=.type "list", data:=.seq ([]:List Value).toArray 0 }:=by
  refine hsb₁.extBut _ _ hDC (Heap.get?_push_of_some _ ?_)
  rw[← hH2,hD];exact Heap.get?_push_size _ rfl
 -- the block's context stands
 have hcl:∀ x c,(ee X.env.cells scope.names []).lookup x=some c→X.env.cells.lookup x=some c:=fun x c e=>
  ku (fun y hy hk=>I.ok.has y.1 (S.free y hy hk)) (fun y c z=>by simp at z) e
 have okC:(cv X N0 T scope C fp s H).Ok:=by
  refine⟨I.ok.mod,?_,I.ok.glob,I.ok.blt,?_,fun x y c e1 e2=>I.ok.inj x y c (hcl x c e1) (hcl y c e2),fun x hx=>?_,fun x c z _=>(by cases z),I.ok.hd,I.ok.frames,.inl rfl,fun b hb=>⟨?_,fun x c e=>(hf b hb).2.2.2.2.1 x c (hcl x c e)⟩,
   I.bs,?_,fun b o e hb=>?_,fun b hb z=>?_,I.stack,I.stkFree⟩
  ·show (relabel scope X.env).kind = .function
   exact S.kind
  ·show s.heap.objs.size≤C
   omega
  ·have hx':(relabel scope X.env).names.lookup x=some .cell∨(relabel scope X.env).names.lookup x=some .free:=hx
   have m:(x,NameKind.free)∈scope.names:=by
    rcases hx' with z | z
    ·exact fc S.nocell z (.inl rfl)
    ·exact fc S.nocell z (.inr rfl)
   exact i8 m
  ·show b≠C
   obtain⟨o,e,_⟩:=Tn.obj 0 _ st b hb
   exact neC b o e
  ·exact Nat.le_trans I.ok.bsz I.sz
  ·obtain⟨_,_,_,z,_⟩:=hf b hb
   rcases z with z | z
   ·exact I.ok.noex b o e z
   ·exact absurd (Nat.lt_of_lt_of_le (Nat.lt_of_lt_of_le (Heap.lt_size e) I.ok.bsz) z) (Nat.lt_irrefl _)
  ·obtain⟨_,z1,z2,_⟩:=hf b hb
   rcases List.mem_cons.mp (I.stkSub b z) with q | q
   ·exact z1 q
   ·exact z2 q
 have I1:Inv (cv X N0 T scope C fp s H) [] (σ++List.replicate T.length none) (upd H D (.lst [])) { s with heap:=h₁,toks:=s.toks+([]:List (Str × Value)).length }:=by
  refine⟨okC,rfl,I.bare,Un.laid (h:=s.heap) old (by omega) hHD,⟨_,hns₁,fun i x v e1 e2 e3=>?_⟩,fun x c e=>?_,?_,fun x c e=>?_,fun p hp=>(by simp[cv]at hp),I.hok.laid old (by omega) ?_,?_⟩
  ·have e1':(N0++T)[i]? = some x:=e1
   have hl:=I.len;have hl0:=S.len0
   have hi:i<σ.length:=by
    rcases Nat.lt_or_ge i σ.length with z | z
    ·exact z
    ·rw[List.getElem?_append_right z]at e2
     rw[List.getElem?_replicate]at e2
     split at e2 <;> cases e2
   rw[List.getElem?_append_left hi]at e2
   rw[List.getElem?_append_left (by omega)]at e1'
   have hxN:x∈N0:=List.mem_of_getElem? e1'
   have e3':(relabel scope X.env).names.lookup x=some .local∨(relabel scope X.env).names.lookup x=some .cell∨(relabel scope X.env).names.lookup x=some .free:=e3
   have fr:(relabel scope X.env).names.lookup x=some .cell∨(relabel scope X.env).names.lookup x=some .free:=by
    rcases e3' with z | z | z
    ·exfalso
     -- a local of the block is no tracked name
     have key:∀ (names:List (Str × NameKind)),(names.map fun (n,k)=>if (k == NameKind.free&&X.env.scope.kind == .function&&X.env.kindOf n == some .cell) then (n,NameKind.cell) else (n,k)).lookup x=some .local→(x,NameKind.local)∈names:=by
      intro names
      induction names with
      | nil=>intro z; simp at z
      | cons y r ih=>
       obtain⟨n,k⟩:=y
       intro z
       rw[List.map_cons]at z
       dsimp only at z
       by_cases hfk:(k == NameKind.free&&X.env.scope.kind == .function&&X.env.kindOf n == some .cell)=true
       ·rw[if_pos hfk,List.lookup_cons]at z
        cases hx:(x == n) with
        | true=>rw[hx]at z; cases z
        | false=>rw[hx]at z; exact List.mem_cons_of_mem _ (ih z)
       ·rw[if_neg hfk,List.lookup_cons]at z
        cases hx:(x == n) with
        | true=>
         rw[hx]at z
         have ek:k = .local:=Option.some.inj z
         have en:x=n:=by simpa using hx
         rw[ek,en]; exact List.mem_cons_self
        | false=>rw[hx]at z; exact List.mem_cons_of_mem _ (ih z)
     exact S.apart (x,.local) (key _ z) rfl hxN
    ·exact .inl z
    ·exact .inr z
   have m:(x,NameKind.free)∈scope.names:=by
    rcases fr with z | z
    ·exact fc S.nocell z (.inl rfl)
    ·exact fc S.nocell z (.inr rfl)
   have kX:=S.free _ m rfl;obtain⟨mm,hn,hl'⟩:=I.loc
   obtain⟨u,r,lk⟩:=hl' i x v (S.same i x _ e1' m) e2 (.inr kX)
   refine⟨u,r,.inr ⟨fr,?_⟩⟩
   rcases lk with ⟨z,_⟩ | ⟨_,c,ec,cc⟩
   ·rcases kX with q | q
    ·rw[q]at z; cases z
    ·rw[q]at z; cases z
   ·obtain⟨c',ec'⟩:=i8 (cells:=X.env.cells) (acc:=[]) m
    have:=hcl x c' ec'
    rw[ec]at this; cases this
    exact⟨c,ec',cc.keeps old⟩
  ·obtain⟨v,z⟩:=I.cell x c (hcl x c e)
   exact⟨v,z.keeps old⟩
  ·show upd H D (.lst []) C=none
   rw[ai (Ne.symm hDC)]; exact hHC
  ·have q:=I.freeC x c (hcl x c e)
   obtain⟨v,o,z,_⟩:=I.cell x c (hcl x c e)
   rw[ai (neD c o z)]; exact q
  ·exact⟨Nat.zero_le _,[],0,.nil,dat⟩
  ·show (σ++List.replicate T.length none).length=(N0++T).length
   rw[List.length_append,List.length_append,List.length_replicate,I.len,S.len0]
 have st1:tn 0 h₁:=Tn.keep _ _ _ st fun b _ o e=>old b o e
 have fp1:∀ {H':Hp},(∀ b∈fp,H' b=none)→∀ b∈fp,gP (cv X N0 T scope C fp s H) [] H' b:=fun hn b hb=>
  ⟨hn b hb,(okC.exf b hb).1,okC.exfs b hb,.inl hb,(okC.exf b hb).2,fun p hp=>(by simp[cv]at hp)⟩
 have fp0:∀ b∈fp,upd H D (.lst []) b=none:=fun b hb=>by
  obtain⟨o,e,_⟩:=Tn.obj 0 _ st b hb
  rw[ai (neD b o e)]; exact(hf b hb).1
 obtain⟨W,⟨m0,w0⟩,turn⟩:=h D hHD
 have loop:∀ s₃ : Shared,s₃={ s with heap:=h₁,toks:=s.toks+([]:List (Str × Value)).length }→
   codeAny (model X.prog X.w) X.A (.compLoop (.ListComp elt [⟨tg,iter,ifs,0⟩] scope pos) 0 (.ref it) (.ref D) (compEnvC scope (ee X.env.cells scope.names []) C X.env)) (RR (.ref D) C) s₃:=by
  rintro s₃ rfl
  refine jb (fun n s'=>∃ i H' ys,Inv (cv X N0 T scope C fp s H) [] (σ++List.replicate T.length none) H' s'∧tn i s'.heap∧(∀ b∈fp,H' b=none)∧W i n ys H') ?_ m0 ⟨0,_,[],I1,st1,fp0,w0⟩
  rintro n s3 ⟨i,H3,ys,I3,st3,fr3,w3⟩
  rcases turn i n ys H3 w3 with ⟨stop,qn⟩ | ⟨go,step⟩
  ·refine aZ (Tn.done (cv X N0 T scope C fp s H) rfl rfl rfl hc i [] s3 _ H3 (fun _ _=>False) I3 (fp1 fr3) st3 stop) fun r s4 ⟨hr,I4⟩=>?_
   subst hr;obtain⟨m,hm,_⟩:=I4.loc
   have hch:∀ b∈fp,(b∈X.ex∨X.s₀.heap.objs.size≤b)∧b≠X.env.locals∧(∀ x c,X.env.cells.lookup x=some c→c≠b)∧∀ p∈X.pn++pins,p.1≠b:=fun b hb=>
    ⟨(hf b hb).2.2.2.1,(hf b hb).2.1,(hf b hb).2.2.2.2.1,(hf b hb).2.2.2.2.2⟩
   have u4:Un (i_ X.stack) fp H H3 s.heap s4.heap:=I4.base
   refine hRR D C s4 H3 m hm I4.free (Ne.symm (Nat.ne_of_lt (Nat.lt_trans (hD ▸ I.lt) hDlt))) (fun x c e=>?_) (fun p hp=>?_) (Nat.le_trans (hD ▸ I.sz) (Nat.le_of_lt hDlt)) (I.call' (ch:=fp) I4.os u4 I4.hok I4.bare hch) (fun h' hs'=>?_) qn
   ·obtain⟨v,o,q,_⟩:=I.cell x c e
    exact neC c o q
   ·exact neC _ _ (I.pin p hp).1
   ·refine I.call' (ch:=fp) (s':={ s4 with heap:=h' }) I4.os ⟨fun b o q n' hb hx=>(hs'.2 b (neC b o q)).trans (u4.keep b o q n' hb hx),fun b o q n' hb hx=>?_,u4.free,fun b o q hx=>?_,u4.tups,u4.frzs,u4.tbls⟩ (I4.hok.sameBut hs' I4.free) I4.bare hch
    ·obtain⟨sl,e⟩:=u4.slot b o q n' hb hx
     exact⟨sl,(hs'.2 b (neC b o q)).trans e⟩
    ·obtain⟨o',e⟩:=u4.there b o q hx
     exact⟨o',(hs'.2 b (neC b o q)).trans e⟩
  ·refine aZ (Tn.item (cv X N0 T scope C fp s H) rfl rfl rfl hc i [] s3 _ H3 (fun _ _=>False) I3 (fp1 fr3) st3 go) fun r s4 ⟨u,hr,h4⟩=>?_
   subst hr;refine aZ h4 fun _ s5 ⟨x,H5,I5,r5,y5,st5,fr5⟩=>?_
   have I5':=I5.pinned (fp1 fr5) (Tn.obj _ _ st5);refine aZ (hg C fp s H _ s5 _ H5 x u _ I5' r5 (hfr _ _ _ _ (step x H5 y5))) fun _ s6 ⟨σ6,H6,I6,q6,l6,k6⟩=>?_
   have back:∀ {H7:Hp} {s7:Shared},Inv (cv X N0 T scope C fp s H) ([]++jh fp s5.heap) σ6 H7 s7→(∀ {m':Nat} {zs:List V},m'<n→W (i+1) m' zs H7→∃ m,m<n∧∃ i H' ys,Inv (cv X N0 T scope C fp s H) [] (σ++List.replicate T.length none) H' s7∧tn i s7.heap∧(∀ b∈fp,H' b=none)∧W i m ys H'):=fun {H7 s7} I7 {m' zs} hm w7=>by
    refine⟨m',hm,i+1,H7,zs,I7.unpinned.weak (by rw[l6]) (fun j v e=>?_),Tn.keep _ _ _ st5 fun b hb o e=>(I7.pin (b,o) (List.mem_append_right _ (List.mem_append_right _ (gE hb e)))).1,fun b hb=>?_,w7⟩
    ·have hj:j<σ.length:=by
      rcases Nat.lt_or_ge j σ.length with z | z
      ·exact z
      ·rw[List.getElem?_append_right z,List.getElem?_replicate]at e
       split at e <;> cases e
     rw[k6 j (by rw[← I.len]; exact hj)]
     exact e
    ·obtain⟨o,e,d⟩:=Tn.obj _ _ st5 b hb
     exact(I7.pin (b,o) (List.mem_append_right _ (List.mem_append_right _ (gE hb e)))).2.1
   refine aZ (hi C fp s H _ s6 σ6 H6 _ I6 q6) fun b s7 ⟨H7,I7,q7⟩=>?_
   cases b with
   | false=>
    obtain⟨m',hm,w7⟩:=(show ∃ m',m'<n∧W (i+1) m' ys H7 from by simpa using q7)
    exact back I7 hm w7
   | true=>
    rw[if_pos rfl]at q7
    refine aZ (he C fp s H _ s7 σ6 H7 _ I7 q7) fun v s8 ⟨y,H8,I8,r8,hD8,hz,m',hm,w8⟩=>?_
    refine aZ (n6 (X:=cv X N0 T scope C fp s H) _ s8 σ6 H8 (.ref D) [y] (.ref D) [v] (fun _ H9=>H9=upd H8 D (.lst (ys++[y]))) I8 rfl (.cons r8 .nil) ⟨D,ys,y,rfl,rfl,hD8,hz,rfl⟩) fun v9 s9 ⟨y9,H9,I9,_,e9⟩=>?_
    subst e9;exact back I9 hm w8
 exact codeAny_compStart_list (loop _ rfl) (Tn.self X.A 0 _ _ _ st1 (loop _ rfl))
theorem gL(S:jq X N0 T scope)(hc:X.calm=true)(hI:PI X tg iter wi)
  (hg:∀ C fp s H,PG (cv X N0 T scope C fp s H) tg g) (hfr:xj g X.N.length) (hi:∀ C fp s H,PIfs (cv X N0 T scope C fp s H) ifs tc) (he:∀ C fp s H,PE (cv X N0 T scope C fp s H) elt te)
  (hs:∀ x,foldedSetIterable iter X.env x=pure x:=by intro _; rfl):PE X (.ListComp elt [⟨tg,iter,ifs,0⟩] scope pos) (A0 wi g tc te T.length):=by
 intro pins s σ H Q I h
 rw[eval_ListComp];refine wpAny_comprehension_free (use:=none) rfl hs (ow fun x hx hk=>I.ok.has x.1 (S.free x hx hk)) S.kind S.names (aZ (hI pins s σ H _ I h) fun v s1 h1=>aZ h1 fun itv s2 h2=>?_)
 obtain⟨it,fp,tn,J,H2,e,I2,Tn,st2,f2,q2⟩:=h2
 subst e;refine yv (RR:=fun acc C=>compPost (model X.prog X.w) X.A X.xe none (EP X pins σ Q) acc C) S hc hg hfr hi he I2 Tn st2 f2 q2 ?_
 intro D C s' H' m hn hC hL hcells hpins hfresh I' hI' q
 exact⟨m,hn,fun h' hs'=>⟨.ref D,H',hI' h' hs',rfl,q⟩⟩
end
end L2
namespace L2
open PySem PySem.Spec PyProof.Rows
theorem Vals.of:∀ {xs:List V} {us:List Value} {i:Nat} {u:Value},Vals xs us→us[i]? = some u→∃ x,xs[i]? = some x∧RelV x u
 | _,_,0,u,.cons r _,e=>⟨_,rfl,by simp at e; subst e; exact r⟩
 | _,_,i+1,u,.cons _ rr,e=>by
  obtain⟨x,hx,r⟩:=Vals.of (i:=i) rr (by simpa using e)
  exact⟨x,by simpa using hx,r⟩
theorem jk:∀ {ss:List Str} {us:List Value},Vals (ss.map V.str) us→StrsAre us ss
 | [],_,.nil=>.nil
 | s::ss,_,.cons r rr=>by
  obtain⟨t,rfl⟩:=r
  exact .cons s t (jk rr)
section
variable{X:Cx}
def c_(H:Hp):V→Option String
 | .non=>some "NoneType"
 | .bl _=>some "bool"
 | .int _=>some "int"
 | .str _=>some "str"
 | .ref a=>match H a with
  | some (.lst _)=>some "list"
  | some (.frz _ (.lst _))=>some "list"
  | some (.tup _)=>some "tuple"
  | some (.dK _)=>some "dict"
  | some (.dT _)=>some "dict"
  | _=>none
 | _=>none
theorem wy{K:PySem.W.Frag}{H:Hp}:∀ {x:V} {T:String},c_ H x=some T→ga K H x (.type T)
 | .non,T,h=>by cases h; exact .non
 | .bl b,T,h=>by cases h; exact .bl b
 | .int i,T,h=>by cases h; exact .int i
 | .str y,T,h=>by cases h; exact .str y
 | .byt _,T,h=>by cases h
 | .flt _,T,h=>by cases h
 | .ty _,T,h=>by cases h
 | .ref a,T,h=>by
  cases e:H a with
  | none=>simp[c_,e]at h
  | some o=>
   cases o with
   | lst xs=>simp[c_,e]at h; subst h; exact .lst e
   | tup xs=>simp[c_,e]at h; subst h; exact .tup e
   | dK xs=>simp[c_,e]at h; subst h; exact .dK e
   | dT xs=>simp[c_,e]at h; subst h; exact .dT e
   | frz ob u=>
    cases u with
    | lst xs=>simp[c_,e]at h; subst h; exact .frz e
    | _=>simp[c_,e]at h
   | _=>simp[c_,e]at h
def Bl(T C:String):Bool:=T == C||(T == "bool" && C == "int")
theorem AJ(K:PySem.W.Frag){T C:String}(hT:T∈["NoneType", "bool", "int", "str", "list", "tuple", "dict"]) (hC:C∈["bool", "int", "str", "list", "tuple"]):PySem.W.kitOne K (.type T) (.type C)=some (Bl T C):=by
 simp only[List.mem_cons,List.mem_nil_iff,or_false]at hT hC
 rcases hT with rfl | rfl | rfl | rfl | rfl | rfl | rfl <;> rcases hC with rfl | rfl | rfl | rfl | rfl <;> (with_unfolding_all rfl)
theorem uD{H:Hp}{x:V}{T:String}(h:c_ H x=some T):T∈["NoneType", "bool", "int", "str", "list", "tuple", "dict"]:=by
 cases x with
 | ref a=>
  cases e:H a with
  | none=>simp[c_,e]at h
  | some o=>
   cases o with
   | frz ob u=>cases u <;> simp[c_,e]at h <;> subst h <;> decide
   | _=>simp[c_,e]at h <;> subst h <;> decide
 | _=>first | (cases h; decide) | cases h
def Dl:List V→Hp→VK→Prop:=fun xs H Q=>∃ (x:V) (T C:String),xs=[x,.ty C]∧c_ H x=some T∧C∈["bool", "int", "str", "list", "tuple"]∧Q (.bl (Bl T C)) H
theorem ua{H:Hp}{Q:VK}(x:V)(C:String):Dl [x,.ty C] H Q=∃ T,c_ H x=some T∧C∈["bool", "int", "str", "list", "tuple"]∧Q (.bl (Bl T C)) H:=
 propext ⟨fun ⟨_,T,_,e,q⟩=>by cases e; exact⟨T,q⟩,fun ⟨T,q⟩=>⟨x,T,C,rfl,q⟩⟩
theorem gU:CallR X (.builtin "isinstance") Dl:=by
 intro pins s σ H xs us Q I r h
 obtain⟨x,T,C,rfl,hT,hC,q⟩:=h
 obtain⟨u,w',rfl,ru,rw'⟩:=oG r
 cases rw';exact yn I ru (wy hT) (AJ X.K (uD hT) hC) fun tk=>⟨.bl (Bl T C),H,I.tok tk,rfl,q⟩
def uK(K:PySem.W.Frag):V→List V→Hp→VK→Prop:=fun x vs H Q=>∃ (sep:Str) (p:Addr) (ss:List Str),x = .str sep∧vs=[.ref p]∧SqL K H p (ss.map V.str)∧(ss.map (·.length)).sum+ss.length * sep.length≤16777216∧Q (.str (Txt.join sep ss)) H
theorem Ca:MtR X "str.join" (uK X.K):=by
 intro pins s σ H x xs v us Q I rx r h
 obtain⟨sep,p,ss,rfl,rfl,hq,hz,q⟩:=h
 obtain⟨t,rfl⟩:=rx
 obtain⟨u,rfl,ru⟩:=dH r
 cases ru;obtain⟨its,rv,pl,_⟩:=I.list hq
 exact join_list pl.isList (by simpa using jk rv) hz fun t' k=>⟨.str (Txt.join sep ss),H,I.tok k,⟨t',rfl⟩,q⟩
end
def iY(J:It)(g:TG)(tb:TS)(D:dM)(σ : St)(H:Hp):Prop:=∃ W:Nat→Nat→St→Hp→Prop,(∃ m,W 0 m σ H)∧∀ i m σ H,W i m σ H→
 (J.stop i H∧D.nx σ H)∨(J.go i H∧∃ N:St→Hp→Prop,(∀ σ' H',N σ' H'→∃ m',m'<m∧W (i+1) m' σ' H')∧∀ x H',J.yld i H x H'→g x σ H' fun σ2 H2=>tb { D with nx:=N,ct:=N,bk:=D.nx } σ2 H2)
theorem tD(wi:TI)(g:TG)(tb:TS)(D:dM)(σ : St)(H:Hp):EI wi g tb D σ H=wi σ H fun J H1=>iY J g tb D σ H1:=rfl
theorem jY{J:It}{g:TG}{tb:TS}{D:dM}{σ : St}{H:Hp}(n:Nat)(Pv:Nat→St→Hp→Prop)(h0:Pv 0 σ H)(hgo:∀ i σ H,i<n→Pv i σ H→J.go i H)(hst:∀ σ H,Pv n σ H→J.stop n H)
  (hs:∀ i σ H x H',i<n→Pv i σ H→J.yld i H x H'→g x σ H' fun σ2 H2=>tb { D with nx:=Pv (i+1),ct:=Pv (i+1),bk:=D.nx } σ2 H2) (hd:∀ σ H,Pv n σ H→D.nx σ H):iY J g tb D σ H:=by
 refine⟨fun i m σ H=>m=n - i∧i≤n∧Pv i σ H,⟨n,by simp,Nat.zero_le _,h0⟩,?_⟩
 rintro i m σ H ⟨rfl,hi,p⟩
 by_cases hlt:i<n
 ·exact .inr ⟨hgo i σ H hlt p,Pv (i+1),fun σ' H' p'=>⟨n - (i+1),by omega,rfl,hlt,p'⟩,fun x H' y=>hs i σ H x H' hlt p y⟩
 ·have e:i=n:=by omega
  subst e;exact .inl ⟨hst σ H p,hd σ H p⟩
theorem da{K:PySem.W.Frag}{a:Addr}{xs:List V}{g:TG}{tb:TS}{D:dM}{σ : St}{H:Hp}(Pv:Nat→St→Hp→Prop)(h0:Pv 0 σ H)(hl:∀ i σ H,i≤xs.length→Pv i σ H→SqL K H a xs)
  (hs:∀ i x σ H,xs[i]? = some x→Pv i σ H→g x σ H fun σ2 H2=>tb { D with nx:=Pv (i+1),ct:=Pv (i+1),bk:=D.nx } σ2 H2) (hd:∀ σ H,Pv xs.length σ H→D.nx σ H):iY (lX K a) g tb D σ H:=
 Au Pv h0 hl hs hd
theorem lh{lo:Int}{n:Nat}{g:TG}{tb:TS}{D:dM}{σ : St}{H:Hp}(Pv:Nat→St→Hp→Prop)(h0:Pv 0 σ H)
  (hs:∀ i σ H,i<n→Pv i σ H→g (.int (lo+i)) σ H fun σ2 H2=>tb { D with nx:=Pv (i+1),ct:=Pv (i+1),bk:=D.nx } σ2 H2) (hd:∀ σ H,Pv n σ H→D.nx σ H):iY (lO lo n) g tb D σ H:=
 wz Pv h0 hs hd
def iQ(n i:Nat)(Pv:Nat→List V→Hp→Prop)(D:Addr)(ys:List V)(y:V)(H:Hp):Prop:=
 H D=some (.lst ys)∧ys.length<sizeLine∧∃ m',m'<n - i∧(m'=n - (i+1)∧i+1≤n∧Pv (i+1) (ys++[y]) (upd H D (.lst (ys++[y]))))
theorem uW{n i:Nat}{Pv:Nat→List V→Hp→Prop}{D:Addr}{ys:List V}{y:V}{H:Hp}(hi:i<n)(hlen:ys.length=i)(hz:n≤sizeLine)(h1:H D=some (.lst ys))(h2:Pv (i+1) (ys++[y]) (upd H D (.lst (ys++[y])))):iQ n i Pv D ys y H:=
 ⟨h1,by omega,n - (i+1),by omega,rfl,hi,h2⟩
def lV(n i:Nat)(Pv:Nat→List V→Hp→Prop)(D:Addr)(ys:List V)(te:TE)(σ : St)(H:Hp):Prop:=
 if true=true then te σ H (iQ n i Pv D ys) else ∃ m',m'<n - i∧(m'=n - (i+1)∧i+1≤n∧Pv (i+1) ys H)
theorem pW{n i:Nat}{Pv:Nat→List V→Hp→Prop}{D:Addr}{ys:List V}{te:TE}{σ : St}{H:Hp}:lV n i Pv D ys te σ H=te σ H (iQ n i Pv D ys):=by
 unfold lV; rw[if_pos rfl]
theorem ph{J:It}{g:TG}{te:TE}{nT:Nat}{σ : St}{D:Addr}{Q:VK}{H:Hp}(n:Nat)(Pv:Nat→List V→Hp→Prop)(h0:Pv 0 [] H)(hgo:∀ i ys H,i<n→Pv i ys H→J.go i H)(hst:∀ ys H,Pv n ys H→J.stop n H)
  (hs:∀ i ys H x H',i<n→Pv i ys H→J.yld i H x H'→g x (σ++List.replicate nT none) H' (lV n i Pv D ys te))
  (hd:∀ ys H,Pv n ys H→Q (.ref D) H):gB J g p9 te nT σ D Q H:=by
 refine⟨fun i m ys H=>m=n - i∧i≤n∧Pv i ys H,⟨n,by simp,Nat.zero_le _,h0⟩,?_⟩
 rintro i m ys H ⟨rfl,hi,p⟩
 by_cases hlt:i<n
 ·exact .inr ⟨hgo i ys H hlt p,fun x H' y=>hs i ys H x H' hlt p y⟩
 ·have e:i=n:=by omega
  subst e;exact .inl ⟨hst ys H p,hd ys H p⟩
theorem sf{lo:Int}{n:Nat}{g:TG}{te:TE}{nT:Nat}{σ : St}{D:Addr}{Q:VK}{H:Hp}(Pv:Nat→List V→Hp→Prop)(h0:Pv 0 [] H)
  (hs:∀ i ys H,i<n→Pv i ys H→g (.int (lo+i)) (σ++List.replicate nT none) H (lV n i Pv D ys te))
  (hd:∀ ys H,Pv n ys H→Q (.ref D) H):gB (lO lo n) g p9 te nT σ D Q H:=by
 refine ph n Pv h0 (fun i ys H hi p=>hi) (fun ys H p=>Nat.le_refl _) (fun i ys H x H' hi p yl=>?_) hd
 obtain⟨rfl,rfl⟩:=yl
 exact hs i ys _ hi p
end L2
namespace L2
open PySem PySem.Spec PyProof.Rows
def Fa(u:TS)(D:dM)(σ : St)(H:Hp):Prop:=u D σ H
section
variable{D:dM}{σ : St}{H:Hp}{Q:VK}{B:Bool→Hp→Prop}{L:List V→Hp→Prop}{R:It→Hp→Prop}{G:St→Hp→Prop}
theorem sP(t u:TS):Ek t u D σ H=t { D with nx:=Fa u D } σ H:=rfl
theorem mI(u:TS):Fa u D σ H=u D σ H:=rfl
theorem o0:BC D σ H=D.nx σ H:=rfl
theorem tm(c:TT)(t u:TS):CT c t u D σ H=c σ H fun b H1=>if b=true then t D σ H1 else u D σ H1:=rfl
theorem t_(t:TE):CI t D σ H=t σ H D.rt:=rfl
theorem q_:Bm D σ H=D.rt .non H:=rfl
theorem qj(t:TE):Bo t D σ H=t σ H fun _ H1=>D.nx σ H1:=rfl
theorem tV(t:TE)(g:TG):wf t g D σ H=t σ H fun x H1=>g x σ H1 D.nx:=rfl
theorem qd(i:Nat)(v:V):iT i v σ H G=G (σ.set i (some v)) H:=rfl
theorem sX(vs:List V):vQ vs σ H G=(vs=[]∧G σ H):=rfl
theorem rC(t:TG)(u:gT)(vs:List V):oJ t u vs σ H G=∃ v r,vs=v::r∧t v σ H fun σ' H'=>u r σ' H' G:=rfl
theorem t9(K:PySem.W.Frag)(n:Nat)(t:gT)(v:V):vG K n t v σ H G=∃ a xs,v = .ref a∧SqT K H a xs∧xs.length=n∧t xs σ H G:=rfl
theorem tf(to ti:TE)(t:pe)(v:V):CY to ti t v σ H G=to σ H fun o H1=>ti σ H1 fun i H2=>t o i v H2 fun H3=>G σ H3:=rfl
theorem sL(i:Nat):Ai i σ H Q=∃ v,σ[i]? = some (some v)∧Q v H:=rfl
theorem AR(v:V):tC v σ H Q=Q v H:=rfl
theorem wZ(r:R2)(ta tb:TE):xX r ta tb σ H Q=ta σ H fun x H1=>tb σ H1 fun y H2=>r x y H2 Q:=rfl
theorem yA(r:V→Hp→VK→Prop)(ta:TE):FN r ta σ H Q=ta σ H fun x H1=>r x H1 Q:=rfl
theorem pO(t:TE):uR t σ H B=t σ H fun x H'=>∃ k,x = .bl k∧B k H':=rfl
theorem Bt(t:TE):tB t σ H B=t σ H fun x H'=>∃ k,x = .bl k∧B k H':=rfl
theorem tZ(t u:TT):D8 t u σ H B=t σ H fun c H1=>if c=true then u σ H1 B else B false H1:=rfl
theorem xp(t u:TT):FW t u σ H B=t σ H fun c H1=>if c=true then B true H1 else u σ H1 B:=rfl
theorem tP(t:TT):Fb t σ H B=t σ H fun c H1=>B (!c) H1:=rfl
theorem oU(ta tb:TE):Bh ta tb σ H Q=ta σ H fun x H1=>∃ c,x = .bl c∧if c=true then tb σ H1 Q else Q (.bl false) H1:=rfl
theorem p8(ta:TE):AN ta σ H Q=ta σ H fun x H1=>∃ c,x = .bl c∧Q (.bl (!c)) H1:=rfl
theorem wX(t:TT)(ta tb:TE):FT t ta tb σ H Q=t σ H fun c H1=>if c=true then ta σ H1 Q else tb σ H1 Q:=rfl
theorem yf(r:List V→Hp→VK→Prop)(t:TA):yp r t σ H Q=t σ H fun vs H1=>r vs H1 Q:=rfl
theorem qI(ta:TE)(tr:TA):Bi ta tr σ H L=ta σ H fun x H1=>tr σ H1 fun xs H2=>L (x::xs) H2:=rfl
theorem sU:C5 σ H L=L [] H:=rfl
theorem tS(t:TA):EZ t σ H Q=t σ H fun xs H1=>xs.length≤sizeLine∧∀ p,H1 p=none→Q (.ref p) (upd H1 p (.tup xs)):=rfl
theorem tw(t:TA):Ec t σ H Q=t σ H fun xs H1=>xs.length≤sizeLine∧∀ p,H1 p=none→Q (.ref p) (upd H1 p (.lst xs)):=rfl
theorem rM(sp:Sp)(dvs:List V)(E:XK)(t:TA):v0 sp dvs E t σ H Q=t σ H fun vs H1=>sp (vs++dvs) H1 Q E:=rfl
theorem wQ(K:PySem.W.Frag)(T:String)(r:V→List V→Hp→VK→Prop)(to:TE)(t:TA):D9 K T r to t σ H Q=to σ H fun x H1=>qo K T x H1∧t σ H1 fun xs H2=>r x xs H2 Q:=rfl
theorem uo(K:PySem.W.Frag)(T:String)(r:V→List V→Hp→VK→Prop)(to:TE):zX K T r to σ H Q=to σ H fun x H1=>qo K T x H1∧r x [] H1 Q:=rfl
theorem om(r r':R2)(ta tb tc:TE):yE r r' ta tb tc σ H Q=ta σ H fun x H1=>tb σ H1 fun y H2=>r x y H2 fun z H3=>∃ k,z = .bl k∧(if k=true then tc σ H3 fun w' H4=>r' y w' H4 Q else Q (.bl false) H3):=rfl
theorem xN(r:V→Option Int→Option Int→Hp→VK→Prop)(te:TE)(tl th:TO):FS r te tl th σ H Q=te σ H fun x H1=>tl σ H1 fun l H2=>th σ H2 fun u H3=>r x l u H3 Q:=rfl
theorem qE(t:TE)(O:Option Int→Hp→Prop):AY t σ H O=t σ H fun x H1=>∃ i,x = .int i∧O (some i) H1:=rfl
theorem lL(O:Option Int→Hp→Prop):ut σ H O=O none H:=rfl
theorem pX(wi:TI)(g:TG)(tc:TT)(te:TE)(nT:Nat):A0 wi g tc te nT σ H Q=wi σ H fun J H1=>∀ D,H1 D=none→gB J g tc te nT σ D Q (upd H1 D (.lst [])):=rfl
theorem uz:p9 σ H B=B true H:=rfl
theorem qB(K:PySem.W.Frag)(tl:TE):vm K tl σ H R=tl σ H fun x H1=>∃ a,x = .ref a∧(∃ xs,SqL K H1 a xs)∧R (lX K a) H1:=rfl
theorem pM(ta:TA):Bv ta σ H R=ta σ H fun vs H1=>∃ j:Int,vs=[.int j]∧-(2 ^ 62)≤j∧j<2 ^ 62∧R (lO 0 j.toNat) H1:=rfl
theorem x_(g:Int→Int→V)(i j:Int):og g (.int i) (.int j) H Q=Q (g i j) H:=propext ⟨fun ⟨_,_,e1,e2,q⟩=>by cases e1; cases e2; exact q,fun q=>⟨i,j,rfl,rfl,q⟩⟩
theorem AS(C:Int→Int→Prop)(g:Int→Int→V)(i j:Int):rI C g (.int i) (.int j) H Q=(C i j∧Q (g i j) H):=propext ⟨fun ⟨_,_,e1,e2,q⟩=>by cases e1; cases e2; exact q,fun q=>⟨i,j,rfl,rfl,q⟩⟩
end
structure DefAt (K:PySem.W.Frag) (mg:Str→Option Value) (x:Str) (st:Stmt):Prop where
 ex:∃ f fd,Fun K x x st f fd∧mg x=some (.ref f)
structure aK (P:Program) (w:World) (K:PySem.W.Frag) (mg:Str→Option Value) (base:Heap) (k:Nat) (x:Str) (ps:List Str) (sp:Sp):Prop where
 ex:∃ f fd,FnOk P w K mg base ik k f fd ps sp∧Binds K fd ps []∧PySem.W.keepIn K (.ref f)=true∧mg x=some (.ref f)
section
variable{P:Program}{w:World}{K:PySem.W.Frag}{mg:Str→Option Value}{base:Heap}
theorem DefAt.cal{x:Str}{st:Stmt}{N ps:List Str}{k:Nat}{sp:Sp}(D:DefAt K mg x st)(S:aA N ps (defScope st))
  (hb:∀ (kV doc pm:Value) (an:Option Addr) (cdv ct:Value) (us:List Value),us.length=ps.length→bindArgs (PySem.W.fnOf x x (defArgs st) (defBody st) (defScope st) .none kV doc pm an cdv ct) ⟨us,[]⟩=pure (ps.zip us))
  (len:∀ vs H Q E,sp vs H Q E→vs.length=ps.length)
  (hbody:∀ (f:Addr) (cdv:Value) (A:Around) (outer:List Env) (s:Shared) (H:Hp) (vs:List V) (Q:VK) (E:XK),Room k (A.deeper (envOfC x (defScope st) s.heap.objs.size f cdv))→sp vs H Q E→
   ∃ t,PSs (iE ik P w K mg base N x (defScope st) f cdv A outer s H E).nox (defBody st) t∧t { nx:=fun _ H'=>Q .non H',rt:=Q } (start N vs) H):aK P w K mg base (k+1) x ps sp:=by
 obtain⟨f,fd,F,m⟩:=D.ex
 exact⟨f,fd,F.ok S len fun cdv A outer s H vs Q E hr h=>hbody f cdv A outer s H vs Q E hr h,F.binds hb,F.kp,m⟩
end
section
variable{X:Cx}
theorem az{j k:Nat}{x:Str}{ps:List Str}{sp:Sp}{p pos:Pos}{e:Expr}{es:List Expr}{t:TA}(c:aK X.prog X.w X.K X.mg X.base j x ps sp)(hr:Room k X.A)(ha:PA X (e::es) t)(hle:j≤k:=by decide)(hg:Gl X x:=by first | exact vGg (by decide +kernel) | rfl)
  (hdb:(x == ("__debug__" : Str))=false:=by decide) (he:starEach (e::es) X.env=(false,eval e X.env)::starEach es X.env:=by rfl) (hpl:(backTo pos (starEach es X.env)).any (·.1)=false:=by rfl) :
  PE X (.Call (.Name x p) (e::es) [] pos) (v0 sp [] E0 t):=by
 obtain⟨f,fd,F,b,kp,m⟩:=c.ex
 exact CG F (hr.mono hle) hg m kp b .nil vD ha hdb he hpl
theorem jI{x:Str}{T:String}{pos:Pos}(hm:X.mg x=none)(hv:bootBuiltins x=some (.type T))(hg:Gl X x:=by first | exact vGg (by decide +kernel) | rfl)(hn:x ≠ "__name__" := by decide) (hd:(x == ("__debug__" : Str))=false:=by decide):PE X (.Name x pos) (tC (.ty T)):=
 CA hg hm hv rfl hn hd
theorem bF{x:Str}{p pos:Pos}{e:Expr}{es:List Expr}{t:TA}{id:String}{r:List V→Hp→VK→Prop}(hc:CallR X (.builtin id) r)(hm:X.mg x=none)(hv:bootBuiltins x=some (.builtin id))(ha:PA X (e::es) t)(hg:Gl X x:=by first | exact vGg (by decide +kernel) | rfl)
  (hn:x ≠ "__name__" := by decide) (hdb:(x == ("__debug__" : Str))=false:=by decide) (he:starEach (e::es) X.env=(false,eval e X.env)::starEach es X.env:=by rfl) (hpl:(backTo pos (starEach es X.env)).any (·.1)=false:=by rfl) :
  PE X (.Call (.Name x p) (e::es) [] pos) (yp r t):=yS hc hg hm hv ha hn hdb he hpl
theorem eh{x:Str}{p pos:Pos}{e:Expr}{es:List Expr}{t:TA}{T:String}{r:List V→Hp→VK→Prop}(hc:CallR X (.type T) r)(hm:X.mg x=none)(hv:bootBuiltins x=some (.type T))(ha:PA X (e::es) t)(hg:Gl X x:=by first | exact vGg (by decide +kernel) | rfl)
  (hn:x ≠ "__name__" := by decide) (hdb:(x == ("__debug__" : Str))=false:=by decide) (he:starEach (e::es) X.env=(false,eval e X.env)::starEach es X.env:=by rfl) (hpl:(backTo pos (starEach es X.env)).any (·.1)=false:=by rfl) :
  PE X (.Call (.Name x p) (e::es) [] pos) (yp r t):=ye hc hg hm hv ha hn hdb he hpl
end
section
variable{X:Cx}
def oI:R2:=fun x y H Q=>match x,y with
 | .int i,.int j=>Q (.int (i+j)) H
 | .str a,.str b=>a.length+b.length≤sizeLine∧Q (.str (a++b)) H
 | .ref l,.ref b=>∃ xs zs,H l=some (.lst xs)∧H b=some (.lst zs)∧xs.length+zs.length≤sizeLine∧∀ p,H p=none→Q (.ref p) (upd H p (.lst (xs++zs)))
 | _,_=>False
theorem aD:OpR X (binaryOp .Add) oI:=by
 intro pins s σ H x y v u Q I rx ry h
 cases x <;> cases y <;> first
  | exact(show False from h).elim
  | exact Dz pins s σ H _ _ v u Q I rx ry ⟨_,_,rfl,rfl,h⟩
  | exact v6 pins s σ H _ _ v u Q I rx ry ⟨_,_,rfl,rfl,h⟩
  | (obtain⟨xs,zs,h1,h2,h3,h4⟩:=h; exact EL pins s σ H _ _ v u Q I rx ry ⟨_,_,xs,zs,rfl,rfl,h1,h2,h3,h4⟩)
def yW:R2:=fun x y H Q=>match x,y with
 | .int i,.int j=>Q (.bl (decide (i<j))) H
 | .str i,.str j=>Q (.bl (decide (i.cps.toList<j.cps.toList))) H
 | _,_=>False
theorem jG:OpR X (compareOp .Lt) yW:=by
 intro pins s σ H x y v u Q I rx ry h
 cases x <;> cases y <;> first
  | exact(show False from h).elim
  | exact FC pins s σ H _ _ v u Q I rx ry ⟨_,_,rfl,rfl,h⟩
  | exact xn pins s σ H _ _ v u Q I rx ry ⟨_,_,rfl,rfl,h⟩
def vF(K:PySem.W.Frag):R2:=fun x y H Q=>match x,y with
 | .str i,.str j=>Q (.bl (!(Builtin.Str.occurrences j i 0 j.length 1).isEmpty)) H
 | x,.ref p=>∃ xs,(SqL K H p xs∨SqT K H p xs)∧bU x=true∧xs.all bU=true∧Q (.bl (ja x xs)) H
 | _,_=>False
theorem Ed:OpR X (compareOp .In) (vF X.K):=by
 intro pins s σ H x y v u Q I rx ry h
 cases y with
 | str j=>
  cases x with
  | str i=>exact yi pins s σ H _ _ v u Q I rx ry ⟨i,j,rfl,rfl,h⟩
  | _=>exact(show False from h).elim
 | ref p=>
  have h':∃ xs,(SqL X.K H p xs∨SqT X.K H p xs)∧bU x=true∧xs.all bU=true∧Q (.bl (ja x xs)) H:=by cases x <;> exact h
  obtain⟨xs,h1,h2,h3,h4⟩:=h'
  exact wN pins s σ H _ _ v u Q I rx ry ⟨p,xs,rfl,h1,h2,h3,h4⟩
 | _=>cases x <;> exact(show False from h).elim
def jR(K:PySem.W.Frag):R2:=fun x y H Q=>match x,y with
 | .str i,.str j=>Q (.bl (!(!(Builtin.Str.occurrences j i 0 j.length 1).isEmpty))) H
 | x,.ref p=>∃ xs,(SqL K H p xs∨SqT K H p xs)∧bU x=true∧xs.all bU=true∧Q (.bl (!ja x xs)) H
 | _,_=>False
theorem yt:OpR X (compareOp .NotIn) (jR X.K):=by
 intro pins s σ H x y v u Q I rx ry h
 cases y with
 | str j=>
  cases x with
  | str i=>exact qP pins s σ H _ _ v u Q I rx ry ⟨i,j,rfl,rfl,h⟩
  | _=>exact(show False from h).elim
 | ref p=>
  have h':∃ xs,(SqL X.K H p xs∨SqT X.K H p xs)∧bU x=true∧xs.all bU=true∧Q (.bl (!ja x xs)) H:=by cases x <;> exact h
  obtain⟨xs,h1,h2,h3,h4⟩:=h'
  exact oT pins s σ H _ _ v u Q I rx ry ⟨p,xs,rfl,h1,h2,h3,h4⟩
 | _=>cases x <;> exact(show False from h).elim
def oN(K:PySem.W.Frag):List V→Hp→VK→Prop:=fun xs H Q=>match xs with
 | [.str z]=>z.length≤sizeLine∧Q (.int z.length) H
 | [.ref p]=>∃ ys,(SqL K H p ys∨SqT K H p ys)∧Q (.int ys.length) H
 | _=>False
theorem xg:CallR X (.builtin "len") (oN X.K):=by
 intro pins s σ H xs us Q I r h
 match xs,h with
 | [.str z],h=>exact pU pins s σ H _ us Q I r ⟨z,rfl,h⟩
 | [.ref p],h=>obtain⟨ys,h1,h2⟩:=h; exact pd pins s σ H _ us Q I r ⟨p,ys,rfl,h1,h2⟩
def qN(K:PySem.W.Frag):R2:=fun x y H Q=>match x,y with
 | .ref p,.int i=>∃ xs v,(SqL K H p xs∨SqT K H p xs)∧eY xs i=some v∧Q v H
 | .str z,.int i=>∃ c,z.length≤sizeLine∧eY z.cps.toList i=some c∧Q (.str ⟨#[c]⟩) H
 | _,_=>False
theorem Ga:IxR X (qN X.K):=by
 intro value slice pins s σ H x y v u Q I rx ry h hs
 refine CP value slice pins s σ H x y v u Q I rx ry ?_ hs
 match x,y,h with
 | .ref p,.int i,h=>
  obtain⟨xs,v',h1,h2,h3⟩:=h
  rcases h1 with h1 | h1
  ·exact .inl ⟨p,xs,i,v',rfl,rfl,h1,h2,h3⟩
  ·exact .inr (.inl ⟨p,xs,i,v',rfl,rfl,h1,h2,h3⟩)
 | .str z,.int i,h=>
  obtain⟨c,h1,h2,h3⟩:=h
  exact .inr (.inr ⟨z,i,c,rfl,rfl,h1,h2,h3⟩)
end
section
variable{K:PySem.W.Frag}{H:Hp}{Q:VK}
theorem n9(i j:Int):oI (.int i) (.int j) H Q=Q (.int (i+j)) H:=rfl
theorem m_(a b:Str):oI (.str a) (.str b) H Q=(a.length+b.length≤sizeLine∧Q (.str (a++b)) H):=rfl
theorem jc(l b:Addr):oI (.ref l) (.ref b) H Q=∃ xs zs,H l=some (.lst xs)∧H b=some (.lst zs)∧xs.length+zs.length≤sizeLine∧∀ p,H p=none→Q (.ref p) (upd H p (.lst (xs++zs))):=rfl
theorem rL(i j:Int):yW (.int i) (.int j) H Q=Q (.bl (decide (i<j))) H:=rfl
theorem qY(i j:Str):yW (.str i) (.str j) H Q=Q (.bl (decide (i.cps.toList<j.cps.toList))) H:=rfl
theorem rK(i j:Str):vF K (.str i) (.str j) H Q=Q (.bl (!(Builtin.Str.occurrences j i 0 j.length 1).isEmpty)) H:=rfl
theorem oS(x:V)(p:Addr):vF K x (.ref p) H Q=∃ xs,(SqL K H p xs∨SqT K H p xs)∧bU x=true∧xs.all bU=true∧Q (.bl (ja x xs)) H:=by cases x <;> rfl
theorem kF(i j:Str):jR K (.str i) (.str j) H Q=Q (.bl (!(!(Builtin.Str.occurrences j i 0 j.length 1).isEmpty))) H:=rfl
theorem kq(x:V)(p:Addr):jR K x (.ref p) H Q=∃ xs,(SqL K H p xs∨SqT K H p xs)∧bU x=true∧xs.all bU=true∧Q (.bl (!ja x xs)) H:=by cases x <;> rfl
theorem nS(z:Str):oN K [.str z] H Q=(z.length≤sizeLine∧Q (.int z.length) H):=rfl
theorem nj(p:Addr):oN K [.ref p] H Q=∃ ys,(SqL K H p ys∨SqT K H p ys)∧Q (.int ys.length) H:=rfl
theorem rE(p:Addr)(i:Int):qN K (.ref p) (.int i) H Q=∃ xs v,(SqL K H p xs∨SqT K H p xs)∧eY xs i=some v∧Q v H:=rfl
theorem pZ(z:Str)(i:Int):qN K (.str z) (.int i) H Q=∃ c,z.length≤sizeLine∧eY z.cps.toList i=some c∧Q (.str ⟨#[c]⟩) H:=rfl
theorem lN(p:Addr)(y:V):mY (.ref p) [y] H Q=∃ xs,H p=some (.lst xs)∧xs.length<sizeLine∧Q .non (upd H p (.lst (xs++[y]))):=
 propext ⟨fun ⟨_,xs,_,e1,e2,q⟩=>by cases e1; cases e2; exact⟨xs,q⟩,fun ⟨xs,q⟩=>⟨p,xs,y,rfl,rfl,q⟩⟩
theorem oZ(sep:Str)(p:Addr):uK K (.str sep) [.ref p] H Q=∃ ss,SqL K H p (ss.map V.str)∧(ss.map (·.length)).sum+ss.length * sep.length≤16777216∧Q (.str (Txt.join sep ss)) H:=
 propext ⟨fun ⟨_,_,ss,e1,e2,q⟩=>by cases e1; cases e2; exact⟨ss,q⟩,fun ⟨ss,q⟩=>⟨sep,p,ss,rfl,rfl,q⟩⟩
theorem um(y:Str):qo K "str" (.str y) H=True:=eq_true rfl
theorem sV(p:Addr):(qo K "list" (.ref p) H)=∃ xs,SqL K H p xs:=by
 refine propext ⟨fun h=>?_,fun h=>.inl ⟨rfl,h⟩⟩
 rcases h with ⟨_,h⟩ | ⟨h,_⟩ | ⟨h,_⟩ | ⟨h,_⟩
 ·exact h
 ·exact absurd h (by decide)
 ·exact absurd h (by decide)
 ·exact absurd h (by decide)
end
theorem cf:bootBuiltins "len" = some (.builtin "len"):=by decide +kernel
theorem d_:bootBuiltins "isinstance" = some (.builtin "isinstance"):=by decide +kernel
theorem lu:bootBuiltins "str" = some (.type "str"):=by decide +kernel
theorem lW:bootBuiltins "int" = some (.type "int"):=by decide +kernel
theorem B2:bootBuiltins "bool" = some (.type "bool"):=by decide +kernel
theorem gM:bootBuiltins "list" = some (.type "list"):=by decide +kernel
theorem oY:bootBuiltins "tuple" = some (.type "tuple"):=by decide +kernel
theorem aw{X:Cx}(i:Nat){x:Str}{e:Expr}{te:TE}{pos pos':Pos}(hN:X.N.Nodup)(he:PE X e te)(hi:X.N[i]? = some x:=by rfl)(hx:aN X.env.scope x:=by first | exact vLl (by decide +kernel) | exact Or.inl rfl)(hs:swapsWith e (some (.Name x pos')) pos.line X.env=pure false:=by rfl)
  (hf:X.fn x=true∨X.env.scope.names.lookup x=some .local:=by first | exact .inl rfl | exact .inr rfl | assumption):PS X (.Assign [.Name x pos'] e pos) (wf te (iT i)):=E1 hN hi hx he hs hf
theorem bj{X:Cx}(i:Nat){x:Str}{pos:Pos}(hN:X.N.Nodup)(hi:X.N[i]? = some x:=by rfl)(hx:aN X.env.scope x:=by first | exact vLl (by decide +kernel) | exact Or.inl rfl)
  (hf:X.fn x=true∨X.env.scope.names.lookup x=some .local:=by first | exact .inl rfl | exact .inr rfl | assumption):PG X (.Name x pos) (iT i):=BU hN hi hx hf
structure CompSc (fsc:Scope) (N N0 T:List Str) (scope:Scope):Prop where
 kind:scope.kind = .function
 nocell:∀ y∈scope.names,y.2 ≠ .cell
 names:∀ y∈scope.names,y.2 = .local→scope.names.lookup y.1=some .local
 free:∀ y∈scope.names,y.2 = .free→fsc.names.lookup y.1=some .cell∨fsc.names.lookup y.1=some .free
 apart:∀ y∈scope.names,y.2 = .local→y.1∉N0
 len0:N0.length=N.length
 same:((N0.zip N).all fun p=>p.1 == p.2 || !(scope.names.any fun y=>y.1 == p.1))=true
theorem CompSc.to{X:Cx}{fsc:Scope}{N N0 T:List Str}{scope:Scope}(S:CompSc fsc N N0 T scope)(h1:X.env.scope=fsc)(h2:X.N=N):jq X N0 T scope:=by
 subst h1 h2;refine⟨S.kind,S.nocell,S.names,S.free,S.apart,S.len0,fun i x k e m=>?_⟩
 have hl:=S.len0;have hi:i<N0.length:=(List.getElem?_eq_some_iff.mp e).1
 have hN:X.N[i]? = some X.N[i]:=List.getElem?_eq_getElem (by omega)
 have hz:(x,X.N[i])∈N0.zip X.N:=List.mem_of_getElem? (i:=i) (by rw[List.getElem?_zip_eq_some]; exact⟨e,hN⟩)
 have q:=List.all_eq_true.mp S.same _ hz;simp only[Bool.or_eq_true,beq_iff_eq,Bool.not_eq_true']at q
 rcases q with q | q
 ·rw[hN,← q]
 ·have:(scope.names.any fun y=>y.1 == x)=true:=List.any_eq_true.mpr ⟨_,m,by simp⟩
  rw[this]at q; cases q
def zp:R2:=FR
def Ax:R2:=FQ
theorem bD{X:Cx}:OpR X (compareOp .Eq) zp:=FB
theorem jK{X:Cx}:OpR X (compareOp .NotEq) Ax:=Fi
section
variable{K:PySem.W.Frag}{H:Hp}{Q:VK}
theorem pD(i j:Int):zp (.int i) (.int j) H Q=Q (.bl (decide (i=j))) H:=by
 have e:decide (V.int i=V.int j)=decide (i=j):=by by_cases h:i=j <;> simp[h]
 show (mC (.int i) (.int j)=true∧Q (.bl (decide (V.int i=V.int j))) H)=_
 rw[e]; exact propext ⟨fun h=>h.2,fun h=>⟨rfl,h⟩⟩
theorem rz(i j:Str):zp (.str i) (.str j) H Q=Q (.bl (decide (i=j))) H:=by
 have e:decide (V.str i=V.str j)=decide (i=j):=by by_cases h:i=j <;> simp[h]
 show (mC (.str i) (.str j)=true∧Q (.bl (decide (V.str i=V.str j))) H)=_
 rw[e]; exact propext ⟨fun h=>h.2,fun h=>⟨rfl,h⟩⟩
theorem rb(i j:Int):Ax (.int i) (.int j) H Q=Q (.bl (!decide (i=j))) H:=by
 have e:decide (V.int i=V.int j)=decide (i=j):=by by_cases h:i=j <;> simp[h]
 show (mC (.int i) (.int j)=true∧Q (.bl (!decide (V.int i=V.int j))) H)=_
 rw[e]; exact propext ⟨fun h=>h.2,fun h=>⟨rfl,h⟩⟩
theorem rn(i j:Str):Ax (.str i) (.str j) H Q=Q (.bl (!decide (i=j))) H:=by
 have e:decide (V.str i=V.str j)=decide (i=j):=by by_cases h:i=j <;> simp[h]
 show (mC (.str i) (.str j)=true∧Q (.bl (!decide (V.str i=V.str j))) H)=_
 rw[e]; exact propext ⟨fun h=>h.2,fun h=>⟨rfl,h⟩⟩
end
section
variable{X:Cx}(K:PySem.W.Frag)
theorem EJ(hK:X.K=K:=by rfl):OpR X (compareOp .In) (vF K):=hK ▸ Ed
theorem wY(hK:X.K=K:=by rfl):OpR X (compareOp .NotIn) (jR K):=hK ▸ yt
theorem bh(hK:X.K=K:=by rfl):CallR X (.builtin "len") (oN K):=hK ▸ xg
theorem aG(hK:X.K=K:=by rfl):IxR X (qN K):=hK ▸ Ga
theorem qZ(hK:X.K=K:=by rfl):MtR X "str.join" (uK K):=hK ▸ Ca
theorem fb(hK:X.K=K:=by rfl):SlR X (zO K):=hK ▸ CH
theorem cH{tg l:Expr}{tl:TE}(hl:PE X l tl)(hK:X.K=K:=by rfl):PI X tg l (vm K tl):=hK ▸ Cz hl
theorem fM{es:List Expr}{k n:Nat}{t:gT}{pos:Pos}(h:PGs X es t)(hn:(assignEach es X.env).length=n:=by rfl)(hst:(assignEach es X.env).findIdx? (·.1)=none:=by rfl)(hK:X.K=K:=by rfl)(hc:X.calm=true:=by rfl):PG X (.Tuple es k pos) (vG K n t):=hK ▸ Eg hc h hn hst
theorem bb{o e:Expr}{es:List Expr}{to:TE}{t:TA}{name:Str}{apos cpos:Pos}{T id:String}{r:V→List V→Hp→VK→Prop}(pa:PlainAttrs T)(slot:Slot T name id)(hty:typeOf (.builtin id)=pure (.type "method_descriptor")) (hm:MtR X id r) (ho:PE X o to) (ha:PA X (e::es) t)
  (hbase:attributeBase o name X.env (eval o X.env)=eval o X.env:=by rfl)
  (hfew:((backTo cpos (starEach (e::es) X.env)).all (fun x=>!x.1)&&(backToKw cpos (keywordEach [] X.env)).all (fun x=>x.1.isSome)&&decide ((e::es).length+([]:List Keyword).length+(if ([]:List Keyword).isEmpty then 0 else 1)<30))=true:=by rfl)
  (hline:(apos.endLine == cpos.line)=true:=by rfl) (hs:starEach (e::es) X.env=(false,eval e X.env)::starEach es X.env:=by rfl) (hplain:(backTo cpos (starEach es X.env)).any (·.1)=false:=by rfl) (hK:X.K=K:=by rfl) :
  PE X (.Call (.Attribute o name apos) (e::es) [] cpos) (D9 K T r to t):=hK ▸ FI pa slot hty hm ho ha hbase hfew hline hs hplain
theorem vZ(hK:X.K=K:=by rfl):CallR X (.type "list") (fun xs H Q=>∃ p ys,xs=[.ref p]∧(SqL K H p ys∨SqT K H p ys)∧∀ l,H l=none→Q (.ref l) (upd H l (.lst ys))):=hK ▸ pG
theorem r_(hK:X.K=K:=by rfl):CallR X (.type "tuple") (fun xs H Q=>∃ p ys,xs=[.ref p]∧((SqL K H p ys∧∀ l,H l=none→Q (.ref l) (upd H l (.tup ys)))∨(SqT K H p ys∧Q (.ref p) H))):=hK ▸ ox
end
theorem xY(n:Int)(P:Int→Prop):(∃ j,[V.int n]=[V.int j]∧P j)=P n:=propext ⟨fun ⟨_,e,h⟩=>by cases e; exact h,fun h=>⟨n,rfl,h⟩⟩
theorem uh(x:V)(xs:List V)(P:V→List V→Prop):(∃ v r,x::xs=v::r∧P v r)=P x xs:=propext ⟨fun ⟨_,_,e,h⟩=>by cases e; exact h,fun h=>⟨x,xs,rfl,h⟩⟩
def gi(scope fsc:Scope):Scope:={ scope with names:=scope.names.map fun (n,k)=>if (k == .free&&fsc.kind == .function&&fsc.names.lookup n == some .cell) then (n,.cell) else (n,k) }
section
variable{X:Cx}{N0 T:List Str}{scope:Scope}{C:Addr}{fp:List Addr}{s:Shared}{H:Hp}{x:Str}
theorem FO(fsc:Scope)(h:(gi scope fsc).names.lookup x=some .globalImplicit)(e:X.env.scope=fsc:=by rfl):Gl (cv X N0 T scope C fp s H) x:=by subst e; exact h
theorem fD(fsc:Scope)(h:((gi scope fsc).names.lookup x=some .local||(gi scope fsc).names.lookup x=some .cell||(gi scope fsc).names.lookup x=some .free)=true)(e:X.env.scope=fsc:=by rfl):am (cv X N0 T scope C fp s H).env.scope x:=by
 subst e;simp only[Bool.or_eq_true,decide_eq_true_eq]at h
 rcases h with (h | h) | h
 ·exact .inl h
 ·exact .inr (.inl h)
 ·exact .inr (.inr h)
theorem kQ(fsc:Scope)(h:(gi scope fsc).names.lookup x=some .local)(e:X.env.scope=fsc:=by rfl):aN (cv X N0 T scope C fp s H).env.scope x:=by subst e; exact .inl h
theorem qa(fsc:Scope)(h:(gi scope fsc).names.lookup x=some .local)(e:X.env.scope=fsc:=by rfl):(cv X N0 T scope C fp s H).fn x=true∨(cv X N0 T scope C fp s H).env.scope.names.lookup x=some .local:=by subst e; exact .inr h
end
theorem aS{X:Cx}:MtR X "list.append" mY:=n6
theorem PW.pt'{X:Cx}{e:Expr}{t:TT}(h:PW X e t):PT X e t:=h.pt
theorem lH{σ : St}{H:Hp}{Q:List (V × V)→Hp→Prop}:jH [] σ H Q=Q [] H:=rfl
theorem kf{σ : St}{H:Hp}{Q:List (V × V)→Hp→Prop}(tk tv:TE)(r:List (TE × TE)):jH ((tk,tv)::r) σ H Q=tk σ H fun x H1=>tv σ H1 fun y H2=>jH r σ H2 fun ps H3=>Q ((x,y)::ps) H3:=rfl
theorem Same.upd{H H':Hp}{p:Addr}(sm:Same H H')(h:H p=none)(o:HO):Same H (upd H' p o):=fun b u q=>by rw[ai (av q h)]; exact sm b u q
theorem al{H:Hp}{p:Addr}(h:H p=none)(o:HO):Same H (upd H p o):=fun b u q=>by rw[ai (av q h)]; exact q
end L2
namespace L2
open PySem PySem.Spec PyProof.Rows PySem.SeqAt
def EqN(K:PySem.W.Frag)(H:Hp):Nat→V→V→Bool→Prop
 | 0,x,y,b=>bU x=true∧bU y=true∧b=fL x y
 | n+1,x,y,b=>(bU x=true∧bU y=true∧b=fL x y)∨∃ a c xs ys,x = .ref a∧y = .ref c∧((SqL K H a xs∧SqL K H c ys)∨(SqT K H a xs∧SqT K H c ys))∧
   ((∃ e:Nat→Bool,xs.length=ys.length∧(∀ (i:Nat) x y,xs[i]? = some x→ys[i]? = some y→EqN K H n x y (e i))∧b=(List.range xs.length).all e)∨
    (SqL K H a xs∧SqL K H c ys∧xs.length≠ys.length∧b=false))
theorem k8:∀ {x:V},bU x=true→fL x x=true
 | .non,_=>rfl
 | .bl b,_=>by simp[fL]
 | .int i,_=>by simp[fL]
 | .str y,_=>by simp[fL]
section
variable{X:Cx}{pins:List (Addr × Obj)}{σ : St}{H:Hp}{s:Shared}
theorem EqN.self(I:Inv X pins σ H s):∀ {n:Nat} {x:V} {b:Bool},EqN X.K H n x x b→b=true
 | 0,x,b,h=>by obtain⟨h1,_,rfl⟩:=h; exact k8 h1
 | n+1,x,b,h=>by
  rcases h with ⟨h1,_,rfl⟩ | ⟨a,c,xs,ys,rfl,e,hq,h⟩
  ·exact k8 h1
  ·cases e
   have exy:xs=ys:=by
    rcases hq with ⟨q1,q2⟩ | ⟨q1,q2⟩
    ·exact I.list_inj q1 q2
    ·exact I.tuple_inj q1 q2
   subst exy;rcases h with ⟨e,_,he,rfl⟩ | ⟨_,_,z,_⟩
   ·rw[List.all_eq_true]
    intro i hi
    have hi':=List.mem_range.mp hi;have q:=he i xs[i] xs[i] (List.getElem?_eq_getElem hi') (List.getElem?_eq_getElem hi');exact EqN.self I q
   ·exact absurd rfl z
theorem EqN.rc(I:Inv X pins σ H s){n:Nat}(ih:∀ {A:Around} {x y:V} {b:Bool} {u v:Value},A.units+n<cLine→EqN X.K H n x y b→RelV x u→RelV y v→EqAt A s u v b)
  {A:Around} {a c:Addr} {xs ys:List V} {b:Bool} (hu:A.units+(n+1)<cLine) (hq:(SqL X.K H a xs∧SqL X.K H c ys)∨(SqT X.K H a xs∧SqT X.K H c ys))
  (h:(∃ e:Nat→Bool,xs.length=ys.length∧(∀ (i:Nat) x y,xs[i]? = some x→ys[i]? = some y→EqN X.K H n x y (e i))∧b=(List.range xs.length).all e)∨(SqL X.K H a xs∧SqL X.K H c ys∧xs.length≠ys.length∧b=false)) :
  RcAt A s (.ref a) (.ref c) b∧RcNeAt A s (.ref a) (.ref c) (!b):=by
 have hin:A.in1.units+n<cLine:=by
  have:A.in1.units=A.units+1:=rfl
  omega
 rcases h with ⟨e,hl,he,rfl⟩ | ⟨q1,q2,hl,rfl⟩
 ·rcases hq with ⟨q1,q2⟩ | ⟨q1,q2⟩
  ·obtain⟨i1,r1,p1,z1⟩:=I.list q1
   obtain⟨i2,r2,p2,z2⟩:=I.list q2
   have l1:=r1.length;have l2:=r2.length
   have hit:∀ j (h1:j<i1.toArray.size) (h2:j<i2.toArray.size),EqAt A.in1 s i1.toArray[j] i2.toArray[j] (e j):=fun j h1 h2=>by
    obtain⟨x,hx,rx⟩:=r1.of (i:=j) (u:=i1.toArray[j]) (by simp at h1 ⊢)
    obtain⟨y,hy,ry⟩:=r2.of (i:=j) (u:=i2.toArray[j]) (by simp at h2 ⊢)
    exact ih hin (he j x y hx hy) rx ry
   have ez:xs.length=i1.toArray.size:=by simp; omega
   rw[ez];exact⟨RcAt.lists p1.isList p2.isList (by simp; omega) (by omega) hit,RcNeAt.lists p1.isList p2.isList (by simp; omega) (by omega) hit⟩
  ·obtain⟨i1,r1,p1,z1⟩:=I.tuple q1
   obtain⟨i2,r2,p2,z2⟩:=I.tuple q2
   have l1:=r1.length;have l2:=r2.length
   have hit:∀ j (h1:j<i1.toArray.size) (h2:j<i2.toArray.size),EqAt A.in1 s i1.toArray[j] i2.toArray[j] (e j):=fun j h1 h2=>by
    obtain⟨x,hx,rx⟩:=r1.of (i:=j) (u:=i1.toArray[j]) (by simp at h1 ⊢)
    obtain⟨y,hy,ry⟩:=r2.of (i:=j) (u:=i2.toArray[j]) (by simp at h2 ⊢)
    exact ih hin (he j x y hx hy) rx ry
   have ez:(List.range xs.length).all e=((List.range (min i1.toArray.size i2.toArray.size)).all e&&i1.toArray.size == i2.toArray.size):=by
    have e1:i1.toArray.size=xs.length:=by simp; omega
    have e2:i2.toArray.size=xs.length:=by simp; omega
    rw[e1,e2,Nat.min_self]; simp
   rw[ez];exact⟨RcAt.tuples (show s.heap.IsTuple a i1.toArray from p1) (show s.heap.IsTuple c i2.toArray from p2) (by omega) hit,RcNeAt.tuples (show s.heap.IsTuple a i1.toArray from p1) (show s.heap.IsTuple c i2.toArray from p2) (by omega) hit⟩
 ·obtain⟨i1,r1,p1,z1⟩:=I.list q1
  obtain⟨i2,r2,p2,z2⟩:=I.list q2
  have l1:=r1.length;have l2:=r2.length
  have hne:(i1.toArray.size != i2.toArray.size)=true:=by
   rw[bne_iff_ne]; simp; omega
  exact⟨RcAt.lists_lengths p1.isList p2.isList hne (by omega),RcNeAt.lists_lengths p1.isList p2.isList hne (by omega)⟩
theorem EqN.at(I:Inv X pins σ H s):∀ {n:Nat} {A:Around} {x y:V} {b:Bool} {u v:Value},A.units+n<cLine→EqN X.K H n x y b→RelV x u→RelV y v→EqAt A s u v b
 | 0,A,x,y,b,u,v,_,h,rx,ry=>by obtain⟨h1,h2,rfl⟩:=h; exact lG rx ry h1 h2
 | n+1,A,x,y,b,u,v,hu,h,rx,ry=>by
  have h0:=h;rcases h with ⟨h1,h2,rfl⟩ | ⟨a,c,xs,ys,rfl,rfl,hq,h⟩
  ·exact lG rx ry h1 h2
  ·cases rx
   cases ry
   by_cases hac:a=c
   ·subst hac
    rw[EqN.self I h0];exact EqAt.same _
   ·exact EqAt.of_refs hac (EqN.rc I (fun hu' q rx ry=>EqN.at I hu' q rx ry) hu hq h).1
end
section
variable{X:Cx}
def Av(K:PySem.W.Frag):R2:=fun x y H Q=>∃ (a c:Addr) (n:Nat) (b:Bool),x = .ref a∧y = .ref c∧n≤100∧EqN K H (n+1) x y b∧Q (.bl b) H
def zt(K:PySem.W.Frag):R2:=fun x y H Q=>∃ (a c:Addr) (n:Nat) (b:Bool),x = .ref a∧y = .ref c∧n≤100∧EqN K H (n+1) x y b∧Q (.bl (!b)) H
theorem Dm(hu:X.A.units+101<cLine):OpR X (compareOp .Eq) (Av X.K):=by
 intro pins s σ H x y v u Q I rx ry h
 obtain⟨a,c,n,b,rfl,rfl,hn,he,q⟩:=h
 cases rx
 cases ry;rcases he with ⟨h1,_⟩ | ⟨a',c',xs,ys,e1,e2,hq,h⟩
 ·cases h1
 ·cases e1
  cases e2;exact(EqN.rc I (fun hu' q rx ry=>EqN.at I hu' q rx ry) (by omega) hq h).1 _ _ _ _ ⟨.bl b,H,I,rfl,q⟩
theorem DF(hu:X.A.units+101<cLine):OpR X (compareOp .NotEq) (zt X.K):=by
 intro pins s σ H x y v u Q I rx ry h
 obtain⟨a,c,n,b,rfl,rfl,hn,he,q⟩:=h
 cases rx
 cases ry;rcases he with ⟨h1,_⟩ | ⟨a',c',xs,ys,e1,e2,hq,h⟩
 ·cases h1
 ·cases e1
  cases e2;exact(EqN.rc I (fun hu' q rx ry=>EqN.at I hu' q rx ry) (by omega) hq h).2 _ _ _ _ ⟨.bl (!b),H,I,rfl,q⟩
theorem Cy(K:PySem.W.Frag){k:Nat}(hr:Room k X.A)(hK:X.K=K:=by rfl):OpR X (compareOp .Eq) (Av K):=by subst hK; exact Dm (by have:=hr.un; omega)
theorem gN(K:PySem.W.Frag){k:Nat}(hr:Room k X.A)(hK:X.K=K:=by rfl):OpR X (compareOp .NotEq) (zt K):=by subst hK; exact DF (by have:=hr.un; omega)
end
section
variable{K:PySem.W.Frag}{H:Hp}{Q:VK}
theorem tT(a c:Addr):Av K (.ref a) (.ref c) H Q=∃ (n:Nat) (b:Bool),n≤100∧EqN K H (n+1) (.ref a) (.ref c) b∧Q (.bl b) H:=
 propext ⟨fun ⟨_,_,n,b,e1,e2,q⟩=>⟨n,b,q⟩,fun ⟨n,b,q⟩=>⟨a,c,n,b,rfl,rfl,q⟩⟩
theorem sS(a c:Addr):zt K (.ref a) (.ref c) H Q=∃ (n:Nat) (b:Bool),n≤100∧EqN K H (n+1) (.ref a) (.ref c) b∧Q (.bl (!b)) H:=
 propext ⟨fun ⟨_,_,n,b,e1,e2,q⟩=>⟨n,b,q⟩,fun ⟨n,b,q⟩=>⟨a,c,n,b,rfl,rfl,q⟩⟩
theorem EqN.flat{n:Nat}{x y:V}(hx:bU x=true)(hy:bU y=true):EqN K H n x y (fL x y):=by
 cases n with
 | zero=>exact⟨hx,hy,rfl⟩
 | succ n=>exact .inl ⟨hx,hy,rfl⟩
theorem EqN.refl{n:Nat}{x:V}(hx:bU x=true):EqN K H n x x true:=by
 have q:EqN K H n x x (fL x x):=EqN.flat hx hx
 rwa [k8 hx]at q
theorem EqN.seq{n:Nat}{a c:Addr}{xs ys:List V}(hq:(SqL K H a xs∧SqL K H c ys)∨(SqT K H a xs∧SqT K H c ys))(hl:xs.length=ys.length)(he:∀ (i:Nat) x y,xs[i]? = some x→ys[i]? = some y→EqN K H n x y true):EqN K H (n+1) (.ref a) (.ref c) true:=
 .inr ⟨a,c,xs,ys,rfl,rfl,hq,.inl ⟨fun _=>true,hl,he,by simp⟩⟩
theorem EqN.seqFlat{n:Nat}{a c:Addr}{xs:List V}(hq:(SqL K H a xs∧SqL K H c xs)∨(SqT K H a xs∧SqT K H c xs))(hf:∀ x∈xs,bU x=true):EqN K H (n+1) (.ref a) (.ref c) true:=
 EqN.seq hq rfl fun i x y e1 e2=>by
  rw[e1]at e2; cases e2
  exact EqN.refl (hf x (List.mem_of_getElem? e1))
end
section
variable{X:Cx}
end
section
variable{X:Cx}
def Eu:R2:=fun x y H Q=>y = .non∧Q (.bl (decide (x = .non))) H
def A_:R2:=fun x y H Q=>y = .non∧Q (.bl (!decide (x = .non))) H
theorem BI:OpR X (compareOp .Is) Eu:=Ew
theorem kT:OpR X (compareOp .IsNot) A_:=BZ
def Bs:List V→Hp→VK→Prop:=fun xs H Q=>∃ i,xs=[.int i]∧i.natAbs.log2<1920∧Q (.str (toString i)) H
theorem oj:CallR X (.type "str") Bs:=jr
def A4:List V→Hp→VK→Prop:=fun xs H Q=>(∃ i,xs=[.int i]∧Q (.int i) H)∨∃ k,xs=[.bl k]∧Q (.int (if k then 1 else 0)) H
theorem nP:CallR X (.type "int") A4:=xv
def uC(K:PySem.W.Frag):List V→Hp→VK→Prop:=fun xs H Q=>∃ p ys,xs=[.ref p]∧(SqL K H p ys∨SqT K H p ys)∧∀ l,H l=none→Q (.ref l) (upd H l (.lst ys))
theorem gD(K:PySem.W.Frag)(hK:X.K=K:=by rfl):CallR X (.type "list") (uC K):=vZ K hK
def xR(K:PySem.W.Frag):List V→Hp→VK→Prop:=fun xs H Q=>∃ p ys,xs=[.ref p]∧((SqL K H p ys∧∀ l,H l=none→Q (.ref l) (upd H l (.tup ys)))∨(SqT K H p ys∧Q (.ref p) H))
theorem xq(K:PySem.W.Frag)(hK:X.K=K:=by rfl):CallR X (.type "tuple") (xR K):=r_ K hK
def uP:R2:=fun x y H Q=>match x,y with
 | .int i,.int j=>CMul i j∧Q (.int (i * j)) H
 | .str z,.int n=>0≤n∧n≤4096∧z.length≤4096∧Q (.str (Txt.mul z n)) H
 | _,_=>False
theorem eQ:OpR X (binaryOp .Mult) uP:=by
 intro pins s σ H x y v u Q I rx ry h
 match x,y,h with
 | .int i,.int j,h=>exact Dq pins s σ H _ _ v u Q I rx ry ⟨_,_,rfl,rfl,h⟩
 | .str z,.int n,h=>
  obtain⟨t,rfl⟩:=rx
  obtain⟨t',rfl⟩:=ry
  obtain⟨h0,h1,h2,q⟩:=h
  exact SB.mul (mulOk_of 4096 4096 h2 (by omega) (by omega) (by decide) (by decide)) fun t' k=>⟨.str (Txt.mul z n),H,I.tok k,⟨t',rfl⟩,q⟩
end
section
variable{K:PySem.W.Frag}{H:Hp}{Q:VK}
theorem ug(x:V):Eu x .non H Q=Q (.bl (decide (x = .non))) H:=propext ⟨fun h=>h.2,fun h=>⟨rfl,h⟩⟩
theorem qu(x:V):A_ x .non H Q=Q (.bl (!decide (x = .non))) H:=propext ⟨fun h=>h.2,fun h=>⟨rfl,h⟩⟩
theorem oX(i:Int):Bs [.int i] H Q=(i.natAbs.log2<1920∧Q (.str (toString i)) H):=propext ⟨fun ⟨_,e,q⟩=>by cases e; exact q,fun q=>⟨i,rfl,q⟩⟩
theorem pb(k:Bool):A4 [.bl k] H Q=Q (.int (if k then 1 else 0)) H:=propext ⟨fun h=>by rcases h with ⟨_,e,q⟩ | ⟨_,e,q⟩ <;> cases e; exact q,fun q=>.inr ⟨k,rfl,q⟩⟩
theorem lv(p:Addr):uC K [.ref p] H Q=∃ ys,(SqL K H p ys∨SqT K H p ys)∧∀ l,H l=none→Q (.ref l) (upd H l (.lst ys)):=propext ⟨fun ⟨_,ys,e,q⟩=>by cases e; exact⟨ys,q⟩,fun ⟨ys,q⟩=>⟨p,ys,rfl,q⟩⟩
theorem nQ(p:Addr):xR K [.ref p] H Q=∃ ys,((SqL K H p ys∧∀ l,H l=none→Q (.ref l) (upd H l (.tup ys)))∨(SqT K H p ys∧Q (.ref p) H)):=propext ⟨fun ⟨_,ys,e,q⟩=>by cases e; exact⟨ys,q⟩,fun ⟨ys,q⟩=>⟨p,ys,rfl,q⟩⟩
theorem oq(i j:Int):uP (.int i) (.int j) H Q=(CMul i j∧Q (.int (i * j)) H):=rfl
theorem ni(z:Str)(n:Int):uP (.str z) (.int n) H Q=(0≤n∧n≤4096∧z.length≤4096∧Q (.str (Txt.mul z n)) H):=rfl
theorem ub(a:Addr)(lo hi:Option Int):zO K (.ref a) lo hi H Q=∃ xs,SqL K H a xs∧∀ p,H p=none→Q (.ref p) (upd H p (.lst (dO xs lo hi))):=propext ⟨fun ⟨_,xs,e,q⟩=>by cases e; exact⟨xs,q⟩,fun ⟨xs,q⟩=>⟨a,xs,rfl,q⟩⟩
theorem A8(g:Int→V)(i:Int):rU g (.int i) H Q=Q (g i) H:=propext ⟨fun ⟨_,e,q⟩=>by cases e; exact q,fun q=>⟨i,rfl,q⟩⟩
end
theorem bG{n:Nat}(h:n≤1000000):n<sizeLine:=by
 have:sizeLine=16777216:=sizeLine_eq
 omega
theorem bo{n:Nat}(h:n≤1000000):n≤sizeLine:=Nat.le_of_lt (bG h)
theorem pY{α : Type}{f:α→V}{xs:List α}{i:Int}{x:α}(h0:0≤i)(h:xs[i.toNat]? = some x):eY (xs.map f) i=some (f x):=by
 have q:(xs.map f)[i.toNat]? = some (f x):=by rw[List.getElem?_map,h]; rfl
 have q':=aR q
 rwa [show ((i.toNat:Nat):Int)=i by omega]at q'
theorem cP{H H':Hp}{p:Addr}{o:HO}(h:upd H p o=H')(hp:H p=none):Same H H':=h ▸ al hp o
theorem dG{H H':Hp}{p:Addr}{o:HO}(h:upd H p o=H'):H' p=some o:=h ▸ ah
theorem Af{α β : Type}{f:α→β}(xs:List α)(x:α):xs.map f++[f x]=(xs++[x]).map f:=by rw[List.map_append]; rfl
end L2
namespace L2
open PySem PySem.Spec PyProof.Rows
theorem Inv.turnedL{X:Cx}{pins:List (Addr × Obj)}{σ : St}{H:Hp}{s:Shared}{h':Heap}{t':Nat}{ch:List Addr}(I:Inv X pins σ H s)(k:∀ b o,b∉ch→s.heap.get? b=some o→h'.get? b=some o)
  (hf:∀ b∈ch,gP X pins H b):Inv X pins σ H { s with heap:=h',toks:=t' }:=by
 have nit:∀ b u,H b=some u→b∉ch:=fun b u e z=>by rw[(hf b z).1]at e; cases e
 refine I.step (g':=s.gens) (d':=s.drawn) (ch:=ch) (fun b hb=>?_) (fun b o _ _ hc e _=>k b o hc e) (fun b o _ _ hc e _=>⟨o.slots,k b o hc e⟩) (fun _ _ _ _ n=>n)
  (fun b o hc e=>⟨o,k b o hc e⟩) (fun _ _ e=>e) (fun _ _ _ e=>e) (fun b ps e=>⟨#[],by rw[e]; simp⟩) (fun m hm=>?_) (fun b u e=>?_) I.bare
 ·obtain⟨_,f1,_,f3,f4,f5⟩:=hf b hb
  exact⟨f3,f1,f4,f5⟩
 ·obtain⟨o,es,ep,ho,r⟩:=hm
  exact⟨o,es,ep,k _ o (fun z=>(hf _ z).2.1 rfl) ho,r⟩
 ·refine(I.hok b u e).stay (fun c v hc q=>k c v ?_ q) (fun _ q=>q) fun _ _ q=>q
  rcases hc with z | z
  ·rw[z]; exact nit b u e
  ·exact nit c _ z
theorem Inv.turnedLaid{X:Cx}{pins:List (Addr × Obj)}{σ : St}{H:Hp}{s:Shared}{h':Heap}{t':Nat}{ch:List Addr}{a:Addr}{o:HO}(I:Inv X pins σ H s)(k:∀ b o,b∉ch→s.heap.get? b=some o→h'.get? b=some o)
  (hf:∀ b∈ch,gP X pins H b) (hp:s.heap.objs.size≤a) (new:ObjOk X.prog X.w (upd H a o) h' a o):Inv X pins σ (upd H a o) { s with heap:=h',toks:=t' }:=by
 have hn:H a=none:=I.hok.fresh hp
 have nit:∀ b u,H b=some u→b∉ch:=fun b u e z=>by rw[(hf b z).1]at e; cases e
 refine I.step (g':=s.gens) (d':=s.drawn) (ch:=ch) (fun b hb=>?_) (fun b o _ _ hc e _=>k b o hc e) (fun b o _ _ hc e _=>⟨o.slots,k b o hc e⟩) (fun b u _ q n=>?_)
  (fun b o hc e=>⟨o,k b o hc e⟩) (fun b xs q=>?_) (fun b u xs q=>?_) (fun b ps q=>⟨#[],?_⟩) (fun m hm=>?_) (fun b u e=>?_) I.bare
 ·obtain⟨_,f1,_,f3,f4,f5⟩:=hf b hb
  exact⟨f3,f1,f4,f5⟩
 ·rw[ai (Nat.ne_of_lt (Nat.lt_of_lt_of_le (Heap.lt_size q) hp))]; exact n
 ·rw[ai (av q hn)]; exact q
 ·rw[ai (av q hn)]; exact q
 ·rw[ai (av q hn),q]; simp
 ·obtain⟨o,es,ep,ho,r⟩:=hm
  exact⟨o,es,ep,k _ o (fun z=>(hf _ z).2.1 rfl) ho,r⟩
 ·by_cases hb:b=a
  ·subst hb; rw[ah]at e; cases e; exact new
  ·rw[ai hb]at e
   refine(I.hok b u e).stay (fun c v hc q=>k c v ?_ q) (fun c q=>by rw[ai (av q hn)]; exact q) fun c xs q=>by rw[ai (av q hn)]; exact q
   rcases hc with z | z
   ·rw[z]; exact nit b u e
   ·exact nit c _ z
structure yD (z TI TO i1 i2:Addr):Prop where
 TIz:TI≠z
 TOz:TO≠z
 i1z:i1≠z
 i2z:i2≠z
 TITO:TI≠TO
 TIi1:TI≠i1
 TIi2:TI≠i2
 TOi1:TO≠i1
 TOi2:TO≠i2
 i12:i1≠i2
theorem JZ(n:Nat):yD (n+4) (n+2) (n+3) n (n+1):=⟨(show (@Ne Nat (n+2) (n+4):Prop) by omega),(show (@Ne Nat (n+3) (n+4):Prop) by omega),(show (@Ne Nat (n) (n+4):Prop) by omega),(show (@Ne Nat (n+1) (n+4):Prop) by omega),(show (@Ne Nat (n+2) (n+3):Prop) by omega),(show (@Ne Nat (n+2) (n):Prop) by omega),(show (@Ne Nat (n+2) (n+1):Prop) by omega),(show (@Ne Nat (n+3) (n):Prop) by omega),(show (@Ne Nat (n+3) (n+1):Prop) by omega),(show (@Ne Nat (n) (n+1):Prop) by omega)⟩
theorem yH:bootBuiltins "zip" = some (.type "zip"):=by decide +kernel
theorem rh(n m:Addr)(P:Addr→Addr→Prop):(∃ i j,[V.ref n,V.ref m]=[V.ref i,V.ref j]∧P i j)=P n m:=propext ⟨fun ⟨_,_,e,h⟩=>by cases e; exact h,fun h=>⟨n,m,rfl,h⟩⟩
section
variable{X:Cx}
end
section
variable{σ : St}{H:Hp}{Q:VK}
end
end L2
namespace L2
open PySem PySem.Spec PyProof.Rows
def yz(K:PySem.W.Frag)(a:Addr):It:=
  ⟨fun i H=>∃ xs x,SqL K H a xs∧xs[i]? = some x,
   fun i H v H'=>∃ t x,H t=none∧v = .ref t∧H'=upd H t (.tup [.int i,x])∧∀ xs,SqL K H a xs→xs[i]? = some x,
   fun i H=>∃ xs,SqL K H a xs∧xs.length≤i⟩
def KS(e it l:Addr)(i:Nat)(h:Heap):Prop:=(∃ old,IsEnum h e it i old)∧h.IsListIter it l i
theorem wO{P:Program}{w:World}{K:PySem.W.Frag}{elts:List Expr}{k:Nat}{pos:Pos}{e it l:Addr}(hei:e≠it):js P w K (.Tuple elts k pos) (yz K l) [e,it] e (KS e it l) where
 mem:=by simp
 obj:=fun i h st b hb=>by
  obtain⟨⟨old,s1⟩,⟨o4,s4,c4,d4⟩⟩:=st
  simp only[List.mem_cons,List.mem_nil_iff,or_false]at hb
  rcases hb with rfl | rfl
  ·exact⟨_,s1,fun v e=>by cases e⟩
  ·exact⟨_,s4,fun v e=>by rw[d4]at e; cases e⟩
 keep:=fun i h h' st kk=>by
  obtain⟨⟨old,s1⟩,s4⟩:=st
  exact⟨⟨old,kk e (by simp) _ s1⟩,s4.at fun o z=>kk it (by simp) o z⟩
 item:=by
  intro X hP hw hK hc i pins s σ H E I hf st hg
  subst hP hw hK;obtain⟨xs,x,q1,hx⟩:=hg
  obtain⟨is1,rv1,p1,_⟩:=I.list q1
  obtain⟨u1,hu1,ru1⟩:=rv1.get hx
  obtain⟨⟨old,s1⟩,s4⟩:=st
  refine wpAny_pyNext_enum_item s1 s4 p1.isList (x:=u1) (by simpa using hu1) hei fun h' a1 a3 a5 a6 kk=>?_
  refine⟨_,rfl,wpAny_letOwnedTupleGo_enum a1 fun h'' hz' hs'=>?_⟩
  have lt:∀ {c o},s.heap.get? c=some o→s.heap.objs.size≠c:=fun z=>Nat.ne_of_gt (Heap.lt_size z)
  have zne:s.heap.objs.size≠e:=lt s1
  have keep2:∀ b o,b∉[e,it]→s.heap.get? b=some o→h''.get? b=some o:=fun b o hb z=>by
   simp only[List.mem_cons,List.mem_nil_iff,or_false,not_or]at hb
   exact hs'.extBut _ _ hb.1 (kk b o hb.1 hb.2 z)
  have hsz:H s.heap.objs.size=none:=I.hok.fresh (Nat.le_refl _)
  have tupN:=hs'.extBut _ _ zne a5
  have nlt:∀ c∈[e,it],c≠s.heap.objs.size:=fun c hc'=>by
   obtain⟨o4,e4,_⟩:=id s4
   simp only[List.mem_cons,List.mem_nil_iff,or_false]at hc'
   rcases hc' with rfl | rfl
   ·exact(lt s1).symm
   ·exact(lt e4).symm
  refine⟨.ref s.heap.objs.size,upd H s.heap.objs.size (.tup [.int i,x]),I.turnedLaid (t':=s.toks+1) keep2 hf (Nat.le_refl _) ⟨bo (by show 2≤1000000; decide),[.int i s.toks,u1],.cons ⟨_,rfl⟩ (.cons ru1 .nil),⟨_,tupN,rfl,rfl,0,rfl⟩⟩,rfl,⟨_,x,hsz,rfl,rfl,fun xs' q'=>?_⟩,
   ⟨⟨_,by simpa using hz'⟩,a3.extBut hs'.extBut hei.symm⟩,fun c hc'=>?_⟩
  ·rw[I.list_inj q' q1]; exact hx
  ·rw[ai (nlt c hc')]; exact(hf c hc').1
 done:=by
  intro X hP hw hK hc i pins s σ H E I hf st hg
  subst hP hw hK;obtain⟨xs,q1,hlen⟩:=hg
  obtain⟨is1,rv1,p1,_⟩:=I.list q1
  have l1:=rv1.length;obtain⟨⟨old,s1⟩,s4⟩:=st
  refine wpAny_pyNext_enum_end (I.ok.hd hc) s1 s4 p1.isList (by simp; omega) fun h' kk=>⟨rfl,I.turnedL (t':=s.toks) (fun b o hb z=>?_) hf⟩
  simp only[List.mem_cons,List.mem_nil_iff,or_false,not_or]at hb
  exact kk b o hb.2 z
 self:=fun A i s Q E st h=>by
  obtain⟨⟨old,s1⟩,_⟩:=st
  exact wpAny_pyIter_enum s1 h
theorem mr:bootBuiltins "enumerate" = some (.type "enumerate"):=by decide +kernel
def Bc(K:PySem.W.Frag)(ta:TA):TI:=fun σ H R=>ta σ H fun vs H1=>∃ a:Addr,vs=[.ref a]∧(∃ xs,H1 a=some (.lst xs))∧R (yz K a) H1
theorem pB(K:PySem.W.Frag)(ta:TA){σ : St}{H:Hp}{R:It→Hp→Prop}:Bc K ta σ H R=ta σ H fun vs H1=>∃ a:Addr,vs=[.ref a]∧(∃ xs,H1 a=some (.lst xs))∧R (yz K a) H1:=rfl
theorem tu(n:Addr)(P:Addr→Prop):(∃ i,[V.ref n]=[V.ref i]∧P i)=P n:=propext ⟨fun ⟨_,e,h⟩=>by cases e; exact h,fun h=>⟨n,rfl,h⟩⟩
theorem qX(K:PySem.W.Frag){X:Cx}{elts:List Expr}{k:Nat}{tpos:Pos}{a:Expr}{ta:TA}{p pos:Pos}(hg:Gl X "enumerate") (hm:X.mg "enumerate" = none) (ha:PA X [a] ta) (hs:starEach [a] X.env=[(false,eval a X.env)]:=by rfl) (hK:X.K=K:=by rfl) :
  PI X (.Tuple elts k tpos) (.Call (.Name "enumerate" p) [a] [] pos) (Bc K ta):=by
 subst hK;intro pins s σ H R I h
 refine Call_ (gX I hg hm mr (PyProof.Rows.callWith_type1 (aZ (ha pos pins s σ H _ I h) fun us s1 ⟨vs,H1,I1,r1,q1⟩=>?_) hs rfl))
 obtain⟨l,e,⟨xs,h1⟩,q⟩:=q1
 subst e;obtain⟨u1,rfl,r1'⟩:=dH r1
 obtain rfl:u1=Value.ref l:=r1'
 obtain⟨hz,its,n,rv,hl⟩ : xs.length≤sizeLine∧∃ (its:List Value) (n:Nat),Vals xs its∧s1.heap.get? l=some { cls:=.type "list", data:=.seq its.toArray n }:=I1.hok l _ h1
 refine call_enumerate_1 hl fun h' a1 a4 a6 kk=>?_
 refine wpAny_pyIter_enum a1 ⟨_,[s1.heap.objs.size+1,s1.heap.objs.size],_,_,H1,rfl,I1.kept (t':=s1.toks) kk,
  wO (e:=s1.heap.objs.size+1) (it:=s1.heap.objs.size) (Nat.ne_of_gt (Nat.lt_succ_self _)),⟨⟨_,a1⟩,a4⟩,fun b hb=>?_,q⟩
 have hb':s1.heap.objs.size≤b:=by
  simp only[List.mem_cons,List.mem_nil_iff,or_false]at hb
  rcases hb with rfl | rfl <;> first | exact Nat.le_refl _ | exact Nat.le_add_right _ _
 exact I1.fpOk hb' (I1.hok.fresh hb')
section
variable{K:PySem.W.Frag}{a b:Addr}{xs ys:List V}{g:TG}{te:TE}{nT:Nat}{σ : St}{D:Addr}{Q:VK}{H:Hp}
theorem wj{tb:TS}{D:dM}(Pv:Nat→St→Hp→Prop)(h0:Pv 0 σ H)(hl:∀ i σ H,i≤xs.length→Pv i σ H→SqL K H a xs)
  (hs:∀ i x t σ H,xs[i]? = some x→Pv i σ H→H t=none→g (.ref t) σ (upd H t (.tup [.int i,x])) fun σ2 H2=>tb { D with nx:=Pv (i+1),ct:=Pv (i+1),bk:=D.nx } σ2 H2) (hd:∀ σ H,Pv xs.length σ H→D.nx σ H):iY (yz K a) g tb D σ H:=by
 refine jY xs.length Pv h0 (fun i σ H hi p=>⟨xs,xs[i],hl i σ H (Nat.le_of_lt hi) p,by simp[hi]⟩) (fun σ H p=>⟨xs,hl _ σ H (Nat.le_refl _) p,Nat.le_refl _⟩) (fun i σ H v H' hi p yl=>?_) hd
 obtain⟨t,x,ht,rfl,rfl,y1⟩:=yl
 exact hs i x t σ H (y1 xs (hl i σ H (Nat.le_of_lt hi) p)) p ht
def vg(n i:Nat)(Pv:Nat→List V→Hp→Prop)(ys:List V)(H:Hp):Prop:=∃ m',m'<n - i∧(m'=n - (i+1)∧i+1≤n∧Pv (i+1) ys H)
theorem uS{n i:Nat}{Pv:Nat→List V→Hp→Prop}{ys:List V}{H:Hp}(hi:i<n)(h:Pv (i+1) ys H):vg n i Pv ys H:=⟨n - (i+1),by omega,rfl,hi,h⟩
theorem qx{n i:Nat}{Pv:Nat→List V→Hp→Prop}{D:Addr}{ys:List V}{y:V}{H:Hp}(hi:i<n)(hlen:ys.length≤i)(hz:n≤sizeLine)(h1:H D=some (.lst ys))(h2:Pv (i+1) (ys++[y]) (upd H D (.lst (ys++[y])))):iQ n i Pv D ys y H:=
 ⟨h1,by omega,n - (i+1),by omega,rfl,hi,h2⟩
def oM(n i:Nat)(Pv:Nat→List V→Hp→Prop)(D:Addr)(ys:List V)(tc:TT)(te:TE)(σ : St)(H:Hp):Prop:=
 tc σ H fun b H4=>if b=true then te σ H4 (iQ n i Pv D ys) else vg n i Pv ys H4
theorem qC{n i:Nat}{Pv:Nat→List V→Hp→Prop}{D:Addr}{ys:List V}{tc:TT}{te:TE}{σ : St}{H:Hp}:oM n i Pv D ys tc te σ H=tc σ H fun b H4=>if b=true then te σ H4 (iQ n i Pv D ys) else vg n i Pv ys H4:=rfl
theorem pJ{J:It}{tc:TT}(n:Nat)(Pv:Nat→List V→Hp→Prop)(h0:Pv 0 [] H)(hgo:∀ i ys H,i<n→Pv i ys H→J.go i H)(hst:∀ ys H,Pv n ys H→J.stop n H)
  (hs:∀ i ys H x H',i<n→Pv i ys H→J.yld i H x H'→g x (σ++List.replicate nT none) H' (oM n i Pv D ys tc te))
  (hd:∀ ys H,Pv n ys H→Q (.ref D) H):gB J g tc te nT σ D Q H:=by
 refine⟨fun i m ys H=>m=n - i∧i≤n∧Pv i ys H,⟨n,by simp,Nat.zero_le _,h0⟩,?_⟩
 rintro i m ys H ⟨rfl,hi,p⟩
 by_cases hlt:i<n
 ·exact .inr ⟨hgo i ys H hlt p,fun x H' y=>hs i ys H x H' hlt p y⟩
 ·have e:i=n:=by omega
  subst e;exact .inl ⟨hst ys H p,hd ys H p⟩
theorem lM{tc:TT}(Pv:Nat→List V→Hp→Prop)(h0:Pv 0 [] H)(hl:∀ i ys H,i≤xs.length→Pv i ys H→SqL K H a xs)
  (hs:∀ i ys H x,xs[i]? = some x→i<xs.length→Pv i ys H→g x (σ++List.replicate nT none) H (oM xs.length i Pv D ys tc te))
  (hd:∀ ys H,Pv xs.length ys H→Q (.ref D) H):gB (lX K a) g tc te nT σ D Q H:=by
 refine pJ xs.length Pv h0 (fun i ys H hi p=>⟨xs,xs[i],hl i ys H (Nat.le_of_lt hi) p,by simp[hi]⟩) (fun ys H p=>⟨xs,hl _ ys H (Nat.le_refl _) p,Nat.le_refl _⟩) (fun i ys H x H' hi p yl=>?_) hd
 obtain⟨rfl,y⟩:=yl
 exact hs i ys _ x (y xs (hl i ys _ (Nat.le_of_lt hi) p)) hi p
end
end L2
namespace L2
open PySem PySem.Spec PyProof.Rows
theorem B_(lo hi:Option Int)(n:Nat):Builtin.Str.strSliceIndices lo hi 1 n=(List.range (HT.sIx n n hi - HT.sIx n 0 lo)).map (HT.sIx n 0 lo + ·):=by
 obtain⟨h1,h2,h3⟩:=jx lo hi n
 rw[← sliceRange_one,← h1,← h2]
 cases lo <;> cases hi <;> rfl
theorem xH(x:Str)(lo hi:Option Int):(Txt.slice x lo hi).cps.toList=(x.cps.toList.drop (HT.sIx x.length 0 lo)).take (HT.sIx x.length x.length hi - HT.sIx x.length 0 lo):=by
 have hn:x.cps.toList.length=x.length:=by simp[Str.length]
 have hb:=HT.sIx_le x.length x.length (Nat.le_refl _) hi;unfold Txt.slice;rw[B_]
 by_cases h:((1:Int) == 1&&((List.range (HT.sIx x.length x.length hi - HT.sIx x.length 0 lo)).map (HT.sIx x.length 0 lo + ·)).length == x.length)=true
 ·rw[if_pos h]
  simp only[List.length_map,List.length_range,Bool.and_eq_true,beq_iff_eq]at h
  have h2:=h.2;rcases Nat.eq_zero_or_pos x.length with z | z
  ·have e:x.cps.toList=[]:=List.eq_nil_of_length_eq_zero (by omega)
   rw[e]; simp
  ·have a0:HT.sIx x.length 0 lo=0:=by omega
   rw[a0,List.drop_zero,List.take_of_length_le (by omega)]
 ·rw[if_neg h]
  show ((List.filterMap _ _).toArray).toList=_
  rw[pick_run]
def D1:V→Option Int→Option Int→Hp→VK→Prop:=fun x lo hi H Q=>∃ y,x = .str y∧y.length≤sizeLine∧Q (.str (Txt.slice y lo hi)) H
theorem iw{X:Cx}:SlR X D1:=by
 intro pins s σ H x v vl vu lo hi sl Q I rx hs pl pu h
 obtain⟨y,rfl,hz,q⟩:=h
 obtain⟨t,rfl⟩:=rx
 obtain⟨l,hl,el⟩ : ∃ l:Option (Int × Tok),vl=partValue l∧l.map (·.1)=lo:=by
  cases pl with
  | none=>exact⟨none,rfl,rfl⟩
  | int i t=>exact⟨some (i,t),rfl,rfl⟩
 obtain⟨u,hu,eu⟩ : ∃ l:Option (Int × Tok),vu=partValue l∧l.map (·.1)=hi:=by
  cases pu with
  | none=>exact⟨none,rfl,rfl⟩
  | int i t=>exact⟨some (i,t),rfl,rfl⟩
 subst hl hu el eu;refine⟨"str", _,PySem.F.slot_str_getitem.lookup,typeIs_str _ _ _,wpAny_getItem_str_slice (l:=l) (u:=u) (st:=none) hs rfl (post_val_or_str ⟨Nat.le_trans (Txt.slice_le y _ _) hz,fun t' k=>⟨.str _,H,I.tok k,⟨t',rfl⟩,q⟩⟩)⟩
theorem sv{H:Hp}{Q:VK}(y:Str)(lo hi:Option Int):D1 (.str y) lo hi H Q=(y.length≤sizeLine∧Q (.str (Txt.slice y lo hi)) H):=propext ⟨fun ⟨_,e,h⟩=>by cases e; exact h,fun h=>⟨y,rfl,h⟩⟩
end L2
namespace L2
open PySem PySem.Spec PyProof.Rows
set_option genInjectivity false in
set_option genSizeOf false in
structure IK (prog:Program) (w:World) (κ : Type) [DecidableEq κ] where
 is:Heap→κ→Value→Prop
 hash:κ→Int
 draws:κ→Nat
 deep:Nat
 inj:∀ {h:Heap} {v:Value} {x y:κ},is h x v→is h y v→x=y
 keeps:∀ {h h':Heap} {k:κ} {v:Value} {d:Addr} {o:Obj} {es ep},is h k v→h.get? d=some o→o.data = .dict es ep→Heap.SameBut d h h'→is h' k v
 pyHash:∀ {A:Around} {E:Value→Shared→Prop} {s:Shared} {k:κ} {v:Value} {Q:Int→Shared→Prop},A.units+deep<cLine→is s.heap k v→Q (hash k) { s with toks:=s.toks+draws k }→
  wpAny (model prog w) A (PySem.pyHash v) Q E s
 eqBool:∀ {A:Around} {E:Value→Shared→Prop} {s:Shared} {x y:κ} {u v:Value} {Q:Bool→Shared→Prop},A.units+deep<cLine→is s.heap x u→is s.heap y v→Q (decide (x=y)) s→
  wpAny (model prog w) A (PySem.eqBool u v) Q E s
 quiet:∀ {A:Around} {E:Value→Shared→Prop} {s:Shared} {k:κ} {v:Value} {n:Nat} {Q:Bool→Shared→Prop},is s.heap k v→Q true s→wpAny (model prog w) A (eqIsQuiet (n+deep) v) Q E s
section
variable{prog:Program}{w:World}{κ : Type}[DecidableEq κ](K:IK prog w κ)
inductive IsItems (h:Heap):List κ→List Value→Prop
 | nil:IsItems h [] []
 | cons {k:κ} {v:Value} {ks:List κ} {vs:List Value}:K.is h k v→IsItems h ks vs→IsItems h (k::ks) (v::vs)
def IsTupK(h:Heap)(ks:List κ)(v:Value):Prop:=∃ a o items n,v = .ref a∧h.get? a=some o∧o.cls = .type "tuple" ∧ o.data = .seq items n∧IsItems K h ks items.toList
variable{K}
theorem IsItems.inj{h:Heap}:∀ {x y:List κ} {vs:List Value},IsItems K h x vs→IsItems K h y vs→x=y
 | _,_,_,.nil,.nil=>rfl
 | _,_,_,.cons a b,.cons c d=>by rw[K.inj a c,IsItems.inj b d]
theorem IsItems.keeps{h h':Heap}{d:Addr}{o:Obj}{es ep}(ho:h.get? d=some o)(hd:o.data = .dict es ep)(hs:Heap.SameBut d h h'):∀ {x:List κ} {vs:List Value},IsItems K h x vs→IsItems K h' x vs
 | _,_,.nil=>.nil
 | _,_,.cons a b=>.cons (K.keeps a ho hd hs) (b.keeps ho hd hs)
theorem IsItems.len{h:Heap}:∀ {x:List κ} {vs:List Value},IsItems K h x vs→x.length=vs.length
 | _,_,.nil=>rfl
 | _,_,.cons _ b=>by rw[List.length_cons,List.length_cons,b.len]
def ie(K:IK prog w κ)(ks:List κ):Nat:=(ks.map K.draws).sum
def pR(K:IK prog w κ)(ks:List κ):Int:=reduceHash (Builtin.Tuple.tupleHashOf (ks.map K.hash))
theorem jv{A:Around}{E:Value→Shared→Prop}{s:Shared}{ks:List κ}{v:Value}{Q:Int→Shared→Prop}(hu:A.units+(K.deep+1)<cLine)(hk:IsTupK K s.heap ks v)(h:Q (pR K ks) { s with toks:=s.toks+(ie K ks+1) }) :
  wpAny (model prog w) A (PySem.pyHash v) Q E s:=by
 obtain⟨a,o,items,n,rfl,ho,hc,hd,hi⟩:=hk
 have hT:s.TypeIs (.ref a) "tuple" := ⟨o,ho,hc⟩
 unfold PySem.pyHash
 first | unfold pyHashByItsType | skip
 first | refine wpAny_bind (wpAny_cRoomFor_or (.inr (by omega)) ?_) | skip
 refine wpAny_bind (wpAny_specialOf hT PySem.F.slot_tuple_hash.lookup ?_)
 rw[if_neg (by rw[beq_builtin_none]; exact Bool.false_ne_true)]
 refine wpAny_bind (wpAny_specialOf hT PySem.F.slot_tuple_hash.lookup ?_)
 show wpAny _ _ (callSpecialIfBoundUnlessNone? (.ref a) "__hash__" _ >>= _) Q E s
 refine wpAny_bind (wpAny_callSpecialIfBoundUnlessNone?_slot hT PySem.F.slot_tuple_hash (wpAny_call_entry PySem.F.slot_tuple_hash hT
  PySem.F.entry_tuple_hash ?_ (PySem.F.args_tuple_hash_1 _)))
 show wpAny _ _ (Builtin.Tuple.tupleItemsOf (.ref a) >>= _) _ _ s
 refine wpAny_bind (wpAny_tupleItemsOf ho hd (wpAny_bind ?_))
 rw[← Array.forIn_toList];refine wpAny_forIn_list _ (fun rest (b:Array Int) s'=>∃ done left,ks=done++left∧IsItems K s.heap left rest∧b.toList=done.map K.hash∧s'={ s with toks:=s.toks+ie K done }) _ ?_ ?_ _ _ ⟨[],ks,rfl,hi,rfl,rfl⟩
 ·rintro x rest b s' ⟨done,left,rfl,hl,hb,rfl⟩
  cases hl with
  | @cons k _ ks' _ h1 hl'=>
   have e:ie K (done++[k])=ie K done+K.draws k:=by simp[ie]
   refine wpAny_bind (K.pyHash (show A.in1.units+K.deep<cLine from by show A.units+1+K.deep<cLine; omega) h1 ?_)
   have fin:∃ done' left',done++k::ks'=done'++left'∧IsItems K s.heap left' rest∧(b.push (K.hash k)).toList=done'.map K.hash∧({ s with toks:=s.toks+ie K done+K.draws k }:Shared)={ s with toks:=s.toks+ie K done' }:=
    ⟨done++[k],ks',by simp,hl',by simp[hb],by rw[e,Nat.add_assoc]⟩
   first
    | exact wpAny_pure fin
    | exact wpAny_bind (wpAny_pure (wpAny_pure fin))
 ·rintro b s' ⟨done,left,rfl,hl,hb,rfl⟩
  cases hl;rw[List.append_nil]at h
  show wpAny _ _ (retInt (Builtin.Tuple.tupleHashOf b.toList)) _ _ _
  rw[hb];refine wpAny_ret_mkInt ?_
  unfold pR reduceHash at h;show wpAny _ _ (if (decide (-(2:Int) ^ 63≤Builtin.Tuple.tupleHashOf (done.map K.hash))&&decide (Builtin.Tuple.tupleHashOf (done.map K.hash)<2 ^ 63))=true then _ else _) Q E _
  by_cases hr:(decide (-(2:Int) ^ 63≤Builtin.Tuple.tupleHashOf (done.map K.hash))&&decide (Builtin.Tuple.tupleHashOf (done.map K.hash)<2 ^ 63))=true
  ·rw[if_pos hr]at h ⊢
   exact wpAny_pure (by simpa [Nat.add_assoc] using h)
  ·rw[if_neg hr]at h ⊢
   exact wpAny_bind (wpAny_rule (wpAny_pure (by simpa [Nat.add_assoc] using h)))
theorem vI{A:Around}{E:Value→Shared→Prop}{s:Shared}{x y:List κ}{a b:Addr}{P:Fin→Shared→Prop}(hu:A.units+K.deep<cLine)(hx:IsTupK K s.heap x (.ref a))(hy:IsTupK K s.heap y (.ref b))(h:P (.done (.ret (.bool (decide (x=y))))) s) :
  wpAny (model prog w) A (Builtin.«tuple.__eq__» ⟨[.ref a,.ref b],[]⟩) P E s:=by
 obtain⟨_,oa,xs,na,e1,hoa,ca,hda,hia⟩:=hx
 obtain⟨_,ob,ys,nb,e2,hob,cb,hdb,hib⟩:=hy
 cases e1
 cases e2;show wpAny _ _ (isInstance (.ref b) (.type "tuple") >>= _) _ _ s
 refine wpAny_bind (wpAny_isInstance ⟨ob,hob,cb⟩ isSubtype_tuple_tuple ?_)
 simp only[Bool.not_true,Bool.false_eq_true,if_false]
 refine wpAny_bind (wpAny_tupleItemsOf hoa hda (wpAny_bind (wpAny_tupleItemsOf hob hdb (wpAny_bind ?_))))
 refine wpAny_forIn_list _ (fun rest r s'=>r.1=none∧s'=s∧∃ x' y' xs' ys',rest=List.zip xs' ys'∧IsItems K s.heap x' xs'∧IsItems K s.heap y' ys'∧decide (x'=y')=decide (x=y)∧(xs'.length == ys'.length)=(xs.size == ys.size)) _ ?_ ?_ _ _
  ⟨rfl,rfl,x,y,xs.toList,ys.toList,rfl,hia,hib,rfl,by simp⟩
 ·rintro⟨u,v⟩ rest r s' ⟨hr,rfl,x',y',xs',ys',hz,hx',hy',hdec,hlen⟩
  cases hx' with
  | nil=>simp at hz
  | @cons k1 u' x'' xs'' h1 hx''=>
   cases hy' with
   | nil=>simp at hz
   | @cons k2 v' y'' ys'' h2 hy''=>
    simp only[List.zip_cons_cons,List.cons.injEq,Prod.mk.injEq]at hz
    obtain⟨⟨rfl,rfl⟩,rfl⟩:=hz
    refine wpAny_bind (K.eqBool (x:=k1) (y:=k2) hu h1 h2 ?_)
    by_cases hk:k1=k2
    ·subst hk
     rw[decide_eq_true rfl];simp only[Bool.not_true,Bool.false_eq_true,if_false]
     refine wpAny_pure ⟨rfl,rfl,x'',y'',xs'',ys'',rfl,hx'',hy'',?_,by simpa using hlen⟩
     rw[← hdec]
     by_cases hxy:x''=y'' <;> simp[hxy]
    ·rw[decide_eq_false hk]
     simp only[Bool.not_false,if_true]
     have hf:decide (x=y)=false:=by rw[← hdec]; simp[hk]
     rw[hf]at h
     exact wpAny_bind (wpAny_pure (wpAny_pure (wpAny_pure h)))
 ·rintro⟨r1,r2⟩ s' ⟨hr,rfl,x',y',xs',ys',hz,hx',hy',hdec,hlen⟩
  simp only at hr
  subst hr;refine wpAny_pure ?_
  have hfin:(xs.size == ys.size)=decide (x=y):=by
   rw[← hdec,← hlen]
   cases hx' with
   | nil=>cases hy' <;> simp
   | cons _ _=>
    cases hy' with
    | nil=>simp
    | cons _ _=>simp at hz
  show P (.done (.ret (.bool (xs.size == ys.size)))) s'
  rw[hfin]; exact h
theorem mX{A:Around}{E:Value→Shared→Prop}{s:Shared}{x y:List κ}{u v:Value}{Q:Bool→Shared→Prop}(hu:A.units+(K.deep+1)<cLine)(hx:IsTupK K s.heap x u)(hy:IsTupK K s.heap y v)(h:Q (decide (x=y)) s) :
  wpAny (model prog w) A (PySem.eqBool u v) Q E s:=by
 have hx0:=hx;have hy0:=hy;obtain⟨a,oa,xs,na,rfl,hoa,ca,hda,hia⟩:=hx
 obtain⟨b,ob,ys,nb,rfl,hob,cb,hdb,hib⟩:=hy
 unfold PySem.eqBool
 try with_reducible refine wpAny_holding ?_
 show wpAny _ _ (if (Value.ref a == Value.ref b)=true then _ else _) Q E s
 by_cases hab:(Value.ref a == Value.ref b)=true
 ·rw[if_pos hab]
  have e:a=b:=by have:=eq_of_beq hab; injection this
  subst e;rw[hoa]at hob
  cases hob;rw[hda]at hdb
  injection hdb with e1 _
  subst e1;rw[decide_eq_true (hia.inj hib)]at h
  exact wpAny_bind (wpAny_rule (wpAny_pure h))
 ·rw[if_neg hab]
  have ta:s.TypeIs (.ref a) "tuple" := ⟨oa,hoa,ca⟩
  have tb:s.TypeIs (.ref b) "tuple" := ⟨ob,hob,cb⟩
  refine wpAny_bind (wpAny_richCompare_same_room (op:=.Eq) ta tb PySem.F.slot_tuple_eq (wpAny_call_entry PySem.F.slot_tuple_eq ta PySem.F.entry_tuple_eq ?_ (PySem.F.args_tuple_eq_2 _ _)) (by omega))
  refine vI (K:=K) ?_ hx0 hy0 ⟨_,rfl,(fun e=>nomatch e),wpAny_truthy_bool h⟩
  show A.units+1+K.deep<cLine
  omega
theorem i9{A:Around}{E:Value→Shared→Prop}{s:Shared}{ks:List κ}{v:Value}{n:Nat}{Q:Bool→Shared→Prop}(hk:IsTupK K s.heap ks v)(h:Q true s):wpAny (model prog w) A (eqIsQuiet (n+(K.deep+1)) v) Q E s:=by
 obtain⟨a,o,items,m,rfl,ho,hc,hd,hi⟩:=hk
 have hT:s.TypeIs (.ref a) "tuple" := ⟨o,ho,hc⟩
 rw[show n+(K.deep+1)=(n+K.deep)+1 from rfl];unfold eqIsQuiet;refine wpAny_bind (wpAny_specialOf hT PySem.F.slot_tuple_eq.lookup ?_)
 show wpAny _ _ (isInstance (.ref a) (.type "tuple") >>= _) _ _ s
 refine wpAny_bind (wpAny_isInstance hT isSubtype_tuple_tuple ?_)
 simp only[Bool.not_true,Bool.false_eq_true,if_false]
 refine wpAny_bind (wpAny_seqItems ho hd (wpAny_bind ?_))
 show wpAny _ _ (forIn items _ _) _ _ s
 rw[← Array.forIn_toList];refine wpAny_forIn_list _ (fun rest r s'=>r.1=none∧s'=s∧∃ ks',IsItems K s.heap ks' rest) _ ?_ ?_ _ _ ⟨rfl,rfl,ks,hi⟩
 ·rintro v rest r s' ⟨hr,rfl,ks',hall⟩
  cases hall with
  | cons h1 h2=>
   refine wpAny_bind (K.quiet h1 ?_)
   simp only[Bool.not_true,Bool.false_eq_true,if_false]
   exact wpAny_pure ⟨rfl,rfl,_,h2⟩
 ·rintro⟨r1,r2⟩ s' ⟨hr,rfl,_⟩
  simp only at hr
  subst hr;exact wpAny_pure h
def vE(K:IK prog w κ):IK prog w (List κ) where
 is:=IsTupK K
 hash:=pR K
 draws:=fun ks=>ie K ks+1
 deep:=K.deep+1
 inj:=by
  rintro h v x y ⟨a,oa,xs,na,rfl,hoa,ca,hda,hia⟩ ⟨b,ob,ys,nb,e,hob,cb,hdb,hib⟩
  cases e;rw[hoa]at hob
  cases hob;rw[hda]at hdb
  injection hdb with e1 _
  subst e1;exact hia.inj hib
 keeps:=by
  rintro h h' k v d o es ep ⟨a,oa,xs,na,rfl,hoa,ca,hda,hia⟩ ho hd hs
  have hne:a≠d:=by
   rintro rfl
   rw[hoa]at ho
   cases ho;rw[hd]at hda; cases hda
  exact⟨a,oa,xs,na,rfl,(hs.2 a hne).trans hoa,ca,hda,hia.keeps ho hd hs⟩
 pyHash:=fun hu hk h=>jv hu hk h
 eqBool:=fun hu hx hy h=>mX hu hx hy h
 quiet:=fun hk h=>i9 hk h
def A3(K:IK prog w κ)(hd:K.deep≤7):HeapKind prog w (List κ) where
 is:=fun h k a=>IsTupK K h k (.ref a)
 hash:=pR K
 draws:=fun ks=>ie K ks+1
 room:=fun A=>A.units+(K.deep+1)<cLine
 inj:=(vE K).inj
 keeps:=(vE K).keeps
 pyHash:=fun hu hk h=>jv hu hk h
 eqBool:=fun hu hx hy h=>mX hu hx hy h
 quiet:=fun {A E s k a Q} hk h=>by
  have q:=i9 (n:=7 - K.deep) (A:=A) (E:=E) hk h
  rwa [show 7 - K.deep+(K.deep+1)=8 by omega]at q
end
end L2
namespace L2
open PySem PySem.Spec PyProof.Rows
def iV:Option Int→V
 | none=>.non
 | some i=>.int i
theorem yL{x y:Option Int}{v:Value}(a:RelV (iV x) v)(b:RelV (iV y) v):x=y:=by
 have e:=a.inj b
 cases x <;> cases y <;> simp_all [iV]
theorem ol(x:Option Int):bU (iV x)=true:=by cases x <;> rfl
theorem Co(x y:Option Int):fL (iV x) (iV y)=decide (x=y):=by
 cases x with
 | none=>cases y <;> rfl
 | some i=>
  cases y with
  | none=>rfl
  | some j=>
   show (i == j)=_
   by_cases h:i=j <;> simp[h]
theorem xx{prog:Program}{w:World}{A:Around}{E:Value→Shared→Prop}{s:Shared}{Q:Int→Shared→Prop}(h:Q 0xFCA86420 { s with toks:=s.toks+1 }):wpAny (model prog w) A (PySem.pyHash .none) Q E s:=by
 have hT:s.TypeIs .none "NoneType" := rfl
 unfold PySem.pyHash
 first | unfold pyHashByItsType | skip
 refine wpAny_bind ?_
 rw[cRoomFor,if_neg (by decide)]
 refine wpAny_pure (wpAny_bind (wpAny_specialOf hT PySem.F.slot_NoneType_hash.lookup ?_))
 rw[if_neg (by rw[beq_builtin_none]; exact Bool.false_ne_true)]
 refine wpAny_bind (wpAny_specialOf hT PySem.F.slot_NoneType_hash.lookup ?_)
 show wpAny _ _ (callSpecialIfBoundUnlessNone? .none "__hash__" _ >>= _) Q E s
 refine wpAny_bind (wpAny_callSpecialIfBoundUnlessNone?_slot hT PySem.F.slot_NoneType_hash (wpAny_call_entry PySem.F.slot_NoneType_hash hT
  PySem.F.entry_NoneType_hash ?_ (PySem.F.args_NoneType_hash_1 _)))
 show wpAny _ _ (retInt 0xFCA86420) _ _ s
 refine wpAny_ret_mkInt ?_
 exact wpAny_pure h
def e8(prog:Program)(w:World):IK prog w (Option Int) where
 is:=fun _ k v=>RelV (iV k) v
 hash:=fun k=>match k with
  | none=>0xFCA86420
  | some i=>hashInt i
 draws:=fun _=>1
 deep:=0
 inj:=fun a b=>yL a b
 keeps:=fun a _ _ _=>a
 pyHash:=fun {A E s k v Q} _ hk h=>by
  cases k with
  | none=>
   obtain rfl:v=Value.none:=hk
   exact xx h
  | some i=>
   obtain⟨t,rfl⟩:=(show ∃ t,v=Value.int i t from hk)
   exact wpAny_pyHash_int h
 eqBool:=fun {A E s x y u v Q} _ hx hy h=>by
  have q:=lG (A:=A) (s:=s) hx hy (ol x) (ol y);rw[Co]at q
  exact q prog w E Q h
 quiet:=fun {A E s k v n Q} hk h=>by
  have e:carriedByValue v=true:=by
   cases k with
   | none=>obtain rfl:v=Value.none:=hk; rfl
   | some i=>obtain⟨t,rfl⟩:=(show ∃ t,v=Value.int i t from hk); rfl
  rw[eqIsQuiet_byValue _ e];exact wpAny_pure h
abbrev NI:=Sum Int (List (Option Int))
theorem IsTupK.tup{prog:Program}{w:World}{κ : Type}[DecidableEq κ]{K:IK prog w κ}{h:Heap}{l:List κ}{v:Value}(x:IsTupK K h l v):∃ a its,v = .ref a∧h.IsTuple a its:=by
 obtain⟨a,o,items,n,rfl,ho,hc,hd,hi⟩:=x
 exact⟨a,items,rfl,o,ho,hc,n,hd⟩
theorem tj{A:Around}{prog:Program}{w:World}(hu:A.units+1<cLine):A.units+((e8 prog w).deep+1)<cLine:=hu
end L2
namespace L2
open PySem PySem.Spec PyProof.Rows
abbrev AA:=Int × List (Option Int)
def nk(k:AA):List NI:=[.inl k.1,.inr k.2]
section
variable{P:Program}{w:World}{H:Hp}
end
section
variable{X:Cx}{pins:List (Addr × Obj)}{σ : St}{H:Hp}{s:Shared}{a b:Addr}{k:AA}{kvs:List (AA × V)}
theorem Paired.snoc{α β : Type}{F:α→β→Prop}{x:α}{y:β}(h:F x y):∀ {l:List α} {m:List β},Paired F l m→Paired F (l++[x]) (m++[y])
 | _,_,.nil=>.cons h .nil
 | _,_,.cons r t=>.cons r (Paired.snoc h t)
end
end L2
namespace L2
open PySem PySem.Spec PyProof.Rows PySem.SeqAt
section
variable{X:Cx}
def JJ(K:PySem.W.Frag):R2:=fun x y H Q=>qN K x y H Q∨∃ a kvs k v,x = .ref a∧y=kV k∧H a=some (.dK kvs)∧bN kvs k=some v∧Q v H
theorem qz(K:PySem.W.Frag)(hK:X.K=K:=by rfl):IxR X (JJ K):=by
 intro value slice pins s σ H x y v u Q I rx ry h hs
 rcases h with h | ⟨a,kvs,k,z,rfl,rfl,e,l,q⟩
 ·exact aG K hK value slice pins s σ H x y v u Q I rx ry h hs
 ·cases rx
  obtain⟨_,hd,vs,rel,dd⟩:=lA I.hok (.inl e)
  obtain⟨w',hw,rw'⟩:=RelO.some_of (v:=z) (o:=valueAt vs k) (by rw[← l]; exact rel.val k)
  have hl:typeLookup (.type "dict") "__getitem__" = pure (some (.builtin "dict.__getitem__")):=PySem.F.slot_dict_getitem.lookup
  exact subscriptTail_builtinR (x:=w') dd.typeIs hl (wpAny_getItem_of (oK ry) dd.mapOf hw ⟨rfl,z,H,I.tok _,rw',q⟩) hs
def FF:pe:=fun o i v H Q=>∃ a kvs k,o = .ref a∧i=kV k∧H a=some (.dK kvs)∧kvs.length<sizeLine∧Q (upd H a (.dK (cU kvs k v)))
theorem uO{n:Nat}(hr:Room n X.A):PSet X FF:=by
 intro pins s σ H o i v ov iv u Q I ro ri rv h
 obtain⟨a,kvs,k,rfl,rfl,e,hl,q⟩:=h
 cases ro;exact xP (by have:=hr.un; omega) I (DPut.k e hl) ri rv fun s' I'=>⟨_,I',q⟩
end
section
variable{K:PySem.W.Frag}{H:Hp}{Q:VK}
theorem EqN.ints{n:Nat}{a c:Addr}{ss ts:List Int}(h1:SqL K H a (ss.map V.int))(h2:SqL K H c (ts.map V.int)):EqN K H (n+1) (.ref a) (.ref c) (decide (ss=ts)):=by
 refine .inr ⟨a,c,_,_,rfl,rfl,.inl ⟨h1,h2⟩,?_⟩
 by_cases hl:ss.length=ts.length
 ·refine .inl ⟨fun i=>ss.getD i 0 == ts.getD i 0,by simp[hl],fun i x y e1 e2=>?_,?_⟩
  ·rw[List.getElem?_map]at e1 e2
   cases q1:ss[i]? with
   | none=>rw[q1]at e1; cases e1
   | some u=>
    cases q2:ts[i]? with
    | none=>rw[q2]at e2; cases e2
    | some v=>
     rw[q1]at e1; rw[q2]at e2
     cases e1; cases e2
     dsimp only
     rw[List.getD_eq_getElem?_getD,List.getD_eq_getElem?_getD,q1,q2];exact EqN.flat rfl rfl
  ·rw[List.length_map]
   by_cases e:ss=ts
   ·subst e
    rw[decide_eq_true rfl]
    symm
    rw[List.all_eq_true];intro i _
    simp
   ·rw[decide_eq_false e]
    symm
    rw[List.all_eq_false]
    have:∃ i:Nat,ss[i]? ≠ ts[i]?:=by
     refine Classical.byContradiction fun hn=>e (List.ext_getElem? fun i=>?_)
     exact Classical.byContradiction fun h=>hn ⟨i,h⟩
    obtain⟨i,hi⟩:=this
    have hlt:i<ss.length:=by
     refine Classical.byContradiction fun hn=>hi ?_
     rw[List.getElem?_eq_none (by omega),List.getElem?_eq_none (by omega)]
    refine⟨i,List.mem_range.mpr hlt,?_⟩
    rw[List.getD_eq_getElem?_getD,List.getD_eq_getElem?_getD,List.getElem?_eq_getElem hlt,List.getElem?_eq_getElem (by omega)]
    rw[List.getElem?_eq_getElem hlt,List.getElem?_eq_getElem (by omega)]at hi
    simpa using hi
 ·have e:ss≠ts:=fun e=>hl (by rw[e])
  rw[decide_eq_false e];exact .inr ⟨h1,h2,by simpa using hl,rfl⟩
end
section
variable{X:Cx}
end
end L2
namespace L2
open PySem PySem.Spec PyProof.Rows PySem.SeqAt
theorem BY{X:Cx}:MtR X "list.pop" An:=DH
section
variable{K:PySem.W.Frag}{H:Hp}{Q:VK}
theorem sZ(p:Addr):An (.ref p) [] H Q=∃ xs y,H p=some (.lst xs)∧xs[xs.length - 1]? = some y∧Q y (upd H p (.lst xs.dropLast)):=
 propext ⟨fun ⟨_,xs,y,e1,_,q⟩=>by cases e1; exact⟨xs,y,q⟩,fun ⟨xs,y,q⟩=>⟨p,xs,y,rfl,rfl,q⟩⟩
end
theorem ma{X:Cx}(K:PySem.W.Frag){o:Expr}{to:TE}{name:Str}{apos cpos:Pos}{T id:String}{r:V→List V→Hp→VK→Prop}(pa:PlainAttrs T)(slot:Slot T name id)(hty:typeOf (.builtin id)=pure (.type "method_descriptor")) (hm:MtR X id r) (ho:PE X o to)
  (hbase:attributeBase o name X.env (eval o X.env)=eval o X.env:=by rfl) (hline:(apos.endLine == cpos.line)=true:=by rfl) (hK:X.K=K:=by rfl):PE X (.Call (.Attribute o name apos) [] [] cpos) (zX K T r to):=hK ▸ Do pa slot hty hm ho hbase hline
end L2
namespace L2
open PySem PySem.Spec PyProof.Rows PySem.SeqAt
theorem tH:∀ (xs:List V) (us:List Value),xs.length=us.length→(∀ (j:Nat) x u,xs[j]? = some x→us[j]? = some u→RelV x u)→Vals xs us
 | [],[],_,_=>.nil
 | [],u::us,hl,_=>by simp at hl
 | x::xs,[],hl,_=>by simp at hl
 | x::xs,u::us,hl,h=>.cons (h 0 x u rfl rfl) (tH xs us (by simpa using hl) fun j a b e1 e2=>h (j+1) a b e1 e2)
section
variable{X:Cx}
end
section
variable{X:Cx}
end
section
variable{prog:Program}{w:World}{K:Type}[DecidableEq K]{knd:KeyKind prog w K}{A:Around}{E:Value→Shared→Prop}{s:Shared}
end
section
variable{X:Cx}
theorem lP{α β : Type}{F:α→β→Prop}:∀ {l:List α} {m:List β} {j:Nat} {a:α} {b:β},Paired F l m→l[j]? = some a→m[j]? = some b→F a b
 | _,_,0,_,_,.cons h _,e1,e2=>by
  cases e1; cases e2; exact h
 | _,_,j+1,_,_,.cons _ t,e1,e2=>lP (j:=j) t e1 e2
 | _,_,0,_,_,.nil,e1,_=>by cases e1
 | _,_,_+1,_,_,.nil,e1,_=>by cases e1
end
end L2
namespace L2
open PySem PySem.Spec PyProof.Rows PySem.SeqAt
end L2
namespace L2
open PySem PySem.Spec PyProof.Rows PySem.SeqAt
section
variable{prog:Program}{w:World}{K:Type}[DecidableEq K]{knd:KeyKind prog w K}{A:Around}{E:Value→Shared→Prop}{s:Shared}{G:SetTable→Prop}
def Fw(knd:KeyKind prog w K)(l:List (Int × Value)):Prop:=l.Pairwise fun e e'=>∀ k,knd.is k e.2=true→knd.is k e'.2=false
structure C7 (knd:KeyKind prog w K) (G:SetTable→Prop) (o:Obj) (es:Array (Int × Value)) (ep:Nat) (t:SetTable) (S:K→Bool) (n:Nat):Prop where
 ex:o.ExactSet
 dat:o.data = .set es ep t
 el:ElemsOf knd es.toList
 mem:∀ k,S k=true ↔ ∃ e∈es.toList,knd.is k e.2=true
 few:es.size<scanBound
 fit:t.fits es.size=true
 num:es.size=n
 good:G t
 apart:Fw knd es.toList
theorem stored{h:Heap}{a:Addr}{o:Obj}{es:Array (Int × Value)}{ep:Nat}{t:SetTable}{S:K→Bool}{n:Nat}{es':Array (Int × Value)}{t':SetTable}{S':K→Bool}{n':Nat}(ho:h.get? a=some o)(T:C7 knd G o es ep t S n)
  (T':∀ o',o'.ExactSet→o'.data = .set es' (ep+1) t'→C7 knd G o' es' (ep+1) t' S' n'):∃ o',(h.update a (Obj.putSet es' t')).get? a=some o'∧C7 knd G o' es' (ep+1) t' S' n':=by
 have hp:=putSet_of es' t' T.dat;have hg:=Heap.get?_update_self (Obj.putSet es' t') ho (by rw[hp]; rfl)
 rw[hp]at hg
 exact⟨_,hg,T' _ T.ex rfl⟩
end
end L2
namespace L2
open PySem PySem.Spec PyProof.Rows PySem.SeqAt
section
variable{prog:Program}{w:World}{A:Around}{R:Result→Shared→Prop}{I:Addr}{fp wr:List Addr}{Gm:Array GenState→Array GenState→Prop}{n:Nat}{P:Nat→Value→Prop}{St:Nat→Shared→Prop}{L:Bool}
end
section
variable{prog:Program}{w:World}{A:Around}{E:Value→Shared→Prop}{s:Shared}
end
end L2
namespace L2
open PySem PySem.Spec PyProof.Rows PySem.SeqAt
section
variable{X:Cx}
end
end L2
namespace L2
open PySem PySem.Spec PyProof.Rows PySem.SeqAt
section
variable{M:Model}{A:Around}{E:Value→Shared→Prop}
end
end L2
namespace L2
open PySem PySem.Spec PyProof.Rows PySem.SeqAt
section
variable{prog:Program}{w:World}{A:Around}{E:Value→Shared→Prop}{s:Shared}
end
end L2
namespace L2
open PySem PySem.Spec PyProof.Rows PySem.SeqAt
section
variable{prog:Program}{w:World}{A:Around}{E:Value→Shared→Prop}{s:Shared}
end
end L2
namespace L2
open PySem PySem.Spec PyProof.Rows PySem.SeqAt
section
variable{prog:Program}{w:World}{A:Around}{E:Value→Shared→Prop}{s:Shared}
end
end L2
namespace L2
open PySem PySem.Spec PyProof.Rows PySem.SeqAt
section
variable{prog:Program}{w:World}{A:Around}{E:Value→Shared→Prop}{s:Shared}
end
end L2
namespace L2
open PySem PySem.Spec PyProof.Rows PySem.SeqAt
section
variable{prog:Program}{w:World}{A:Around}{E:Value→Shared→Prop}{s:Shared}
end
end L2
namespace L2
open PySem PySem.Spec PyProof.Rows PySem.SeqAt
section
variable{prog:Program}{w:World}{A:Around}{E:Value→Shared→Prop}{s:Shared}
end
section
variable{X:Cx}
end
end L2
namespace L2
open PySem PySem.Spec PyProof PyProof.Rows
section
variable{X:Cx}
theorem CJ:bootBuiltins "max" = some (.builtin "max"):=by decide +kernel
end
end L2
namespace L2
open PySem PySem.Spec PyProof PyProof.Rows
inductive Ents (w:World):List DictEntry→List (Str × V)→Prop
 | nil:Ents w [] []
 | cons {x:Str} {t:Tok} {y:V} {v:Value} {es:List DictEntry} {kvs:List (Str × V)}:RelV y v→Ents w es kvs→Ents w (⟨PyData.keyHash w.params x,.str x t,v⟩::es) ((x,y)::kvs)
theorem Ents.vs{P:Program}{w:World}{es:List DictEntry}{kvs:List (Str × V)}(h:Ents w es kvs):∃ vs:List (Str × Value),KV kvs vs∧PySem.Pairs (PySem.strKind P w) es vs∧vs.map (·.1)=kvs.map (·.1)∧∀ e∈es,∃ k,(PySem.strKind P w).is k e.key=true∧e.hash=(PySem.strKind P w).hash k:=by
 induction h with
 | nil=>exact⟨[],.nil,.nil,rfl,fun _ h=>nomatch h⟩
 | @cons x t y v es kvs r _ ih=>
  obtain⟨vs,h1,h2,h3,h4⟩:=ih
  have hx:(PySem.strKind P w).is x (.str x t)=true:=by show Value.isStrOf x (.str x t)=true; simp[Value.isStrOf]
  refine⟨(x,v)::vs,.cons ⟨rfl,r⟩ h1,.cons hx rfl h2,by rw[List.map_cons,List.map_cons,h3],fun e he=>?_⟩
  rcases List.mem_cons.mp he with rfl | he
  ·exact⟨x,hx,rfl⟩
  ·exact h4 e he
structure ModD (w:World) (K:PySem.W.Frag) (d:Addr) (kvs:List (Str × V)):Prop where
 low:(d == sysModules)=false
 nd:(kvs.map (·.1)).Nodup
 at':∃ (o:Obj) (es:List DictEntry) (ep:Nat),K.lookup d=some o∧o.ExactDict∧o.data = .dict es.toArray ep∧Ents w es kvs
section
variable{X:Cx}{pins:List (Addr × Obj)}{σ : St}{H:Hp}{s:Shared}{d:Addr}{kvs:List (Str × V)}
theorem ModD.dict(h:ModD X.w X.K d kvs)(I:Inv X pins σ H s):∃ vs:List (Str × Value),KV kvs vs∧s.heap.DictOf (PySem.strKind X.prog X.w) d vs∧∃ ob,s.heap.get? d=some ob∧ob.dict=none:=by
 obtain⟨o,es,ep,h1,h2,h3,h4⟩:=h.at'
 obtain⟨vs,r1,r2,r3,r4⟩:=h4.vs (P:=X.prog)
 have e:=I.kIn d o h1;exact⟨vs,r1,⟨o,es.toArray,ep,e,h2,h3,fun x hx=>r4 x (by simpa using hx),by simpa using r2,by rw[r3]; exact h.nd⟩,o,e,h2.2.1⟩
theorem xF{P:Program}{w:World}{k:Str}{u:Value}(r:RelV (.str k) u):(PySem.strKind P w).is k u=true:=by
 obtain⟨t,rfl⟩:=r
 show Value.isStrOf k (.str k t)=true
 simp[Value.isStrOf]
end
section
variable{X:Cx}
def GK(w:World)(K:PySem.W.Frag):R2:=fun x y H Q=>∃ d kvs k z,x = .ref d∧y = .str k∧ModD w K d kvs∧bN kvs k=some z∧Q z H
theorem Je(w:World)(K:PySem.W.Frag)(hw:X.w=w:=by rfl)(hK:X.K=K:=by rfl):IxR X (GK w K):=by
 subst hw hK;intro value slice pins s σ H x y v u Q I rx ry h hs
 obtain⟨d,kvs,k,z,rfl,rfl,m,l,q⟩:=h
 cases rx;obtain⟨vs,rel,dd,_⟩:=m.dict I
 obtain⟨w',hw,rw'⟩:=RelO.some_of (v:=z) (o:=valueAt vs k) (by rw[← l]; exact rel.val k)
 have hl:typeLookup (.type "dict") "__getitem__" = pure (some (.builtin "dict.__getitem__")):=PySem.F.slot_dict_getitem.lookup
 exact subscriptTail_builtinR (x:=w') dd.typeIs hl (wpAny_getItem_of (xF ry) dd.mapOf hw ⟨rfl,z,H,I.tok _,rw',q⟩) hs
def Fn(w:World)(K:PySem.W.Frag):V→List V→Hp→VK→Prop:=fun x xs H Q=>∃ d kvs k z,x = .ref d∧xs=[.str k,z]∧ModD w K d kvs∧Q ((bN kvs k).getD z) H
theorem B5(w:World)(K:PySem.W.Frag)(hw:X.w=w:=by rfl)(hK:X.K=K:=by rfl):MtR X "dict.get" (Fn w K):=by
 subst hw hK;intro pins s σ H x vs v us Q I rx rv h
 obtain⟨d,kvs,k,z,rfl,rfl,m,q⟩:=h
 cases rx;obtain⟨u,r,rfl,ru,rr⟩:=oG rv
 obtain⟨vs,rel,dd,_⟩:=m.dict I
 refine call_meetsIn PySem.F.slot_dict_get dd.typeIs PySem.F.entry_dict_get (PySem.F.args_dict_get_3 _ _ _) (meets_dict_get_default (PySem.strKind X.prog X.w) d (xF ru) m.low r) ⟨_,dd.mapOf,_,H,I.tok _,?_,q⟩
 exact(rel.val k).getD rr
def DX(w:World)(K:PySem.W.Frag)(r:V→List V→Hp→VK→Prop)(to:TE)(t:TA):TE:=fun σ H Q=>to σ H fun x H1=>(∃ d kvs,x = .ref d∧ModD w K d kvs)∧t σ H1 fun xs H2=>r x xs H2 Q
theorem Fc{o e:Expr}{es:List Expr}{to:TE}{t:TA}{name:Str}{apos cpos:Pos}{id:String}{r:V→List V→Hp→VK→Prop}(w:World)(K:PySem.W.Frag)(pa:PlainAttrs "dict") (slot:Slot "dict" name id) (hty:typeOf (.builtin id)=pure (.type "method_descriptor")) (hm:MtR X id r) (ho:PE X o to) (ha:PA X (e::es) t)
  (hbase:attributeBase o name X.env (eval o X.env)=eval o X.env:=by rfl)
  (hfew:((backTo cpos (starEach (e::es) X.env)).all (fun x=>!x.1)&&(backToKw cpos (keywordEach [] X.env)).all (fun x=>x.1.isSome)&&decide ((e::es).length+([]:List Keyword).length+(if ([]:List Keyword).isEmpty then 0 else 1)<30))=true:=by rfl)
  (hline:(apos.endLine == cpos.line)=true:=by rfl) (hs:starEach (e::es) X.env=(false,eval e X.env)::starEach es X.env:=by rfl) (hplain:(backTo cpos (starEach es X.env)).any (·.1)=false:=by rfl) (hw:X.w=w:=by rfl) (hK:X.K=K:=by rfl) :
  PE X (.Call (.Attribute o name apos) (e::es) [] cpos) (DX w K r to t):=by
 subst hw hK;intro pins s σ H Q I h
 refine wpAny_Call_method_late hbase hfew hline rfl (aZ (ho pins s σ H _ I h) fun v s1 ⟨x,H1,I1,r1,ty,q1⟩=>?_)
 obtain⟨d,kvs,rfl,m⟩:=ty
 have e1:v = .ref d:=r1
 subst e1;obtain⟨vs,rel,dd,ob,eo,en⟩:=m.dict I1
 refine⟨"dict", id,pa,slot,hty,dd.typeIs,fun a ea=>⟨ob,by cases ea; exact eo,en⟩,?_⟩
 have hA:=ha cpos pins s1 σ H1 _ I1 q1;rw[hs]at hA ⊢
 refine Calls.callWith_builtin (by show (false||(backTo cpos (starEach es X.env)).any (·.1))=false; rw[hplain] <;> rfl) (Calls.evalArgs_plain ?_)
 exact aZ hA fun us s2 ⟨vs,H2,I2,r2,q2⟩=>hm pins s2 σ H2 _ vs _ us Q I2 r1 r2 q2
end
theorem ur{w:World}{K:PySem.W.Frag}{r:V→List V→Hp→VK→Prop}{to:TE}{t:TA}{σ : St}{H:Hp}{Q:VK}:DX w K r to t σ H Q=to σ H fun x H1=>(∃ d kvs,x = .ref d∧ModD w K d kvs)∧t σ H1 fun xs H2=>r x xs H2 Q:=rfl
end L2
namespace L2
open PySem PySem.Spec PyProof PyProof.Rows
section
variable{prog:Program}{w:World}{A:Around}{E:Value→Shared→Prop}{s:Shared}
def TSt(i t:Addr)(zs:Array Value)(k:Nat)(h:Heap):Prop:=h.IsTupleIter i t k∧h.IsTuple t zs
theorem TSt.ext{i t b:Addr}{zs:Array Value}{k:Nat}{h h':Heap}(x:TSt i t zs k h)(hs:Heap.ExtBut b h h')(n1:i≠b)(n2:t≠b):TSt i t zs k h':=⟨x.1.extBut hs n1,x.2.extBut hs n2⟩
theorem kL{i t:Addr}{k:Nat}{zs:Array Value}{v:Value}{Q:Value→Shared→Prop}(st:TSt i t zs k s.heap)(nit:t≠i)(hv:zs[k]? = some v)
  (q:∀ h',TSt i t zs (k+1) h'→Heap.SameBut i s.heap h'→Q v { s with heap:=h' }):wpAny (model prog w) A (Builtin.SmallTypes.nextOf (.ref i)) Q E s:=by
 obtain⟨hi,ht⟩:=id st
 obtain⟨ob,e1,e2,e3⟩:=id hi
 obtain⟨ot,f1,_,m,f2⟩:=id ht
 unfold Builtin.SmallTypes.nextOf;refine wpAny_bind (wpAny_callSpecial?_slot (name:=Str.ofString "__next__") hi.typeIs PySem.F.slot_tuple_iterator_next (wpAny_call_entry PySem.F.slot_tuple_iterator_next hi.typeIs PySem.F.entry_tuple_iterator_next ?_ (PySem.F.args_tuple_iterator_next_1 _)))
 show wpAny _ _ (field (.ref i) 0 >>= _) _ _ s
 refine wpAny_bind (wpAny_field e1 e3 (x:=.ref t) rfl ?_)
 show wpAny _ _ (if (Value.ref t == Value.none)=true then _ else _) _ _ s
 have hno:¬ ((Value.ref t == Value.none)=true):=Bool.false_ne_true
 rw[if_neg hno];show wpAny _ _ (field (.ref i) 1 >>= _) _ _ s
 refine wpAny_bind (wpAny_field e1 e3 (x:=.int k 0) rfl ?_)
 show wpAny _ _ (seqItems? (.ref t) >>= _) _ _ s
 refine wpAny_bind (wpAny_seqItems f1 f2 ?_)
 simp only[Int.toNat_natCast,hv]
 refine wpAny_bind (wpAny_setField e1 e3 (by simp) (wpAny_pure ⟨v,rfl,wpAny_pure (q _ ⟨?_,?_⟩ (Heap.SameBut.update ..))⟩))
 ·exact⟨_,Heap.get?_update_self _ e1 (Obj.isFreed_of_fields (Obj.data_mapFields e3 _)),(Obj.cls_mapFields ..).trans e2,by rw[Obj.data_mapFields e3]; simp[rawInt]⟩
 ·exact ht.extBut (Heap.SameBut.update ..).extBut nit
theorem uk{i t:Addr}{k:Nat}{zs:Array Value}{Q:Value→Shared→Prop}(hh:A.handled=none)(st:TSt i t zs k s.heap)(hv:zs[k]? = none)
  (q:∀ h' e,Heap.ExtBut i s.heap h'→(∃ o,h'.get? e=some o∧o.cls = .type "StopIteration")→E (.ref e) { s with heap:=h' }):wpAny (model prog w) A (Builtin.SmallTypes.nextOf (.ref i)) Q E s:=by
 obtain⟨hi,ht⟩:=id st
 obtain⟨ob,e1,e2,e3⟩:=id hi
 obtain⟨ot,f1,_,m,f2⟩:=id ht
 unfold Builtin.SmallTypes.nextOf;refine wpAny_bind (wpAny_callSpecial?_slot (name:=Str.ofString "__next__") hi.typeIs PySem.F.slot_tuple_iterator_next (wpAny_call_entry PySem.F.slot_tuple_iterator_next hi.typeIs PySem.F.entry_tuple_iterator_next ?_ (PySem.F.args_tuple_iterator_next_1 _)))
 show wpAny _ _ (field (.ref i) 0 >>= _) _ _ s
 refine wpAny_bind (wpAny_field e1 e3 (x:=.ref t) rfl ?_)
 show wpAny _ _ (if (Value.ref t == Value.none)=true then _ else _) _ _ s
 have hno:¬ ((Value.ref t == Value.none)=true):=Bool.false_ne_true
 rw[if_neg hno];show wpAny _ _ (field (.ref i) 1 >>= _) _ _ s
 refine wpAny_bind (wpAny_field e1 e3 (x:=.int k 0) rfl ?_)
 show wpAny _ _ (seqItems? (.ref t) >>= _) _ _ s
 refine wpAny_bind (wpAny_seqItems f1 f2 ?_)
 simp only[Int.toNat_natCast,hv]
 refine wpAny_bind (wpAny_rule (wpAny_bind (wpAny_setField e1 e3 (by simp) ?_)))
 show wpAny _ _ (newExc (.type "StopIteration") [] >>= fun z=>_) _ _ _
 refine wpAny_bind ?_
 simp only[newTuple,newExc]
 refine wpAny_bind (wpAny_newObj_type (hd:=by size_fits) ?_)
 refine wpAny_bind (m:=firstArgMember _ _) (wpAny_of_eq (a:=Value.none) (by first | (simp only[firstArgMember]; rfl) | rfl) ?_)
 refine wpAny_newObj_type (hd:=by size_fits) ?_
 simp only[raiseNew]
 refine wpAny_bind (wpAny_handled ?_)
 have hn:A.in1.handled=none:=hh
 first | rw[hn] | rw[hh]
 refine wpAny_bind (wpAny_pure (wpAny_throw (q _ _ (((Heap.SameBut.update ..).extBut.push _).push _) ⟨_,Heap.get?_push_size _ rfl,rfl⟩)))
variable{z TI TO i1 i2 t1 t2:Addr}{xs ys:Array Value}{k1 k2:Nat}{a b:Value}
theorem wU{x y:Value}{Q:Value→Shared→Prop}(D:ZipApart z TI TO i1 i2 t1 t2)(gz:IsZip s.heap z TI TO .none)(gI:IsPair s.heap TI (.ref i1) (.ref i2))(gO:IsPair s.heap TO a b)
  (g1:TSt i1 t1 xs k1 s.heap) (g2:TSt i2 t2 ys k2 s.heap) (hx:xs[k1]? = some x) (hy:ys[k2]? = some y)
  (q:∀ h',IsZip h' z TI TO (rawInt s.heap.objs.size)→IsPair h' TO x y→TSt i1 t1 xs (k1+1) h'→TSt i2 t2 ys (k2+1) h'→IsPair h' s.heap.objs.size x y→h'.objs.size=s.heap.objs.size+1→
   (∀ c o,c≠z→c≠TO→c≠i1→c≠i2→s.heap.get? c=some o→h'.get? c=some o)→Q (.ref s.heap.objs.size) { s with heap:=h' }) :
  wpAny (model prog w) A (Builtin.«zip.__next__» ⟨[.ref z],[]⟩) (fun fin s'=>∃ v,fin = .done (.ret v)∧Q v s') E s:=by
 show wpAny _ _ (field (.ref z) 2 >>= fun _=>_) _ _ _
 refine wpAny_bind (wpAny_field gz rfl (x:=.bool false) rfl ?_)
 show wpAny _ _ (field (.ref z) 3 >>= fun _=>_) _ _ _
 refine wpAny_bind (wpAny_field gz rfl (x:=.ref TI) rfl (wpAny_bind (wpAny_seqItems gI rfl ?_)))
 show wpAny _ _ (Builtin.SmallTypes.ownedTupleIsFree (.ref z) >>= fun _=>_) _ _ _
 refine wpAny_bind ?_
 unfold Builtin.SmallTypes.ownedTupleIsFree;refine wpAny_bind (wpAny_field gz rfl (x:=.none) rfl (wpAny_pure ?_))
 simp only[if_true]
 refine wpAny_bind (wpAny_rule (wpAny_bind (wpAny_field gz rfl (x:=.ref TO) rfl (wpAny_bind (wpAny_setField_rec gz (by simp) fun ha z1 m1=>?_)))))
 replace z1:IsZip ha z TI TO .ellipsis:=z1
 refine wpAny_bind ?_
 simp only[List.zipIdx_nil,List.zipIdx_cons,List.forIn_nil,List.forIn_cons]
 refine wpAny_bind (wpAny_bind (wpAny_onRaise ?_))
 show wpAny _ _ (Builtin.SmallTypes.nextOf (.ref i1) >>= fun _=>_) _ _ _
 refine wpAny_bind (kL (g1.ext m1.extBut D.i1z D.l1z) D.l1i1 hx fun hb r1 m2=>wpAny_pure ?_)
 have o2:IsPair hb TO a b:=m2.extBut _ _ D.TOi1 (m1.extBut _ _ D.TOz gO)
 refine wpAny_bind (wpAny_seqItems o2 rfl (wpAny_bind (wpAny_updateSeq_pair o2 fun hc o3 m3=>wpAny_bind (wpAny_letGo (wpAny_pure ?_)))))
 replace o3:IsPair hc TO x b:=o3
 refine wpAny_bind (wpAny_bind (wpAny_onRaise ?_))
 show wpAny _ _ (Builtin.SmallTypes.nextOf (.ref i2) >>= fun _=>_) _ _ _
 refine wpAny_bind (kL (((g2.ext m1.extBut D.i2z D.l2z).ext m2.extBut D.i12.symm D.l2i1).ext m3.extBut D.TOi2.symm D.l2TO) D.l2i2 hy fun hd r2 m4=>wpAny_pure ?_)
 have o4:IsPair hd TO x b:=m4.extBut _ _ D.TOi2 o3
 refine wpAny_bind (wpAny_seqItems o4 rfl (wpAny_bind (wpAny_updateSeq_pair o4 fun he o5 m5=>wpAny_bind (wpAny_letGo (wpAny_pure (wpAny_pure ?_))))))
 replace o5:IsPair he TO x y:=o5
 refine wpAny_bind (wpAny_seqItems o5 rfl (wpAny_bind (wpAny_newTuple ?_)))
 have hsz:he.objs.size=s.heap.objs.size:=by rw[m5.1,m4.1,m3.1,m2.1,m1.1]
 have z5:IsZip he z TI TO .ellipsis:=m5.extBut _ _ D.TOz.symm (m4.extBut _ _ D.i2z.symm (m3.extBut _ _ D.TOz.symm (m2.extBut _ _ D.i1z.symm z1)))
 have kp:∀ c o,c≠z→c≠TO→c≠i1→c≠i2→s.heap.get? c=some o→he.get? c=some o:=fun c o c1 c2 c3 c4 e=>m5.extBut _ _ c2 (m4.extBut _ _ c4 (m3.extBut _ _ c2 (m2.extBut _ _ c3 (m1.extBut _ _ c1 e))))
 have r1':TSt i1 t1 xs (k1+1) he:=((r1.ext m3.extBut D.TOi1.symm D.l1TO).ext m4.extBut D.i12 D.l1i2).ext m5.extBut D.TOi1.symm D.l1TO
 have r2':TSt i2 t2 ys (k2+1) he:=r2.ext m5.extBut D.TOi2.symm D.l2TO
 have zlt:z<he.objs.size:=Heap.lt_size z5
 show wpAny _ _ (Builtin.SmallTypes.ownedTupleHandOut (.ref z) (.ref he.objs.size) >>= fun _=>_) _ _ _
 refine wpAny_bind ?_
 unfold Builtin.SmallTypes.ownedTupleHandOut;have z6:IsZip (he.push { cls:=.type "tuple", data:=.seq #[x,y] }) z TI TO .ellipsis:=Heap.get?_push_of_some _ z5
 refine wpAny_bind (wpAny_setField_rec z6 (by simp) fun hf z7 m7=>?_)
 replace z7:IsZip hf z TI TO (rawInt he.objs.size):=z7
 refine wpAny_setField_rec z7 (by simp) fun hg z8 m8=>?_
 replace z8:IsZip hg z TI TO (rawInt he.objs.size):=z8
 have up:∀ c o,c≠z→he.get? c=some o→hg.get? c=some o:=fun c o c1 e=>m8.extBut _ _ c1 (m7.extBut _ _ c1 (Heap.get?_push_of_some _ e))
 have t8:IsPair hg he.objs.size x y:=m8.extBut _ _ (Nat.ne_of_gt zlt) (m7.extBut _ _ (Nat.ne_of_gt zlt) (Heap.get?_push_size _ rfl))
 have s8:hg.objs.size=he.objs.size+1:=by rw[m8.1,m7.1,Heap.size_push]
 rw[hsz]at z8 t8 s8
 refine wpAny_pure ⟨_,rfl,?_⟩
 show Q (.ref he.objs.size) _
 rw[hsz];have ex:Heap.ExtBut z he hg:=fun c o c1 e=>up c o c1 e
 exact q hg z8 (up _ _ D.TOz o5) (r1'.ext ex D.i1z D.l1z) (r2'.ext ex D.i2z D.l2z) t8 s8 fun c o c1 c2 c3 c4 e=>up c o c1 (kp c o c1 c2 c3 c4 e)
theorem zn{Q:Fin→Shared→Prop}(hh:A.handled=none)(D:ZipApart z TI TO i1 i2 t1 t2)(gz:IsZip s.heap z TI TO .none)(gI:IsPair s.heap TI (.ref i1) (.ref i2))(gO:IsPair s.heap TO a b)
  (g1:TSt i1 t1 xs k1 s.heap) (g2:TSt i2 t2 ys k2 s.heap) (hend:xs[k1]? = none∨ys[k2]? = none)
  (q:∀ h' e,(∀ c o,c≠z→c≠TO→c≠i1→c≠i2→s.heap.get? c=some o→h'.get? c=some o)→(∃ o,h'.get? e=some o∧o.cls = .type "StopIteration")→E (.ref e) { s with heap:=h' }) :
  wpAny (model prog w) A (Builtin.«zip.__next__» ⟨[.ref z],[]⟩) Q E s:=by
 show wpAny _ _ (field (.ref z) 2 >>= fun _=>_) _ _ _
 refine wpAny_bind (wpAny_field gz rfl (x:=.bool false) rfl ?_)
 show wpAny _ _ (field (.ref z) 3 >>= fun _=>_) _ _ _
 refine wpAny_bind (wpAny_field gz rfl (x:=.ref TI) rfl (wpAny_bind (wpAny_seqItems gI rfl ?_)))
 show wpAny _ _ (Builtin.SmallTypes.ownedTupleIsFree (.ref z) >>= fun _=>_) _ _ _
 refine wpAny_bind ?_
 unfold Builtin.SmallTypes.ownedTupleIsFree;refine wpAny_bind (wpAny_field gz rfl (x:=.none) rfl (wpAny_pure ?_))
 simp only[if_true]
 refine wpAny_bind (wpAny_rule (wpAny_bind (wpAny_field gz rfl (x:=.ref TO) rfl (wpAny_bind (wpAny_setField_rec gz (by simp) fun ha z1 m1=>?_)))))
 replace z1:IsZip ha z TI TO .ellipsis:=z1
 refine wpAny_bind ?_
 simp only[List.zipIdx_nil,List.zipIdx_cons,List.forIn_nil,List.forIn_cons]
 refine wpAny_bind (wpAny_bind (wpAny_onRaise ?_))
 show wpAny _ _ (Builtin.SmallTypes.nextOf (.ref i1) >>= fun _=>_) _ _ _
 have stop:∀ {h':Heap} {e:Addr},IsZip h' z TI TO .ellipsis→(∃ o,h'.get? e=some o∧o.cls = .type "StopIteration")→e≠z:=fun {h' e} hz ⟨o,ho,hc⟩ n=>by
  subst n; rw[hz]at ho; cases ho; simp at hc
 rcases hx:xs[k1]? with _ | x
 ·refine wpAny_bind (uk hh (g1.ext m1.extBut D.i1z D.l1z) hx fun hb e m2 he=>?_)
  have z2:IsZip hb z TI TO .ellipsis:=m2 _ _ D.i1z.symm z1
  have nz:=stop z2 he;obtain⟨oe,p1,p2⟩:=he
  exact wpAny_setField_rec z2 (by simp) fun hc _ m3=>q hc e (fun c o c1 _ c3 _ x=>m3.extBut _ _ c1 (m2 _ _ c3 (m1.extBut _ _ c1 x))) ⟨oe,m3.extBut _ _ nz p1,p2⟩
 ·have hy:ys[k2]? = none:=by
   rcases hend with h | h
   ·rw[hx]at h; cases h
   ·exact h
  refine wpAny_bind (kL (g1.ext m1.extBut D.i1z D.l1z) D.l1i1 hx fun hb r1 m2=>wpAny_pure ?_)
  have o2:IsPair hb TO a b:=m2.extBut _ _ D.TOi1 (m1.extBut _ _ D.TOz gO)
  refine wpAny_bind (wpAny_seqItems o2 rfl (wpAny_bind (wpAny_updateSeq_pair o2 fun hc o3 m3=>wpAny_bind (wpAny_letGo (wpAny_pure ?_)))))
  refine wpAny_bind (wpAny_bind (wpAny_onRaise ?_))
  show wpAny _ _ (Builtin.SmallTypes.nextOf (.ref i2) >>= fun _=>_) _ _ _
  refine wpAny_bind (uk hh (((g2.ext m1.extBut D.i2z D.l2z).ext m2.extBut D.i12.symm D.l2i1).ext m3.extBut D.TOi2.symm D.l2TO) hy fun hd e m4 he=>?_)
  have z4:IsZip hd z TI TO .ellipsis:=m4 _ _ D.i2z.symm (m3.extBut _ _ D.TOz.symm (m2.extBut _ _ D.i1z.symm z1))
  have nz:=stop z4 he;obtain⟨oe,p1,p2⟩:=he
  exact wpAny_setField_rec z4 (by simp) fun hg _ m5=>q hg e (fun c o c1 c2 c3 c4 x=>m5.extBut _ _ c1 (m4 _ _ c4 (m3.extBut _ _ c2 (m2.extBut _ _ c3 (m1.extBut _ _ c1 x))))) ⟨oe,m5.extBut _ _ nz p1,p2⟩
end
end L2
namespace L2
open PySem PySem.Spec PyProof PyProof.Rows
section
variable{prog:Program}{w:World}{A:Around}{E:Value→Shared→Prop}{s:Shared}{z TI TO i1 i2 t1 t2:Addr}{xs ys:Array Value}{k1 k2:Nat}{a b:Value}
theorem vJ{x y:Value}{Q:Option Value→Shared→Prop}(D:ZipApart z TI TO i1 i2 t1 t2)(gz:IsZip s.heap z TI TO .none)(gI:IsPair s.heap TI (.ref i1) (.ref i2))(gO:IsPair s.heap TO a b)
  (g1:TSt i1 t1 xs k1 s.heap) (g2:TSt i2 t2 ys k2 s.heap) (hx:xs[k1]? = some x) (hy:ys[k2]? = some y)
  (q:∀ h',IsZip h' z TI TO (rawInt s.heap.objs.size)→IsPair h' TO x y→TSt i1 t1 xs (k1+1) h'→TSt i2 t2 ys (k2+1) h'→IsPair h' s.heap.objs.size x y→h'.objs.size=s.heap.objs.size+1→
   (∀ c o,c≠z→c≠TO→c≠i1→c≠i2→s.heap.get? c=some o→h'.get? c=some o)→Q (some (.ref s.heap.objs.size)) { s with heap:=h' }):wpAny (model prog w) A (pyNext (.ref z)) Q E s:=by
 have ty:s.TypeIs (.ref z) "zip" := ⟨_,gz,rfl⟩
 unfold pyNext
 exact wpAny_bind (wpAny_attempt (wpAny_callSpecial?_slot (name:=Str.ofString "__next__") ty PySem.F.slot_zip_next (wpAny_call_entry PySem.F.slot_zip_next ty PySem.F.entry_zip_next
  (wU D gz gI gO g1 g2 hx hy fun h' a1 a2 a3 a4 a5 a6 a7=>wpAny_pure (q h' a1 a2 a3 a4 a5 a6 a7)) (PySem.F.args_zip_next_1 _))))
theorem wJ{Q:Option Value→Shared→Prop}(hh:A.handled=none)(D:ZipApart z TI TO i1 i2 t1 t2)(gz:IsZip s.heap z TI TO .none)(gI:IsPair s.heap TI (.ref i1) (.ref i2))(gO:IsPair s.heap TO a b)
  (g1:TSt i1 t1 xs k1 s.heap) (g2:TSt i2 t2 ys k2 s.heap) (hend:xs[k1]? = none∨ys[k2]? = none)
  (q:∀ h',(∀ c o,c≠z→c≠TO→c≠i1→c≠i2→s.heap.get? c=some o→h'.get? c=some o)→Q none { s with heap:=h' }):wpAny (model prog w) A (pyNext (.ref z)) Q E s:=by
 have ty:s.TypeIs (.ref z) "zip" := ⟨_,gz,rfl⟩
 unfold pyNext
 refine wpAny_bind (wpAny_attempt (wpAny_callSpecial?_slot (name:=Str.ofString "__next__") ty PySem.F.slot_zip_next (wpAny_call_entry PySem.F.slot_zip_next ty PySem.F.entry_zip_next
  (zn hh D gz gI gO g1 g2 hend fun h' e kk he=>?_) (PySem.F.args_zip_next_1 _))))
 obtain⟨o,ho,hc⟩:=he
 exact wpAny_bind (wpAny_isInstance (T := "StopIteration") (b:=true) ⟨o,ho,hc⟩ isSubtype_stop (wpAny_pure (q _ kk)))
abbrev Bg (h:Heap) (t1:Addr):Heap:=h.push { cls:=.type "tuple_iterator", data:=.fields #[.ref t1,.int 0 0] }
abbrev A6 (h:Heap) (t1 t2:Addr):Heap:=(Bg h t1).push { cls:=.type "tuple_iterator", data:=.fields #[.ref t2,.int 0 0] }
abbrev Bx (h:Heap) (t1 t2:Addr):Heap:=(A6 h t1 t2).push { cls:=.type "tuple", data:=.seq #[.ref h.objs.size,.ref (Bg h t1).objs.size] }
abbrev Be (h:Heap) (t1 t2:Addr):Heap:=(Bx h t1 t2).push { cls:=.type "tuple", data:=.seq #[.none,.none] }
abbrev nw (h:Heap) (t1 t2:Addr):Heap:=(Be h t1 t2).push { cls:=.type "zip", data:=.fields #[.none,.bool false,.bool false,.ref (A6 h t1 t2).objs.size,.ref (Bx h t1 t2).objs.size] }
theorem uF(t1 t2:Addr)(xs ys:Array Value):Meets (Builtin.«zip.__new__» ⟨[.type "zip", .ref t1,.ref t2],[]⟩) (fun _ R s=>s.heap.IsTuple t1 xs∧s.heap.IsTuple t2 ys∧
   R (.ok (.ret (.ref (Be s.heap t1 t2).objs.size))) { s with heap:=nw s.heap t1 t2 }):=
 .of_wp fun prog w A R s q=>by
  obtain⟨hp,g,d,tk,os⟩:=s
  obtain⟨e1,e2,q⟩:=q
  have hsub:=sub_zip;have f1:Heap.IsTuple (Shared.heap ⟨hp,g,d,tk,os⟩) t1 xs:=e1
  have f2:Heap.IsTuple (Shared.heap ⟨hp.push { cls:=.type "tuple_iterator", data:=.fields #[.ref t1,.int 0 0] },g,d,tk,os⟩) t2 ys:=Heap.IsTuple.push e2 _
  wp_walk using wpAny_pyIter_tuple f1,wpAny_pyIter_tuple f2
  exact⟨_,rfl,q⟩
theorem xL{Q:Value→Shared→Prop}(e1:s.heap.IsTuple t1 xs)(e2:s.heap.IsTuple t2 ys)
  (q:∀ h',IsZip h' (s.heap.objs.size+4) (s.heap.objs.size+2) (s.heap.objs.size+3) .none→IsPair h' (s.heap.objs.size+2) (.ref s.heap.objs.size) (.ref (s.heap.objs.size+1))→
   IsPair h' (s.heap.objs.size+3) .none .none→TSt s.heap.objs.size t1 xs 0 h'→TSt (s.heap.objs.size+1) t2 ys 0 h'→
   (∀ c o,s.heap.get? c=some o→h'.get? c=some o)→Q (.ref (s.heap.objs.size+4)) { s with heap:=h' }):wpAny (model prog w) A (call (.type "zip") [.ref t1,.ref t2]) Q E s:=by
 refine callType_new PySem.F.called_zip (by decide) (PySem.F.typeCall_zip_2 _ _) (PySem.F.newCall_zip_2 _ _) (fun obj=>PySem.F.args_object_init_3 obj _ _) PySem.F.entry_zip_new (uF t1 t2 xs ys) ⟨e1,e2,?_⟩
 have z1:(Bg s.heap t1).objs.size=s.heap.objs.size+1:=Heap.size_push ..
 have z2:(A6 s.heap t1 t2).objs.size=s.heap.objs.size+2:=by rw[Heap.size_push,z1]
 have z3:(Bx s.heap t1 t2).objs.size=s.heap.objs.size+3:=by rw[Heap.size_push,z2]
 have z4:(Be s.heap t1 t2).objs.size=s.heap.objs.size+4:=by rw[Heap.size_push,z3]
 have p:∀ {h:Heap} {o:Obj} {c:Addr} {u:Obj},h.get? c=some u→(h.push o).get? c=some u:=fun e=>Heap.get?_push_of_some _ e
 have kk:∀ c o,s.heap.get? c=some o→(nw s.heap t1 t2).get? c=some o:=fun c o e=>p (p (p (p (p e))))
 have g5:(nw s.heap t1 t2).get? (Be s.heap t1 t2).objs.size=some _:=Heap.get?_push_size _ rfl
 have g4:(nw s.heap t1 t2).get? (Bx s.heap t1 t2).objs.size=some _:=p (Heap.get?_push_size _ rfl)
 have g3:(nw s.heap t1 t2).get? (A6 s.heap t1 t2).objs.size=some _:=p (p (Heap.get?_push_size _ rfl))
 have g2:(nw s.heap t1 t2).get? (Bg s.heap t1).objs.size=some _:=p (p (p (Heap.get?_push_size _ rfl)))
 have g1:(nw s.heap t1 t2).get? s.heap.objs.size=some _:=p (p (p (p (Heap.get?_push_size _ rfl))))
 show _∧_
 rw[z2,z3,z4]at g5
 rw[z1,z2]at g3
 rw[z3]at g4
 rw[z1]at g2
 rw[z4];have tt:∀ {t zs},s.heap.IsTuple t zs→(nw s.heap t1 t2).IsTuple t zs:=fun ⟨o,e,r⟩=>⟨o,kk _ _ e,r⟩
 exact⟨⟨_,g5,rfl⟩,q _ g5 g3 g4 ⟨⟨_,g1,rfl,rfl⟩,tt e1⟩ ⟨⟨_,g2,rfl,rfl⟩,tt e2⟩ kk⟩
end
def A1(K:PySem.W.Frag)(a b:Addr):It:=
  ⟨fun i H=>∃ xs ys x y,SqT K H a xs∧SqT K H b ys∧xs[i]? = some x∧ys[i]? = some y,
   fun i H v H'=>∃ t x y,H t=none∧v = .ref t∧H'=upd H t (.tup [x,y])∧(∀ xs,SqT K H a xs→xs[i]? = some x)∧∀ ys,SqT K H b ys→ys[i]? = some y,
   fun i H=>∃ xs ys,SqT K H a xs∧SqT K H b ys∧(xs.length≤i∨ys.length≤i)⟩
def UZ(z TI TO i1 i2 l1 l2:Addr)(i:Nat)(h:Heap):Prop:=
 IsZip h z TI TO .none∧IsPair h TI (.ref i1) (.ref i2)∧(∃ a b,IsPair h TO a b)∧h.IsTupleIter i1 l1 i∧h.IsTupleIter i2 l2 i
end L2
namespace L2
open PySem PySem.Spec PyProof PyProof.Rows
theorem SqT.apart{X:Cx}{pins:List (Addr × Obj)}{σ : St}{H:Hp}{s:Shared}{a c:Addr}{xs:List V}(I:Inv X pins σ H s)(hf:gP X pins H c)(h:SqT X.K H a xs):a≠c:=by
 rintro rfl
 rcases h with h | ⟨o,its,n,hk,_⟩
 ·rcases h with e | ⟨o,e⟩ <;> (rw[hf.1]at e; cases e)
 ·have e:=I.ok.mod.kin a o hk
  rcases hf.2.2.2.1 with z | z
  ·exact I.ok.noex a o e z
  ·exact absurd (Nat.lt_of_lt_of_le (Heap.lt_size (I.ok.bs a o e).1) z) (Nat.lt_irrefl _)
theorem xZ{P:Program}{w:World}{K:PySem.W.Frag}{elts:List Expr}{k:Nat}{pos:Pos}{z TI TO i1 i2 l1 l2:Addr}(D:yD z TI TO i1 i2):js P w K (.Tuple elts k pos) (A1 K l1 l2) [z,TI,TO,i1,i2] z (UZ z TI TO i1 i2 l1 l2) where
 mem:=by simp
 obj:=fun i h st b hb=>by
  obtain⟨s1,s2,⟨_,_,s3⟩,⟨o4,s4,c4,d4⟩,⟨o5,s5,c5,d5⟩⟩:=st
  simp only[List.mem_cons,List.mem_nil_iff,or_false]at hb
  rcases hb with rfl | rfl | rfl | rfl | rfl
  ·exact⟨_,s1,fun v e=>by cases e⟩
  ·exact⟨_,s2,fun v e=>by cases e⟩
  ·exact⟨_,s3,fun v e=>by cases e⟩
  ·exact⟨_,s4,fun v e=>by rw[d4]at e; cases e⟩
  ·exact⟨_,s5,fun v e=>by rw[d5]at e; cases e⟩
 keep:=fun i h h' st kk=>by
  obtain⟨s1,s2,⟨a,b,s3⟩,s4,s5⟩:=st
  exact⟨kk z (by simp) _ s1,kk TI (by simp) _ s2,⟨a,b,kk TO (by simp) _ s3⟩,s4.at fun o e=>kk i1 (by simp) o e,s5.at fun o e=>kk i2 (by simp) o e⟩
 item:=by
  intro X hP hw hK hc i pins s σ H E I hf st hg
  subst hP hw hK;obtain⟨xs,ys,x,y,q1,q2,hx,hy⟩:=hg
  obtain⟨is1,rv1,p1,_⟩:=I.tuple q1
  obtain⟨is2,rv2,p2,_⟩:=I.tuple q2
  obtain⟨u1,hu1,ru1⟩:=rv1.get hx
  obtain⟨u2,hu2,ru2⟩:=rv2.get hy
  have n1:∀ c∈[z,TI,TO,i1,i2],l1≠c:=fun c hc'=>SqT.apart I (hf c hc') q1
  have n2:∀ c∈[z,TI,TO,i1,i2],l2≠c:=fun c hc'=>SqT.apart I (hf c hc') q2
  have D':ZipApart z TI TO i1 i2 l1 l2:=⟨D.TIz,D.TOz,D.i1z,D.i2z,D.TITO,D.TIi1,D.TIi2,D.TOi1,D.TOi2,D.i12,n1 _ (by simp),n1 _ (by simp),n1 _ (by simp),n1 _ (by simp),n2 _ (by simp),n2 _ (by simp),n2 _ (by simp),n2 _ (by simp)⟩
  obtain⟨s1,s2,⟨a,b,s3⟩,s4,s5⟩:=st
  have e1:s.heap.IsTuple l1 is1.toArray:=p1
  have e2:s.heap.IsTuple l2 is2.toArray:=p2
  refine vJ D' s1 s2 s3 ⟨s4,e1⟩ ⟨s5,e2⟩ (x:=u1) (y:=u2) (by simpa using hu1) (by simpa using hu2) fun h' a1 a2 a3 a4 a5 a6 kk=>?_
  refine⟨_,rfl,wpAny_letOwnedTupleGo_zip a1 fun h'' hz' hs'=>?_⟩
  have lt:∀ {c o},s.heap.get? c=some o→s.heap.objs.size≠c:=fun e=>Nat.ne_of_gt (Heap.lt_size e)
  have zne:s.heap.objs.size≠z:=lt s1
  have keep2:∀ b o,b∉[z,TI,TO,i1,i2]→s.heap.get? b=some o→h''.get? b=some o:=fun b o hb e=>by
   simp only[List.mem_cons,List.mem_nil_iff,or_false,not_or]at hb
   exact hs'.extBut _ _ hb.1 (kk b o hb.1 hb.2.2.1 hb.2.2.2.1 hb.2.2.2.2 e)
  have hsz:H s.heap.objs.size=none:=I.hok.fresh (Nat.le_refl _)
  have tupN:IsPair h'' s.heap.objs.size u1 u2:=hs'.extBut _ _ zne a5
  have nlt:∀ c∈[z,TI,TO,i1,i2],c≠s.heap.objs.size:=fun c hc'=>by
   obtain⟨o4,e4,_⟩:=id s4
   obtain⟨o5,e5,_⟩:=id s5
   simp only[List.mem_cons,List.mem_nil_iff,or_false]at hc'
   rcases hc' with rfl | rfl | rfl | rfl | rfl
   ·exact(lt s1).symm
   ·exact(lt s2).symm
   ·exact(lt s3).symm
   ·exact(lt e4).symm
   ·exact(lt e5).symm
  refine⟨.ref s.heap.objs.size,upd H s.heap.objs.size (.tup [x,y]),I.turnedLaid (t':=s.toks) keep2 hf (Nat.le_refl _) ⟨bo (by show 2≤1000000; decide),[u1,u2],.cons ru1 (.cons ru2 .nil),⟨_,tupN,rfl,rfl,0,rfl⟩⟩,rfl,⟨_,x,y,hsz,rfl,rfl,fun xs' q'=>?_,fun ys' q'=>?_⟩,
   ⟨hz',hs'.extBut _ _ D.TIz (kk _ _ D.TIz D.TITO D.TIi1 D.TIi2 s2),⟨_,_,hs'.extBut _ _ D.TOz a2⟩,a3.1.extBut hs'.extBut D.i1z,a4.1.extBut hs'.extBut D.i2z⟩,fun c hc'=>?_⟩
  ·rw[I.tuple_inj q' q1]; exact hx
  ·rw[I.tuple_inj q' q2]; exact hy
  ·rw[ai (nlt c hc')]; exact(hf c hc').1
 done:=by
  intro X hP hw hK hc i pins s σ H E I hf st hg
  subst hP hw hK;obtain⟨xs,ys,q1,q2,hlen⟩:=hg
  obtain⟨is1,rv1,p1,_⟩:=I.tuple q1
  obtain⟨is2,rv2,p2,_⟩:=I.tuple q2
  have l1:=rv1.length;have l2:=rv2.length;have n1:∀ c∈[z,TI,TO,i1,i2],_≠c:=fun c hc'=>SqT.apart I (hf c hc') q1
  have n2:∀ c∈[z,TI,TO,i1,i2],_≠c:=fun c hc'=>SqT.apart I (hf c hc') q2
  have D':ZipApart z TI TO i1 i2 _ _:=⟨D.TIz,D.TOz,D.i1z,D.i2z,D.TITO,D.TIi1,D.TIi2,D.TOi1,D.TOi2,D.i12,n1 _ (by simp),n1 _ (by simp),n1 _ (by simp),n1 _ (by simp),n2 _ (by simp),n2 _ (by simp),n2 _ (by simp),n2 _ (by simp)⟩
  obtain⟨s1,s2,⟨a,b,s3⟩,s4,s5⟩:=st
  have e1:s.heap.IsTuple _ is1.toArray:=p1
  have e2:s.heap.IsTuple _ is2.toArray:=p2
  refine wJ (I.ok.hd hc) D' s1 s2 s3 ⟨s4,e1⟩ ⟨s5,e2⟩ ?_ fun h' kk=>⟨rfl,I.turnedL (t':=s.toks) (fun b o hb e=>?_) hf⟩
  ·rcases hlen with z | z
   ·exact .inl (by simp; omega)
   ·exact .inr (by simp; omega)
  ·simp only[List.mem_cons,List.mem_nil_iff,or_false,not_or]at hb
   exact kk b o hb.1 hb.2.2.1 hb.2.2.2.1 hb.2.2.2.2 e
 self:=fun A i s Q E st h=>wpAny_pyIter_zip st.1 h
def AZ(K:PySem.W.Frag)(ta:TA):TI:=fun σ H R=>ta σ H fun vs H1=>∃ a b:Addr,vs=[.ref a,.ref b]∧(∃ xs,SqT K H1 a xs)∧(∃ ys,SqT K H1 b ys)∧R (A1 K a b) H1
theorem qy(K:PySem.W.Frag)(ta:TA){σ : St}{H:Hp}{R:It→Hp→Prop}:AZ K ta σ H R=ta σ H fun vs H1=>∃ a b:Addr,vs=[.ref a,.ref b]∧(∃ xs,SqT K H1 a xs)∧(∃ ys,SqT K H1 b ys)∧R (A1 K a b) H1:=rfl
theorem tX(K:PySem.W.Frag){X:Cx}{elts:List Expr}{k:Nat}{tpos:Pos}{a b:Expr}{ta:TA}{p pos:Pos}(hg:Gl X "zip") (hm:X.mg "zip" = none) (ha:PA X [a,b] ta) (hs:starEach [a,b] X.env=[(false,eval a X.env),(false,eval b X.env)]:=by rfl) (hs2:starEach [b] X.env=[(false,eval b X.env)]:=by rfl) (hK:X.K=K:=by rfl) :
  PI X (.Tuple elts k tpos) (.Call (.Name "zip" p) [a,b] [] pos) (AZ K ta):=by
 subst hK;intro pins s σ H R I h
 refine Call_ (gX I hg hm yH (PyProof.Rows.callWith_type1 (aZ (ha pos pins s σ H _ I h) fun us s1 ⟨vs,H1,I1,r1,q1⟩=>?_) (by rw[hs,hs2]) (by rw[hs2]; rfl)))
 obtain⟨l1,l2,e,⟨xs,h1⟩,⟨ys,h2⟩,q⟩:=q1
 subst e;obtain⟨u1,u2,rfl,r1,r2⟩:=oG r1
 cases r1
 cases r2;obtain⟨is1,_,p1,_⟩:=I1.tuple h1
 obtain⟨is2,_,p2,_⟩:=I1.tuple h2
 refine xL (show s1.heap.IsTuple l1 is1.toArray from p1) (show s1.heap.IsTuple l2 is2.toArray from p2) fun h' a1 a2 a3 a4 a5 kk=>?_
 refine wpAny_pyIter_zip a1 ⟨_,[s1.heap.objs.size+4,s1.heap.objs.size+2,s1.heap.objs.size+3,s1.heap.objs.size,s1.heap.objs.size+1],_,_,H1,rfl,I1.kept (t':=s1.toks) kk,
  xZ (z:=s1.heap.objs.size+4) (TI:=s1.heap.objs.size+2) (TO:=s1.heap.objs.size+3) (i1:=s1.heap.objs.size) (i2:=s1.heap.objs.size+1) (JZ _),⟨a1,a2,⟨_,_,a3⟩,a4.1,a5.1⟩,fun b hb=>?_,q⟩
 have hb':s1.heap.objs.size≤b:=by
  simp only[List.mem_cons,List.mem_nil_iff,or_false]at hb
  rcases hb with rfl | rfl | rfl | rfl | rfl <;> first | exact Nat.le_refl _ | exact Nat.le_add_right _ _
 exact I1.fpOk hb' (I1.hok.fresh hb')
end L2
namespace L2
open PySem PySem.Spec PyProof PyProof.Rows
section
variable{prog:Program}{w:World}{A:Around}{E:Value→Shared→Prop}{s:Shared}
theorem oF{t sl:Addr}{items:Array Value}{vl vu:Value}{lo hi:Option Int}{Q:Value→Shared→Prop}(ht:IsTup s.heap t items)(hs:s.heap.IsSliceOf sl vl vu .none)(pl:PySem.IsPart vl lo)(pu:PySem.IsPart vu hi)
  (hw:HT.sIx items.size 0 lo=0∧HT.sIx items.size items.size hi=items.size) (q:Q (.ref t) s):wpAny (model prog w) A (getItem (.ref t) (.ref sl)) Q E s:=by
 obtain⟨os,g1,g2,g3⟩:=id hs
 have ty:s.TypeIs (.ref sl) "slice" := ⟨os,g1,g2⟩
 unfold getItem
 try with_reducible refine wpAny_holding ?_
 first | refine wpAny_bind (wpAny_pure ?_) | skip
 refine wpAny_bind (wpAny_sequenceKey ht.typeIs (by decide) (wpAny_bind (wpAny_callSpecial?_slot (name:=Str.ofString "__getitem__") ht.typeIs PyProof.Rows.slot_tuple_getitem (wpAny_call_entry PyProof.Rows.slot_tuple_getitem ht.typeIs entry_tuple_getitem ?_ (args_tuple_getitem _ _)))))
 show wpAny _ _ (Builtin.Tuple.tupleItemsOf (.ref t) >>= fun _=>_) _ _ s
 refine wpAny_bind (tupleItemsOf_ ht (wpAny_bind (wpAny_typeOf ty ?_)))
 rw[if_pos (by decide)]
 refine wpAny_bind (HT.sliceApplied_gen hs pl pu ?_)
 have hyes:((((HT.sIx items.size 0 lo:Nat):Int) == 0&&(1:Int) == 1&&(HT.sIx items.size items.size hi - HT.sIx items.size 0 lo) == items.size)=true):=by
  rw[hw.1,hw.2]; simp
 show wpAny _ _ (if (((HT.sIx items.size 0 lo:Nat):Int) == 0&&(1:Int) == 1&&(HT.sIx items.size items.size hi - HT.sIx items.size 0 lo) == items.size)=true then _ else _) _ _ s
 rw[if_pos hyes];refine wpAny_bind (m:=Builtin.Tuple.tupleIsExact _) (wpAny_bind (wpAny_typeOf ht.typeIs (wpAny_pure ?_)))
 have hb:(Value.type "tuple" == Value.type "tuple")=true:=by decide
 rw[hb,if_pos rfl];exact wpAny_bind (wpAny_rule (wpAny_pure ⟨_,rfl,wpAny_pure q⟩))
end
section
variable{X:Cx}
def Bu(K:PySem.W.Frag):V→Option Int→Option Int→Hp→VK→Prop:=fun x lo hi H Q=>∃ a xs,x = .ref a∧SqT K H a xs∧
 (HT.sIx xs.length 0 lo=0∧HT.sIx xs.length xs.length hi=xs.length→Q (.ref a) H)∧(¬ (HT.sIx xs.length 0 lo=0∧HT.sIx xs.length xs.length hi=xs.length)→∀ p,H p=none→Q (.ref p) (upd H p (.tup (dO xs lo hi))))
theorem j7(K:PySem.W.Frag)(hK:X.K=K:=by rfl):SlR X (Bu K):=by
 subst hK;intro pins s σ H x v vl vu lo hi sl Q I rx hs pl pu h
 obtain⟨a,xs,rfl,hx,q1,q2⟩:=h
 by_cases hw:HT.sIx xs.length 0 lo=0∧HT.sIx xs.length xs.length hi=xs.length
 ·have rx':=rx
  cases rx;obtain⟨its,r,ht,hz⟩:=I.tuple hx
  have hlen:its.toArray.size=xs.length:=by rw[List.size_toArray]; exact r.length.symm
  exact⟨"tuple", _,PyProof.Rows.slot_tuple_getitem.lookup,ht.typeIs,oF ht hs pl pu (by rw[hlen]; exact hw) ⟨.ref a,H,I,rx',q1 hw⟩⟩
 ·exact Ds pins s σ H _ v vl vu lo hi sl Q I rx hs pl pu ⟨a,xs,rfl,hx,hw,q2 hw⟩
theorem iO{K:PySem.W.Frag}{H:Hp}{Q:VK}{a:Addr}{lo hi:Option Int}{xs:List V}(h:SqT K H a xs)(q:∀ p H',Same H H'→SqT K H' p (dO xs lo hi)→Q (.ref p) H'):Bu K (.ref a) lo hi H Q:=by
 refine⟨a,xs,rfl,h,fun hw=>?_,fun _ p hp=>q p _ (al hp _) (SqT.of ah)⟩
 have e:dO xs lo hi=xs:=by unfold dO; rw[hw.1,hw.2]; simp
 exact q a H (fun _ _ e=>e) (by rw[e]; exact h)
theorem ul(xs:List V)(k:Nat):dO xs none (some (k:Int))=xs.take k:=by
 unfold dO;rw[HT.sIx_none,HT.sIx_nat,List.drop_zero,Nat.sub_zero];exact List.take_eq_take_min.symm
theorem ju(xs:List V)(k:Nat):dO xs (some (k:Int)) none=xs.drop k:=by
 unfold dO;rw[HT.sIx_none,HT.sIx_nat];rcases Nat.le_total k xs.length with h | h
 ·rw[Nat.min_eq_left h,List.take_of_length_le (by rw[List.length_drop]; omega)]
 ·rw[Nat.min_eq_right h,Nat.sub_self,List.take_zero,List.drop_eq_nil_of_le h]
def vp:List V→Hp→VK→Prop:=fun xs H Q=>(∃ i,xs=[.int i]∧i.natAbs.log2<1920∧Q (.str (toString i)) H)∨∃ y,xs=[.str y]∧Q (.str y) H
theorem wB:CallR X (.type "str") vp:=by
 intro pins s σ H xs us Q I r h
 rcases h with h | ⟨y,rfl,q⟩
 ·exact jr pins s σ H xs us Q I r h
 ·obtain⟨u,rfl,t,rfl⟩:=dH r
  exact PySem.P.str_of_str ⟨.str y,H,I,⟨t,rfl⟩,q⟩
theorem nE{H:Hp}{Q:VK}(i:Int):vp [.int i] H Q=(i.natAbs.log2<1920∧Q (.str (toString i)) H):=
 propext ⟨fun h=>by rcases h with ⟨_,e,h⟩ | ⟨_,e,_⟩ <;> cases e; exact h,fun h=>.inl ⟨i,rfl,h⟩⟩
theorem nZ{H:Hp}{Q:VK}(y:Str):vp [.str y] H Q=Q (.str y) H:=
 propext ⟨fun h=>by rcases h with ⟨_,e,h⟩ | ⟨_,e,h⟩ <;> cases e; exact h,fun h=>.inr ⟨y,rfl,h⟩⟩
theorem tY{x:Str}{d:Addr}{pos:Pos}(h:X.mg x=some (.ref d))(hg:Gl X x:=by first | exact vGg (by decide +kernel) | rfl)(hd:(x == ("__debug__" : Str))=false:=by decide):PE X (.Name x pos) (tC (.ref d)):=BG hg h rfl hd
theorem fR:MtR X "list.extend" mO:=xr
theorem fX{H:Hp}{Q:VK}(l b:Addr):mO (.ref l) [.ref b] H Q=∃ xs zs,H l=some (.lst xs)∧H b=some (.lst zs)∧xs.length+zs.length≤sizeLine∧Q .non (upd H l (.lst (xs++zs))):=
 propext ⟨fun ⟨_,_,xs,zs,e1,e2,q⟩=>by cases e1; cases e2; exact⟨xs,zs,q⟩,fun ⟨xs,zs,q⟩=>⟨l,b,xs,zs,rfl,rfl,q⟩⟩
theorem j0(K:PySem.W.Frag){tg l:Expr}{tl:TE}(hl:PE X l tl)(hK:X.K=K:=by rfl):PI X tg l (Aj K tl):=hK ▸ ER hl
theorem tW(K:PySem.W.Frag)(tl:TE){σ : St}{H:Hp}{R:It→Hp→Prop}:Aj K tl σ H R=tl σ H fun x H1=>∃ a,x = .ref a∧(∃ xs,SqT K H1 a xs)∧R (xT K a) H1:=rfl
end
section
variable{K:PySem.W.Frag}{a b:Addr}{xs ys:List V}{g:TG}{te:TE}{nT:Nat}{σ : St}{D:Addr}{Q:VK}{H:Hp}
theorem rJ{tb:TS}{D:dM}(Pv:Nat→St→Hp→Prop)(h0:Pv 0 σ H)(hl:∀ i σ H,i≤xs.length→Pv i σ H→SqT K H a xs)
  (hs:∀ i x σ H,xs[i]? = some x→Pv i σ H→g x σ H fun σ2 H2=>tb { D with nx:=Pv (i+1),ct:=Pv (i+1),bk:=D.nx } σ2 H2) (hd:∀ σ H,Pv xs.length σ H→D.nx σ H):iY (xT K a) g tb D σ H:=by
 refine jY xs.length Pv h0 (fun i σ H hi p=>⟨xs,xs[i],hl i σ H (Nat.le_of_lt hi) p,by simp[hi]⟩) (fun σ H p=>⟨xs,hl _ σ H (Nat.le_refl _) p,Nat.le_refl _⟩) (fun i σ H x H' hi p yl=>?_) hd
 obtain⟨rfl,y⟩:=yl
 exact hs i x σ _ (y xs (hl i σ _ (Nat.le_of_lt hi) p)) p
theorem ng(Pv:Nat→List V→Hp→Prop)(h0:Pv 0 [] H)(hl:∀ i ys H,i≤xs.length→Pv i ys H→SqT K H a xs)
  (hs:∀ i ys H x,xs[i]? = some x→i<xs.length→Pv i ys H→g x (σ++List.replicate nT none) H (lV xs.length i Pv D ys te))
  (hd:∀ ys H,Pv xs.length ys H→Q (.ref D) H):gB (xT K a) g p9 te nT σ D Q H:=by
 refine ph xs.length Pv h0 (fun i ys H hi p=>⟨xs,xs[i],hl i ys H (Nat.le_of_lt hi) p,by simp[hi]⟩) (fun ys H p=>⟨xs,hl _ ys H (Nat.le_refl _) p,Nat.le_refl _⟩) (fun i ys H x H' hi p yl=>?_) hd
 obtain⟨rfl,y⟩:=yl
 exact hs i ys _ x (y xs (hl i ys _ (Nat.le_of_lt hi) p)) hi p
theorem nJ{tb:TS}{D:dM}(Pv:Nat→St→Hp→Prop)(hn:xs.length=ys.length)(h0:Pv 0 σ H)(hl:∀ i σ H,i≤xs.length→Pv i σ H→SqT K H a xs∧SqT K H b ys)
  (hs:∀ i x y t σ H,xs[i]? = some x→ys[i]? = some y→Pv i σ H→H t=none→g (.ref t) σ (upd H t (.tup [x,y])) fun σ2 H2=>tb { D with nx:=Pv (i+1),ct:=Pv (i+1),bk:=D.nx } σ2 H2) (hd:∀ σ H,Pv xs.length σ H→D.nx σ H):iY (A1 K a b) g tb D σ H:=by
 refine jY xs.length Pv h0 (fun i σ H hi p=>⟨xs,ys,xs[i],ys[i],(hl i σ H (Nat.le_of_lt hi) p).1,(hl i σ H (Nat.le_of_lt hi) p).2,by simp[hi],by simp[hn ▸ hi]⟩) (fun σ H p=>⟨xs,ys,(hl _ σ H (Nat.le_refl _) p).1,(hl _ σ H (Nat.le_refl _) p).2,.inl (Nat.le_refl _)⟩) (fun i σ H v H' hi p yl=>?_) hd
 obtain⟨t,x,y,ht,rfl,rfl,y1,y2⟩:=yl
 exact hs i x y t σ H (y1 xs (hl i σ H (Nat.le_of_lt hi) p).1) (y2 ys (hl i σ H (Nat.le_of_lt hi) p).2) p ht
end
theorem SqT.same{K:PySem.W.Frag}{H H':Hp}{a:Addr}{xs:List V}(h:SqT K H a xs)(sm:Same H H'):SqT K H' a xs:=by
 rcases h with (h | ⟨o,h⟩) | h
 ·exact .inl (.inl (sm _ _ h))
 ·exact .inl (.inr ⟨o,sm _ _ h⟩)
 ·exact .inr h
theorem cn{α : Type}{x:α}{xs:List α}:eY (x::xs) 0=some x:=aR (j:=0) rfl
theorem SqT.updL{K:PySem.W.Frag}{H:Hp}{a l:Addr}{xs ys:List V}{o:HO}(h:SqT K H a xs)(hl:H l=some (.lst ys)):SqT K (upd H l o) a xs:=by
 rcases h with (h | ⟨o',h⟩) | h
 ·exact .inl (.inl (by rw[ai (bW h hl (fun z=>nomatch z))]; exact h))
 ·exact .inl (.inr ⟨o',by rw[ai (bW h hl (fun z=>nomatch z))]; exact h⟩)
 ·exact .inr h
end L2
namespace L2
open PySem PySem.Spec PyProof PyProof.Rows
section
variable{X:Cx}
def yo(K:PySem.W.Frag):V→List V→Hp→VK→Prop:=fun x vs H Q=>∃ (sep:Str) (p:Addr) (ss:List Str),x = .str sep∧vs=[.ref p]∧SqT K H p (ss.map V.str)∧(ss.map (·.length)).sum+ss.length * sep.length≤16777216∧Q (.str (Txt.join sep ss)) H
theorem Ah(K:PySem.W.Frag)(hK:X.K=K:=by rfl):MtR X "str.join" (yo K):=by
 subst hK;intro pins s σ H x xs v us Q I rx r h
 obtain⟨sep,p,ss,rfl,rfl,hq,hz,q⟩:=h
 obtain⟨t,rfl⟩:=rx
 obtain⟨u,rfl,ru⟩:=dH r
 cases ru;obtain⟨its,rv,pl,_⟩:=I.tuple hq
 exact join_tuple pl (by simpa using jk rv) hz fun t' k=>⟨.str (Txt.join sep ss),H,I.tok k,⟨t',rfl⟩,q⟩
theorem nr{K:PySem.W.Frag}{H:Hp}{Q:VK}(sep:Str)(p:Addr):yo K (.str sep) [.ref p] H Q=∃ ss,SqT K H p (ss.map V.str)∧(ss.map (·.length)).sum+ss.length * sep.length≤16777216∧Q (.str (Txt.join sep ss)) H:=
 propext ⟨fun ⟨_,_,ss,e1,e2,q⟩=>by cases e1; cases e2; exact⟨ss,q⟩,fun ⟨ss,q⟩=>⟨sep,p,ss,rfl,rfl,q⟩⟩
end
end L2
namespace L2
open PySem PySem.Spec PyProof PyProof.Rows
def Ba(K:PySem.W.Frag)(a:Addr)(n:Nat):It:=
 ⟨fun i H=>i<n∧∃ xs x,SqL K H a xs∧xs[n - 1 - i]? = some x,fun i H x H'=>H'=H∧∀ xs,SqL K H a xs→xs[n - 1 - i]? = some x,fun i _=>i=n⟩
theorem yJ{P:Program}{w:World}{K:PySem.W.Frag}{tg:Expr}(a it:Addr)(n:Nat):js P w K tg (Ba K a n) [it] it (fun i h=>h.IsRevIter it a ((n:Int) - 1 - (i:Nat))) where
 mem:=by simp
 obj:=fun i h st b hb=>by
  have e:b=it:=by simpa using hb
  subst e;obtain⟨o,e,c,d⟩:=st
  exact⟨o,e,fun v z=>by rw[d]at z; cases z⟩
 keep:=fun i h h' st k=>st.at fun o e=>k it (by simp) o e
 item:=by
  intro X hP hw hK hc i pins s σ H E I hf st hg
  subst hP hw hK;obtain⟨hi,xs,x,hq,hx⟩:=hg
  obtain⟨its,rv,p,hz⟩:=I.list hq
  obtain⟨u,hu,ru⟩:=rv.get hx
  obtain⟨f0,f1,f2,f3,f4,f5⟩:=hf it (by simp)
  have e:(n:Int) - 1 - (i:Int)=((n - 1 - i:Nat):Int):=by omega
  rw[e]at st
  refine wpAny_pyNext_rev_item st p.isList (x:=u) (by simpa using hu) fun h' st' sb=>?_
  have I1:Inv X pins σ H { s with heap:=h' }:=I.turned (t':=s.toks) (fun b o hb e=>(sb.2 b hb).trans e) f0 f1 f3 f4 f5
  have e2:((n - 1 - i:Nat):Int) - 1=(n:Int) - 1 - ((i+1:Nat):Int):=by omega
  rw[e2]at st'
  obtain⟨o,eo,c,d⟩:=id st'
  exact⟨u,rfl,oO (s:={ s with heap:=h' }) eo c d (by decide) ⟨x,H,I1,ru,⟨rfl,fun ys hy=>by rw[I.list_inj hy hq]; exact hx⟩,st',fun b hb=>(hf b hb).1⟩⟩
 done:=by
  intro X hP hw hK hc i pins s σ H E I hf st hg
  subst hP hw hK;obtain⟨f0,f1,f2,f3,f4,f5⟩:=hf it (by simp)
  have hg':i=n:=hg
  have e:(n:Int) - 1 - (i:Int) = -1:=by omega
  rw[e]at st
  exact wpAny_pyNext_rev_end (I.ok.hd hc) st fun h' eb=>⟨rfl,I.turned (t':=s.toks) (fun b o hb e=>eb b o hb e) f0 f1 f3 f4 f5⟩
 self:=fun _ _ _ _ _ st h=>wpAny_pyIter_revIter st h
theorem oE:bootBuiltins "reversed" = some (.type "reversed"):=by decide +kernel
def CO(K:PySem.W.Frag)(ta:TA):TI:=fun σ H R=>ta σ H fun vs H1=>∃ a:Addr,vs=[.ref a]∧∃ xs,SqL K H1 a xs∧R (Ba K a xs.length) H1
theorem s_(K:PySem.W.Frag)(ta:TA){σ : St}{H:Hp}{R:It→Hp→Prop}:CO K ta σ H R=ta σ H fun vs H1=>∃ a:Addr,vs=[.ref a]∧∃ xs,SqL K H1 a xs∧R (Ba K a xs.length) H1:=rfl
theorem D_(K:PySem.W.Frag){X:Cx}{tg:Expr}{a:Expr}{ta:TA}{p pos:Pos}(hg:Gl X "reversed") (hm:X.mg "reversed" = none) (ha:PA X [a] ta) (hs:starEach [a] X.env=[(false,eval a X.env)]:=by rfl) (hK:X.K=K:=by rfl) :
  PI X tg (.Call (.Name "reversed" p) [a] [] pos) (CO K ta):=by
 subst hK;intro pins s σ H R I h
 refine Call_ (gX I hg hm oE (PyProof.Rows.callWith_type1 (aZ (ha pos pins s σ H _ I h) fun us s1 ⟨vs,H1,I1,r1,q1⟩=>?_) hs rfl))
 obtain⟨l,e,xs,h1,q⟩:=q1
 subst e;obtain⟨u1,rfl,r1'⟩:=dH r1
 obtain rfl:u1=Value.ref l:=r1'
 obtain⟨its,rv,pl,hz⟩:=I1.list h1
 have hlen:its.toArray.size=xs.length:=by rw[List.size_toArray]; exact rv.length.symm
 refine call_reversed_list pl.isList ?_
 rw[hlen];have hit:(s1.heap.push (revObj l ((xs.length:Int) - 1))).IsRevIter s1.heap.objs.size l ((xs.length:Int) - 1 - ((0:Nat):Int)):=⟨_,Heap.get?_push_size _ rfl,rfl,by simp[revObj]⟩
 refine wpAny_pyIter_revIter (s:={ s1 with heap:=s1.heap.push (revObj l ((xs.length:Int) - 1)) }) hit ⟨s1.heap.objs.size,[s1.heap.objs.size],_,_,H1,rfl,I1.kept (t':=s1.toks) fun b o e=>Heap.get?_push_of_some _ e,yJ l _ xs.length,hit,fun b hb=>?_,q⟩
 have e:b=s1.heap.objs.size:=by simpa using hb
 subst e;exact I1.fpOk (Nat.le_refl _) (I1.hok.fresh (Nat.le_refl _))
section
variable{K:PySem.W.Frag}{a:Addr}{xs:List V}{g:TG}{σ : St}{H:Hp}
theorem AB{tb:TS}{D:dM}(Pv:Nat→St→Hp→Prop)(h0:Pv 0 σ H)(hl:∀ i σ H,i≤xs.length→Pv i σ H→SqL K H a xs)
  (hs:∀ i x σ H,i<xs.length→xs[xs.length - 1 - i]? = some x→Pv i σ H→g x σ H fun σ2 H2=>tb { D with nx:=Pv (i+1),ct:=Pv (i+1),bk:=D.nx } σ2 H2) (hd:∀ σ H,Pv xs.length σ H→D.nx σ H):iY (Ba K a xs.length) g tb D σ H:=by
 refine jY xs.length Pv h0 (fun i σ H hi p=>⟨hi,xs,xs[xs.length - 1 - i],hl i σ H (Nat.le_of_lt hi) p,List.getElem?_eq_getElem _⟩) (fun σ H p=>rfl) (fun i σ H x H' hi p yl=>?_) hd
 obtain⟨rfl,y⟩:=yl
 exact hs i x σ _ hi (y xs (hl i σ _ (Nat.le_of_lt hi) p)) p
end
end L2
namespace L2
open PySem PySem.Spec PyProof PyProof.Rows
theorem Fp{P:Program}{w:World}{k:aF}{u:Value}(h:(cJ P w).is k u=true):RelV (kV k) u:=by
 cases k with
 | inl i=>
  obtain⟨t,rfl⟩:=Value.isInt_shape (show Value.isInt i u=true from h)
  exact⟨t,rfl⟩
 | inr x=>
  obtain⟨t,rfl⟩:=Value.isStrOf_shape (show Value.isStrOf x u=true from h)
  exact⟨t,rfl⟩
section
variable{X:Cx}
def yu:List V→Hp→VK→Prop:=fun xs H Q=>∃ d kvs,xs=[.ref d]∧H d=some (.dK kvs)∧kvs.length≤60000∧∀ l,H l=none→Q (.ref l) (upd H l (.lst (kvs.map fun kv=>kV kv.1)))
theorem nt{H:Hp}{Q:VK}(d:Addr):yu [.ref d] H Q=∃ kvs,H d=some (.dK kvs)∧kvs.length≤60000∧∀ l,H l=none→Q (.ref l) (upd H l (.lst (kvs.map fun kv=>kV kv.1))):=
 propext ⟨fun ⟨_,kvs,e,q⟩=>by cases e; exact⟨kvs,q⟩,fun ⟨kvs,q⟩=>⟨d,kvs,rfl,q⟩⟩
theorem v5{m:Nat}(hr:Room m X.A):CallR X (.type "list") yu:=by
 intro pins s σ H xs us Q I r h
 obtain⟨d,kvs,rfl,ed,hn,q⟩:=h
 obtain⟨u,rfl,ru⟩:=dH r
 cases ru;obtain⟨_,hd,vs,rel,dd⟩:=lA I.hok (.inl ed)
 obtain⟨ep,hm⟩:=dd.dictAt
 have hs:sizeLine=16777216:=sizeLine_eq
 have hl:kvs.length=vs.length:=Paired.length rel
 refine PySem.W.kdl_call (PySem.W.kdl_dict (knd:=cJ X.prog X.w) (kvs:=vs) (ep:=ep) hd) hr.hd hm (by omega) fun h' tk acc' c' hk hS hacc=>?_
 refine⟨.ref s.heap.objs.size,_,I.laid hk (Nat.le_refl _) (show ObjOk X.prog X.w _ h' _ (.lst (kvs.map fun kv=>kV kv.1)) from ⟨by simp; omega,acc'.toList,c',?_,by simpa using hS⟩),rfl,q _ (I.hok.fresh (Nat.le_refl _))⟩
 refine tH _ _ (by simp[hacc.1,hl]) fun j x w' e1 e2=>?_
 obtain⟨k,y,hk',his⟩:=hacc.2 j w' (by rw[← Array.getElem?_toList]; exact e2)
 rw[List.getElem?_map]at e1
 cases hkv:kvs[j]? with
 | none=>rw[hkv]at e1; cases e1
 | some kv=>
  rw[hkv]at e1
  cases e1;have:=(lP rel hkv hk').1
  show RelV (kV kv.1) w'
  rw[this];exact Fp his
end
end L2
namespace L2
open PySem PySem.Spec PyProof PyProof.Rows PySem.SeqAt
section
variable{X:Cx}
end
end L2
namespace L2
open PySem PySem.Spec PyProof.Rows PySem.SeqAt
structure Fl (K:PySem.W.Frag) (C:Addr) (f:Str):Prop where
 c:Cls K C
 n:NoAttr K C f
structure MethAt (K:PySem.W.Frag) (C:Addr) (m qual:Str) (st:Stmt):Prop where
 ex:∃ f fd,Fun K m qual st f fd∧zi K C m f
 cl:Cls K C
structure MakeAt (K:PySem.W.Frag) (mg:Str→Option Value) (x:Str) (C:Addr) (qual:Str) (st:Stmt):Prop where
 ex:∃ f fd,Fun K "__init__" qual st f fd∧Mk K C f∧mg x=some (.ref C)
structure cB (P:Program) (w:World) (K:PySem.W.Frag) (mg:Str→Option Value) (base:Heap) (k:Nat) (C:Addr) (m:Str) (ps:List Str) (sp:Sp):Prop where
 ex:∃ f fd,FnOk P w K mg base ik k f fd ps sp∧Binds K fd ps []∧zi K C m f
 cl:Cls K C
structure jy (P:Program) (w:World) (K:PySem.W.Frag) (mg:Str→Option Value) (base:Heap) (k:Nat) (x:Str) (C:Addr) (ps:List Str) (sp:Sp):Prop where
 ex:∃ f fd,FnOk P w K mg base ik k f fd ps sp∧Binds K fd ps []∧Mk K C f∧mg x=some (.ref C)
section
variable{P:Program}{w:World}{K:PySem.W.Frag}{mg:Str→Option Value}{base:Heap}
theorem MethAt.mcal{C:Addr}{m qual:Str}{st:Stmt}{N ps:List Str}{k:Nat}{sp:Sp}(D:MethAt K C m qual st)(S:aA N ps (defScope st))
  (hb:∀ (kV doc pm:Value) (an:Option Addr) (cdv ct:Value) (us:List Value),us.length=ps.length→bindArgs (PySem.W.fnOf m qual (defArgs st) (defBody st) (defScope st) .none kV doc pm an cdv ct) ⟨us,[]⟩=pure (ps.zip us))
  (len:∀ vs H Q E,sp vs H Q E→vs.length=ps.length)
  (hbody:∀ (f:Addr) (cdv:Value) (A:Around) (outer:List Env) (s:Shared) (H:Hp) (vs:List V) (Q:VK) (E:XK),Room k (A.deeper (envOfC qual (defScope st) s.heap.objs.size f cdv))→sp vs H Q E→
   ∃ t,PSs (iE ik P w K mg base N qual (defScope st) f cdv A outer s H E).nox (defBody st) t∧t { nx:=fun _ H'=>Q .non H',rt:=Q } (start N vs) H):cB P w K mg base (k+1) C m ps sp:=by
 obtain⟨f,fd,F,m⟩:=D.ex
 exact⟨⟨f,fd,F.ok S len fun cdv A outer s H vs Q E hr h=>hbody f cdv A outer s H vs Q E hr h,F.binds hb,m⟩,D.cl⟩
theorem MakeAt.mkal{x:Str}{C:Addr}{qual:Str}{st:Stmt}{N ps:List Str}{k:Nat}{sp:Sp}(D:MakeAt K mg x C qual st)(S:aA N ps (defScope st))
  (hb:∀ (kV doc pm:Value) (an:Option Addr) (cdv ct:Value) (us:List Value),us.length=ps.length→bindArgs (PySem.W.fnOf "__init__" qual (defArgs st) (defBody st) (defScope st) .none kV doc pm an cdv ct) ⟨us,[]⟩=pure (ps.zip us))
  (len:∀ vs H Q E,sp vs H Q E→vs.length=ps.length)
  (hbody:∀ (f:Addr) (cdv:Value) (A:Around) (outer:List Env) (s:Shared) (H:Hp) (vs:List V) (Q:VK) (E:XK),Room k (A.deeper (envOfC qual (defScope st) s.heap.objs.size f cdv))→sp vs H Q E→
   ∃ t,PSs (iE ik P w K mg base N qual (defScope st) f cdv A outer s H E).nox (defBody st) t∧t { nx:=fun _ H'=>Q .non H',rt:=Q } (start N vs) H):jy P w K mg base (k+1) x C ps sp:=by
 obtain⟨f,fd,F,m,g⟩:=D.ex
 exact⟨f,fd,F.ok S len fun cdv A outer s H vs Q E hr h=>hbody f cdv A outer s H vs Q E hr h,F.binds hb,m,g⟩
end
def Bq(C:Addr)(f:Str)(ta:TE):TE:=fun σ H Q=>ta σ H fun x H1=>∃ a,x = .ref a∧∃ dx fs v,H1 a=some (.ins C dx fs)∧fs.lookup f=some v∧Q v H1
def AU(C:Addr)(f:Str)(ta tv:TE):TS:=fun D σ H=>tv σ H fun y H1=>ta σ H1 fun x H2=>∃ a,x = .ref a∧∃ dx fs,H2 a=some (.ins C dx fs)∧fs.length<1000∧D.nx σ (upd H2 a (.ins C dx (cN f y fs)))
def wA(C:Addr)(m:Str)(sp:Sp)(ta:TE)(t:TA):TE:=fun σ H Q=>ta σ H fun x H1=>∃ a,x = .ref a∧(∃ dx fs,H1 a=some (.ins C dx fs)∧fs.lookup m=none)∧t σ H1 fun vs H2=>sp (.ref a::vs) H2 Q E0
def xM(C:Addr)(sp:Sp)(t:TA):TE:=fun σ H Q=>t σ H fun vs H1=>∀ x dx,H1 x=none→H1 dx=none→dx≠x→sp (.ref x::vs) (upd (upd H1 dx (.own x)) x (.ins C dx [])) (fun v H2=>v = .non∧Q (.ref x) H2) E0
section
variable{X:Cx}{o e value:Expr}{es:List Expr}{f m:Str}{pos pos' apos p:Pos}{ta tv:TE}{t:TA}{C:Addr}{x:Str}{ps:List Str}{sp:Sp}{j k:Nat}
theorem aq(g:Fl X.K C f)(he:PE X e ta)(hb:attributeBase e f X.env (eval e X.env)=eval e X.env:=by rfl):PE X (.Attribute e f pos) (Bq C f ta):=by
 intro pins s σ H Q I h
 refine B7 hb (aZ (he pins s σ H _ I h) fun u s1 ⟨x,H1,I1,rx,a,ex,dx,fs,v,ea,l,q⟩=>?_)
 subst ex;obtain rfl:u=Value.ref a:=rx
 exact vH I1 ea g.c g.n l fun u' s2 I2 ru=>⟨v,H1,I2,ru,q⟩
theorem cR(g:Fl X.K C f)(ha:PE X o ta)(hv:PE X value tv)(hs:swapsWith value (some (.Attribute o f pos')) pos.line X.env=pure false:=by rfl):PS X (.Assign [.Attribute o f pos'] value pos) (AU C f ta tv):=by
 intro pins s σ H D I h
 refine plainObj_wpAny_Assign_Attribute (aZ (hv pins s σ H _ I h) fun u s1 ⟨y,H1,I1,ry,q⟩=>aZ (ha pins s1 σ H1 _ I1 q) fun ov s2 ⟨x,H2,I2,rx,a,ex,dx,fs,ea,l,q2⟩=>?_) hs
 subst ex;obtain rfl:ov=Value.ref a:=rx
 exact vU I2 ea g.c g.n l ry fun s3 I3=>⟨σ,_,I3,q2⟩
theorem bc(c:cB X.prog X.w X.K X.mg X.base j C m ps sp)(hr:Room k X.A)(he:PE X o ta)(ha:PA X (e::es) t)(hle:j≤k:=by decide){pl:Sem Bool}
  (hst:starEach (e::es) X.env=(false,eval e X.env)::starEach es X.env:=by rfl) (hpl:(backTo pos (starEach es X.env)).any (·.1)=false:=by rfl)
  (ht:eval (.Call (.Attribute o m apos) (e::es) [] pos) X.env=(do
   let ov ← eval o X.env
   standAt apos.atName
   let (f,first) ← holding [ov] (getMethod ov m pl)
   callWith pos f first (backTo pos (starEach (e::es) X.env)) (backToKw pos (keywordEach [] X.env))):=by rfl) :
  PE X (.Call (.Attribute o m apos) (e::es) [] pos) (wA C m sp ta t):=by
 obtain⟨f,fd,F,b,hm⟩:=c.ex
 intro pins s σ H Q I h
 refine PySem.W.methodCall_KW (pl:=pl) (aZ (he pins s σ H _ I h) fun u s1 ⟨x,H1,I1,rx,a,ex,⟨dx,fs,ea,l⟩,q⟩=>?_) ht
 subst ex;obtain rfl:u=Value.ref a:=rx
 refine vB I1 ea c.cl hm l ?_
 refine PySem.W.callWith_K (first:=[.ref a]) (h₀:=X.base) I.ok.mod.kin hm.kp (aZ (ha pos pins s1 σ H1 _ I1 q) fun us s2 ⟨vs,H2,I2,r,q2⟩=>⟨I2.kIn,?_⟩) hst hpl
 exact ya (us:=.ref a::us) (vs:=.ref a::vs) F (hr.mono hle) b .nil vD I2 (.cons rfl r) (by rw[List.append_nil]; exact q2)
theorem wa(c:jy X.prog X.w X.K X.mg X.base j x C ps sp)(hr:Room k X.A)(ha:PA X (e::es) t)(hle:j+1≤k:=by decide)(hg:Gl X x:=by first | exact vGg (by decide +kernel) | rfl)(hdb:(x == ("__debug__" : Str))=false:=by decide)
  (he:starEach (e::es) X.env=(false,eval e X.env)::starEach es X.env:=by rfl) (hpl:(backTo pos (starEach es X.env)).any (·.1)=false:=by rfl) :
  PE X (.Call (.Name x p) (e::es) [] pos) (xM C sp t):=by
 obtain⟨f,fd,F,b,M,hm⟩:=c.ex
 intro pins s σ H Q I h
 refine wpAny_Call_Name_kw (mP I hg hm ?_ hdb)
 refine PySem.W.callWith_K (h₀:=X.base) I.ok.mod.kin M.kp (aZ (ha pos pins s σ H _ I h) fun us s1 ⟨vs,H1,I1,r,q⟩=>⟨I1.kIn,?_⟩) he hpl
 exact yY M F (hr.mono hle) b .nil vD I1 r (by simpa only[List.append_nil] using q)
end
section
variable{C:Addr}{f m:Str}{sp:Sp}{ta tv:TE}{t:TA}{σ : St}{H:Hp}{Q:VK}
theorem pz:Bq C f ta σ H Q=ta σ H fun x H1=>∃ a,x = .ref a∧∃ dx fs v,H1 a=some (.ins C dx fs)∧fs.lookup f=some v∧Q v H1:=rfl
theorem q8{D:dM}:AU C f ta tv D σ H=tv σ H fun y H1=>ta σ H1 fun x H2=>∃ a,x = .ref a∧∃ dx fs,H2 a=some (.ins C dx fs)∧fs.length<1000∧D.nx σ (upd H2 a (.ins C dx (cN f y fs))):=rfl
theorem nD:wA C m sp ta t σ H Q=ta σ H fun x H1=>∃ a,x = .ref a∧(∃ dx fs,H1 a=some (.ins C dx fs)∧fs.lookup m=none)∧t σ H1 fun vs H2=>sp (.ref a::vs) H2 Q E0:=rfl
theorem nv:xM C sp t σ H Q=t σ H fun vs H1=>∀ x dx,H1 x=none→H1 dx=none→dx≠x→sp (.ref x::vs) (upd (upd H1 dx (.own x)) x (.ins C dx [])) (fun v H2=>v = .non∧Q (.ref x) H2) E0:=rfl
theorem nX{td ty:TE}:xD td ty σ H Q=td σ H fun x H1=>∃ a,x = .ref a∧AQ H1 a∧ty σ H1 fun y H2=>∃ o,DGet H2 a y o∧Q (o.getD .non) H2:=rfl
theorem aY{R:V→Prop}{a dx:Addr}{fs:List (Str × V)}{v:V}(h:H a=some (.ins C dx fs))(l:fs.lookup f=some v)(q:R v):∃ dx fs v,H a=some (.ins C dx fs)∧fs.lookup f=some v∧R v:=⟨dx,fs,v,h,l,q⟩
theorem Eo{a:Addr}{kvs:List (aF × V)}(h:H a=some (.dK kvs)):AQ H a:=.inl ⟨kvs,.inl h⟩
end
theorem DE{f:Str}{v:V}{fs:List (Str × V)}:List.lookup f ((f,v)::fs)=some v:=by simp[List.lookup]
theorem fg{f g:Str}{v:V}{fs:List (Str × V)}(h:(f == g)=false):List.lookup f ((g,v)::fs)=List.lookup f fs:=by simp[List.lookup,h]
theorem Dt{f:Str}:List.lookup f ([]:List (Str × V))=none:=rfl
theorem Am{f:Str}{v x:V}{r:List (Str × V)}:cN f v ((f,x)::r)=(f,v)::r:=by simp[cN]
theorem yc{f g:Str}{v x:V}{r:List (Str × V)}(h:¬ g=f):cN f v ((g,x)::r)=(g,x)::cN f v r:=by simp[cN,h]
theorem ze{f:Str}{v:V}:cN f v []=[(f,v)]:=rfl
end L2
namespace L2
open PySem PySem.Spec PyProof.Rows PySem.SeqAt
section
variable{X:Cx}
def yw:V→List V→Hp→VK→Prop:=fun x xs H Q=>∃ s y,x = .str s∧xs=[.str y]∧(y.length == 0)=false∧s.length≤100000∧∀ l,H l=none→Q (.ref l) (upd H l (.lst ((Txt.split s y).map V.str)))
theorem nn{H:Hp}{Q:VK}(s y:Str):yw (.str s) [.str y] H Q=((y.length == 0)=false∧s.length≤100000∧∀ l,H l=none→Q (.ref l) (upd H l (.lst ((Txt.split s y).map V.str)))):=
 propext ⟨fun ⟨_,_,e1,e2,q⟩=>by cases e1; cases e2; exact q,fun q=>⟨s,y,rfl,rfl,q⟩⟩
theorem Aq(l:List (Str × Tok)):Vals ((l.map (·.1)).map V.str) (strValues l):=by
 induction l with
 | nil=>exact .nil
 | cons a l ih=>exact .cons ⟨a.2,rfl⟩ ih
theorem pV:MtR X "str.split" yw:=by
 intro pins s σ H x xs v us Q I rx r h
 obtain⟨z,y,rfl,rfl,hy,hz,q⟩:=h
 obtain⟨t,rfl⟩:=rx
 obtain⟨u,rfl,ru⟩:=dH r
 obtain⟨u,rfl⟩:=ru
 have hs:sizeLine=16777216:=sizeLine_eq
 have hn:(Txt.split z y).length≤z.length+2:=split_le z y
 have lay:∀ (l:List (Str × Tok)) (k:Tok),l.map (·.1)=Txt.split z y→EP X pins σ Q (.ref s.heap.objs.size) { s with heap:=s.heap.push { cls:=.type "list", data:=.seq (strValues l).toArray },toks:=k }:=by
  intro l k e
  refine⟨.ref s.heap.objs.size,_,I.laid (fun _ _ q=>Heap.get?_push_of_some _ q) (Nat.le_refl _) (show ObjOk X.prog X.w _ _ _ (.lst ((Txt.split z y).map V.str)) from ⟨by rw[List.length_map,hs]; omega,strValues l,_,e ▸ Aq l,Heap.get?_push_size _ rfl⟩),rfl,q _ (I.hok.fresh (Nat.le_refl _))⟩
 cases h1:(decide (z.length<y.length)||decide (Builtin.Str.strKind z<Builtin.Str.strKind y))
 ·cases hf:(Builtin.Str.occurrences z y 0 z.length (z.length+1)).isEmpty
  ·have e:Txt.split z y=Builtin.Str.partsBetween z (Builtin.Str.occurrences z y 0 z.length (z.length+1)) y.length:=(if_neg (ne_true_of_eq_false h1)).trans (if_neg (ne_true_of_eq_false hf))
   refine call_meets F.slot_str_split (typeIs_str _ _ _) F.entry_str_split (F.args_str_split_2 _ _) (meets_str_split_sep z y t u h1 hy hf (by rw[hs]; omega) (by rw[← e,hs]; omega)) ?_
   show wants _ _ _ { s with toks:=_,heap:=s.heap.push { cls:=.type "list", data:=.seq (strsFrom s.toks (Builtin.Str.partsBetween z (Builtin.Str.occurrences z y 0 z.length (z.length+1)) y.length)).toArray } }
   rw[strsFrom_eq];exact lay (numbered s.toks _) _ ((numbered_texts _ _).trans e.symm)
  ·exact call_meets F.slot_str_split (typeIs_str _ _ _) F.entry_str_split (F.args_str_split_2 _ _) (meets_str_split_not_found z y t u h1 hy hf)
    (lay [(z,t)] _ ((if_neg (ne_true_of_eq_false h1)).trans (if_pos hf)).symm)
 ·exact call_meets F.slot_str_split (typeIs_str _ _ _) F.entry_str_split (F.args_str_split_2 _ _) (meets_str_split_cannot_occur z y t u h1) (lay [(z,t)] _ (if_pos h1).symm)
def Br:List V→Hp→VK→Prop:=fun xs H Q=>∃ i j,xs=[.int i,.int j]∧Q (.int (if j>i then j else i)) H
theorem yg(hc:X.calm=true:=by rfl):CallR X (.builtin "max") Br:=yx hc
theorem ql{H:Hp}{Q:VK}(i j:Int):Br [.int i,.int j] H Q=Q (.int (if j>i then j else i)) H:=propext ⟨fun ⟨_,_,e,q⟩=>by cases e; exact q,fun q=>⟨i,j,rfl,q⟩⟩
def FK:List V→Hp→VK→Prop:=fun xs H Q=>∃ x n,xs=[.str x]∧PySem.intText? x=some n∧x.length≤640∧Q (.int n) H
theorem wo:CallR X (.type "int") FK:=by
 intro pins s σ H xs us Q I r h
 obtain⟨x,n,rfl,hn,hl,q⟩:=h
 obtain⟨u,rfl,ru⟩:=dH r
 obtain⟨t,rfl⟩:=ru
 exact PySem.W.KIN.call_text hn hl ⟨.int n,H,I.tok _,⟨_,rfl⟩,q⟩
end
theorem qe{c:Nat}:∀ {p q t u:List Nat},c∉p→c∉q→p++c::t=q++c::u→p=q∧t=u
 | [],[],_,_,_,_,e=>⟨rfl,(List.cons.inj e).2⟩
 | [],b::q,_,_,_,hq,e=>absurd ((List.cons.inj e).1 ▸ List.mem_cons_self) hq
 | a::p,[],_,_,hp,_,e=>absurd ((List.cons.inj e).1 ▸ List.mem_cons_self) hp
 | a::p,b::q,t,u,hp,hq,e=>by
  obtain⟨e1,e2⟩:=List.cons.inj e
  obtain⟨e3,e4⟩:=qe (p:=p) (q:=q) (fun z=>hp (List.mem_cons_of_mem _ z)) (fun z=>hq (List.mem_cons_of_mem _ z)) e2
  exact⟨by rw[e1,e3],e4⟩
theorem mG{x y:Str}(h:x.cps.toList=y.cps.toList):x=y:=by
 cases x; cases y
 exact congrArg _ (Array.toList_inj.mp h)
theorem fJ(x y:Str):(x++y).cps.toList=x.cps.toList++y.cps.toList:=Array.toList_append
theorem kH(c:Nat)(x y:Str)(r:List Str):(Str.join ⟨#[c]⟩ (x::y::r)).cps.toList=x.cps.toList++c::(Str.join ⟨#[c]⟩ (y::r)).cps.toList:=by
 rw[join_cons_cons,fJ,fJ];show (x.cps.toList++[c])++_=_
 rw[List.append_assoc]; rfl
theorem nG{c:Nat}:∀ {ps qs:List Str},ps≠[]→qs≠[]→(∀ p∈ps,c∉p.cps.toList)→(∀ q∈qs,c∉q.cps.toList)→Str.join ⟨#[c]⟩ ps=Str.join ⟨#[c]⟩ qs→ps=qs
 | [],_,h,_,_,_,_=>absurd rfl h
 | _::_,[],_,h,_,_,_=>absurd rfl h
 | [p],[q],_,_,_,_,e=>congrArg (fun z=>[z]) (show p=q from e)
 | [p],q::q'::qs,_,_,hp,_,e=>by
  have e':=congrArg (fun z:Str=>z.cps.toList) e
  simp only[kH]at e'
  have e2:p.cps.toList=q.cps.toList++c::(Str.join ⟨#[c]⟩ (q'::qs)).cps.toList:=e'
  exact absurd (e2 ▸ List.mem_append_right _ List.mem_cons_self) (hp p List.mem_cons_self)
 | p::p'::ps,[q],_,_,_,hq,e=>by
  have e':=congrArg (fun z:Str=>z.cps.toList) e
  simp only[kH]at e'
  have e2:q.cps.toList=p.cps.toList++c::(Str.join ⟨#[c]⟩ (p'::ps)).cps.toList:=e'.symm
  exact absurd (e2 ▸ List.mem_append_right _ List.mem_cons_self) (hq q List.mem_cons_self)
 | p::p'::ps,q::q'::qs,_,_,hp,hq,e=>by
  have e':=congrArg (fun z:Str=>z.cps.toList) e
  simp only[kH]at e'
  obtain⟨e1,e2⟩:=qe (hp p List.mem_cons_self) (hq q List.mem_cons_self) e'
  have ih:=nG (ps:=p'::ps) (qs:=q'::qs) (by simp) (by simp) (fun z hz=>hp z (List.mem_cons_of_mem _ hz)) (fun z hz=>hq z (List.mem_cons_of_mem _ hz)) (mG e2)
  rw[mG e1,ih]
theorem uM{ws:List Str}(h:ws≠[])(hf:∀ x∈ws,32∉x.cps.toList):Txt.split (Txt.join " " ws) " " = ws:=by
 have e0:(" " : Str)=⟨#[32]⟩:=by decide +kernel
 have e1:Str.join ⟨#[32]⟩ (Txt.split (Txt.join " " ws) " ")=Str.join ⟨#[32]⟩ ws:=by
  have:=PySem.StrLaws.join_split (Txt.join " " ws) " "
  rw[e0]at this ⊢
  rw[this];exact PySem.StrLaws.glued_eq_join _ ws
 refine nG ?_ h ?_ hf e1
 ·intro z
  have:=split_pos (Txt.join " " ws) " "
  rw[z]at this; exact absurd this (by decide)
 ·rw[e0]; exact PySem.StrLaws.split_free _ 32
theorem iZ(m:Nat):PySem.NumText.AllDigits ((Nat.toDigits 10 m).map Char.toNat)∧(Nat.toDigits 10 m).map Char.toNat≠[]:=by
 constructor
 ·intro c hc
  obtain⟨ch,hch,e⟩:=List.mem_map.mp hc
  rw[← e];exact digit_range (Nat.isDigit_of_mem_toDigits (by decide) (by decide) hch)
 ·intro e
  have h:=tDigits_len_ge 10 m;rw[List.map_eq_nil_iff.mp e]at h
  exact absurd h (by decide)
theorem xm{m:Nat}(h:m<10 ^ 61):(Nat.toDigits 10 m).length≤61:=digits10_le (by decide) h
theorem Ao{n:Int}(h:n.natAbs<10 ^ 61):PySem.intText? (Str.ofString (toString n))=some n∧(Str.ofString (toString n)).length≤640:=by
 obtain⟨d1,d2⟩:=iZ n.natAbs
 have hl:=xm h
 cases n with
 | ofNat m=>
  have e:(Str.ofString (toString (Int.ofNat m))).cps.toList=(Nat.toDigits 10 m).map Char.toNat:=PySem.W.KIN.signs_num m
  have el:(Str.ofString (toString (Int.ofNat m))).length=(Nat.toDigits 10 m).length:=by
   have:=congrArg List.length e
   rw[List.length_map]at this
   rw[← this]; exact Array.length_toList.symm
  have hm:(Nat.toDigits 10 m).length≤61:=hl
  refine⟨?_,by omega⟩
  have z:=intText_digits (x:=Str.ofString (toString (Int.ofNat m))) (by rw[e]; exact d1) (by rw[e]; exact d2) (by omega)
  rw[e,PySem.W.KIN.val_back]at z
  exact z
 | negSucc m=>
  have e:(Str.ofString (toString (Int.negSucc m))).cps.toList=45::(Nat.toDigits 10 (m+1)).map Char.toNat:=by
   rw[signs_ofString];show ("-" ++ Nat.repr (m+1)).toList.map Char.toNat=_
   rw[String.toList_append,List.map_append,Nat.toList_repr]; rfl
  have el:(Str.ofString (toString (Int.negSucc m))).length=(Nat.toDigits 10 (m+1)).length+1:=by
   have:=congrArg List.length e
   rw[List.length_cons,List.length_map]at this
   rw[← this]; exact Array.length_toList.symm
  have hm:(Nat.toDigits 10 (m+1)).length≤61:=hl
  refine⟨?_,by omega⟩
  have z:=intText_neg (x:=Str.ofString (toString (Int.negSucc m))) e d1 d2 (by omega)
  rw[PySem.W.KIN.val_back]at z
  exact z
end L2
namespace L2
open PySem PySem.Spec PyProof.Rows
section
variable{X:Cx}{tg e:Expr}
def Dk:TG:=fun _ _ _ _=>False
theorem kR:PG X tg Dk:=fun _ _ _ _ _ _ _ _ _ h=>h.elim
theorem yK{K:PySem.W.Frag}{a:Addr}{g:TG}{tb:TS}{D:dM}{σ : St}{H:Hp}(h:SqL K H a [])(q:D.nx σ H):iY (lX K a) g tb D σ H:=
 da (xs:=[]) (fun _ σ' H'=>σ'=σ∧H'=H) ⟨rfl,rfl⟩ (fun i σ' H' _ z=>by rw[z.2]; exact h) (fun i x σ' H' z=>by simp at z) fun σ' H' z=>by rw[z.1,z.2]; exact q
theorem nU:MtR X "list.clear" qi:=Ab
end
end L2
namespace L2
open PySem PySem.Spec PyProof.Rows PySem.SeqAt
section
variable{prog:Program}{w:World}{A:Around}{R:Result→Shared→Prop}{I:Addr}{fp wr:List Addr}{Gm:Array GenState→Array GenState→Prop}{n:Nat}{P:Nat→Value→Prop}{St:Nat→Shared→Prop}{L:Bool}
end
section
variable{prog:Program}{w:World}{A:Around}{E:Value→Shared→Prop}{s:Shared}
end
section
variable{X:Cx}
end
section
variable{prog:Program}{w:World}{A:Around}{E:Value→Shared→Prop}{s:Shared}
end
section
variable{X:Cx}
end
section
variable{X:Cx}{c a b:Expr}{tA tB1 tB2:TT}{pos:Pos}
end
end L2
namespace L2
open PySem PySem.Spec PyProof.Rows PySem.SeqAt PySem.Builtin PySem.Builtin.Str PySem.StrLaws
section
variable{X:Cx}
end
end L2
namespace L2
open PySem PySem.Spec PyProof.Rows PySem.SeqAt PySem.Builtin PySem.Builtin.Str PySem.StrLaws
def qr:V→List V→Hp→VK→Prop:=fun x xs H Q=>∃ s y,x = .str s∧xs=[.str y]∧Q (.bl (decide (0+y.length≤s.length)&&subAt s y 0)) H
theorem ke{H:Hp}{Q:VK}(s y:Str):qr (.str s) [.str y] H Q=Q (.bl (decide (0+y.length≤s.length)&&subAt s y 0)) H:=
 propext ⟨fun ⟨_,_,e1,e2,q⟩=>by cases e1; cases e2; exact q,fun q=>⟨s,y,rfl,rfl,q⟩⟩
theorem oy{X:Cx}:MtR X "str.startswith" qr:=by
 intro pins s σ H x xs v us Q I rx r h
 obtain⟨z,y,rfl,rfl,q⟩:=h
 obtain⟨t,rfl⟩:=rx
 obtain⟨u,rfl,ru⟩:=dH r
 obtain⟨u,rfl⟩:=ru
 exact call_gives F.slot_str_startswith (typeIs_str _ _ _) F.entry_str_startswith (F.args_str_startswith_2 _ _) (gives_str_startswith z y t u) ⟨.bl _,H,I,rfl,q⟩
theorem zw{X:Cx}(K:PySem.W.Frag)(hK:X.K=K:=by rfl):OpR X (binaryOp .Add) (vw K):=hK ▸ Ce
theorem qV{K:PySem.W.Frag}{H:Hp}{Q:VK}(a b:Addr):vw K (.ref a) (.ref b) H Q=∃ xs ys,SqT K H a xs∧SqT K H b ys∧xs≠[]∧xs.length+ys.length≤sizeLine∧(ys=[]→Q (.ref a) H)∧(ys≠[]→∀ p,H p=none→Q (.ref p) (upd H p (.tup (xs++ys)))):=
 propext ⟨fun ⟨_,_,xs,ys,e1,e2,q⟩=>by cases e1; cases e2; exact⟨xs,ys,q⟩,fun ⟨xs,ys,q⟩=>⟨a,b,xs,ys,rfl,rfl,q⟩⟩
end L2
namespace L2
open PySem PySem.Spec PyProof.Rows
section
variable{X:Cx}
end
end L2
namespace L2
open PySem PySem.Spec PyProof.Rows
abbrev jD:=List (Option Int)
def MO(P:Program)(w:World):HeapKind P w (jD):=A3 (e8 P w) (show 0≤7 by decide)
def Fx(P:Program)(w:World)(a:Addr)(xs:List (jD × Addr × Value)):HO:=
 .ext fun h=>∃ o es ep,h.get? a=some o∧o.ExactDict∧o.data = .dict es ep∧es.toList=xs.map (entryOfKey (MO P w))∧(xs.map (·.1)).Nodup
def F8(H:Hp)(k:jD)(b:Addr):Prop:=H b=some (.tup (k.map iV))
def G6(H:Hp)(p:jD × V)(q:jD × Addr × Value):Prop:=q.1=p.1∧F8 H p.1 q.2.1∧RelV p.2 q.2.2
def DO(P:Program)(w:World)(H:Hp)(a:Addr)(kvs:List (jD × V)):Prop:=
 ∃ xs,H a=some (Fx P w a xs)∧(a == sysModules)=false∧xs.length≤sizeLine∧Paired (G6 H) kvs xs
section
variable{P:Program}{w:World}{H:Hp}
end
section
variable{X:Cx}{pins:List (Addr × Obj)}{σ : St}{H:Hp}{s:Shared}{a b:Addr}{k:jD}{kvs:List (jD × V)}
end
end L2
namespace L2
open PySem PySem.Spec PyProof PyProof.Rows
section
variable{K:PySem.W.Frag}{a b:Addr}{xs ys:List V}{g:TG}{te:TE}{nT:Nat}{σ : St}{D:Addr}{Q:VK}{H:Hp}
theorem uH{tc:TT}(Pv:Nat→List V→Hp→Prop)(h0:Pv 0 [] H)(hl:∀ i zs H,i≤xs.length→Pv i zs H→SqL K H a xs)
  (hs:∀ i zs H x t,xs[i]? = some x→i<xs.length→Pv i zs H→H t=none→g (.ref t) (σ++List.replicate nT none) (upd H t (.tup [.int i,x])) (oM xs.length i Pv D zs tc te))
  (hd:∀ zs H,Pv xs.length zs H→Q (.ref D) H):gB (yz K a) g tc te nT σ D Q H:=by
 refine pJ xs.length Pv h0 (fun i zs H hi p=>⟨xs,xs[i],hl i zs H (Nat.le_of_lt hi) p,by simp[hi]⟩) (fun zs H p=>⟨xs,hl _ zs H (Nat.le_refl _) p,Nat.le_refl _⟩) (fun i zs H v H' hi p yl=>?_) hd
 obtain⟨t,x,ht,rfl,rfl,y1⟩:=yl
 exact hs i zs H x t (y1 xs (hl i zs H (Nat.le_of_lt hi) p)) hi p ht
end
section
variable{prog:Program}{w:World}{A:Around}{E:Value→Shared→Prop}{s:Shared}
end
end L2
namespace L2
open PySem PySem.Spec PyProof PyProof.Rows
section
variable{X:Cx}
end
section
variable{X:Cx}
end
section
variable{d:Addr}{o:Obj}{kvs:List (aF × V)}{g:TG}{σ : St}{H:Hp}
end
end L2
namespace PySem.SeqAt
open AutoSeq1 (wpAny_loadPart')
open MeetsSeq MeetsSeq2 MeetsSeq3
end PySem.SeqAt
namespace L2
open PySem PySem.Spec PyProof PyProof.Rows
section
variable{X:Cx}
end
end L2
namespace L2
open PySem PySem.Spec PyProof PyProof.Rows
section
variable{X:Cx}
end
end L2
namespace L2
open PySem PySem.Spec PyProof.Rows
section
variable{X:Cx}{pins:List (Addr × Obj)}{σ : St}{H:Hp}{s:Shared}{a:Addr}{kvs:List (Option Int × V)}
end
section
variable{X:Cx}(P:Program)(w:World)
end
end L2
namespace L2
open PySem PySem.Spec PyProof PyProof.Rows
section
variable{prog:Program}{w:World}{A:Around}{E:Value→Shared→Prop}{s:Shared}
variable{z TI TO i1 i2 t1 t2:Addr}{xs ys:Array Value}{k1 k2:Nat}{a b:Value}
end
section
variable{K:PySem.W.Frag}{a b:Addr}{xs ys:List V}{g:TG}{te:TE}{nT:Nat}{σ : St}{D:Addr}{Q:VK}{H:Hp}
end
end L2
namespace L2
open PySem PySem.Spec PyProof PyProof.Rows PySem.SeqAt
section
variable{X:Cx}
end
section
variable{X:Cx}
end
section
variable{X:Cx}
end
end L2
namespace L2
open PySem PySem.Spec PyProof PyProof.Rows
section
variable{X:Cx}
end
section
variable{prog:Program}{w:World}{κ : Type}[DecidableEq κ]{knd:HeapKind prog w κ}{A:Around}{E:Value→Shared→Prop}{s:Shared}
end
section
variable{X:Cx}
end
end L2
namespace L2
open PySem PySem.Spec PyProof PyProof.Rows
section
variable{X:Cx}{pins:List (Addr × Obj)}{σ : List (Option V)}{H:Hp}{s:Shared}
end
section
variable{X:Cx}
end
open PySem.SeqAt
section
variable{X:Cx}
end
end L2
namespace PySem.SeqAt
open AutoSeq1 (wpAny_loadPart')
open MeetsSeq MeetsSeq2 MeetsSeq3
open SeqRoads2
section
variable{A:Around}{s:Shared}
end
end PySem.SeqAt
namespace L2
open PySem PySem.Spec PyProof PyProof.Rows PySem.SeqAt
section
variable{X:Cx}{pins:List (Addr × Obj)}{σ : St}{H:Hp}{s:Shared}
end
end L2
namespace PySem
section
variable{M:Program}{w:World}{A:Around}{R:Result→Shared→Prop}{I:Addr}{fp wr:List Addr}{n:Nat}{Pv:Nat→Value→Prop}{St:Nat→Heap→Prop}
end
end PySem
namespace PySem
section
variable{M:Program}{w:World}{A:Around}{E:Value→Shared→Prop}{s:Shared}
end
end PySem
namespace L2
open PySem PySem.Spec PyProof PyProof.Rows PySem.SeqAt
section
variable{X:Cx}
end
end L2
namespace L2
open PySem PySem.Spec PyProof PyProof.Rows
section
variable{X:Cx}
end
end L2
namespace L2
open PySem PySem.Spec PyProof.Rows
abbrev iq:=Sum Str (List (Option Int))
def vX(prog:Program)(w:World)(h:Heap):iq→Value→Prop
 | .inl u,v=>∃ t,v=Value.str u t
 | .inr l,v=>IsTupK (e8 prog w) h l v
theorem Fu(i j:Str):decide (i=j)=decide ((Sum.inl i:iq)=Sum.inl j):=by
 by_cases z:i=j
 ·subst z; simp
 ·have z':¬ ((Sum.inl i:iq)=Sum.inl j):=fun q=>z (Sum.inl.inj q)
  rw[decide_eq_false z',decide_eq_false z]
theorem FM(l l':List (Option Int)):decide (l=l')=decide ((Sum.inr l:iq)=Sum.inr l'):=by
 by_cases z:l=l'
 ·subst z; simp
 ·have z':¬ ((Sum.inr l:iq)=Sum.inr l'):=fun q=>z (Sum.inr.inj q)
  rw[decide_eq_false z',decide_eq_false z]
theorem Ff(i:Str)(l:List (Option Int)):decide ((Sum.inl i:iq)=Sum.inr l)=false:=decide_eq_false (fun q=>nomatch q)
theorem Fv(i:Str)(l:List (Option Int)):decide ((Sum.inr l:iq)=Sum.inl i)=false:=decide_eq_false (fun q=>nomatch q)
theorem FH{prog:Program}{w:World}{A:Around}{E:Value→Shared→Prop}{s:Shared}{u v:Value}{Q:Bool→Shared→Prop}(hu:A.units+1<cLine):∀ (x y:iq),vX prog w s.heap x u→vX prog w s.heap y v→Q (decide (x=y)) s→
  wpAny (model prog w) A (PySem.eqBool u v) Q E s
 | .inl i,.inl j,⟨t,e1⟩,⟨t',e2⟩,h=>by
  subst e1 e2;rw[← Fu]at h
  exact wpAny_eqBool_str h
 | .inl i,.inr l,⟨t,e1⟩,hy,h=>by
  subst e1;obtain⟨b,its,rfl,ht⟩:=IsTupK.tup (K:=e8 prog w) hy
  rw[Ff]at h
  exact SeqAt.EqAt.str_tuple i t ht (Nat.lt_of_succ_lt hu) prog w E Q h
 | .inr l,.inl j,hx,⟨t,e1⟩,h=>by
  subst e1;obtain⟨b,its,rfl,ht⟩:=IsTupK.tup (K:=e8 prog w) hx
  rw[Fv]at h
  exact SeqAt.EqAt.tuple_str j t ht (Nat.lt_of_succ_lt hu) prog w E Q h
 | .inr l,.inr l',hx,hy,h=>by
  rw[← FM]at h
  exact mX (K:=e8 prog w) (tj hu) hx hy h
def Gs(prog:Program)(w:World):IK prog w iq where
 is:=vX prog w
 hash:=fun k=>match k with
  | .inl u=>hashStr w u
  | .inr l=>pR (e8 prog w) l
 draws:=fun k=>match k with
  | .inl _=>1
  | .inr l=>ie (e8 prog w) l+1
 deep:=1
 inj:=fun {h v x y} a b=>by
  cases x with
  | inl i=>
   obtain⟨t,rfl⟩:=(show ∃ t,v=Value.str i t from a)
   cases y with
   | inl j=>obtain⟨t',e⟩:=(show ∃ t',Value.str i t=Value.str j t' from b); injection e with e1 _; rw[e1]
   | inr l=>obtain⟨a,_,e,_⟩:=IsTupK.tup (show IsTupK (e8 prog w) h l _ from b); cases e
  | inr l=>
   cases y with
   | inl j=>
    obtain⟨t,rfl⟩:=(show ∃ t,v=Value.str j t from b)
    obtain⟨a,_,e,_⟩:=IsTupK.tup (show IsTupK (e8 prog w) h l _ from a); cases e
   | inr l'=>rw[(vE (e8 prog w)).inj (show IsTupK (e8 prog w) h l v from a) (show IsTupK (e8 prog w) h l' v from b)]
 keeps:=fun {h h' k v d o es ep} a ho hd hs=>by
  cases k with
  | inl i=>exact a
  | inr l=>exact(vE (e8 prog w)).keeps (show IsTupK (e8 prog w) h l v from a) ho hd hs
 pyHash:=fun {A E s k v Q} hu hk h=>by
  cases k with
  | inl i=>
   obtain⟨t,rfl⟩:=(show ∃ t,v=Value.str i t from hk)
   exact wpAny_pyHash_str h
  | inr l=>exact jv (K:=e8 prog w) (tj hu) hk h
 eqBool:=fun {A E s x y u v Q} hu hx hy h=>FH hu x y hx hy h
 quiet:=fun {A E s k v n Q} hk h=>by
  cases k with
  | inl i=>
   obtain⟨t,rfl⟩:=(show ∃ t,v=Value.str i t from hk)
   rw[eqIsQuiet_byValue _ rfl];exact wpAny_pure h
  | inr l=>exact i9 (K:=e8 prog w) hk h
abbrev ml:=Str × List (Option Int)
def sk(k:ml):List iq:=[.inl k.1,.inr k.2]
def MS(P:Program)(w:World):HeapKind P w (List iq):=A3 (Gs P w) (show 1≤7 by decide)
def Fg(P:Program)(w:World)(a:Addr)(xs:List (List iq × Addr × Value)):HO:=
 .ext fun h=>∃ o es ep,h.get? a=some o∧o.ExactDict∧o.data = .dict es ep∧es.toList=xs.map (entryOfKey (MS P w))∧(xs.map (·.1)).Nodup
def GE(H:Hp)(k:ml)(b:Addr):Prop:=∃ t,H b=some (.tup [.str k.1,.ref t])∧H t=some (.tup (k.2.map iV))
def Hi(H:Hp)(p:ml × V)(q:List iq × Addr × Value):Prop:=q.1=sk p.1∧GE H p.1 q.2.1∧RelV p.2 q.2.2
def DS(P:Program)(w:World)(H:Hp)(a:Addr)(kvs:List (ml × V)):Prop:=
 ∃ xs,H a=some (Fg P w a xs)∧(a == sysModules)=false∧xs.length≤sizeLine∧Paired (Hi H) kvs xs
section
variable{P:Program}{w:World}{H:Hp}
end
section
variable{X:Cx}{pins:List (Addr × Obj)}{σ : St}{H:Hp}{s:Shared}{a b:Addr}{k:ml}{kvs:List (ml × V)}
end
end L2
namespace L2
open PySem PySem.Spec PyProof.Rows
section
variable{prog:Program}{w:World}{A:Around}{E:Value→Shared→Prop}{s:Shared}
end
section
variable{X:Cx}{pins:List (Addr × Obj)}{σ : St}{H:Hp}{s:Shared}
end
section
variable{X:Cx}{pins:List (Addr × Obj)}{σ : St}{H H1:Hp}{s s1:Shared}
end
end L2
section
open PySem PySem.Spec PyProof.Rows L2
seal L2.PE L2.PT L2.PW L2.PA L2.PS L2.PSs L2.PG L2.PGs L2.PSet L2.PI L2.PIfs L2.OpR L2.UnR L2.CallR L2.IxR L2.MtR L2.SlR L2.PO L2.PPs
local macro_rules | `(tactic| walk_at "rd1")=>`(tactic| try simp only [sP,lH,kf,o0,tm,t_,q_,qj,tV,qd,sX,rC,t9,tf,sL,AR,wZ,yA,pO,Bt,tZ,xp,tP,oU,p8,wX,yf,qI,sU,tS,tw,rM,wQ,uo,pz,q8,nD,nv,nX,nn,ke,qV,ql,om,xN,qE,lL,pX,uz,rh,pB,tu,qC,sv,qB,pM,tD,pW,x_,AS,n9,m_,jc,oq,ni,ug,qu,oX,pb,lv,nQ,ub,A8,tT,sS,rL,qY,rK,oS,kF,kq,nS,nj,rE,pZ,lN,oZ,ua,ur,nE,nZ,fX,tW,nt,s_,nr,qy,pD,rz,rb,rn,sZ,um,sV,L2.start,List.map_cons,List.map_nil,List.length_cons,List.length_nil,List.replicate,List.cons_append,List.nil_append,List.append_nil,List.getElem?_cons_zero,List.getElem?_cons_succ,List.set_cons_zero,List.set_cons_succ,Nat.reduceAdd,Nat.reduceSub,Option.some.injEq,exists_eq_left',exists_eq_left,V.int.injEq,V.ref.injEq,V.str.injEq,V.bl.injEq,xY,uh,and_true,true_and,decide_eq_true_eq,Bool.not_true,Bool.not_false,if_true,Bool.false_eq_true,if_false,ite_true,ite_false])
local macro_rules | `(tactic| walk_at "nx")=>`(tactic| ((first | rw [mI] | (dsimp only; rw [mI])); walk_at "rd1"))
local macro_rules | `(tactic| walk_at "lk")=>`(tactic| repeat (first | exact DE | exact Dt | rw [fg (by decide +kernel)]))
local macro_rules | `(tactic| walk_at "pf")=>`(tactic| repeat (first | rw [Am] | rw [ze] | rw [yc (by decide +kernel)]))
namespace K38
open PySem L2
abbrev aT:Stmt:=inClass (top 27) 0
theorem gZ:aA ["self", "head", "lines", "blocks"] ["self", "head", "lines", "blocks"] (defScope aT):=mKk
abbrev gLk (s : Stmt) (n : Str) : Prop:=(defScope s).names.lookup n=some .globalImplicit
theorem oIn {a b : Prop} (h : a) : a ∨ b:=.inl h
abbrev aMm(s:Stmt)(n:Str):Prop:=am (defScope s) n
abbrev b5:Stmt:=inClass (top 10) 0
theorem lJ:aA ["self", "inputs", "watches"] ["self", "inputs", "watches"] (defScope b5):=mKk
abbrev bL:Stmt:=inClass (top 10) 2
theorem j_:aA ["self", "bound"] ["self", "bound"] (defScope bL):=mKk
abbrev ce:Stmt:=inClass (top 10) 3
theorem kU:aA ["self", "holder"] ["self", "holder"] (defScope ce):=mKk
abbrev cW:Stmt:=inClass (top 10) 4
theorem rZ:aA ["self", "holder", "handle"] ["self", "holder", "handle"] (defScope cW):=mKk
abbrev bQ:Stmt:=inClass (top 10) 5
theorem sc_Run_deed:aA ["self", "line", "handle", "word", "entry", "broken"] ["self", "line", "handle", "word"] (defScope bQ):=mKk
abbrev bv:Stmt:=inClass (top 10) 7
theorem sc_Run_new_handle:aA ["self", "line", "holder", "handle"] ["self", "line", "holder"] (defScope bv):=mKk
abbrev cI:Stmt:=inClass (top 10) 8
theorem vx:aA ["self", "line", "one", "other"] ["self", "line", "one", "other"] (defScope cI):=mKk
abbrev bR:Stmt:=inClass (top 10) 9
theorem sc_Run_end_all:aA ["self", "line", "handle"] ["self", "line"] (defScope bR):=mKk
theorem Lf:gLk bR "range":=by decide +kernel
abbrev cD:Stmt:=inClass (top 10) 1
theorem mN:aA ["self", "at"] ["self", "at"] (defScope cD):=mKk
abbrev eZ:Stmt:=top 7
theorem kI:aA ["watches", "one", "other", "start", "watch"] ["watches", "one", "other", "start"] (defScope eZ):=mKk
abbrev b9:Stmt:=top 8
theorem sc_broken_or_gone_on:aA ["watches", "at", "handle", "word", "broken", "watch", "first"] ["watches", "at", "handle", "word"] (defScope b9):=mKk
abbrev fC:Stmt:=top 12
theorem sc_do_row:aA ["run", "row", "line"] ["run", "row"] (defScope fC):=mKk
abbrev dL:Stmt:=top 13
theorem oz:aA ["run", "row"] ["run", "row"] (defScope dL):=mKk
abbrev fZ:Stmt:=top 14
theorem xU:aA ["code", "run"] ["code", "run"] (defScope fZ):=mKk
abbrev dY:Stmt:=top 15
theorem sr:aA ["code", "inputs"] ["code", "inputs"] (defScope dY):=mKk
abbrev e_:Stmt:=top 19
theorem oA:aA ["kind"] ["kind"] (defScope e_):=mKk
abbrev fH:Stmt:=top 20
theorem vO:aA ["step"] ["step"] (defScope fH):=mKk
abbrev eR:Stmt:=top 21
theorem o_:aA ["step"] ["step"] (defScope eR):=mKk
abbrev bH:Stmt:=top 22
theorem sc_steps_within:aA ["program", "steps", "step", "block"] ["program"] (defScope bH):=mKk
abbrev bX:Stmt:=top 23
theorem sc_names_in:aA ["steps", "names", "step", "part", "kind"] ["steps"] (defScope bX):=mKk
theorem Kv:gLk bX "zip":=by decide +kernel
abbrev bd:Stmt:=top 24
theorem sc_lines_of:aA ["program", "lines", "step", "block", "closer"] ["program"] (defScope bd):=mKk
theorem Lb:gLk bd "zip":=by decide +kernel
abbrev fo:Stmt:=top 25
theorem su:aA ["program"] ["program"] (defScope fo):=mKk
abbrev dw:Stmt:=top 28
theorem mq:aA ["steps", "line"] ["steps", "line"] (defScope dw):=mKk
abbrev aP:Stmt:=top 29
theorem sc_numbered_step:aA ["step", "line", "lines", "blocks", "block", "steps"] ["step", "line"] (defScope aP):=mKk
abbrev bC:Stmt:=top 30
theorem sc_numbered_steps:aA ["steps", "line", "numbered", "step"] ["steps", "line"] (defScope bC):=mKk
abbrev bS:Stmt:=top 32
theorem ou:aA ["program"] ["program"] (defScope bS):=mKk
theorem KA:gLk bS "enumerate":=by decide +kernel
abbrev cr:Stmt:=top 33
theorem sc_slots_of:aA ["program", "slots", "slot", "holder"] ["program"] (defScope cr):=mKk
theorem JI:gLk cr "enumerate":=by decide +kernel
abbrev bJ:Stmt:=top 34
theorem sc_simple_row:aA ["step", "slots", "line"] ["step", "slots"] (defScope bJ):=mKk
theorem Jk:aMm bJ "slots" := Or.inr (Or.inl (by decide +kernel))
abbrev aV:Stmt:=top 35
theorem sc_lend_rows:aA ["step", "at", "slots", "turned", "line", "back", "giver", "taker", "lent", "ahead", "within"] ["step", "at", "slots", "turned"] (defScope aV):=mKk
abbrev bE:Stmt:=top 36
theorem sc_if_rows:aA ["step", "at", "slots", "turned", "more", "jump", "rest", "behind", "test"] ["step", "at", "slots", "turned"] (defScope bE):=mKk
abbrev b7:Stmt:=top 37
theorem sc_loop_rows:aA ["step", "at", "slots", "within", "behind"] ["step", "at", "slots"] (defScope b7):=mKk
abbrev bn:Stmt:=top 38
theorem sc_while_rows:aA ["step", "at", "slots", "turned", "first", "loop", "behind"] ["step", "at", "slots", "turned"] (defScope bn):=mKk
abbrev bO:Stmt:=top 39
theorem sc_rows_of:aA ["steps", "at", "slots", "turned", "rows", "step", "place"] ["steps", "at", "slots", "turned"] (defScope bO):=mKk
abbrev bT:Stmt:=top 40
theorem sc_rows_and_end:aA ["program", "turned", "steps"] ["program", "turned"] (defScope bT):=mKk
abbrev gq:Stmt:=top 41
theorem uQ:aA ["program"] ["program"] (defScope gq):=mKk
abbrev eI:Stmt:=top 42
theorem mT:aA ["program"] ["program"] (defScope eI):=mKk
abbrev cX:Stmt:=top 44
theorem sc_do_simple:aA ["run", "step", "line", "parts"] ["run", "step"] (defScope cX):=mKk
abbrev dS:Stmt:=top 45
theorem sc_do_lend:aA ["run", "step", "lent"] ["run", "step"] (defScope dS):=mKk
abbrev gH:Stmt:=top 46
theorem zk:aA ["run", "step"] ["run", "step"] (defScope gH):=mKk
abbrev fm:Stmt:=top 47
theorem rR:aA ["run", "step"] ["run", "step"] (defScope fm):=mKk
abbrev cL:Stmt:=top 48
theorem sc_do_steps:aA ["run", "steps", "step"] ["run", "steps"] (defScope cL):=mKk
abbrev b6:Stmt:=top 49
theorem sc_run_plain:aA ["program", "inputs", "steps", "run"] ["program", "inputs"] (defScope b6):=mKk
abbrev dv:Stmt:=top 51
theorem mv:aA ["_law_script", "_law_k"] ["_law_script", "_law_k"] (defScope dv):=mKk
abbrev aJ:Stmt:=top 52
theorem sc_law_names:aA ["_law_cell", "_law_letters", "_law_base", "_law_many", "_law_size", "_law_at", "_law_found", "_law_k", "_law_sign"] ["_law_cell"] (defScope aJ):=mKk
theorem mR:aMm aJ "_law_cell" := Or.inr (Or.inl (by decide +kernel))
theorem JC:aMm aJ "_law_letters" := Or.inr (Or.inl (by decide +kernel))
theorem Ia:aN (defScope aJ) "_law_letters" := Or.inr (by decide +kernel)
theorem D5:gLk aJ "range":=by decide +kernel
abbrev eL:Stmt:=top 53
theorem sc_law_bound:aA ["_law_cell", "_law_way"] ["_law_cell"] (defScope eL):=mKk
abbrev cF:Stmt:=top 54
theorem sc_law_step:aA ["_law_cell", "_law_x", "_law_y", "_law_names_here", "_law_kind", "_law_words"] ["_law_cell", "_law_x", "_law_y", "_law_names_here"] (defScope cF):=mKk
abbrev bz:Stmt:=top 55
theorem sc_law_begun:aA ["_law_here", "_law_pile", "_law_lines", "_law_cell", "_law_x", "_law_y", "_law_inner", "_law_bound_here", "_law_others"] ["_law_here", "_law_pile", "_law_lines", "_law_cell", "_law_x", "_law_y"] (defScope bz):=mKk
abbrev ap:Stmt:=top 56
theorem sc_law_program:aA ["_law_cells", "_law_names_here", "_law_program_here", "_law_lines", "_law_pile", "_law_here", "_law_left", "_law_lends", "_law_cell", "_law_kind", "_law_x", "_law_y", "_law_deep", "_law_line", "_law_there"] ["_law_cells", "_law_names_here"] (defScope ap):=mKk
theorem Gb:gLk ap "reversed":=by decide +kernel
abbrev bf:Stmt:=top 57
theorem sc_law_inputs:aA ["_law_cells", "_law_lines", "_law_bounds", "_law_found", "_law_cell"] ["_law_cells", "_law_lines"] (defScope bf):=mKk
abbrev bu:Stmt:=top 58
theorem sc_law_drawn:aA ["_law_script", "_law_names_here", "_law_cut", "_law_program_here", "_law_lines"] ["_law_script"] (defScope bu):=mKk
abbrev dD:Stmt:=top 59
theorem qU:aA ["_law_found"] ["_law_found"] (defScope dD):=mKk
abbrev bZ:Stmt:=top 60
theorem sc_law_is_log:aA ["_law_found", "_law_entry"] ["_law_found"] (defScope bZ):=mKk
abbrev bB:Stmt:=top 61
theorem sc_law:aA ["_law_script", "_law_program_here", "_law_lines", "_law_inputs_here", "_law_code", "_law_turned", "_law_kept", "_law_handed", "_law_plain", "_law_by_code", "_law_by_turned", "_law_found", "_law_due"] ["_law_script"] (defScope bB):=mKk
def ba(k:Str):List Str:=if k = "lend" then ["back"] else if k = "if" then ["else", "fi"] else if k = "while" then ["done"] else []
def jj:V→Str→Prop
 | .str y,x=>x=y
 | .int i,x=>i.natAbs.log2<1920∧x=Str.ofString (toString i)
 | _,_=>False
def b4:List (List Str)→List Str→List Str
 | i::is,c::cs=>(i++[c])++b4 is cs
 | _,_=>[]
structure E_ (LA:Addr→List Str→Prop) (H:Hp) (a:Addr) (kind:Str) (hs:List V) (ws:List Str) (bs:List Addr) (ins:List (List Str)):Prop where
 at':H a=some (.tup (.str kind::hs++bs.map V.ref))
 parts:Paired jj hs ws
 size:((kind::ws).map (·.length)).sum+(kind::ws).length≤10000
 bl:bs.length=(ba kind).length
 inn:Paired LA bs ins
def lw(LA:Addr→List Str→Prop)(H:Hp)(a:Addr)(ls:List Str):Prop:=∃ kind hs ws bs ins,E_ LA H a kind hs ws bs ins∧ls=Txt.join " " (kind::ws)::b4 ins (ba kind)
def LinesAt:Nat→Hp→Addr→List Str→Prop
 | 0=>fun _ _ _=>False
 | d+1=>fun H p L=>∃ (as:List Addr) (Ls:List (List Str)),H p=some (.lst (as.map V.ref))∧Paired (lw (LinesAt d H) H) as Ls∧L=Ls.flatten
theorem LinesAt.mono:∀ (d:Nat) {H H':Hp} {p:Addr} {L:List Str},LinesAt d H p L→Same H H'→LinesAt d H' p L
 | 0,_,_,_,_,h,_=>h.elim
 | d+1,H,H',p,L,⟨as,Ls,h1,h2,h3⟩,sm=>by
  refine⟨as,Ls,sm _ _ h1,Paired.imp' (fun a ls z=>?_) h2,h3⟩
  obtain⟨kind,hs,ws,bs,ins,z1,z2⟩:=z
  exact⟨kind,hs,ws,bs,ins,⟨sm _ _ z1.at',z1.parts,z1.size,z1.bl,Paired.imp' (fun b i y=>LinesAt.mono d y sm) z1.inn⟩,z2⟩
theorem bI{α β : Type}{R:α→β→Prop}:∀ {xs:List α} {ys:List β} {i:Nat} {x:α},Paired R xs ys→xs[i]? = some x→∃ y,ys[i]? = some y∧R x y
 | _,_,_,_,.nil,e=>by simp at e
 | _,_,0,_,.cons (b:=b) h _,e=>⟨b,rfl,by have:=Option.some.inj e; subst this; exact h⟩
 | _,_,i+1,_,.cons _ t,e=>by
  rw[List.getElem?_cons_succ]at e
  obtain⟨y,h1,h2⟩:=bI t e
  exact⟨y,by rw[List.getElem?_cons_succ]; exact h1,h2⟩
theorem aB{α β : Type}{R:α→β→Prop}:∀ {xs:List α} {ys:List β},Paired R xs ys→xs.length=ys.length
 | _,_,.nil=>rfl
 | _,_,.cons _ t=>by rw[List.length_cons,List.length_cons,aB t]
theorem kE:∀ {ins:List (List Str)} {cs:List Str} {j:Nat} {i:List Str} {c:Str},ins[j]? = some i→cs[j]? = some c→b4 (ins.take (j+1)) (cs.take (j+1))=b4 (ins.take j) (cs.take j)++(i++[c])
 | [],_,_,_,_,h,_=>by simp at h
 | _::_,[],_,_,_,_,h=>by simp at h
 | a::ins,b::cs,0,i,c,h,h'=>by
  have e1:a=i:=by simpa using h
  have e2:b=c:=by simpa using h'
  subst e1 e2;show (a++[b])++b4 [] []=b4 [] []++(a++[b])
  simp[b4]
 | a::ins,b::cs,j+1,i,c,h,h'=>by
  have ih:=kE (ins:=ins) (cs:=cs) (j:=j) (i:=i) (c:=c) (by simpa using h) (by simpa using h')
  show (a++[b])++b4 (ins.take (j+1)) (cs.take (j+1))=((a++[b])++b4 (ins.take j) (cs.take j))++(i++[c])
  rw[ih,List.append_assoc (a++[b])]
theorem lB:∀ {ins:List (List Str)} {cs:List Str} (j:Nat),(b4 (ins.take j) (cs.take j)).length≤(b4 ins cs).length
 | [],_,j=>by simp[b4]
 | _::_,[],j=>by cases j <;> simp[b4]
 | a::ins,b::cs,0=>by simp[b4]
 | a::ins,b::cs,j+1=>by
  have ih:=lB (ins:=ins) (cs:=cs) j;show ((a++[b])++b4 (ins.take j) (cs.take j)).length≤((a++[b])++b4 ins cs).length
  simp only[List.length_append]; omega
theorem mz{α : Type}:∀ (Ls:List (List α)) (i:Nat),(Ls.take i).flatten.length≤Ls.flatten.length
 | [],i=>by simp
 | a::Ls,0=>by simp
 | a::Ls,i+1=>by
  have ih:=mz Ls i;rw[List.take_succ_cons,List.flatten_cons,List.flatten_cons,List.length_append,List.length_append]; omega
theorem wx{α : Type}{Ls:List (List α)}{i:Nat}{l:List α}(h:Ls[i]? = some l):(Ls.take (i+1)).flatten=(Ls.take i).flatten++l:=by
 rw[List.take_add_one,h,List.flatten_append]; simp
def jn(K:PySem.W.Frag):Sp:=fun vs H Q _=>∃ k:Str,vs=[.str k]∧∀ (p:Addr) (H':Hp),Same H H'→SqT K H' p ((ba k).map V.str)→Q (.ref p) H'
def jo(K:PySem.W.Frag):Sp:=fun vs H Q _=>∃ (a:Addr) (k:Str) (xs:List V),vs=[.ref a]∧SqT K H a (.str k::xs)∧(ba k).length≤xs.length+1∧
 ∀ (p:Addr) (H':Hp),Same H H'→SqT K H' p ((V.str k::xs).take (xs.length+1 - (ba k).length))→Q (.ref p) H'
def gW(K:PySem.W.Frag):Sp:=fun vs H Q _=>∃ (a:Addr) (k:Str) (xs:List V),vs=[.ref a]∧SqT K H a (.str k::xs)∧(ba k).length≤xs.length+1∧
 ∀ (p:Addr) (H':Hp),Same H H'→SqT K H' p ((V.str k::xs).drop (xs.length+1 - (ba k).length))→Q (.ref p) H'
def tJ(d:Nat):Sp:=fun vs H Q _=>∃ (p:Addr) (L:List Str),vs=[.ref p]∧LinesAt d H p L∧L.length≤10000∧∀ (q:Addr) (H':Hp),Same H H'→H q=none→H' q=some (.lst (L.map V.str))→Q (.ref q) H'
section
variable{P:Program}{w:World}{K:PySem.W.Frag}{mg:Str→Option Value}{base:Heap}
theorem vz(D:DefAt K mg "closers_of" e_) {d a0 a1 a2:Addr} (g_CLOSERS:mg "CLOSERS" = some (.ref d)) (m:ModD w K d [("lend", .ref a0),("if", .ref a1),("while", .ref a2)])
  (q0:∀ H:Hp,SqT K H a0 [.str "back"]) (q1:∀ H:Hp,SqT K H a1 [.str "else", .str "fi"]) (q2:∀ H:Hp,SqT K H a2 [.str "done"]):aK P w K mg base 1 "closers_of" ["kind"] (jn K):=by
 refine D.cal oA (fun _ _ _ _ _ _ us hl=>match us,hl with | [_],_=>rfl) (fun vs H Q E h=>by obtain⟨k,rfl,_⟩:=h; rfl) (fun f cdv A outer s H vs Q E hr h=>?_)
 obtain⟨k,rfl,q⟩:=h
 refine⟨_,(ak (aE (Fc w K PySem.F.plainAttrs_dict PySem.F.slot_dict_get PySem.F.type_dict_get (B5 w K) (tY g_CLOSERS) (aa (pv 0) (aa (bm ac) ac))))),?_⟩
 walk_at "rd1";refine⟨⟨d,_,rfl,m⟩,by decide,fun p hp=>?_⟩
 refine⟨d,_,k,.ref p,rfl,rfl,m,?_⟩
 have sm:=al hp (.tup []);unfold ba at q
 by_cases h0:k = "lend"
 ·subst h0; exact q _ _ sm (q0 _)
 rw[if_neg h0]at q
 by_cases h1:k = "if"
 ·subst h1; exact q _ _ sm (q1 _)
 rw[if_neg h1]at q
 by_cases h2:k = "while"
 ·subst h2; exact q _ _ sm (q2 _)
 rw[if_neg h2]at q
 have e:bN [(("lend" : Str),V.ref a0),("if", .ref a1),("while", .ref a2)] k=none:=by simp[bN,Ne.symm h0,Ne.symm h1,Ne.symm h2]
 rw[e];exact q _ _ sm (SqT.of ah)
theorem BH(D:DefAt K mg "head_of" fH) (z_len:mg "len" = none) (c_closers_of:aK P w K mg base 1 "closers_of" ["kind"] (jn K)):aK P w K mg base 2 "head_of" ["step"] (jo K):=by
 refine D.cal vO (fun _ _ _ _ _ _ us hl=>match us,hl with | [_],_=>rfl) (fun vs H Q E h=>by obtain⟨a,k,xs,rfl,_⟩:=h; rfl) (fun f cdv A outer s H vs Q E hr h=>?_)
 obtain⟨a,k,xs,rfl,ha,hl,q⟩:=h
 refine⟨_,(ak (aE (b_ (j7 K) (pv 0) cQ (ci (ao fu (bF (bh K) z_len cf (aa (pv 0) ac)) (bF (bh K) z_len cf (aa (az c_closers_of hr (aa (ax (aG K) (pv 0) af (fun _ _=>rfl)) ac)) ac))))))),?_⟩
 walk_at "rd1";refine⟨_,.inr ha,?_⟩
 refine⟨_,_,.inr ha,cn,?_⟩
 refine⟨k,rfl,fun p H1 sm1 hp=>?_⟩
 walk_at "rd1";refine⟨_,.inr hp,?_⟩
 walk_at "rd1"
 have e:((xs.length+1:Nat):Int) - ((((ba k).map V.str).length:Nat):Int)=((xs.length+1 - (ba k).length:Nat):Int):=by
  rw[List.length_map]; omega
 rw[e];refine iO (ha.same sm1) fun p2 H2 sm2 h2=>q p2 H2 (sm1.trans sm2) ?_
 rw[ul]at h2
 exact h2
theorem xE(D:DefAt K mg "blocks_of" eR) (z_len:mg "len" = none) (c_head_of:aK P w K mg base 2 "head_of" ["step"] (jo K)):aK P w K mg base 3 "blocks_of" ["step"] (gW K):=by
 refine D.cal o_ (fun _ _ _ _ _ _ us hl=>match us,hl with | [_],_=>rfl) (fun vs H Q E h=>by obtain⟨a,k,xs,rfl,_⟩:=h; rfl) (fun f cdv A outer s H vs Q E hr h=>?_)
 obtain⟨a,k,xs,rfl,ha,hl,q⟩:=h
 refine⟨_,(ak (aE (b_ (j7 K) (pv 0) (ci (bF (bh K) z_len cf (aa (az c_head_of hr (aa (pv 0) ac)) ac))) cQ))),?_⟩
 walk_at "rd1";refine⟨a,k,xs,rfl,ha,hl,fun p H1 sm1 hp=>?_⟩
 walk_at "rd1";refine⟨_,.inr hp,?_⟩
 have e:(((V.str k::xs).take (xs.length+1 - (ba k).length)).length:Int)=((xs.length+1 - (ba k).length:Nat):Int):=by
  rw[List.length_take,List.length_cons]; omega
 rw[e];refine iO (ha.same sm1) fun p2 H2 sm2 h2=>q p2 H2 (sm1.trans sm2) ?_
 rw[ju]at h2
 exact h2
theorem rG(D:DefAt K mg "lines_of" bd) (z_str:mg "str" = none) (z_zip:mg "zip" = none) (c_closers_of:aK P w K mg base 1 "closers_of" ["kind"] (jn K)) (c_head_of:aK P w K mg base 2 "head_of" ["step"] (jo K)) (c_blocks_of:aK P w K mg base 3 "blocks_of" ["step"] (gW K)) :
  ∀ d:Nat,aK P w K mg base (d+4) "lines_of" ["program"] (tJ d)
 | 0=>D.cal (k:=3) sc_lines_of (fun _ _ _ _ _ _ us hl=>match us,hl with | [_],_=>rfl) (fun vs H Q E h=>by obtain⟨p,L,rfl,_⟩:=h; rfl) (fun f cdv A outer s H vs Q E hr h=>by obtain⟨p,L,rfl,z,_⟩:=h; exact z.elim)
 | d+1=>by
  have c_lines_of:=rG D z_str z_zip c_closers_of c_head_of c_blocks_of d;refine D.cal (k:=d+4) sc_lines_of (fun _ _ _ _ _ _ us hl=>match us,hl with | [_],_=>rfl) (fun vs H Q E h=>by obtain⟨p,L,rfl,_⟩:=h; rfl) (fun f cdv A outer s H vs Q E hr h=>?_)
  obtain⟨p,L,rfl,⟨as,Ls,h1,h2,rfl⟩,hL,q⟩:=h
  have hlen:=aB h2
  refine⟨_,(ae (aw 1 sc_lines_of.nd (bi ac))
   (ae (cC PassesOwn.never rfl (cH K (pv 0)) (bj 2 sc_lines_of.nd) (ae (ay (bb K PySem.F.plainAttrs_list PySem.F.slot_list_append PySem.F.type_list_append aS (pv 1) (aa (bb K PySem.F.plainAttrs_str PySem.F.slot_str_join PySem.F.type_str_join (qZ K) au (aa (gL (CompSc.to (fsc:=(defScope bd)) (N:=["program", "lines", "step", "block", "closer"]) (N0:=["program", "lines", "step", "block", "closer"]) (T:=["part"]) ⟨by decide +kernel,by decide +kernel,by decide +kernel,by decide +kernel,by decide +kernel,by decide +kernel,by decide +kernel⟩ rfl rfl) rfl (j0 K (az c_head_of hr (aa (pv 2) ac) (hle:=by omega))) (fun _ _ _ _=>(bj 5 (show (["program", "lines", "step", "block", "closer", "part"]:List Str).Nodup from by decide +kernel) (hx:=(kQ (defScope bd) (by decide +kernel))) (hf:=qa (defScope bd) (by decide +kernel)))) (fB (show (["program", "lines", "step", "block", "closer"]:List Str).length≤5 from by decide)) (fun _ _ _ _=>kK) (fun _ _ _ _=>(eh wB z_str lu (aa (pv 5 (hv:=(fD (defScope bd) (by decide +kernel)))) ac) (hg:=(FO (defScope bd) (by decide +kernel)))))) ac)) ac)))
   (ak (cC PassesOwn.never rfl (tX K Lb z_zip (aa (az c_blocks_of hr (aa (pv 2) ac) (hle:=by omega)) (aa (az c_closers_of hr (aa (ax (aG K) (pv 2) af (fun _ _=>rfl)) ac) (hle:=by omega)) ac))) (fM K (n:=2) (cj (bj 3 sc_lines_of.nd) (cj (bj 4 sc_lines_of.nd) fO))) (ae (ay (bb K PySem.F.plainAttrs_list PySem.F.slot_list_extend PySem.F.type_list_extend fR (pv 1) (aa (az c_lines_of hr (aa (pv 3) ac) (hle:=by omega)) ac)))
   (ak (ay (bb K PySem.F.plainAttrs_list PySem.F.slot_list_append PySem.F.type_list_append aS (pv 1) (aa (pv 4) ac)))))))))
   (ak (aE (pv 1))))),?_⟩
  walk_at "rd1";refine⟨by decide,fun lp hlp=>?_⟩
  generalize hH1:upd H lp _=H1
  have sm1:=cP hH1 hlp;have e1:=dG hH1;walk_at "nx";refine⟨⟨_,SqL.of (sm1 _ _ h1)⟩,?_⟩
  refine da (xs:=as.map V.ref) (fun i σ H'=>∃ o2 o3 o4:Option V,σ=[some (.ref p),some (.ref lp),o2,o3,o4]∧Same H H'∧H' lp=some (.lst ((Ls.take i).flatten.map V.str)))
   ⟨none,none,none,rfl,sm1,e1⟩ (fun i σ H' _ h=>by obtain⟨_,_,_,_,sm,_⟩:=h; exact SqL.of (sm _ _ h1)) ?_ ?_
  ·rintro i v σ H' hv ⟨o2,o3,o4,rfl,sm,hl⟩
   have hi:i<as.length:=by have:=(List.getElem?_eq_some_iff.mp hv).1; simpa using this
   rw[List.getElem?_map,List.getElem?_eq_getElem hi]at hv
   cases hv;obtain⟨ls,hls,kind,hs,ws,bs,ins,st,rfl⟩:=bI h2 (List.getElem?_eq_getElem hi)
   have hflat:=wx hls;have hfl:=mz Ls (i+1);rw[hflat]at hfl ⊢
   generalize (Ls.take i).flatten=pre at hl hfl hflat ⊢;rw[List.length_append,List.length_cons]at hfl
   have hat:SqT K H' as[i] (.str kind::(hs++bs.map V.ref)):=SqT.of (sm _ _ st.at')
   have hcl:(ba kind).length≤(hs++bs.map V.ref).length+1:=by rw[List.length_append,List.length_map,st.bl]; omega
   have hcut:(hs++bs.map V.ref).length+1 - (ba kind).length=hs.length+1:=by rw[List.length_append,List.length_map,st.bl]; omega
   have hpl:=aB st.parts;have hsz:=st.size;walk_at "rd1";refine⟨⟨_,SqL.of hl⟩,as[i],kind,hs++bs.map V.ref,rfl,hat,hcl,fun hp H2 sm2 hhp=>?_⟩
   rw[hcut]at hhp
   have etk:(V.str kind::(hs++bs.map V.ref)).take (hs.length+1)=V.str kind::hs:=by rw[List.take_succ_cons,List.take_left']; rfl
   rw[etk]at hhp
   walk_at "rd1";refine⟨⟨_,hhp⟩,fun C hC=>?_⟩
   refine ng (xs:=V.str kind::hs) (fun j ys H3=>Same H2 H3∧H3 C=some (.lst ys)∧ys=((kind::ws).take j).map V.str) ⟨al hC _,ah,rfl⟩ (fun j ys H3 _ h=>hhp.same h.1) ?_ ?_
   ·rintro j ys H3 x hx hj ⟨sm3,hl3,rfl⟩
    obtain⟨y,hy,hr'⟩:=bI (R:=jj) (.cons (show jj (.str kind) kind from rfl) st.parts) hx
    have hjl:j<(kind::ws).length:=(List.getElem?_eq_some_iff.mp hy).1
    have fin:iQ (V.str kind::hs).length j (fun j ys H3=>Same H2 H3∧H3 C=some (.lst ys)∧ys=((kind::ws).take j).map V.str) C (((kind::ws).take j).map V.str) (.str y) H3:=by
     refine uW hj (by rw[List.length_map,List.length_take]; omega) (bo (by simp only[List.length_cons]at hsz hjl ⊢; omega)) hl3 ⟨sm3.upd hC _,ah,?_⟩
     rw[List.take_add_one,hy,List.map_append]; rfl
    match x,hr' with
    | .str z,hr'=>
     have e:y=z:=hr'
     subst e;walk_at "rd1";exact fin
    | .int z,hr'=>
     obtain⟨g1,rfl⟩:=hr'
     walk_at "rd1";exact⟨g1,fin⟩
   rintro ys H3 ⟨sm3,hl3,rfl⟩
   have hl3':H3 C=some (.lst ((kind::ws).map V.str)):=by
    rw[hl3,List.length_cons,hpl,List.take_of_length_le (by simp)]
   have smA:=sm2.trans sm3;have h1l:(Str.ofString " ").length=1:=by decide
   walk_at "rd1";refine⟨kind::ws,SqL.of hl3',by rw[h1l]; omega,?_⟩
   refine⟨_,smA _ _ hl,by rw[List.length_map]; exact bG (by omega),?_⟩
   generalize hH4:upd H3 lp _=H4
   have smH:Same H H4:=fun b o e=>by
    have nb:b≠lp:=fun z=>by subst z; rw[hlp]at e; cases e
    rw[← hH4,ai nb]; exact smA _ _ (sm _ _ e)
   have e4:H4 lp=some (.lst ((pre++[Txt.join " " (kind::ws)]).map V.str)):=by rw[← hH4,ah,List.map_append]; rfl
   have hat4:SqT K H4 as[i] (.str kind::(hs++bs.map V.ref)):=SqT.of (smH _ _ st.at')
   walk_at "nx";refine⟨as[i],kind,hs++bs.map V.ref,rfl,hat4,hcl,fun bp H5 sm5 hbp=>?_⟩
   rw[hcut]at hbp
   have edr:(V.str kind::(hs++bs.map V.ref)).drop (hs.length+1)=bs.map V.ref:=by rw[List.drop_succ_cons,List.drop_left']; rfl
   rw[edr]at hbp
   walk_at "rd1";refine⟨_,_,.inr (hat4.same sm5),cn,kind,rfl,fun cp H6 sm6 hcp=>?_⟩
   walk_at "rd1";refine⟨⟨_,hbp.same sm6⟩,⟨_,hcp⟩,?_⟩
   have sm46:=sm5.trans sm6;have hil:=aB st.inn;have hbl:=st.bl
   refine nJ (xs:=bs.map V.ref) (ys:=(ba kind).map V.str) (fun j σ H'=>∃ o3 o4:Option V,σ=[some (.ref p),some (.ref lp),some (.ref as[i]),o3,o4]∧Same H H'∧SqT K H' bp (bs.map V.ref)∧SqT K H' cp ((ba kind).map V.str)∧
     H' lp=some (.lst ((pre++([Txt.join " " (kind::ws)]++b4 (ins.take j) ((ba kind).take j))).map V.str)))
    (by rw[List.length_map,List.length_map]; exact hbl) ⟨o3,o4,rfl,smH.trans sm46,hbp.same sm6,hcp,by rw[sm46 _ _ e4]; simp[b4]⟩ (fun j σ H' _ h=>by obtain⟨_,_,_,_,z1,z2,_⟩:=h; exact⟨z1,z2⟩) ?_ ?_
   ·rintro j x y t σ H7 hx hy ⟨o3,o4,rfl,sm7,hb7,hc7,hl7⟩ ht
    have hj:j<bs.length:=by have:=(List.getElem?_eq_some_iff.mp hx).1; simpa using this
    have hjc:j<(ba kind).length:=by omega
    rw[List.getElem?_map,List.getElem?_eq_getElem hj]at hx
    cases hx;rw[List.getElem?_map,List.getElem?_eq_getElem hjc]at hy
    cases hy;obtain⟨il,hil',hla⟩:=bI st.inn (List.getElem?_eq_getElem hj)
    have hsn:=kE hil' (List.getElem?_eq_getElem hjc);have hcl1:=lB (ins:=ins) (cs:=ba kind) (j+1);rw[hsn]at hcl1 ⊢
    rw[List.length_append,List.length_append]at hcl1
    generalize b4 (ins.take j) ((ba kind).take j)=mid at hl7 hsn hcl1 ⊢;have st7:=al ht (.tup [V.ref bs[j],.str (ba kind)[j]]);have et7:upd H7 t (.tup [V.ref bs[j],.str (ba kind)[j]]) t=some (.tup [V.ref bs[j],.str (ba kind)[j]]):=ah
    generalize upd H7 t (.tup [V.ref bs[j],.str (ba kind)[j]])=H8 at st7 et7 ⊢;have hl8:=st7 _ _ hl7;walk_at "rd1";refine⟨t,_,rfl,SqT.of et7,rfl,?_⟩
    walk_at "rd1";refine⟨⟨_,SqL.of hl8⟩,bs[j],il,rfl,LinesAt.mono d hla (sm7.trans st7),by omega,fun r H9 sm9 hr9 hl9=>?_⟩
    walk_at "rd1";refine⟨_,_,sm9 _ _ hl8,hl9,bo (by simp only[List.length_map,List.length_append,List.length_cons,List.length_nil]; omega),?_⟩
    have hb9:=((hb7.same st7).same sm9).updL (sm9 _ _ hl8) (o:=.lst ((pre++([Txt.join " " (kind::ws)]++mid)).map V.str++il.map V.str));have hc9:=((hc7.same st7).same sm9).updL (sm9 _ _ hl8) (o:=.lst ((pre++([Txt.join " " (kind::ws)]++mid)).map V.str++il.map V.str));have sm10:Same H (upd H9 lp (.lst ((pre++([Txt.join " " (kind::ws)]++mid)).map V.str++il.map V.str))):=((sm7.trans st7).trans sm9).upd hlp _
    have e10:upd H9 lp (.lst ((pre++([Txt.join " " (kind::ws)]++mid)).map V.str++il.map V.str)) lp=some (.lst ((pre++([Txt.join " " (kind::ws)]++mid)).map V.str++il.map V.str)):=ah
    generalize upd H9 lp (.lst ((pre++([Txt.join " " (kind::ws)]++mid)).map V.str++il.map V.str))=H10 at hb9 hc9 sm10 e10 ⊢;walk_at "nx";refine⟨⟨_,SqL.of e10⟩,_,e10,bG (by simp only[List.length_map,List.length_append,List.length_cons,List.length_nil]; omega),?_⟩
    refine⟨_,_,rfl,sm10.upd hlp _,hb9.updL e10,hc9.updL e10,?_⟩
    rw[ah];simp only[List.map_append,List.map_cons,List.map_nil,List.append_assoc,List.cons_append,List.nil_append]
   ·rintro σ H7 ⟨o3,o4,rfl,sm7,_,_,hl7⟩
    refine⟨_,_,_,rfl,sm7,?_⟩
    rw[hl7,List.length_map,List.take_of_length_le (by omega),List.take_of_length_le (by omega)]; rfl
  ·rintro σ H' ⟨o2,o3,o4,rfl,sm,hl⟩
   walk_at "nx";rw[List.length_map,List.take_of_length_le (by omega)]at hl
   exact q lp H' sm hlp hl
end
abbrev letters:Str := "abcdefghijklmnopqrstuvwxyz"
def oH(K:PySem.W.Frag):Sp:=fun vs H Q _=>∃ (a:Addr) (ns:List Int),vs=[.ref a]∧SqL K H a (ns.map V.int)∧ns.length≤63∧∀ H',Q (.bl true) H'
def wR(K:PySem.W.Frag):Sp:=fun vs H Q _=>∃ (a:Addr) (ns:List Int) (k:Int),vs=[.ref a,.int k]∧SqL K H a (ns.map V.int)∧0≤k∧Q (.int (ns.getD k.toNat 0)) H
theorem rA:∀ (cs:List Nat) (acc:Array Nat),((cs.map fun c=>(⟨#[c]⟩ : Str)).foldl (fun acc p=>acc++(Str.ofString "").cps++p.cps) acc).toList=acc.toList++cs
 | [],acc=>by simp
 | c::cs,acc=>by
  rw[List.map_cons,List.foldl_cons,rA cs];have e:(Str.ofString "").cps = #[]:=by decide +kernel
  rw[e]; simp
theorem rN(cs:List Nat):(Txt.join "" (cs.map fun c=>(⟨#[c]⟩ : Str))).cps.toList=cs:=by
 cases cs with
 | nil=>rfl
 | cons c cs=>
  show (((c::cs).map fun c=>(⟨#[c]⟩ : Str)).drop 1 |>.foldl (fun acc p=>acc++(Str.ofString "").cps++p.cps) (((c::cs).map fun c=>(⟨#[c]⟩ : Str)).headD Str.empty).cps).toList=c::cs
  rw[List.map_cons,List.drop_one,List.tail_cons,rA]; rfl
theorem Ak(cs:List Nat):(Txt.join "" (cs.map fun c=>(⟨#[c]⟩ : Str))).length=cs.length:=by
 have e:=congrArg List.length (rN cs)
 simpa [Str.length] using e
theorem gC(b:Nat):∀ (ss:List Str),(∀ s∈ss,s.length≤b)→(ss.map (·.length)).sum≤ss.length * b
 | [],_=>by simp
 | s::ss,h=>by
  have h1:=gC b ss fun x hx=>h x (List.mem_cons_of_mem _ hx)
  have h2:=h s List.mem_cons_self;rw[List.map_cons,List.sum_cons,List.length_cons,Nat.succ_mul];omega
theorem xJ(z:Int):∃ c,letters.length≤sizeLine∧eY letters.cps.toList (z % 26)=some c∧c∈letters.cps.toList:=by
 have hz:(z % 26).toNat<letters.cps.toList.length:=by
  show (z % 26).toNat<26
  omega
 refine⟨letters.cps.toList[(z % 26).toNat],by decide,?_,List.getElem_mem hz⟩
 have q:=aR (List.getElem?_eq_getElem hz)
 rwa [show (((z % 26).toNat:Nat):Int)=z % 26 by omega]at q
theorem zF(x:Str)(c:Nat):(x++(⟨#[c]⟩ : Str)).length=x.length+1:=by rw[Str.length_append]; rfl
section
variable{P:Program}{w:World}{K:PySem.W.Frag}{mg:Str→Option Value}{base:Heap}
theorem Cr(D:DefAt K mg "_law_cell_at" dv) (z_len:mg "len" = none):aK P w K mg base 1 "_law_cell_at" ["_law_script", "_law_k"] (wR K):=by
 refine D.cal mv (fun _ _ _ _ _ _ us hl=>match us,hl with | [_,_],_=>rfl) (fun vs H Q E h=>by obtain⟨a,ns,k,rfl,_⟩:=h; rfl) (fun f cdv A outer s H vs Q E hr h=>?_)
 obtain⟨a,ns,k,rfl,hS,h0,q⟩:=h
 refine⟨_,(ae (a_ (aC jG (pv 1) (bF (bh K) z_len cf (aa (pv 0) ac)) (aH _)) (ak (aE (ax (aG K) (pv 0) (pv 1) (fun _ _=>rfl)))) bt)
   (ak (aE af))),?_⟩
 try simp only[mI,sP,lH,kf,o0,tm,t_,q_,qj,tV,qd,sX,rC,t9,tf,sL,AR,wZ,yA,pO,Bt,tZ,xp,tP,oU,p8,wX,yf,qI,sU,tS,tw,rM,wQ,uo,pz,q8,nD,nv,nX,nn,ke,qV,ql,om,xN,qE,lL,pX,uz,rh,pB,tu,qC,sv,qB,pM,tD,pW,x_,AS,n9,m_,jc,oq,ni,ug,qu,oX,pb,lv,nQ,ub,A8,tT,sS,rL,qY,rK,oS,kF,kq,nS,nj,rE,pZ,lN,oZ,ua,ur,nE,nZ,fX,tW,nt,s_,nr,qy,pD,rz,rb,rn,sZ,um,sV,L2.start,List.map_cons,List.map_nil,List.length_cons,List.length_nil,List.replicate,List.cons_append,List.nil_append,List.append_nil,List.getElem?_cons_zero,List.getElem?_cons_succ,List.set_cons_zero,List.set_cons_succ,Nat.reduceAdd,Nat.reduceSub,Option.some.injEq,exists_eq_left',exists_eq_left,V.int.injEq,V.ref.injEq,V.str.injEq,V.bl.injEq,xY,uh,and_true,true_and,decide_eq_true_eq,Bool.not_true,Bool.not_false,if_true,Bool.false_eq_true,if_false,ite_true,ite_false]
 refine⟨_,.inl hS,aI (fun c=>?_) (fun c=>?_)⟩
 ·rw[List.length_map]at c
  refine⟨_,.int (ns.getD k.toNat 0),.inl hS,pY h0 ?_,q⟩
  rw[List.getD_eq_getElem?_getD,List.getElem?_eq_getElem (by omega)]; rfl
 ·rw[List.length_map]at c
  have e:ns.getD k.toNat 0=0:=by
   rw[List.getD_eq_getElem?_getD,List.getElem?_eq_none (by omega)]; rfl
  rw[e]at q; exact q
theorem rs(ss:List Str){z:Int}(h:0≤z):dO (ss.map V.str) none (some z)=(ss.take z.toNat).map V.str:=by
 have e:z=(z.toNat:Int):=by omega
 rw[e,ul,List.map_take]; rfl
end
theorem hZ(sep k:Str)(ws:List Str):Txt.join sep (k::ws)=ws.foldl (fun a x=>a++sep++x) k:=by
 have go:∀ (ws:List Str) (a:Str),(⟨ws.foldl (fun acc p=>acc++sep.cps++p.cps) a.cps⟩ : Str)=ws.foldl (fun a x=>a++sep++x) a:=by
  intro ws
  induction ws with
  | nil=>intro a; rfl
  | cons x ws ih=>intro a; rw[List.foldl_cons,List.foldl_cons]; exact ih (a++sep++x)
 exact go ws k
def dh:List Str:=["open", "copy", "drop", "tie", "do"]
structure hJ (ws:List Str):Prop where
 two:2≤ws.length
 three:ws.length≤3
 kind:ws.headD "" ∈ dh
 len:∀ x∈ws,x.length≤20
def FD(H:Hp)(a:Addr)(ws:List Str):Prop:=H a=some (.tup (ws.map V.str))∧hJ ws
def gh{α : Type}(xs:List α)(lo hi:Option Int):List α:=(xs.drop (HT.sIx xs.length 0 lo)).take (HT.sIx xs.length xs.length hi - HT.sIx xs.length 0 lo)
theorem gF{α : Type}(f:α→V)(xs:List α)(lo hi:Option Int):dO (xs.map f) lo hi=(gh xs lo hi).map f:=by
 unfold dO gh;rw[List.length_map,List.map_take,List.map_drop]
theorem fE{α : Type}(xs:List α)(lo hi:Option Int):(gh xs lo hi).length≤xs.length:=by
 unfold gh;rw[List.length_take,List.length_drop];omega
theorem va{H:Hp}{a:Addr}{ws:List Str}{LA:Addr→List Str→Prop}(h:FD H a ws):lw LA H a [Txt.join " " ws]:=by
 obtain⟨h1,two,three,kd,len⟩:=h
 cases ws with
 | nil=>simp at two
 | cons k ws=>
  have hk:k∈dh:=kd
  have hc:ba k=[]:=by
   simp only[dh,List.mem_cons,List.mem_nil_iff,or_false]at hk
   rcases hk with rfl | rfl | rfl | rfl | rfl <;> decide
  have hp:∀ ws:List Str,Paired jj (ws.map V.str) ws:=fun ws=>by
   induction ws with
   | nil=>exact .nil
   | cons x ws ih=>exact .cons (show jj (.str x) x from rfl) ih
  refine⟨k,ws.map V.str,ws,[],[],⟨by rw[List.map_nil,List.append_nil]; exact h1,hp ws,?_,by rw[hc]; rfl,.nil⟩,by rw[hc]; rfl⟩
  have:=gC 20 (k::ws) len
  simp only[List.length_cons]at this two three ⊢
  omega
theorem ck{α β : Type}{R:α→β→Prop}{x:α}{y:β}(hxy:R x y):∀ {xs:List α} {ys:List β},Paired R xs ys→Paired R (xs++[x]) (ys++[y])
 | _,_,.nil=>.cons hxy .nil
 | _,_,.cons h t=>.cons h (ck hxy t)
set_option genSizeOf false in
inductive Stp where
 | plain (ws:List Str)
 | lend (x y:Str) (b:List Stp)
 | ite (n:Int) (b c:List Stp)
 | whl (n:Int) (b:List Stp)
def cw(n:Int):Str:=Str.ofString (toString n)
def bM(f:List Stp→List Str):Stp→List Str
 | .plain ws=>[Txt.join " " ws]
 | .lend x y b=>Txt.join " " ["lend", x,y]::(f b++[("back" : Str)])
 | .ite n b c=>Txt.join " " ["if", cw n]::(f b++[("else" : Str)]++(f c++[("fi" : Str)]))
 | .whl n b=>Txt.join " " ["while", cw n]::(f b++[("done" : Str)])
def bV:Nat→List Stp→List Str
 | 0,_=>[]
 | d+1,T=>T.flatMap (bM (bV d))
def p0(f:List Stp→Prop):Stp→Prop
 | .plain ws=>hJ ws
 | .lend x y b=>x.length≤20∧y.length≤20∧f b
 | .ite n b c=>n.natAbs.log2<1920∧f b∧f c
 | .whl n b=>n.natAbs.log2<1920∧f b
def dE:Nat→List Stp→Prop
 | 0,_=>False
 | d+1,T=>∀ s∈T,p0 (dE d) s
def stpAt(PA:Addr→List Stp→Prop)(H:Hp)(a:Addr):Stp→Prop
 | .plain ws=>H a=some (.tup (ws.map V.str))
 | .lend x y b=>∃ q,H a=some (.tup [.str "lend", .str x,.str y,.ref q])∧PA q b
 | .ite n b c=>∃ q r,H a=some (.tup [.str "if", .int n,.ref q,.ref r])∧PA q b∧PA r c
 | .whl n b=>∃ q,H a=some (.tup [.str "while", .int n,.ref q])∧PA q b
def ProgAt(S:Addr→Prop):Nat→Hp→Addr→List Stp→Prop
 | 0=>fun _ _ _=>False
 | d+1=>fun H p T=>S p∧∃ as:List Addr,H p=some (.lst (as.map V.ref))∧Paired (stpAt (ProgAt S d H) H) as T
theorem stpAt.imp{PA PA':Addr→List Stp→Prop}{H H':Hp}{a:Addr}(ht:∀ b xs,H b=some (.tup xs)→H' b=some (.tup xs))(hp:∀ q b,PA q b→PA' q b):∀ {s:Stp},stpAt PA H a s→stpAt PA' H' a s
 | .plain _,h=>ht _ _ h
 | .lend _ _ _,⟨q,h,z⟩=>⟨q,ht _ _ h,hp _ _ z⟩
 | .ite _ _ _,⟨q,r,h,z,y⟩=>⟨q,r,ht _ _ h,hp _ _ z,hp _ _ y⟩
 | .whl _ _,⟨q,h,z⟩=>⟨q,ht _ _ h,hp _ _ z⟩
theorem ProgAt.imp{S S':Addr→Prop}{H H':Hp}(ht:∀ b xs,H b=some (.tup xs)→H' b=some (.tup xs))(hl:∀ b xs,S b→H b=some (.lst xs)→H' b=some (.lst xs))(hS:∀ b,S b→S' b) :
  ∀ (d:Nat) {p:Addr} {T:List Stp},ProgAt S d H p T→ProgAt S' d H' p T
 | 0,_,_,h=>h.elim
 | d+1,p,T,⟨h0,as,h1,h2⟩=>⟨hS _ h0,as,hl _ _ h0 h1,Paired.imp' (fun a s z=>z.imp ht fun q b y=>ProgAt.imp ht hl hS d y) h2⟩
theorem ProgAt.mono{S:Addr→Prop}{H H':Hp}{d:Nat}{p:Addr}{T:List Stp}(h:ProgAt S d H p T)(sm:Same H H'):ProgAt S d H' p T:=h.imp (fun b xs e=>sm _ _ e) (fun b xs _ e=>sm _ _ e) (fun _ z=>z) d
theorem iy{n:Int}(h:n.natAbs.log2<1920):(cw n).length≤1921:=by
 have e:=int_text_length_le (k:=1920) (by decide) h
 unfold cw;rw[PySem.ofString_length]; exact e
theorem uL{PA:Addr→List Stp→Prop}{LA:Addr→List Str→Prop}{H:Hp}{a:Addr}{f:List Stp→List Str}{g:List Stp→Prop}(hp:∀ q b,PA q b→g b→LA q (f b)):∀ {s:Stp},stpAt PA H a s→p0 g s→lw LA H a (bM f s)
 | .plain ws,h,ok=>va ⟨h,ok⟩
 | .lend x y b,⟨q,h,z⟩,⟨o1,o2,o3⟩=>by
  refine⟨"lend", [.str x,.str y],[x,y],[q],[f b],⟨h,.cons rfl (.cons rfl .nil),?_,by show 1=(ba "lend").length; decide,.cons (hp _ _ z o3) .nil⟩,by show _=_::b4 [f b] ["back"]; simp[bM,b4]⟩
  have:(Str.ofString "lend").length=4:=by decide
  simp only[List.map_cons,List.map_nil,List.sum_cons,List.sum_nil,List.length_cons,List.length_nil,this]; omega
 | .ite n b c,⟨q,r,h,z,y⟩,⟨o1,o2,o3⟩=>by
  refine⟨"if", [.int n],[cw n],[q,r],[f b,f c],⟨h,.cons ⟨o1,rfl⟩ .nil,?_,by show 2=(ba "if").length; decide,.cons (hp _ _ z o2) (.cons (hp _ _ y o3) .nil)⟩,?_⟩
  ·have:(Str.ofString "if").length=2:=by decide
   have:=iy o1
   simp only[List.map_cons,List.map_nil,List.sum_cons,List.sum_nil,List.length_cons,List.length_nil]; omega
  ·show _=_::b4 [f b,f c] ["else", "fi"]
   simp[bM,b4]
 | .whl n b,⟨q,h,z⟩,⟨o1,o2⟩=>by
  refine⟨"while", [.int n],[cw n],[q],[f b],⟨h,.cons ⟨o1,rfl⟩ .nil,?_,by show 1=(ba "while").length; decide,.cons (hp _ _ z o2) .nil⟩,by show _=_::b4 [f b] ["done"]; simp[bM,b4]⟩
  have:(Str.ofString "while").length=5:=by decide
  have:=iy o1
  simp only[List.map_cons,List.map_nil,List.sum_cons,List.sum_nil,List.length_cons,List.length_nil]; omega
theorem kC{PA:Addr→List Stp→Prop}{LA:Addr→List Str→Prop}{H:Hp}{f:List Stp→List Str}{g:List Stp→Prop}(hp:∀ q b,PA q b→g b→LA q (f b)) :
  ∀ {as:List Addr} {T:List Stp},Paired (stpAt PA H) as T→(∀ s∈T,p0 g s)→Paired (lw LA H) as (T.map (bM f))
 | _,_,.nil,_=>.nil
 | _,_,.cons h t,ok=>.cons (uL hp h (ok _ List.mem_cons_self)) (kC hp t fun s hs=>ok s (List.mem_cons_of_mem _ hs))
theorem lj{S:Addr→Prop}{H:Hp}:∀ (d:Nat) {p:Addr} {T:List Stp},ProgAt S d H p T→dE d T→LinesAt d H p (bV d T)
 | 0,_,_,h,_=>h.elim
 | d+1,p,T,⟨_,as,h1,h2⟩,ok=>⟨as,T.map (bM (bV d)),h1,kC (fun q b z o=>lj d z o) h2 ok,List.flatMap_def⟩
def aU(f:List Stp→Nat):Stp→Nat
 | .plain _=>1
 | .lend _ _ b=>f b+2
 | .ite _ b c=>f b+f c+3
 | .whl _ b=>f b+2
def aj:Nat→List Stp→Nat
 | 0,_=>0
 | d+1,T=>(T.map (aU (aj d))).sum
def df(f:Stp→Nat):Nat→List Stp→List (Nat × Stp)
 | _,[]=>[]
 | l,s::T=>(l,s)::df f (l+f s) T
theorem jM(f:Stp→Nat)(s:Stp):∀ (l:Nat) (T:List Stp),df f l (T++[s])=df f l T++[(l+(T.map f).sum,s)]
 | l,[]=>by simp[df]
 | l,t::T=>by
  show (l,t)::df f (l+f t) (T++[s])=(l,t)::df f (l+f t) T++[(l+(f t+(T.map f).sum),s)]
  rw[jM f s (l+f t) T,Nat.add_assoc]; rfl
theorem fG(f:Stp→Nat):∀ (l:Nat) (T:List Stp),(df f l T).length=T.length
 | _,[]=>rfl
 | l,s::T=>by show (df f (l+f s) T).length+1=T.length+1; rw[fG f _ T]
theorem mM(f:Stp→Nat):∀ (l:Nat) (T:List Stp) (i:Nat) (s:Stp),T[i]? = some s→(df f l T)[i]? = some (l+((T.take i).map f).sum,s)
 | _,[],_,_,h=>by simp at h
 | l,t::T,0,s,h=>by
  have e:t=s:=by simpa using h
  subst e; simp[df]
 | l,t::T,i+1,s,h=>by
  have h':T[i]? = some s:=by simpa using h
  have ih:=mM f (l+f t) T i s h';show (df f (l+f t) T)[i]? = _
  rw[ih,List.take_succ_cons,List.map_cons,List.sum_cons,Nat.add_assoc]
def kindOf:Stp→Str
 | .plain ws=>ws.headD ""
 | .lend _ _ _ => "lend"
 | .ite _ _ _ => "if"
 | .whl _ _ => "while"
def dJ:Stp→List V
 | .plain ws=>(ws.drop 1).map V.str
 | .lend x y _=>[.str x,.str y]
 | .ite n _ _=>[.int n]
 | .whl n _=>[.int n]
def cM(f:List Stp→Nat)(l:Nat):Stp→List (Nat × List Stp)
 | .plain _=>[]
 | .lend _ _ b=>[(l+1,b)]
 | .ite _ b c=>[(l+1,b),(l+1+f b+1,c)]
 | .whl _ b=>[(l+1,b)]
def cO(f:List Stp→Nat)(l:Nat)(s:Stp):List Nat:=l::(cM f l s).map fun z=>z.1+f z.2
theorem zV{f:List Stp→Nat}{l:Nat}:∀ {s:Stp} {j:Nat} {z:Nat × List Stp},(cM f l s)[j]? = some z→∃ y,(cO f l s)[j]? = some y∧z.1=y+1
 | .plain _,j,z,h=>by simp[cM]at h
 | .lend _ _ b,0,z,h=>by cases h; exact⟨l,rfl,rfl⟩
 | .lend _ _ b,j+1,z,h=>by simp[cM]at h
 | .ite _ b c,0,z,h=>by cases h; exact⟨l,rfl,rfl⟩
 | .ite _ b c,1,z,h=>by cases h; exact⟨l+1+f b,rfl,rfl⟩
 | .ite _ b c,j+2,z,h=>by simp[cM]at h
 | .whl _ b,0,z,h=>by cases h; exact⟨l,rfl,rfl⟩
 | .whl _ b,j+1,z,h=>by simp[cM]at h
theorem lC{f:List Stp→Nat}{l:Nat}:∀ {s:Stp},(cO f l s).getLast? = some (l+aU f s - 1)∧1≤aU f s
 | .plain _=>by simp[cO,cM,aU]
 | .lend _ _ b=>by simp[cO,cM,aU]; omega
 | .ite _ b c=>by simp[cO,cM,aU]; omega
 | .whl _ b=>by simp[cO,cM,aU]; omega
def hV:Option Nat→V
 | none=>.non
 | some n=>.int n
set_option genInjectivity false in
set_option genSizeOf false in
structure RS where
 taken:Nat
 last:Int
 opened:Nat
 held:List (aF × V)
 log:List (List V)
 pc:Nat
def RS.sz(st:RS):Nat:=st.log.length+st.held.length+st.opened
def aM(st:RS)(k:aF):Option Nat:=match bN st.held k with
 | some (.int n)=>some n.toNat
 | _=>none
def aO(k:aF)(h:Option Nat)(st:RS):RS:={ st with held:=cU st.held k (hV h) }
def aW(l:Nat)(h:Option Nat)(w:Str)(st:RS):RS:=match h with
 | none=>st
 | some n=>{ st with log:=st.log++[[.int l,.int n,.str w,.int st.last]] }
def d0(l:Nat)(k:aF)(st:RS):RS:=aO k (some st.opened) (aW l (some st.opened) "open" { st with opened:=st.opened+1 })
def db(l:Nat)(a b:Option Nat)(st:RS):RS:=match a,b with
 | some n,some m=>if n=m then st else { st with log:=st.log++[[.int l,.int n,.int m]] }
 | _,_=>st
def ar(xs:List Int)(n:Int)(st:RS):Bool × RS:=match xs[st.taken]? with
 | none=>(false,st)
 | some v=>(decide (n<v),{ st with taken:=st.taken+1,last:=v })
def ia(l:Nat)(st:RS):RS:={ st with log:=st.log++(List.range st.opened).map fun (h:Nat)=>([.int l,.int h,.str "end", .int st.last]:List V) }
def cZ(l:Nat)(ws:List Str)(st:RS):RS:=match ws with
 | [k,x]=>if k = "open" then d0 l (.inr x) st else aO (.inr x) none st
 | [k,x,y]=>if k = "do" then aW l (aM st (.inr y)) x st else if k = "copy" then aO (.inr x) (aM st (.inr y)) st else db l (aM st (.inr x)) (aM st (.inr y)) st
 | _=>st
inductive dN:List Str→Prop
 | op (x:Str):dN ["open", x]
 | dr (x:Str):dN ["drop", x]
 | dd (u x:Str):dN ["do", u,x]
 | cp (x y:Str):dN ["copy", x,y]
 | ti (x y:Str):dN ["tie", x,y]
def my(f:List Stp→Prop):Stp→Prop
 | .plain ws=>dN ws
 | .lend _ _ b=>f b
 | .ite _ b c=>f b∧f c
 | .whl _ b=>f b
def fF:Nat→List Stp→Prop
 | 0,_=>False
 | d+1,T=>∀ s∈T,my (fF d) s
def cE(f:RS→RS)(xs:List Int)(n:Int):Nat→RS→RS
 | 0,st=>st
 | m+1,st=>if (ar xs n st).1=true then cE f xs n m (f (ar xs n st).2) else (ar xs n st).2
def cg(f:List Stp→Nat)(g:Nat→List Stp→RS→RS)(xs:List Int)(l:Nat):Stp→RS→RS
 | .plain ws,st=>cZ l ws st
 | .lend x y b,st=>aO (.inr y) none (aW (l+1+f b) (aM st (.inr x)) "back" (g (l+1) b (aO (.inr y) (aM st (.inr x)) (aW l (aM st (.inr x)) "lend" st))))
 | .ite n b c,st=>if (ar xs n st).1=true then g (l+1) b (ar xs n st).2 else g (l+1+f b+1) c (ar xs n st).2
 | .whl n b,st=>cE (g (l+1) b) xs n xs.length st
def aQ(xs:List Int):Nat→Nat→List Stp→RS→RS
 | 0,_,_,st=>st
 | d+1,l,T,st=>(df (aU (aj d)) l T).foldl (fun st z=>cg (aj d) (aQ xs d) xs z.1 z.2 st) st
def rs0:RS:=⟨0,0,0,[],[],0⟩
def GoodR(st:RS):Prop:=∀ k v,bN st.held k=some v→∃ h,v=hV h
theorem GoodR.get{st:RS}(g:GoodR st)(k:aF):(bN st.held k).getD .non=hV (aM st k):=by
 unfold aM
 cases e:bN st.held k with
 | none=>rfl
 | some v=>
  obtain⟨h,rfl⟩:=g k v e
  cases h with
  | none=>rfl
  | some n=>show V.int n=V.int ((Int.toNat (n:Int):Nat):Int); rw[Int.toNat_natCast]
theorem fK(k j:aF)(h:Option Nat)(st:RS):aM (aO k h st) j=if j=k then h else aM st j:=by
 unfold aM aO;rw[gd]
 by_cases e:j=k
 ·rw[if_pos e,if_pos e]
  cases h with
  | none=>rfl
  | some n=>show some (Int.toNat (n:Int))=some n; rw[Int.toNat_natCast]
 ·rw[if_neg e,if_neg e]
theorem GoodR.hold{st:RS}(g:GoodR st)(k:aF)(h:Option Nat):GoodR (aO k h st):=fun j v e=>by
 have e':(if j=k then some (hV h) else bN st.held j)=some v:=by rw[← gd]; exact e
 by_cases hj:j=k
 ·rw[if_pos hj]at e'; exact⟨h,(Option.some.inj e').symm⟩
 ·rw[if_neg hj]at e'; exact g j v e'
theorem fW(l:Nat)(h:Option Nat)(w:Str)(st:RS):(aW l h w st).held=st.held:=by cases h <;> rfl
theorem wu(l:Nat)(a b:Option Nat)(st:RS):(db l a b st).held=st.held:=by
 unfold db; split
 ·split <;> rfl
 ·rfl
theorem fk(xs:List Int)(n:Int)(st:RS):(ar xs n st).2.held=st.held:=by unfold ar; split <;> rfl
theorem GoodR.of{st st':RS}(g:GoodR st)(e:st'.held=st.held):GoodR st':=fun k v h=>g k v (by rw[← e]; exact h)
theorem AH(kvs:List (aF × V))(k:aF)(v:V):kvs.length≤(cU kvs k v).length:=by
 unfold cU; split
 ·rw[List.length_map]; exact Nat.le_refl _
 ·rw[List.length_append]; omega
def UpR(a b:RS):Prop:=a.taken≤b.taken∧a.sz≤b.sz
theorem UpR.refl(a:RS):UpR a a:=⟨Nat.le_refl _,Nat.le_refl _⟩
theorem UpR.trans{a b c:RS}(h:UpR a b)(k:UpR b c):UpR a c:=⟨Nat.le_trans h.1 k.1,Nat.le_trans h.2 k.2⟩
theorem eP(k:aF)(h:Option Nat)(st:RS):UpR st (aO k h st):=⟨Nat.le_refl _,by have:=AH st.held k (hV h); simp only[RS.sz,aO]; omega⟩
theorem fN(l:Nat)(h:Option Nat)(w:Str)(st:RS):UpR st (aW l h w st):=by
 cases h with
 | none=>exact UpR.refl _
 | some n=>exact⟨Nat.le_refl _,by simp only[RS.sz,aW,List.length_append]; omega⟩
theorem BM(l:Nat)(k:aF)(st:RS):UpR st (d0 l k st):=
 UpR.trans (b:={ st with opened:=st.opened+1 }) ⟨Nat.le_refl _,by simp only[RS.sz]; omega⟩ (UpR.trans (fN l (some st.opened) "open" _) (eP k _ _))
theorem wm(l:Nat)(a b:Option Nat)(st:RS):UpR st (db l a b st):=by
 unfold db; split
 ·split
  ·exact UpR.refl _
  ·exact⟨Nat.le_refl _,by simp only[RS.sz,List.length_append]; omega⟩
 ·exact UpR.refl _
theorem jX(xs:List Int)(n:Int)(st:RS):UpR st (ar xs n st).2:=by
 unfold ar; split
 ·exact UpR.refl _
 ·exact⟨Nat.le_succ _,Nat.le_refl _⟩
theorem zz(l:Nat)(ws:List Str)(st:RS):UpR st (cZ l ws st):=by
 unfold cZ; split
 ·split
  ·exact BM _ _ _
  ·exact eP _ _ _
 ·split
  ·exact fN _ _ _ _
  ·split
   ·exact eP _ _ _
   ·exact wm _ _ _ _
 ·exact UpR.refl _
theorem mw{f:RS→RS}(hf:∀ st,UpR st (f st))(xs:List Int)(n:Int):∀ (m:Nat) (st:RS),UpR st (cE f xs n m st)
 | 0,st=>UpR.refl _
 | m+1,st=>by
  unfold cE; split
  ·exact(jX xs n st).trans ((hf _).trans (mw hf xs n m _))
  ·exact jX xs n st
theorem sY{f:List Stp→Nat}{g:Nat→List Stp→RS→RS}(hg:∀ l T st,UpR st (g l T st))(xs:List Int)(l:Nat):∀ (s:Stp) (st:RS),UpR st (cg f g xs l s st)
 | .plain ws,st=>zz _ _ _
 | .lend x y b,st=>(fN l _ "lend" st).trans ((eP _ _ _).trans ((hg _ _ _).trans ((fN _ _ "back" _).trans (eP _ _ _))))
 | .ite n b c,st=>by
  show UpR st (if (ar xs n st).1=true then _ else _)
  split
  ·exact(jX xs n st).trans (hg _ _ _)
  ·exact(jX xs n st).trans (hg _ _ _)
 | .whl n b,st=>mw (hg _ _) xs n _ _
theorem mK{α : Type}{h:RS→α→RS}(hh:∀ st z,UpR st (h st z)):∀ (zs:List α) (st:RS),UpR st (zs.foldl h st)
 | [],st=>UpR.refl _
 | z::zs,st=>(hh st z).trans (mK hh zs _)
theorem jL(xs:List Int):∀ (d l:Nat) (T:List Stp) (st:RS),UpR st (aQ xs d l T st)
 | 0,_,_,st=>UpR.refl _
 | d+1,l,T,st=>mK (fun st (z:Nat × Stp)=>sY (f:=aj d) (jL xs d) xs z.1 z.2 st) _ _
def GrR(n c:Nat)(a b:RS):Prop:=∃ δ,b.taken=a.taken+δ∧b.sz≤a.sz+c * (δ+1)∧(a.taken≤n→b.taken≤n)
theorem GrR.seq{n c c':Nat}{x y z:RS}(h:GrR n c x y)(k:GrR n c' y z):GrR n (c+c') x z:=by
 obtain⟨δ,h1,h2,h3⟩:=h
 obtain⟨ε,k1,k2,k3⟩:=k
 refine⟨δ+ε,by omega,?_,fun q=>k3 (h3 q)⟩
 have e1:c * (δ+1)≤c * (δ+ε+1):=Nat.mul_le_mul (Nat.le_refl _) (by omega)
 have e2:c' * (ε+1)≤c' * (δ+ε+1):=Nat.mul_le_mul (Nat.le_refl _) (by omega)
 have e3:(c+c') * (δ+ε+1)=c * (δ+ε+1)+c' * (δ+ε+1):=Nat.add_mul _ _ _
 omega
theorem GrR.up{n c c':Nat}{x y:RS}(h:GrR n c x y)(k:c≤c'):GrR n c' x y:=by
 obtain⟨δ,h1,h2,h3⟩:=h
 have e:=Nat.mul_le_mul k (Nat.le_refl (δ+1));exact⟨δ,h1,by omega,h3⟩
theorem iz(n:Nat)(k:aF)(h:Option Nat)(st:RS):GrR n 1 st (aO k h st):=⟨0,rfl,by have:=ig st.held k (hV h); simp only[RS.sz,aO]; omega,fun q=>q⟩
theorem jP(n:Nat)(l:Nat)(h:Option Nat)(w:Str)(st:RS):GrR n 1 st (aW l h w st):=by
 cases h with
 | none=>exact⟨0,rfl,Nat.le_add_right _ _,fun q=>q⟩
 | some m=>exact⟨0,rfl,by simp only[RS.sz,aW,List.length_append,List.length_cons,List.length_nil]; omega,fun q=>q⟩
theorem EB(n:Nat)(l:Nat)(a b:Option Nat)(st:RS):GrR n 1 st (db l a b st):=by
 unfold db; split
 ·split
  ·exact⟨0,rfl,Nat.le_add_right _ _,fun q=>q⟩
  ·exact⟨0,rfl,by simp only[RS.sz,List.length_append,List.length_cons,List.length_nil]; omega,fun q=>q⟩
 ·exact⟨0,rfl,Nat.le_add_right _ _,fun q=>q⟩
theorem BQ(n:Nat)(l:Nat)(k:aF)(st:RS):GrR n 3 st (d0 l k st):=
 GrR.seq (c:=1) (y:={ st with opened:=st.opened+1 }) ⟨0,rfl,by simp only[RS.sz]; omega,fun q=>q⟩ (GrR.seq (c:=1) (c':=1) (jP n l (some st.opened) "open" _) (iz n k _ _))
theorem yF(n:Nat)(l:Nat)(ws:List Str)(st:RS):GrR n 3 st (cZ l ws st):=by
 unfold cZ; split
 ·split
  ·exact BQ _ _ _ _
  ·exact(iz _ _ _ _).up (by decide)
 ·split
  ·exact(jP _ _ _ _ _).up (by decide)
  ·split
   ·exact(iz _ _ _ _).up (by decide)
   ·exact(EB _ _ _ _ _).up (by decide)
 ·exact⟨0,rfl,Nat.le_add_right _ _,fun q=>q⟩
theorem nA{xs:List Int}{n:Int}{st:RS}(h:(ar xs n st).1=true):(ar xs n st).2.taken=st.taken+1∧st.taken<xs.length∧(ar xs n st).2.sz=st.sz:=by
 unfold ar at h ⊢
 split at h
 ·cases h
 ·rename_i v e
  have:=(List.getElem?_eq_some_iff.mp e).1
  exact⟨rfl,this,rfl⟩
theorem rj(xs:List Int)(n:Int)(st:RS):(∃ δ,(ar xs n st).2.taken=st.taken+δ)∧(ar xs n st).2.sz=st.sz∧(st.taken≤xs.length→(ar xs n st).2.taken≤xs.length):=by
 unfold ar;split
 ·exact⟨⟨0,rfl⟩,rfl,fun q=>q⟩
 ·rename_i v e
  have:=(List.getElem?_eq_some_iff.mp e).1
  exact⟨⟨1,rfl⟩,rfl,fun q=>this⟩
theorem sR(xs:List Int)(n:Int)(st:RS):GrR xs.length 0 st (ar xs n st).2:=by
 obtain⟨⟨δ,h1⟩,h2,h3⟩:=rj xs n st
 exact⟨δ,h1,by omega,h3⟩
theorem ue{f:RS→RS}{xs:List Int}{c:Nat}(hf:∀ st,GrR xs.length c st (f st))(n:Int):∀ (m:Nat) (st:RS),∃ δ,(cE f xs n m st).taken=st.taken+δ∧(cE f xs n m st).sz≤st.sz+c * δ∧(st.taken≤xs.length→(cE f xs n m st).taken≤xs.length)
 | 0,st=>⟨0,rfl,Nat.le_add_right _ _,fun q=>q⟩
 | m+1,st=>by
  unfold cE; split
  ·rename_i hh
   obtain⟨a1,a2,a3⟩:=nA hh
   obtain⟨δ,h1,h2,h3⟩:=hf (ar xs n st).2
   obtain⟨ε,k1,k2,k3⟩:=ue hf n m (f (ar xs n st).2)
   refine⟨1+δ+ε,by omega,?_,fun q=>k3 (h3 (by omega))⟩
   have e:c * (1+δ+ε)=c * (δ+1)+c * ε:=by rw[← Nat.mul_add]; congr 1; omega
   omega
  ·obtain⟨⟨δ,h1⟩,h2,h3⟩:=rj xs n st
   exact⟨δ,h1,by omega,h3⟩
theorem B3{xs:List Int}{f:List Stp→Nat}{g:Nat→List Stp→RS→RS}(hg:∀ l T st,GrR xs.length (3 * f T) st (g l T st))(l:Nat):∀ (s:Stp) (st:RS),GrR xs.length (3 * aU f s) st (cg f g xs l s st)
 | .plain ws,st=>yF _ _ _ _
 | .lend x y b,st=>GrR.up (((jP _ l _ "lend" st).seq ((iz _ _ _ _).seq ((hg _ _ _).seq ((jP _ _ _ "back" _).seq (iz _ _ _ _)))))) (by simp only[aU]; omega)
 | .ite n b c,st=>by
  show GrR _ _ st (if (ar xs n st).1=true then _ else _)
  split
  ·exact GrR.up ((sR xs n st).seq (hg _ _ _)) (by simp only[aU]; omega)
  ·exact GrR.up ((sR xs n st).seq (hg _ _ _)) (by simp only[aU]; omega)
 | .whl n b,st=>by
  obtain⟨δ,h1,h2,h3⟩:=ue (hg (l+1) b) n xs.length st
  refine⟨δ,h1,Nat.le_trans h2 ?_,h3⟩
  have:3 * f b * δ≤3 * aU f (.whl n b) * (δ+1):=Nat.mul_le_mul (by simp only[aU]; omega) (by omega)
  omega
theorem uj{n:Nat}{α : Type}{h:RS→α→RS}{c:α→Nat}(hh:∀ st z,GrR n (c z) st (h st z)):∀ (zs:List α) (st:RS),GrR n (zs.map c).sum st (zs.foldl h st)
 | [],st=>⟨0,rfl,Nat.le_add_right _ _,fun q=>q⟩
 | z::zs,st=>(hh st z).seq (uj hh zs _)
theorem qR(f:Stp→Nat):∀ (l:Nat) (T:List Stp),((df f l T).map fun z=>3 * f z.2).sum=3 * (T.map f).sum
 | _,[]=>rfl
 | l,s::T=>by
  show 3 * f s+((df f (l+f s) T).map fun z=>3 * f z.2).sum=3 * (f s+(T.map f).sum)
  rw[qR f _ T]; omega
theorem xy(xs:List Int):∀ (d l:Nat) (T:List Stp) (st:RS),GrR xs.length (3 * aj d T) st (aQ xs d l T st)
 | 0,_,_,st=>⟨0,rfl,Nat.le_add_right _ _,fun q=>q⟩
 | d+1,l,T,st=>by
  have:=uj (n:=xs.length) (c:=fun z:Nat × Stp=>3 * aU (aj d) z.2) (h:=fun st z=>cg (aj d) (aQ xs d) xs z.1 z.2 st) (fun st z=>B3 (xy xs d) z.1 z.2 st) (df (aU (aj d)) l T) st
  rw[qR]at this
  exact this
def f_(xs:List Int)(d:Nat)(T:List Stp):RS:=ia (aj d T) (aQ xs d 0 T rs0)
theorem DM(xs:List Int)(d:Nat)(T:List Stp):(aQ xs d 0 T rs0).sz≤3 * aj d T * (xs.length+1):=by
 obtain⟨δ,h1,h2,h3⟩:=xy xs d 0 T rs0
 have h4:=h3 (Nat.zero_le _);have h0:rs0.taken=0:=rfl
 have h00:rs0.sz=0:=rfl
 have:3 * aj d T * (δ+1)≤3 * aj d T * (xs.length+1):=Nat.mul_le_mul (Nat.le_refl _) (by omega)
 omega
structure ClosedR (xs:List Int) (P:RS→Prop):Prop where
 hold:∀ k h st,P st→P (aO k h st)
 deed:∀ l h w st,P st→P (aW l h w st)
 tie:∀ l a b st,P st→P (db l a b st)
 opn:∀ l k st,P st→P (d0 l k st)
 take:∀ n st,P st→P (ar xs n st).2
theorem ClosedR.plain{xs:List Int}{P:RS→Prop}(c:ClosedR xs P)(l:Nat)(ws:List Str)(st:RS)(h:P st):P (cZ l ws st):=by
 unfold cZ; split
 ·split
  ·exact c.opn _ _ _ h
  ·exact c.hold _ _ _ h
 ·split
  ·exact c.deed _ _ _ _ h
  ·split
   ·exact c.hold _ _ _ h
   ·exact c.tie _ _ _ _ h
 ·exact h
theorem ClosedR.loop{xs:List Int}{P:RS→Prop}(c:ClosedR xs P){f:RS→RS}(hf:∀ st,P st→P (f st))(n:Int):∀ (m:Nat) (st:RS),P st→P (cE f xs n m st)
 | 0,_,h=>h
 | m+1,st,h=>by
  unfold cE; split
  ·exact c.loop hf n m _ (hf _ (c.take n st h))
  ·exact c.take n st h
theorem ClosedR.step{xs:List Int}{P:RS→Prop}(c:ClosedR xs P){f:List Stp→Nat}{g:Nat→List Stp→RS→RS}(hg:∀ l T st,P st→P (g l T st))(l:Nat):∀ (s:Stp) (st:RS),P st→P (cg f g xs l s st)
 | .plain ws,st,h=>c.plain l ws st h
 | .lend x y b,st,h=>c.hold _ _ _ (c.deed _ _ _ _ (hg _ _ _ (c.hold _ _ _ (c.deed _ _ _ _ h))))
 | .ite n b e,st,h=>by
  show P (if (ar xs n st).1=true then _ else _)
  split
  ·exact hg _ _ _ (c.take n st h)
  ·exact hg _ _ _ (c.take n st h)
 | .whl n b,st,h=>c.loop (hg _ _) n _ _ h
theorem pj{α : Type}{P:RS→Prop}{h:RS→α→RS}(hh:∀ st z,P st→P (h st z)):∀ (zs:List α) (st:RS),P st→P (zs.foldl h st)
 | [],_,g=>g
 | z::zs,st,g=>pj hh zs _ (hh st z g)
theorem ClosedR.run{xs:List Int}{P:RS→Prop}(c:ClosedR xs P):∀ (d l:Nat) (T:List Stp) (st:RS),P st→P (aQ xs d l T st)
 | 0,_,_,_,h=>h
 | d+1,l,T,st,h=>pj (fun st (z:Nat × Stp) k=>c.step (f:=aj d) (c.run d) z.1 z.2 st k) _ _ h
inductive iX:List V→Prop
 | deed (l h:Nat) (w:Str) (n:Int):iX [.int l,.int h,.str w,.int n]
 | tie (l a b:Nat):iX [.int l,.int a,.int b]
def LogOk(st:RS):Prop:=∀ e∈st.log,iX e
theorem LogOk.add{st:RS}(h:LogOk st){e:List V}(he:iX e):LogOk { st with log:=st.log++[e] }:=fun x hx=>by
 rcases List.mem_append.mp hx with z | z
 ·exact h x z
 ·rw[List.mem_singleton.mp z]; exact he
theorem vT(xs:List Int):ClosedR xs LogOk where
 hold:=fun k h st z=>z
 deed:=fun l h w st z=>by
  cases h with
  | none=>exact z
  | some n=>exact LogOk.add z (.deed l n w st.last)
 tie:=fun l a b st z=>by
  unfold db; split
  ·split
   ·exact z
   ·exact LogOk.add z (.tie l _ _)
  ·exact z
 opn:=fun l k st z=>LogOk.add (st:={ st with opened:=st.opened+1 }) z (.deed l st.opened "open" st.last)
 take:=fun n st z=>by unfold ar; split <;> exact z
theorem Cc{l:Nat}{st:RS}(h:LogOk st):LogOk (ia l st):=fun x hx=>by
 rcases List.mem_append.mp hx with z | z
 ·exact h x z
 ·obtain⟨n,_,rfl⟩:=List.mem_map.mp z; exact .deed l n "end" st.last
theorem Cj(xs:List Int)(d:Nat)(T:List Stp):LogOk (f_ xs d T):=Cc ((vT xs).run d 0 T rs0 (fun x hx=>by cases hx))
def nF(k:Str)(pp lp bp:Addr):List (Str × V):=[("kind", .str k),("parts", .ref pp),("lines", .ref lp),("blocks", .ref bp)]
theorem bx(k:Str)(pp lp bp:Addr):(nF k pp lp bp).lookup ("kind" : Str)=some (.str k):=by unfold nF; walk_at "lk"
theorem b8(k:Str)(pp lp bp:Addr):(nF k pp lp bp).lookup ("parts" : Str)=some (.ref pp):=by unfold nF; walk_at "lk"
theorem cx(k:Str)(pp lp bp:Addr):(nF k pp lp bp).lookup ("lines" : Str)=some (.ref lp):=by unfold nF; walk_at "lk"
theorem dy(k:Str)(pp lp bp:Addr):(nF k pp lp bp).lookup ("blocks" : Str)=some (.ref bp):=by unfold nF; walk_at "lk"
def e7(ns:List Nat):List V:=ns.map fun (n:Nat)=>V.int (n:Int)
def nstpAt(K:PySem.W.Frag)(C:Addr)(f:List Stp→Nat)(S:Addr→Prop)(PA:Addr→Nat→List Stp→Prop)(H:Hp)(a:Addr)(l:Nat)(s:Stp):Prop:=
 ∃ (dx pp lp bp:Addr) (bs:List Addr),H a=some (.ins C dx (nF (kindOf s) pp lp bp))∧SqT K H pp (dJ s)∧S lp∧H lp=some (.lst (e7 (cO f l s)))∧S bp∧H bp=some (.lst (bs.map V.ref))∧Paired (fun q (z:Nat × List Stp)=>PA q z.1 z.2) bs (cM f l s)
def NumAt(K:PySem.W.Frag)(C:Addr)(S:Addr→Prop):Nat→Hp→Addr→Nat→List Stp→Prop
 | 0=>fun _ _ _ _=>False
 | d+1=>fun H p l T=>S p∧∃ as:List Addr,H p=some (.lst (as.map V.ref))∧Paired (fun a (z:Nat × Stp)=>nstpAt K C (aj d) S (NumAt K C S d H) H a z.1 z.2) as (df (aU (aj d)) l T)
structure Stays (S:Addr→Prop) (H H':Hp):Prop where
 t:∀ b xs,H b=some (.tup xs)→H' b=some (.tup xs)
 z:∀ b o u,H b=some (.frz o u)→H' b=some (.frz o u)
 i:∀ b C dx fs,H b=some (.ins C dx fs)→H' b=some (.ins C dx fs)
 l:∀ b xs,S b→H b=some (.lst xs)→H' b=some (.lst xs)
theorem Stays.of{S:Addr→Prop}{H H':Hp}(sm:Same H H'):Stays S H H':=⟨fun b xs h=>sm _ _ h,fun b o u h=>sm _ _ h,fun b C dx fs h=>sm _ _ h,fun b xs _ h=>sm _ _ h⟩
theorem Stays.upd{S:Addr→Prop}{H:Hp}{p:Addr}{xs:List V}{o:HO}(h:H p=some (.lst xs))(hS:¬ S p):Stays S H (upd H p o):=
  ⟨fun b xs e=>by rw[ai (bW e h (fun z=>nomatch z))]; exact e,fun b o u e=>by rw[ai (bW e h (fun z=>nomatch z))]; exact e,fun b C dx fs e=>by rw[ai (bW e h (fun z=>nomatch z))]; exact e,
   fun b xs hb e=>by rw[ai (show b≠p from fun z=>hS (z ▸ hb))]; exact e⟩
theorem SqT.stays{K:PySem.W.Frag}{S:Addr→Prop}{H H':Hp}{a:Addr}{xs:List V}(h:SqT K H a xs)(st:Stays S H H'):SqT K H' a xs:=by
 rcases h with (h | ⟨o,h⟩) | h
 ·exact .inl (.inl (st.t _ _ h))
 ·exact .inl (.inr ⟨o,st.z _ _ _ h⟩)
 ·exact .inr h
theorem SqT.updI{K:PySem.W.Frag}{H:Hp}{a x C dx:Addr}{xs:List V}{fs:List (Str × V)}{o:HO}(h:SqT K H a xs)(hx:H x=some (.ins C dx fs)):SqT K (upd H x o) a xs:=by
 rcases h with (h | ⟨o',h⟩) | h
 ·exact .inl (.inl (by rw[ai (bW h hx (fun z=>nomatch z))]; exact h))
 ·exact .inl (.inr ⟨o',by rw[ai (bW h hx (fun z=>nomatch z))]; exact h⟩)
 ·exact .inr h
theorem nstpAt.imp{K:PySem.W.Frag}{C:Addr}{f:List Stp→Nat}{S S':Addr→Prop}{PA PA':Addr→Nat→List Stp→Prop}{H H':Hp}{a:Addr}{l:Nat}{s:Stp}(h:nstpAt K C f S PA H a l s)(st:Stays S H H')(hS:∀ b,S b→S' b)(hp:∀ q l b,PA q l b→PA' q l b):nstpAt K C f S' PA' H' a l s:=by
 obtain⟨dx,pp,lp,bp,bs,h1,h2,h3,h4,h5,h6,h7⟩:=h
 exact⟨dx,pp,lp,bp,bs,st.i _ _ _ _ h1,SqT.stays h2 st,hS _ h3,st.l _ _ h3 h4,hS _ h5,st.l _ _ h5 h6,Paired.imp' (fun q z y=>hp _ _ _ y) h7⟩
theorem NumAt.imp{K:PySem.W.Frag}{C:Addr}{S S':Addr→Prop}{H H':Hp}(st:Stays S H H')(hS:∀ b,S b→S' b):∀ (d:Nat) {p:Addr} {l:Nat} {T:List Stp},NumAt K C S d H p l T→NumAt K C S' d H' p l T
 | 0,_,_,_,h=>h.elim
 | d+1,p,l,T,⟨h0,as,h1,h2⟩=>⟨hS _ h0,as,st.l _ _ h0 h1,Paired.imp' (fun a z y=>y.imp st hS fun q l b y'=>NumAt.imp st hS d y') h2⟩
theorem NumAt.mono{K:PySem.W.Frag}{C:Addr}{S:Addr→Prop}{H H':Hp}{d:Nat}{p:Addr}{l:Nat}{T:List Stp}(h:NumAt K C S d H p l T)(sm:Same H H'):NumAt K C S d H' p l T:=h.imp (Stays.of sm) (fun _ z=>z) d
theorem nstpAt.mono{K:PySem.W.Frag}{C:Addr}{S:Addr→Prop}{H H':Hp}{d:Nat}{a:Addr}{l:Nat}{s:Stp}(h:nstpAt K C (aj d) S (NumAt K C S d H) H a l s)(sm:Same H H'):nstpAt K C (aj d) S (NumAt K C S d H') H' a l s:=
 h.imp (Stays.of sm) (fun _ z=>z) fun q l b y=>y.mono sm
theorem sT{α : Type}{xs:List α}{x:α}(h:xs.getLast? = some x):eY xs (-1)=some x:=by
 rcases List.eq_nil_or_concat xs with rfl | ⟨ys,y,rfl⟩
 ·simp at h
 ·have e:y=x:=by simpa using h
  subst e
  have e:kt (ys++[y]).length (-1)=some ys.length:=by
   unfold kt;simp only[List.length_append,List.length_cons,List.length_nil]
   split <;> simp_all <;> omega
  unfold eY;rw[List.concat_eq_append,e];simp
theorem iL{ns:List Nat}{n:Nat}(h:ns.getLast? = some n):eY (e7 ns) (-1)=some (.int n):=sT (by unfold e7; rw[List.getLast?_map,h]; rfl)
theorem fe{ns:List Nat}{i n:Nat}(h:ns[i]? = some n):eY (e7 ns) i=some (.int n):=aR (by unfold e7; rw[List.getElem?_map,h]; rfl)
theorem uy(d:Nat):∀ T:List Stp,T.length≤aj (d+1) T
 | []=>Nat.zero_le _
 | s::T=>by
  have:=uy d T
  have h1:=(lC (f:=aj d) (l:=0) (s:=s)).2;show T.length+1≤aU (aj d) s+aj (d+1) T
  omega
theorem mx{d:Nat}:∀ {T:List Stp} {s:Stp},s∈T→aU (aj d) s≤aj (d+1) T
 | [],_,h=>by cases h
 | t::T,s,h=>by
  show aU (aj d) s≤aU (aj d) t+aj (d+1) T
  rcases List.mem_cons.mp h with rfl | h
  ·omega
  ·have:=mx (d:=d) h; omega
theorem qm{d i:Nat}{T:List Stp}:aj (d+1) (T.take i)≤aj (d+1) T:=by
 have e:aj (d+1) T=aj (d+1) (T.take i)+aj (d+1) (T.drop i):=by
  show (T.map _).sum=((T.take i).map _).sum+((T.drop i).map _).sum
  rw[← List.sum_append,← List.map_append,List.take_append_drop]
 omega
theorem CB{f:List Stp→Nat}{l:Nat}:∀ {s:Stp} {z:Nat × List Stp},z∈cM f l s→f z.2≤aU f s
 | .plain _,z,h=>by cases h
 | .lend _ _ b,z,h=>by simp[cM]at h; subst h; simp[aU]
 | .ite _ b c,z,h=>by
  simp[cM]at h
  rcases h with rfl | rfl <;> simp[aU] <;> omega
 | .whl _ b,z,h=>by simp[cM]at h; subst h; simp[aU]
theorem zf(f:List Stp→Nat)(l:Nat)(s:Stp):(cM f l s).length≤2:=by cases s <;> simp[cM]
theorem CF{PA:Addr→List Stp→Prop}{H:Hp}{a:Addr}{f:List Stp→Nat}{g:List Stp→Prop}{l:Nat}:∀ {s:Stp},stpAt PA H a s→p0 g s→∃ bs:List Addr,H a=some (.tup (.str (kindOf s)::(dJ s++bs.map V.ref)))∧bs.length=(ba (kindOf s)).length∧Paired (fun q (z:Nat × List Stp)=>PA q z.2∧g z.2) bs (cM f l s)
 | .plain ws,h,ok=>by
  have hw:ws≠[]:=fun e=>by have:=ok.two; rw[e]at this; simp at this
  obtain⟨k,r,rfl⟩:=List.exists_cons_of_ne_nil hw
  have hk:k∈dh:=ok.kind
  refine⟨[],?_,?_,.nil⟩
  ·show H a=some (.tup (.str k::(r.map V.str++[])))
   rw[List.append_nil]; exact h
  ·show 0=(ba k).length
   revert hk; unfold dh
   intro hk
   simp only[List.mem_cons,List.not_mem_nil,or_false]at hk
   rcases hk with rfl | rfl | rfl | rfl | rfl <;> decide
 | .lend x y b,⟨q,h,z⟩,⟨_,_,o⟩=>⟨[q],h,by show 1=(ba "lend").length; decide,.cons ⟨z,o⟩ .nil⟩
 | .ite n b c,⟨q,r,h,z,y⟩,⟨_,o,o'⟩=>⟨[q,r],h,by show 2=(ba "if").length; decide,.cons ⟨z,o⟩ (.cons ⟨y,o'⟩ .nil)⟩
 | .whl n b,⟨q,h,z⟩,⟨_,o⟩=>⟨[q],h,by show 1=(ba "while").length; decide,.cons ⟨z,o⟩ .nil⟩
def mE(K:PySem.W.Frag)(C:Addr):Sp:=fun vs H Q _=>∃ (x dx hp:Addr) (k:Str) (ps:List V) (lp bp:Addr),vs=[.ref x,.ref hp,.ref lp,.ref bp]∧H x=some (.ins C dx [])∧SqT K H hp (.str k::ps)∧
 ∀ (pp:Addr) (H':Hp),(∀ b o,H b=some o→b≠x→H' b=some o)→H' x=some (.ins C dx (nF k pp lp bp))→SqT K H' pp ps→Q .non H'
def gS(K:PySem.W.Frag)(C:Addr):Sp:=fun vs H Q _=>∃ (p:Addr) (l d:Nat) (T:List Stp) (S:Addr→Prop),vs=[.ref p,.int (l:Int)]∧NumAt K C S (d+1) H p l T∧aj (d+1) T≤10000∧Q (.int ((l+aj (d+1) T:Nat):Int)) H
def Fm(K:PySem.W.Frag)(C:Addr)(d:Nat):Sp:=fun vs H Q _=>∃ (a:Addr) (l:Nat) (s:Stp) (S:Addr→Prop),vs=[.ref a,.int (l:Int)]∧stpAt (ProgAt S d H) H a s∧p0 (dE d) s∧aU (aj d) s≤10000∧
 ∀ (q:Addr) (H':Hp),Same H H'→nstpAt K C (aj d) (fun b=>H b=none) (NumAt K C (fun b=>H b=none) d H') H' q l s→Q (.ref q) H'
def lF(K:PySem.W.Frag)(C:Addr)(d:Nat):Sp:=fun vs H Q _=>∃ (p:Addr) (l:Nat) (T:List Stp) (S:Addr→Prop),vs=[.ref p,.int (l:Int)]∧ProgAt S d H p T∧dE d T∧aj d T≤10000∧
 ∀ (q:Addr) (H':Hp),Same H H'→NumAt K C (fun b=>H b=none) d H' q l T→Q (.ref q) H'
section
variable{P:Program}{w:World}{K:PySem.W.Frag}{mg:Str→Option Value}{base:Heap}{CN:Addr}
theorem zS(D:MakeAt K mg "NumberedStep" CN "NumberedStep.__init__" aT) (a_kind:Fl K CN "kind") (a_parts:Fl K CN "parts") (a_lines:Fl K CN "lines") (a_blocks:Fl K CN "blocks") :
  jy P w K mg base 1 "NumberedStep" CN ["self", "head", "lines", "blocks"] (mE K CN):=by
 refine D.mkal (k:=0) gZ (fun _ _ _ _ _ _ us hl=>match us,hl with | [_,_,_,_],_=>rfl) (fun vs H Q E h=>by obtain⟨x,dx,hp,k,ps,lp,bp,rfl,_⟩:=h; rfl) (fun f cdv A outer s H vs Q E hr h=>?_)
 obtain⟨x,dx,hp,k,ps,lp,bp,rfl,hx,hh,q⟩:=h
 refine⟨_,(ae (cR a_kind (pv 0) (ax (aG K) (pv 1) af (fun _ _=>rfl)))
   (ae (cR a_parts (pv 0) (b_ (j7 K) (pv 1) (ci af) cQ))
   (ae (cR a_lines (pv 0) (pv 2))
   (ak (cR a_blocks (pv 0) (pv 3)))))),?_⟩
 walk_at "rd1";refine⟨_,_,.inr hh,cn,dx,_,hx,by decide,?_⟩
 generalize hH1:upd H x _=H1
 have e1:H1 x=some (.ins CN dx [("kind", .str k)]):=by rw[← hH1,ah]; walk_at "pf"
 have k1:∀ b o,H b=some o→b≠x→H1 b=some o:=fun b o e n=>by rw[← hH1,ai n]; exact e
 have hh1:SqT K H1 hp (.str k::ps):=by rw[← hH1]; exact SqT.updI hh hx
 walk_at "nx";refine iO hh1 fun pp H2 sm2 hpp=>?_
 have ec:dO (V.str k::ps) (some 1) none=ps:=ju _ 1
 rw[ec]at hpp
 refine⟨dx,_,sm2 _ _ e1,by simp,?_⟩
 generalize hH3:upd H2 x _=H3
 have e3:H3 x=some (.ins CN dx [("kind", .str k),("parts", .ref pp)]):=by rw[← hH3,ah]; walk_at "pf"
 have k3:∀ b o,H2 b=some o→b≠x→H3 b=some o:=fun b o e n=>by rw[← hH3,ai n]; exact e
 have hp3:SqT K H3 pp ps:=by rw[← hH3]; exact SqT.updI hpp (sm2 _ _ e1)
 walk_at "nx";refine⟨dx,_,e3,by simp,?_⟩
 generalize hH4:upd H3 x _=H4
 have e4:H4 x=some (.ins CN dx [("kind", .str k),("parts", .ref pp),("lines", .ref lp)]):=by rw[← hH4,ah]; walk_at "pf"
 have k4:∀ b o,H3 b=some o→b≠x→H4 b=some o:=fun b o e n=>by rw[← hH4,ai n]; exact e
 have hp4:SqT K H4 pp ps:=by rw[← hH4]; exact SqT.updI hp3 e3
 walk_at "nx";refine⟨dx,_,e4,by simp,?_⟩
 refine q pp _ (fun b o e n=>?_) ?_ (SqT.updI hp4 e4)
 ·rw[ai n]; exact k4 _ _ (k3 _ _ (sm2 _ _ (k1 _ _ e n)) n) n
 ·rw[ah]; unfold nF; walk_at "pf"
theorem x8(D:DefAt K mg "line_behind" dw) (z_len:mg "len" = none) (a_lines:Fl K CN "lines"):aK P w K mg base 1 "line_behind" ["steps", "line"] (gS K CN):=by
 refine D.cal (k:=0) mq (fun _ _ _ _ _ _ us hl=>match us,hl with | [_,_],_=>rfl) (fun vs H Q E h=>by obtain⟨p,l,d,T,S,rfl,_⟩:=h; rfl) (fun f cdv A outer s H vs Q E hr h=>?_)
 obtain⟨p,l,d,T,S,rfl,⟨h0,as,h1,h2⟩,hz,q⟩:=h
 have hlen:=aB h2;rw[fG]at hlen
 refine⟨_,(ak (aE (pP (aC bD (bF (bh K) z_len cf (aa (pv 0) ac)) af (aH _)) (pv 1) (ao aD (ax (aG K) (aq a_lines (ax (aG K) (pv 0) (j6 iu af) (fun _ _=>rfl))) (j6 iu af) (fun _ _=>rfl)) af)))),?_⟩
 walk_at "rd1";refine⟨_,.inl (SqL.of h1),?_⟩
 rw[List.length_map,hlen];rcases List.eq_nil_or_concat T with rfl | ⟨T',t,rfl⟩
 ·refine aI (fun c=>?_) (fun c=>absurd rfl c)
  exact q
 ·rw[List.concat_eq_append]at *
  refine aI (fun c=>absurd c (by rw[List.length_append]; simp; omega)) (fun c=>?_)
  rw[jM]at h2
  rcases List.eq_nil_or_concat as with rfl | ⟨as',a,rfl⟩
  ·have:=aB h2; simp at this
  rw[List.concat_eq_append]at *
  have hl':as'.length=T'.length:=by simpa using hlen
  have h3:nstpAt K CN (aj d) S (NumAt K CN S d H) H a (l+(T'.map (aU (aj d))).sum) t:=by
   obtain⟨z,hz1,hz2⟩:=bI h2 (i:=as'.length) (x:=a) (by simp)
   rw[List.getElem?_append_right (by rw[fG]; omega),fG,hl']at hz1
   simp at hz1
   subst hz1; exact hz2
  obtain⟨dx,pp,lp,bp,bs,g1,g2,g3,g4,g5,g6,g7⟩:=h3
  obtain⟨g8,g9⟩:=lC (f:=aj d) (l:=l+(T'.map (aU (aj d))).sum) (s:=t)
  walk_at "rd1";refine⟨_,_,.inl (SqL.of h1),sT (x:=V.ref a) (by simp),?_⟩
  refine⟨a,rfl,dx,_,_,g1,cx _ _ _ _,?_⟩
  walk_at "rd1";refine⟨_,_,.inl (SqL.of g4),iL g8,?_⟩
  walk_at "rd1"
  have e:((l+(T'.map (aU (aj d))).sum+aU (aj d) t - 1:Nat):Int)+1=((l+aj (d+1) (T'++[t]):Nat):Int):=by
   have:aj (d+1) (T'++[t])=(T'.map (aU (aj d))).sum+aU (aj d) t:=by show ((T'++[t]).map _).sum=_; simp
   omega
  rw[e]; exact q
theorem Dp(D:DefAt K mg "numbered_step" aP) (c_head_of:aK P w K mg base 2 "head_of" ["step"] (jo K)) (c_blocks_of:aK P w K mg base 3 "blocks_of" ["step"] (gW K)) (c_line_behind:aK P w K mg base 1 "line_behind" ["steps", "line"] (gS K CN))
  (k_NumberedStep:jy P w K mg base 1 "NumberedStep" CN ["self", "head", "lines", "blocks"] (mE K CN)) {d:Nat} (c_numbered_steps:aK P w K mg base (2 * d+4) "numbered_steps" ["steps", "line"] (lF K CN d)) :
  aK P w K mg base (2 * d+5) "numbered_step" ["step", "line"] (Fm K CN d):=by
 refine D.cal (k:=2 * d+4) sc_numbered_step (fun _ _ _ _ _ _ us hl=>match us,hl with | [_,_],_=>rfl) (fun vs H Q E h=>by obtain⟨a,l,s,S,rfl,_⟩:=h; rfl) (fun f cdv A outer sh H vs Q E hr h=>?_)
 obtain⟨a,l,s,S,rfl,h1,ok,hz,q⟩:=h
 obtain⟨bs,b1,b2,b3⟩:=CF (f:=aj d) (l:=l) h1 ok
 refine⟨_,(ae (aw 2 sc_numbered_step.nd (bi (aa (pv 1) ac)))
   (ae (aw 3 sc_numbered_step.nd (bi ac))
   (ae (cC PassesOwn.never rfl (j0 K (az c_blocks_of hr (aa (pv 0) ac) (hle:=by omega))) (bj 4 sc_numbered_step.nd) (ae (aw 5 sc_numbered_step.nd (az c_numbered_steps hr (aa (pv 4) (aa (ao aD (ax (aG K) (pv 2) (j6 iu af) (fun _ _=>rfl)) af) ac)) (hle:=by omega)))
   (ae (ay (bb K PySem.F.plainAttrs_list PySem.F.slot_list_append PySem.F.type_list_append aS (pv 3) (aa (pv 5) ac)))
   (ak (ay (bb K PySem.F.plainAttrs_list PySem.F.slot_list_append PySem.F.type_list_append aS (pv 2) (aa (az c_line_behind hr (aa (pv 5) (aa (ao aD (ax (aG K) (pv 2) (j6 iu af) (fun _ _=>rfl)) af) ac)) (hle:=by omega)) ac)))))))
   (ak (aE (wa k_NumberedStep hr (aa (az c_head_of hr (aa (pv 0) ac) (hle:=by omega)) (aa (pv 2) (aa (pv 3) ac))) (hle:=by omega))))))),?_⟩
 walk_at "rd1";refine⟨by decide,fun lp hlp=>?_⟩
 generalize hA:upd H lp _=HA
 have sA:=cP hA hlp;have eA:=dG hA;walk_at "nx";refine⟨by decide,fun bp hbp=>?_⟩
 generalize hB:upd HA bp _=HB
 have sB:=cP hB hbp;have eB:=dG hB;have sAB:=sA.trans sB;have hcl:(ba (kindOf s)).length≤(dJ s++bs.map V.ref).length+1:=by rw[List.length_append,List.length_map,b2]; omega
 have hcut:(dJ s++bs.map V.ref).length+1 - (ba (kindOf s)).length=(dJ s).length+1:=by rw[List.length_append,List.length_map,b2]; omega
 walk_at "nx";refine⟨a,kindOf s,_,rfl,SqT.of (sAB _ _ b1),hcl,fun tp HC sC htp=>?_⟩
 rw[hcut]at htp
 have etk:(V.str (kindOf s)::(dJ s++bs.map V.ref)).drop ((dJ s).length+1)=bs.map V.ref:=by rw[List.drop_succ_cons,List.drop_left']; rfl
 rw[etk]at htp
 walk_at "rd1";refine⟨⟨_,htp⟩,?_⟩
 have hbl:=aB b3;have hb2:=zf (aj d) l s;have nlb:lp≠bp:=fun z=>by rw[← z]at hbp; rw[hbp]at eA; cases eA
 refine rJ (xs:=bs.map V.ref) (fun j σ H'=>∃ (o4 o5:Option V) (qs:List Addr),σ=[some (.ref a),some (.int (l:Int)),some (.ref lp),some (.ref bp),o4,o5]∧Same H H'∧SqT K H' tp (bs.map V.ref)∧H' lp=some (.lst (e7 ((cO (aj d) l s).take (j+1))))∧H' bp=some (.lst (qs.map V.ref))∧
   (∀ b,H' b=none→HC b=none)∧Paired (fun q (z:Nat × List Stp)=>NumAt K CN (fun b=>HC b=none) d H' q z.1 z.2) qs ((cM (aj d) l s).take j))
  ⟨none,none,[],rfl,sAB.trans sC,htp,by rw[sC _ _ (sB _ _ eA)]; simp[e7,cO],by rw[sC _ _ eB]; rfl,fun b h=>h,.nil⟩ (fun j σ H' _ h=>by obtain⟨_,_,_,_,_,z,_⟩:=h; exact z) ?_ ?_
 ·rintro j v σ H' hv ⟨o4,o5,qs,rfl,sm,ht',hl',hb',hfr,hp'⟩
  have hj:j<bs.length:=by have:=(List.getElem?_eq_some_iff.mp hv).1; simpa using this
  rw[List.getElem?_map,List.getElem?_eq_getElem hj]at hv
  cases hv;obtain⟨z,hz1,hz2,hz3⟩:=bI b3 (List.getElem?_eq_getElem hj)
  obtain⟨y,hy1,hy2⟩:=zV hz1
  have hylast:((cO (aj d) l s).take (j+1)).getLast? = some y:=by
   rw[List.take_add_one,hy1]; simp
  have hcnt:=CB (List.mem_of_getElem? hz1);walk_at "rd1";refine⟨_,_,.inl (SqL.of hl'),iL hylast,?_⟩
  walk_at "rd1";have ey:(y:Int)+1=((z.1:Nat):Int):=by omega
  rw[ey];refine⟨bs[j],z.1,z.2,S,rfl,hz2.mono sm,hz3,by omega,fun q' HD sD hq'=>?_⟩
  have qlen:=aB hp';rw[List.length_take]at qlen
  walk_at "nx";refine⟨⟨_,SqL.of (sD _ _ hb')⟩,_,sD _ _ hb',bG (by rw[List.length_map]; omega),?_⟩
  generalize hE:upd HD bp _=HE
  have stE:Stays (fun b=>H' b=none) HD HE:=by rw[← hE]; exact Stays.upd (sD _ _ hb') (fun z=>by rw[hb']at z; cases z)
  have hqE:=NumAt.imp (S':=fun b=>H' b=none) stE (fun _ z=>z) d hq'
  have eE:HE bp=some (.lst (qs.map V.ref++[V.ref q'])):=by rw[← hE,ah]
  have lE:HE lp=some (.lst (e7 ((cO (aj d) l s).take (j+1)))):=by rw[← hE,ai nlb]; exact sD _ _ hl'
  walk_at "nx";refine⟨⟨_,SqL.of lE⟩,_,_,.inl (SqL.of lE),iL hylast,?_⟩
  walk_at "rd1";rw[ey];have hC1:∀ b,H' b=none→HC b=none:=hfr
  have hqC:=NumAt.imp (S':=fun b=>HC b=none) (Stays.of (Same.refl HE)) hC1 d hqE
  cases d with
  | zero=>exact hqE.elim
  | succ d=>
  refine⟨q',z.1,d,z.2,_,rfl,hqE,by omega,?_⟩
  refine⟨_,lE,bG (by unfold e7; rw[List.length_map,List.length_take]; omega),?_⟩
  generalize hF:upd HE lp _=HF
  have lpC:HC lp=some (.lst (e7 [l])):=by rw[sC _ _ (sB _ _ eA)]; simp[e7]
  have bpC:HC bp=some (.lst []):=sC _ _ eB
  have stF:Stays (fun b=>HC b=none) HE HF:=by rw[← hF]; exact Stays.upd lE (fun z=>by rw[lpC]at z; cases z)
  have stE':Stays (fun b=>HC b=none) HD HE:=by rw[← hE]; exact Stays.upd (sD _ _ hb') (fun z=>by rw[bpC]at z; cases z)
  have up:∀ {p:Addr} {l:Nat} {T:List Stp},NumAt K CN (fun b=>HC b=none) (d+1) H' p l T→NumAt K CN (fun b=>HC b=none) (d+1) HF p l T:=fun z=>NumAt.imp stF (fun _ y=>y) _ (NumAt.imp stE' (fun _ y=>y) _ (z.mono sD))
  refine⟨_,_,qs++[q'],rfl,?_,?_,?_,?_,?_,?_⟩
  ·rw[← hF,← hE]; exact((sm.trans sD).upd (sA.free hbp) _).upd hlp _
  ·exact SqT.stays (SqT.stays (ht'.same sD) stE') stF
  ·rw[← hF,ah]
   have:(cO (aj (d+1)) l s)[j+1]? = some (z.1+aj (d+1) z.2):=by
    unfold cO;rw[List.getElem?_cons_succ,List.getElem?_map,hz1]; rfl
   unfold e7;rw[List.take_add_one (i:=j+1),this,List.map_append]; rfl
  ·rw[← hF,ai nlb.symm,eE,List.map_append]; rfl
  ·intro b hb
   refine hfr b (sD.free ?_)
   rw[← hF,← hE]at hb
   by_cases e1:b=lp
   ·rw[e1,ah]at hb; cases hb
   ·rw[ai e1]at hb
    by_cases e2:b=bp
    ·rw[e2,ah]at hb; cases hb
    ·rw[ai e2]at hb; exact hb
  ·rw[List.take_add_one,hz1]
   exact ck (R:=fun q (z:Nat × List Stp)=>NumAt K CN (fun b=>HC b=none) (d+1) HF q z.1 z.2) (NumAt.imp stF (fun _ y=>y) _ hqC) (Paired.imp' (fun q z y=>up y) hp')
 ·rintro σ H' ⟨o4,o5,qs,rfl,sm,ht',hl',hb',hfr,hp'⟩
  rw[List.length_map,hbl,List.take_length]at hp'
  have hll:(cO (aj d) l s).take ((bs.map V.ref).length+1)=cO (aj d) l s:=by
   rw[List.take_of_length_le]; unfold cO; rw[List.length_cons,List.length_map,List.length_map,hbl]; exact Nat.le_refl _
  rw[hll]at hl'
  walk_at "nx";refine⟨a,kindOf s,_,rfl,SqT.of (sm _ _ b1),hcl,fun hp HD sD hhp=>?_⟩
  rw[hcut]at hhp
  have etk2:(V.str (kindOf s)::(dJ s++bs.map V.ref)).take ((dJ s).length+1)=V.str (kindOf s)::dJ s:=by rw[List.take_succ_cons,List.take_left']; rfl
  rw[etk2]at hhp
  walk_at "rd1";intro x dx hx hdx ndx
  generalize hM:upd (upd HD dx (.own x)) x (.ins CN dx [])=HM
  have sM:Same HD HM:=by rw[← hM]; exact(al hdx (.own x)).upd hx _
  have eM:HM x=some (.ins CN dx []):=by rw[← hM,ah]
  refine⟨x,dx,hp,kindOf s,dJ s,lp,bp,rfl,eM,hhp.same sM,fun pp HN kN eN hpp=>⟨rfl,?_⟩⟩
  have sN:Same HD HN:=fun b o e=>kN b o (sM _ _ e) (av e hx)
  have sHN:Same H HN:=(sm.trans sD).trans sN
  have hCH:∀ b,HC b=none→H b=none:=fun b z=>(sAB.trans sC).free z
  refine q x HN sHN ⟨dx,pp,lp,bp,qs,eN,hpp,hlp,sN _ _ (sD _ _ hl'),sA.free hbp,sN _ _ (sD _ _ hb'),?_⟩
  exact Paired.imp' (fun q z y=>NumAt.imp (Stays.of (sD.trans sN)) hCH d y) hp'
theorem uw(D0:DefAt K mg "numbered_step" aP) (D:DefAt K mg "numbered_steps" bC) (c_head_of:aK P w K mg base 2 "head_of" ["step"] (jo K)) (c_blocks_of:aK P w K mg base 3 "blocks_of" ["step"] (gW K)) (c_line_behind:aK P w K mg base 1 "line_behind" ["steps", "line"] (gS K CN))
  (k_NumberedStep:jy P w K mg base 1 "NumberedStep" CN ["self", "head", "lines", "blocks"] (mE K CN)):∀ d:Nat,aK P w K mg base (2 * d+4) "numbered_steps" ["steps", "line"] (lF K CN d)
 | 0=>D.cal (k:=3) sc_numbered_steps (fun _ _ _ _ _ _ us hl=>match us,hl with | [_,_],_=>rfl) (fun vs H Q E h=>by obtain⟨p,l,T,S,rfl,_⟩:=h; rfl) (fun f cdv A outer s H vs Q E hr h=>by obtain⟨p,l,T,S,rfl,z,_⟩:=h; exact z.elim)
 | d+1=>by
  have c_numbered_step:=Dp D0 c_head_of c_blocks_of c_line_behind k_NumberedStep (uw D0 D c_head_of c_blocks_of c_line_behind k_NumberedStep d);refine D.cal (k:=2 * d+5) sc_numbered_steps (fun _ _ _ _ _ _ us hl=>match us,hl with | [_,_],_=>rfl) (fun vs H Q E h=>by obtain⟨p,l,T,S,rfl,_⟩:=h; rfl) (fun f cdv A outer s H vs Q E hr h=>?_)
  obtain⟨p,l,T,S,rfl,⟨h0,as,h1,h2⟩,ok,hz,q⟩:=h
  have hlen:=aB h2;have hTl:=uy d T
  refine⟨_,(ae (aw 2 sc_numbered_steps.nd (bi ac))
   (ae (cC PassesOwn.never rfl (cH K (pv 0)) (bj 3 sc_numbered_steps.nd) (ak (ay (bb K PySem.F.plainAttrs_list PySem.F.slot_list_append PySem.F.type_list_append aS (pv 2) (aa (az c_numbered_step hr (aa (pv 3) (aa (az c_line_behind hr (aa (pv 2) (aa (pv 1) ac)) (hle:=by omega)) ac)) (hle:=by omega)) ac)))))
   (ak (aE (pv 2))))),?_⟩
  walk_at "rd1";refine⟨by decide,fun lp hlp=>?_⟩
  generalize hA:upd H lp _=HA
  have sA:=cP hA hlp;have eA:=dG hA;walk_at "nx";refine⟨⟨_,SqL.of (sA _ _ h1)⟩,?_⟩
  have lpA:¬ HA lp=none:=fun z=>by rw[eA]at z; cases z
  refine da (xs:=as.map V.ref) (fun i σ H'=>∃ (o3:Option V) (ns:List Addr),σ=[some (.ref p),some (.int (l:Int)),some (.ref lp),o3]∧Same H H'∧H' lp=some (.lst (ns.map V.ref))∧(∀ b,H' b=none→HA b=none)∧
    Paired (fun a (z:Nat × Stp)=>nstpAt K CN (aj d) (fun b=>HA b=none) (NumAt K CN (fun b=>HA b=none) d H') H' a z.1 z.2) ns (df (aU (aj d)) l (T.take i)))
   ⟨none,[],rfl,sA,eA,fun _ z=>z,.nil⟩ (fun i σ H' _ h=>by obtain⟨_,_,_,sm,_⟩:=h; exact SqL.of (sm _ _ h1)) ?_ ?_
  ·rintro i v σ H' hv ⟨o3,ns,rfl,sm,n1,nf,n2⟩
   have hi:i<as.length:=by have:=(List.getElem?_eq_some_iff.mp hv).1; simpa using this
   rw[List.getElem?_map,List.getElem?_eq_getElem hi]at hv
   cases hv;obtain⟨s,hs,hsa⟩:=bI h2 (List.getElem?_eq_getElem hi)
   have hmem:=List.mem_of_getElem? hs;have hct:=mx (d:=d) hmem;have hctk:=qm (d:=d) (i:=i) (T:=T);have nlen:=aB n2;rw[fG,List.length_take]at nlen
   walk_at "rd1";refine⟨⟨_,SqL.of n1⟩,?_⟩
   refine⟨lp,l,d,T.take i,fun _=>True,rfl,⟨trivial,ns,n1,Paired.imp' (fun a z y=>y.imp (Stays.of (Same.refl H')) (fun _ _=>trivial) fun q l b y'=>NumAt.imp (Stays.of (Same.refl H')) (fun _ _=>trivial) d y') n2⟩,by omega,?_⟩
   refine⟨as[i],l+aj (d+1) (T.take i),s,S,rfl,?_,ok s hmem,by omega,fun q' HD sD hq'=>?_⟩
   ·exact stpAt.imp (fun b xs e=>sm _ _ e) (fun q b y=>y.mono sm) hsa
   refine⟨_,sD _ _ n1,bG (by rw[List.length_map]; omega),?_⟩
   generalize hE:upd HD lp _=HE
   have eE:HE lp=some (.lst ((ns++[q']).map V.ref)):=by rw[← hE,ah,List.map_append]; rfl
   have stE:Stays (fun b=>HA b=none) HD HE:=by rw[← hE]; exact Stays.upd (sD _ _ n1) lpA
   have hq2:nstpAt K CN (aj d) (fun b=>HA b=none) (NumAt K CN (fun b=>HA b=none) d HD) HD q' (l+aj (d+1) (T.take i)) s:=hq'.imp (Stays.of (Same.refl HD)) nf fun q l b y'=>NumAt.imp (Stays.of (Same.refl HD)) nf d y'
   have up:∀ {a:Addr} {l:Nat} {s:Stp},nstpAt K CN (aj d) (fun b=>HA b=none) (NumAt K CN (fun b=>HA b=none) d HD) HD a l s→nstpAt K CN (aj d) (fun b=>HA b=none) (NumAt K CN (fun b=>HA b=none) d HE) HE a l s:=fun z=>z.imp stE (fun _ y=>y) fun q l b y'=>NumAt.imp stE (fun _ y=>y) d y'
   refine⟨_,ns++[q'],rfl,?_,eE,?_,?_⟩
   ·rw[← hE]; exact(sm.trans sD).upd hlp _
   ·intro b hb
    refine nf b (sD.free ?_)
    rw[← hE]at hb
    by_cases e1:b=lp
    ·rw[e1,ah]at hb; cases hb
    ·rw[ai e1]at hb; exact hb
   ·have et:T.take (i+1)=T.take i++[s]:=by rw[List.take_add_one,hs]; rfl
    rw[et,jM];exact ck (R:=fun a (z:Nat × Stp)=>nstpAt K CN (aj d) (fun b=>HA b=none) (NumAt K CN (fun b=>HA b=none) d HE) HE a z.1 z.2) (up hq2) (Paired.imp' (fun a z y=>up (nstpAt.mono y sD)) n2)
  ·rintro σ H' ⟨o3,ns,rfl,sm,n1,nf,n2⟩
   rw[List.length_map,hlen,List.take_length]at n2
   walk_at "nx";have hAH:∀ b,HA b=none→H b=none:=fun b z=>sA.free z
   exact q lp H' sm ⟨hlp,ns,n1,Paired.imp' (fun a z y=>y.imp (Stays.of (Same.refl H')) hAH fun q l b y'=>NumAt.imp (Stays.of (Same.refl H')) hAH d y') n2⟩
end
set_option genInjectivity false in
set_option genSizeOf false in
structure RE where
 C:Addr
 r:Addr
 ip:Addr
 hp:Addr
 lp:Addr
 xs:List Int
 wp:Addr
def rF(E:RE)(st:RS):List (Str × V):=[("inputs", .ref E.ip),("watches", .ref E.wp),("at", .int (st.pc:Int)),("taken", .int (st.taken:Int)),("last", .int st.last),("opened", .int (st.opened:Int)),("held", .ref E.hp),("log", .ref E.lp)]
theorem ww(E:RE)(st:RS):(rF E st).lookup ("inputs" : Str)=some (.ref E.ip):=by unfold rF; walk_at "lk"
theorem vc(E:RE)(st:RS):(rF E st).lookup ("watches" : Str)=some (.ref E.wp):=by unfold rF; walk_at "lk"
theorem Ft(E:RE)(st:RS):(rF E st).lookup ("at" : Str)=some (.int (st.pc:Int)):=by unfold rF; walk_at "lk"
theorem yP(E:RE)(st:RS):(rF E st).lookup ("taken" : Str)=some (.int (st.taken:Int)):=by unfold rF; walk_at "lk"
theorem BW(E:RE)(st:RS):(rF E st).lookup ("last" : Str)=some (.int st.last):=by unfold rF; walk_at "lk"
theorem wk(E:RE)(st:RS):(rF E st).lookup ("opened" : Str)=some (.int (st.opened:Int)):=by unfold rF; walk_at "lk"
theorem BJ(E:RE)(st:RS):(rF E st).lookup ("held" : Str)=some (.ref E.hp):=by unfold rF; walk_at "lk"
theorem D6(E:RE)(st:RS):(rF E st).lookup ("log" : Str)=some (.ref E.lp):=by unfold rF; walk_at "lk"
theorem FL(E:RE)(st:RS){m:Str}(h:(m == "inputs" || m == "watches" || m == "at" || m == "taken" || m == "last" || m == "opened" || m == "held" || m == "log")=false):(rF E st).lookup m=none:=by
 simp only[Bool.or_eq_false_iff]at h
 obtain⟨⟨⟨⟨⟨⟨⟨h1,h7⟩,h8⟩,h2⟩,h3⟩,h4⟩,h5⟩,h6⟩:=h
 unfold rF;rw[fg h1,fg h7,fg h8,fg h2,fg h3,fg h4,fg h5,fg h6]; rfl
theorem rT(E:RE)(st:RS)(n:Nat):cN "taken" (.int (n:Int)) (rF E st)=rF E { st with taken:=n }:=by unfold rF; walk_at "pf"
theorem u_(E:RE)(st:RS)(n:Int):cN "last" (.int n) (rF E st)=rF E { st with last:=n }:=by unfold rF; walk_at "pf"
theorem zW(E:RE)(st:RS)(n:Nat):cN "at" (.int (n:Int)) (rF E st)=rF E { st with pc:=n }:=by unfold rF; walk_at "pf"
theorem pA(E:RE)(st:RS)(n:Nat):cN "opened" (.int (n:Int)) (rF E st)=rF E { st with opened:=n }:=by unfold rF; walk_at "pf"
structure RO (K:PySem.W.Frag) (E:RE) (H0 H:Hp) (st:RS):Prop where
 sm:Same H0 H
 fr:H0 E.r=none
 fh:H0 E.hp=none
 fl:H0 E.lp=none
 inp:SqL K H0 E.ip (E.xs.map V.int)
 wt:SqL K H0 E.wp []
 xl:E.xs.length≤10000
 tk:st.taken≤E.xs.length
 ob:∃ dx,H E.r=some (.ins E.C dx (rF E st))
 hd:H E.hp=some (.dK st.held)
 lg:∃ es:List Addr,H E.lp=some (.lst (es.map V.ref))∧Paired (fun a e=>H a=some (.tup e)) es st.log
 good:GoodR st
section
variable{K:PySem.W.Frag}{E:RE}{H0 H H':Hp}{st st':RS}{Q:V→Prop}
theorem RO.mono(h:RO K E H0 H st)(s:Same H H'):RO K E H0 H' st:=by
 obtain⟨dx,ob⟩:=h.ob
 obtain⟨es,l1,l2⟩:=h.lg
 exact⟨h.sm.trans s,h.fr,h.fh,h.fl,h.inp,h.wt,h.xl,h.tk,⟨dx,s _ _ ob⟩,s _ _ h.hd,⟨es,s _ _ l1,Paired.imp' (fun a e y=>s _ _ y) l2⟩,h.good⟩
theorem RO.inputs(h:RO K E H0 H st)(q:Q (.ref E.ip)):∃ dx fs v,H E.r=some (.ins E.C dx fs)∧fs.lookup ("inputs" : Str)=some v∧Q v:=by obtain⟨dx,ob⟩:=h.ob; exact⟨dx,_,_,ob,ww E st,q⟩
theorem RO.watches(h:RO K E H0 H st)(q:Q (.ref E.wp)):∃ dx fs v,H E.r=some (.ins E.C dx fs)∧fs.lookup ("watches" : Str)=some v∧Q v:=by obtain⟨dx,ob⟩:=h.ob; exact⟨dx,_,_,ob,vc E st,q⟩
theorem RO.at(h:RO K E H0 H st)(q:Q (.int (st.pc:Int))):∃ dx fs v,H E.r=some (.ins E.C dx fs)∧fs.lookup ("at" : Str)=some v∧Q v:=by obtain⟨dx,ob⟩:=h.ob; exact⟨dx,_,_,ob,Ft E st,q⟩
theorem RO.taken(h:RO K E H0 H st)(q:Q (.int (st.taken:Int))):∃ dx fs v,H E.r=some (.ins E.C dx fs)∧fs.lookup ("taken" : Str)=some v∧Q v:=by obtain⟨dx,ob⟩:=h.ob; exact⟨dx,_,_,ob,yP E st,q⟩
theorem RO.last(h:RO K E H0 H st)(q:Q (.int st.last)):∃ dx fs v,H E.r=some (.ins E.C dx fs)∧fs.lookup ("last" : Str)=some v∧Q v:=by obtain⟨dx,ob⟩:=h.ob; exact⟨dx,_,_,ob,BW E st,q⟩
theorem RO.opened(h:RO K E H0 H st)(q:Q (.int (st.opened:Int))):∃ dx fs v,H E.r=some (.ins E.C dx fs)∧fs.lookup ("opened" : Str)=some v∧Q v:=by obtain⟨dx,ob⟩:=h.ob; exact⟨dx,_,_,ob,wk E st,q⟩
theorem RO.held(h:RO K E H0 H st)(q:Q (.ref E.hp)):∃ dx fs v,H E.r=some (.ins E.C dx fs)∧fs.lookup ("held" : Str)=some v∧Q v:=by obtain⟨dx,ob⟩:=h.ob; exact⟨dx,_,_,ob,BJ E st,q⟩
theorem RO.log(h:RO K E H0 H st)(q:Q (.ref E.lp)):∃ dx fs v,H E.r=some (.ins E.C dx fs)∧fs.lookup ("log" : Str)=some v∧Q v:=by obtain⟨dx,ob⟩:=h.ob; exact⟨dx,_,_,ob,D6 E st,q⟩
theorem RO.isM(h:RO K E H0 H st){m:Str}(hm:(m == "inputs" || m == "watches" || m == "at" || m == "taken" || m == "last" || m == "opened" || m == "held" || m == "log")=false):∃ dx fs,H E.r=some (.ins E.C dx fs)∧fs.lookup m=none:=by obtain⟨dx,ob⟩:=h.ob; exact⟨dx,_,ob,FL E st hm⟩
theorem RO.put(h:RO K E H0 H st)(e1:st'.held=st.held)(e2:st'.log=st.log)(et:st'.taken≤E.xs.length)(f:Str)(v:V)(e:cN f v (rF E st)=rF E st'){Q':Hp→Prop}(q:∀ H',RO K E H0 H' st'→Q' H'):∃ dx fs,H E.r=some (.ins E.C dx fs)∧fs.length<1000∧Q' (upd H E.r (.ins E.C dx (cN f v fs))):=by
 obtain⟨dx,ob⟩:=h.ob
 obtain⟨es,l1,l2⟩:=h.lg
 refine⟨dx,_,ob,by show 8<1000; decide,q _ ⟨h.sm.upd h.fr _,h.fr,h.fh,h.fl,h.inp,h.wt,h.xl,et,⟨dx,by rw[ah,e]⟩,?_,⟨es,?_,?_⟩,h.good.of e1⟩⟩
 ·rw[ai (bW h.hd ob (fun z=>nomatch z)),e1]; exact h.hd
 ·rw[ai (bW l1 ob (fun z=>nomatch z))]; exact l1
 ·rw[e2]
  exact Paired.imp' (fun a e y=>by rw[ai (bW y ob (fun z=>nomatch z))]; exact y) l2
theorem RO.hold(h:RO K E H0 H st)(k:aF)(o:Option Nat):RO K E H0 (upd H E.hp (.dK (cU st.held k (hV o)))) (aO k o st):=by
 obtain⟨dx,ob⟩:=h.ob
 obtain⟨es,l1,l2⟩:=h.lg
 refine⟨h.sm.upd h.fh _,h.fr,h.fh,h.fl,h.inp,h.wt,h.xl,h.tk,⟨dx,?_⟩,ah,⟨es,?_,?_⟩,h.good.hold k o⟩
 ·rw[ai (bW ob h.hd (fun z=>nomatch z))]; exact ob
 ·rw[ai (bW l1 h.hd (fun z=>nomatch z))]; exact l1
 ·exact Paired.imp' (fun a e y=>by rw[ai (bW y h.hd (fun z=>nomatch z))]; exact y) l2
theorem RO.add(h:RO K E H0 H st){t:Addr}{e:List V}(et:H t=some (.tup e))(hz:st.log.length<1000000)(Q':Hp→Prop)(q:∀ H',RO K E H0 H' { st with log:=st.log++[e] }→Q' H') :
  ∃ xs,H E.lp=some (.lst xs)∧xs.length<sizeLine∧Q' (upd H E.lp (.lst (xs++[.ref t]))):=by
 obtain⟨dx,ob⟩:=h.ob
 obtain⟨es,l1,l2⟩:=h.lg
 have hlen:es.length=st.log.length:=aB l2
 refine⟨_,l1,by rw[List.length_map,hlen]; exact bG (by omega),q _ ⟨h.sm.upd h.fl _,h.fr,h.fh,h.fl,h.inp,h.wt,h.xl,h.tk,⟨dx,?_⟩,?_,⟨es++[t],by rw[ah,List.map_append]; rfl,?_⟩,h.good.of rfl⟩⟩
 ·rw[ai (bW ob l1 (fun z=>nomatch z))]; exact ob
 ·rw[ai (bW h.hd l1 (fun z=>nomatch z))]; exact h.hd
 ·exact ck (by rw[ai (bW et l1 (fun z=>nomatch z))]; exact et) (Paired.imp' (fun a e y=>by rw[ai (bW y l1 (fun z=>nomatch z))]; exact y) l2)
end
def Bz(K:PySem.W.Frag):Sp:=fun vs H Q _=>∃ (a:Addr) (t u v:V),vs=[.ref a,t,u,v]∧SqL K H a []∧∀ H',Same H H'→Q .non H'
def Bp(K:PySem.W.Frag):Sp:=fun vs H Q _=>∃ (a:Addr) (u v x:V),vs=[.ref a,u,v,x]∧SqL K H a []∧Q .non H
def jU(K:PySem.W.Frag)(C:Addr):Sp:=fun vs H Q _=>∃ (E:RE) (H0:Hp) (st:RS) (n:Int),E.C=C∧vs=[.ref E.r,.int n]∧RO K E H0 H st∧∀ H',RO K E H0 H' (ar E.xs n st).2→Q (.bl (ar E.xs n st).1) H'
def iU(K:PySem.W.Frag)(C:Addr):Sp:=fun vs H Q _=>∃ (E:RE) (H0:Hp) (st:RS) (k:aF),E.C=C∧vs=[.ref E.r,kV k]∧RO K E H0 H st∧Q (hV (aM st k)) H
def jE(K:PySem.W.Frag)(C:Addr):Sp:=fun vs H Q _=>∃ (E:RE) (H0:Hp) (st:RS) (k:aF) (o:Option Nat),E.C=C∧vs=[.ref E.r,kV k,hV o]∧RO K E H0 H st∧st.sz≤900000∧∀ H',RO K E H0 H' (aO k o st)→Q .non H'
def im(K:PySem.W.Frag)(C:Addr):Sp:=fun vs H Q _=>∃ (E:RE) (H0:Hp) (st:RS) (l:Nat) (o:Option Nat) (x:Str),E.C=C∧vs=[.ref E.r,.int (l:Int),hV o,.str x]∧RO K E H0 H st∧st.sz≤900000∧∀ H',RO K E H0 H' (aW l o x st)→Q .non H'
def rg(K:PySem.W.Frag)(C:Addr):Sp:=fun vs H Q _=>∃ (E:RE) (H0:Hp) (st:RS) (l:Nat) (k:aF),E.C=C∧vs=[.ref E.r,.int (l:Int),kV k]∧RO K E H0 H st∧(d0 l k st).sz≤400000∧∀ H',RO K E H0 H' (d0 l k st)→Q .non H'
def wc(K:PySem.W.Frag)(C:Addr):Sp:=fun vs H Q _=>∃ (E:RE) (H0:Hp) (st:RS) (l:Nat) (a b:Option Nat),E.C=C∧vs=[.ref E.r,.int (l:Int),hV a,hV b]∧RO K E H0 H st∧st.sz≤900000∧∀ H',RO K E H0 H' (db l a b st)→Q .non H'
def vv(K:PySem.W.Frag)(C:Addr):Sp:=fun vs H Q _=>∃ (E:RE) (H0:Hp) (st:RS) (l:Nat),E.C=C∧vs=[.ref E.r,.int (l:Int)]∧RO K E H0 H st∧st.sz≤400000∧∀ H',RO K E H0 H' (ia l st)→Q .non H'
def mj(K:PySem.W.Frag)(C:Addr):Sp:=fun vs H Q _=>∃ (x dx ip wp:Addr) (H0:Hp) (xs:List Int),vs=[.ref x,.ref ip,.ref wp]∧H x=some (.ins C dx [])∧H0 x=none∧Same H0 H∧SqL K H0 ip (xs.map V.int)∧SqL K H0 wp []∧xs.length≤10000∧
 ∀ (hp lp:Addr) (H':Hp),RO K ⟨C,x,ip,hp,lp,xs,wp⟩ H0 H' rs0→Q .non H'
section
variable{P:Program}{w:World}{K:PySem.W.Frag}{mg:Str→Option Value}{base:Heap}{CR:Addr}
theorem zx(D:MethAt K CR "takes_more" "Run.takes_more" bL) (z_len:mg "len" = none) (a_taken:Fl K CR "taken") (a_inputs:Fl K CR "inputs") (a_last:Fl K CR "last"):cB P w K mg base 1 CR "takes_more" ["self", "bound"] (jU K CR):=by
 refine D.mcal (k:=0) j_ (fun _ _ _ _ _ _ us hl=>match us,hl with | [_,_],_=>rfl) (fun vs H Q E h=>by obtain⟨E,H0,st,n,_,rfl,_⟩:=h; rfl) (fun f cdv A outer s H vs Q _ hr h=>?_)
 obtain⟨E,H0,st,n,rfl,rfl,R,q⟩:=h
 refine⟨_,(ae (a_ (aC bD (aq a_taken (pv 0)) (bF (bh K) z_len cf (aa (aq a_inputs (pv 0)) ac)) (aH _)) (ak (aE eX)) bt)
   (ae (cR a_last (pv 0) (ax (aG K) (aq a_inputs (pv 0)) (aq a_taken (pv 0)) (fun _ _=>rfl)))
   (ae (cR a_taken (pv 0) (ao aD (aq a_taken (pv 0)) af))
   (ak (aE (jZ jT (aq a_last (pv 0)) (pv 1) (aH _))))))),?_⟩
 walk_at "rd1";refine R.taken (R.inputs ⟨_,.inl (R.sm.seq R.inp),?_⟩)
 walk_at "rd1";rw[List.length_map];refine aI (fun h=>?_) (fun h=>?_)
 ·have e:st.taken=E.xs.length:=by omega
  have e':ar E.xs n st=(false,st):=by unfold ar; rw[e,List.getElem?_eq_none (Nat.le_refl _)]
  rw[e']at q
  exact q _ R
 have hlt:st.taken<E.xs.length:=by have:=R.tk; omega
 have ex:E.xs[st.taken]? = some E.xs[st.taken]:=List.getElem?_eq_getElem hlt
 have e':ar E.xs n st=(decide (n<E.xs[st.taken]),{ st with taken:=st.taken+1,last:=E.xs[st.taken] }):=by unfold ar; rw[ex]
 rw[e']at q
 generalize E.xs[st.taken]=v at ex e' q;walk_at "nx";refine R.inputs (R.taken ⟨_,_,.inl (R.sm.seq R.inp),aR (by rw[List.getElem?_map,ex]; rfl),?_⟩)
 refine R.put (st':={ st with last:=v }) rfl rfl R.tk _ _ (u_ E st v) fun H1 R1=>?_
 walk_at "nx";refine R1.taken ?_
 walk_at "rd1";refine R1.put (st':={ st with last:=v,taken:=st.taken+1 }) rfl rfl hlt _ _ (rT E { st with last:=v } (st.taken+1)) fun H2 R2=>?_
 walk_at "nx";refine R2.last ?_
 walk_at "rd1";exact q _ R2
theorem xS(D:MethAt K CR "handle_of" "Run.handle_of" ce) (a_held:Fl K CR "held"):cB P w K mg base 1 CR "handle_of" ["self", "holder"] (iU K CR):=by
 refine D.mcal (k:=0) kU (fun _ _ _ _ _ _ us hl=>match us,hl with | [_,_],_=>rfl) (fun vs H Q E h=>by obtain⟨E,H0,st,k,_,rfl,_⟩:=h; rfl) (fun f cdv A outer s H vs Q _ hr h=>?_)
 obtain⟨E,H0,st,k,rfl,rfl,R,q⟩:=h
 refine⟨_,(ak (aE (zj (Fh hr) (aq a_held (pv 0)) (pv 1) ⟨rfl,rfl,rfl,rfl⟩))),?_⟩
 walk_at "rd1";refine R.held ⟨_,rfl,Eo R.hd,_,DGet.k R.hd,?_⟩
 rw[R.good.get]; exact q
theorem Cg(D:MethAt K CR "hold" "Run.hold" cW) (a_held:Fl K CR "held"):cB P w K mg base 1 CR "hold" ["self", "holder", "handle"] (jE K CR):=by
 refine D.mcal (k:=0) rZ (fun _ _ _ _ _ _ us hl=>match us,hl with | [_,_,_],_=>rfl) (fun vs H Q E h=>by obtain⟨E,H0,st,k,o,_,rfl,_⟩:=h; rfl) (fun f cdv A outer s H vs Q _ hr h=>?_)
 obtain⟨E,H0,st,k,o,rfl,rfl,R,hz,q⟩:=h
 refine⟨_,(ak (ix (pv 2) (ra (aq a_held (pv 0)) (pv 1) (uO hr)))),?_⟩
 walk_at "rd1";refine R.held ⟨E.hp,_,k,rfl,rfl,R.hd,bG (by unfold RS.sz at hz; omega),?_⟩
 exact q _ (R.hold k o)
theorem CV(D:DefAt K mg "broken_or_gone_on" b9) (z_len:mg "len" = none):aK P w K mg base 1 "broken_or_gone_on" ["watches", "at", "handle", "word"] (Bz K):=by
 refine D.cal (k:=0) sc_broken_or_gone_on (fun _ _ _ _ _ _ us hl=>match us,hl with | [_,_,_,_],_=>rfl) (fun vs H Q E h=>by obtain⟨a,t,u,v,rfl,_⟩:=h; rfl) (fun f cdv A outer s H vs Q _ hr h=>?_)
 obtain⟨a,t,u,v,rfl,h0,q⟩:=h
 refine⟨_,(ae (aw 4 sc_broken_or_gone_on.nd (bi ac))
   (ae (cC PassesOwn.never rfl (cH K (pv 0)) kR jA)
   (ae (a_ (aC jT (bF (bh K) z_len cf (aa (pv 4) ac)) af (aH _)) (ae kS
   (ak kS)) bt)
   (ae (cC PassesOwn.never rfl (cH K (pv 0)) kR jA)
   (ak (aE gu)))))),?_⟩
 walk_at "rd1";refine⟨by decide,fun D hD=>?_⟩
 have sm:Same H (upd H D (.lst [])):=al hD (.lst [])
 have eD:upd H D (.lst []) D=some (.lst []):=ah
 generalize upd H D (.lst [])=H1 at sm eD ⊢;walk_at "nx";refine⟨⟨_,sm.seq h0⟩,yK (sm.seq h0) ?_⟩
 walk_at "nx";refine⟨_,.inl (SqL.of eD),?_⟩
 walk_at "rd1";refine aI (fun c=>absurd c (by decide)) (fun c=>?_)
 walk_at "nx";refine⟨⟨_,sm.seq h0⟩,yK (sm.seq h0) ?_⟩
 walk_at "nx";exact q _ sm
theorem Es(D:DefAt K mg "all_begin_tie" eZ):aK P w K mg base 1 "all_begin_tie" ["watches", "one", "other", "start"] (Bp K):=by
 refine D.cal (k:=0) kI (fun _ _ _ _ _ _ us hl=>match us,hl with | [_,_,_,_],_=>rfl) (fun vs H Q E h=>by obtain⟨a,u,v,x,rfl,_⟩:=h; rfl) (fun f cdv A outer s H vs Q _ hr h=>?_)
 obtain⟨a,u,v,x,rfl,h0,q⟩:=h
 refine⟨_,(ak (cC PassesOwn.never rfl (cH K (pv 0)) kR jA)),?_⟩
 walk_at "rd1";refine⟨⟨_,h0⟩,yK h0 ?_⟩
 exact q
theorem Cf(D:MethAt K CR "deed" "Run.deed" bQ) (a_log:Fl K CR "log") (a_last:Fl K CR "last") (a_watches:Fl K CR "watches") (a_at:Fl K CR "at") (c_broken_or_gone_on:aK P w K mg base 1 "broken_or_gone_on" ["watches", "at", "handle", "word"] (Bz K)):cB P w K mg base 2 CR "deed" ["self", "line", "handle", "word"] (im K CR):=by
 refine D.mcal (k:=1) sc_Run_deed (fun _ _ _ _ _ _ us hl=>match us,hl with | [_,_,_,_],_=>rfl) (fun vs H Q E h=>by obtain⟨E,H0,st,l,o,x,_,rfl,_⟩:=h; rfl) (fun f cdv A outer s H vs Q _ hr h=>?_)
 obtain⟨E,H0,st,l,o,x,rfl,rfl,R,hz,q⟩:=h
 refine⟨_,(ae (a_ (aC BI (pv 2) gu (aH _)) (ak BR) bt)
   (ae (aw 4 sc_Run_deed.nd (bm (aa (pv 1) (aa (pv 2) (aa (pv 3) (aa (aq a_last (pv 0)) ac))))))
   (ae (aw 5 sc_Run_deed.nd (az c_broken_or_gone_on hr (aa (aq a_watches (pv 0)) (aa (aq a_at (pv 0)) (aa (pv 2) (aa (pv 3) ac))))))
   (ae (a_ (aC kT (pv 5) gu (aH _)) (ak kS) bt)
   (ak (ay (bb K PySem.F.plainAttrs_list PySem.F.slot_list_append PySem.F.type_list_append aS (aq a_log (pv 0)) (aa (pv 4) ac)))))))),?_⟩
 walk_at "rd1"
 cases o with
 | none=>
  refine aI (fun c=>?_) (fun c=>absurd rfl c)
  exact q _ R
 | some n=>
  refine aI (fun c=>absurd c (by simp[hV])) (fun c=>?_)
  have hV':hV (some n) = .int (n:Int):=rfl
  rw[hV'];walk_at "nx";refine R.last ⟨by decide,fun t ht=>?_⟩
  have sm:=al ht (.tup [.int (l:Int),.int (n:Int),.str x,.int st.last]);have et:upd H t (.tup [.int (l:Int),.int (n:Int),.str x,.int st.last]) t=some (.tup [.int (l:Int),.int (n:Int),.str x,.int st.last]):=ah
  generalize upd H t (.tup [.int (l:Int),.int (n:Int),.str x,.int st.last])=H1 at sm et ⊢;have R1:=R.mono sm;walk_at "nx";refine R1.watches (R1.at ⟨E.wp,_,_,_,rfl,R1.sm.seq R1.wt,fun H2 s2=>?_⟩)
  have R2:=R1.mono s2;walk_at "nx";refine aI (fun c=>absurd c (by simp)) (fun c=>?_)
  obtain⟨es,l1,l2⟩:=id R2.lg
  walk_at "nx";refine R2.log ⟨.inl ⟨rfl,_,SqL.of l1⟩,?_⟩
  walk_at "rd1";exact R2.add (s2 _ _ et) (by unfold RS.sz at hz; omega) (fun H'=>Q .non H') q
theorem CD(D:MethAt K CR "new_handle" "Run.new_handle" bv) (a_opened:Fl K CR "opened") (m_Run_deed:cB P w K mg base 2 CR "deed" ["self", "line", "handle", "word"] (im K CR)) (m_Run_hold:cB P w K mg base 1 CR "hold" ["self", "holder", "handle"] (jE K CR)):cB P w K mg base 3 CR "new_handle" ["self", "line", "holder"] (rg K CR):=by
 refine D.mcal (k:=2) sc_Run_new_handle (fun _ _ _ _ _ _ us hl=>match us,hl with | [_,_,_],_=>rfl) (fun vs H Q E h=>by obtain⟨E,H0,st,l,k,_,rfl,_⟩:=h; rfl) (fun f cdv A outer s H vs Q _ hr h=>?_)
 obtain⟨E,H0,st,l,k,rfl,rfl,R,hz,q⟩:=h
 refine⟨_,(ae (aw 3 sc_Run_new_handle.nd (aq a_opened (pv 0)))
   (ae (cR a_opened (pv 0) (ao aD (pv 3) af))
   (ae (ay (bc m_Run_deed hr (pv 0) (aa (pv 1) (aa (pv 3) (aa au ac)))))
   (ak (ay (bc m_Run_hold hr (pv 0) (aa (pv 2) (aa (pv 3) ac)))))))),?_⟩
 walk_at "rd1";refine R.opened ?_
 walk_at "nx";refine R.put (st':={ st with opened:=st.opened+1 }) rfl rfl R.tk _ _ (pA E st (st.opened+1)) fun H1 R1=>?_
 have u1:=fN l (some st.opened) "open" { st with opened:=st.opened+1 };have u2:=eP k (some st.opened) (aW l (some st.opened) "open" { st with opened:=st.opened+1 });have hz2:(aO k (some st.opened) (aW l (some st.opened) "open" { st with opened:=st.opened+1 })).sz≤400000:=hz
 walk_at "nx";refine⟨R1.isM (by decide +kernel),E,H0,_,l,some st.opened, "open", rfl,rfl,R1,by have:=u1.2; have:=u2.2; omega,fun H2 R2=>?_⟩
 walk_at "nx";refine⟨R2.isM (by decide +kernel),E,H0,_,k,some st.opened,rfl,rfl,R2,by have:=u2.2; omega,fun H3 R3=>?_⟩
 exact q _ R3
theorem Ef(D:MethAt K CR "tie" "Run.tie" cI) (z_len:mg "len" = none) (a_log:Fl K CR "log") (a_watches:Fl K CR "watches") (c_all_begin_tie:aK P w K mg base 1 "all_begin_tie" ["watches", "one", "other", "start"] (Bp K)):cB P w K mg base 2 CR "tie" ["self", "line", "one", "other"] (wc K CR):=by
 refine D.mcal (k:=1) vx (fun _ _ _ _ _ _ us hl=>match us,hl with | [_,_,_,_],_=>rfl) (fun vs H Q E h=>by obtain⟨E,H0,st,l,a,b,_,rfl,_⟩:=h; rfl) (fun f cdv A outer s H vs Q _ hr h=>?_)
 obtain⟨E,H0,st,l,a,b,rfl,rfl,R,hz,q⟩:=h
 refine⟨_,(ak (a_ (PW.pt' (gw (aC kT (pv 2) gu (aH _)) (gw (aC kT (pv 3) gu (aH _)) (iC (aC jK (pv 2) (pv 3) (aH _)))))) (ae (ay (bb K PySem.F.plainAttrs_list PySem.F.slot_list_append PySem.F.type_list_append aS (aq a_log (pv 0)) (aa (bm (aa (pv 1) (aa (pv 2) (aa (pv 3) ac)))) ac)))
   (ak (ay (az c_all_begin_tie hr (aa (aq a_watches (pv 0)) (aa (pv 2) (aa (pv 3) (aa (bF (bh K) z_len cf (aa (aq a_log (pv 0)) ac)) ac)))))))) bt)),?_⟩
 walk_at "rd1"
 cases a with
 | none=>
  refine aI (fun c=>absurd c (by simp[hV])) (fun c=>?_)
  exact q _ R
 | some n=>
  refine aI (fun c=>?_) (fun c=>absurd (show (!decide (hV (some n)=V.non))=true by simp[hV]) c)
  cases b with
  | none=>
   refine aI (fun c=>absurd c (by simp[hV])) (fun c=>?_)
   exact q _ R
  | some m=>
   refine aI (fun c=>?_) (fun c=>absurd (show (!decide (hV (some m)=V.non))=true by simp[hV]) c)
   have hVn:hV (some n) = .int (n:Int):=rfl
   have hVm:hV (some m) = .int (m:Int):=rfl
   rw[hVn,hVm];walk_at "rd1"
   by_cases e:n=m
   ·refine aI (fun c=>absurd c (by simp[e])) (fun c=>?_)
    have e':db l (some n) (some m) st=st:=by show (if n=m then st else _)=st; rw[if_pos e]
    rw[e']at q
    exact q _ R
   ·refine aI (fun c=>?_) (fun c=>absurd (show _ from by simp; omega) c)
    have e':db l (some n) (some m) st={ st with log:=st.log++[[.int l,.int n,.int m]] }:=by show (if n=m then st else _)=_; rw[if_neg e]
    rw[e']at q
    obtain⟨es,l1,l2⟩:=id R.lg
    refine R.log ⟨.inl ⟨rfl,_,SqL.of l1⟩,by decide,fun t ht=>?_⟩
    have sm:=al ht (.tup [.int (l:Int),.int (n:Int),.int (m:Int)]);have et:upd H t (.tup [.int (l:Int),.int (n:Int),.int (m:Int)]) t=some (.tup [.int (l:Int),.int (n:Int),.int (m:Int)]):=ah
    generalize upd H t (.tup [.int (l:Int),.int (n:Int),.int (m:Int)])=H1 at sm et ⊢;have R1:=R.mono sm;walk_at "rd1";refine R1.add et (by unfold RS.sz at hz; omega) _ fun H2 R2=>?_
    walk_at "nx";refine R2.watches (R2.log ?_)
    obtain⟨es2,l3,l4⟩:=id R2.lg
    refine⟨_,.inl (SqL.of l3),?_⟩
    exact⟨E.wp,_,_,_,rfl,R2.sm.seq R2.wt,q _ R2⟩
theorem Dv(D:MethAt K CR "end_all" "Run.end_all" bR) (z_range:mg "range" = none) (a_opened:Fl K CR "opened") (m_Run_deed:cB P w K mg base 2 CR "deed" ["self", "line", "handle", "word"] (im K CR)):cB P w K mg base 3 CR "end_all" ["self", "line"] (vv K CR):=by
 refine D.mcal (k:=2) sc_Run_end_all (fun _ _ _ _ _ _ us hl=>match us,hl with | [_,_],_=>rfl) (fun vs H Q E h=>by obtain⟨E,H0,st,l,_,rfl,_⟩:=h; rfl) (fun f cdv A outer s H vs Q _ hr h=>?_)
 obtain⟨E,H0,st,l,rfl,rfl,R,hz,q⟩:=h
 have ho:st.opened≤400000:=by unfold RS.sz at hz; omega
 refine⟨_,(ak (cC PassesOwn.never rfl (jg Lf z_range (aa (aq a_opened (pv 0)) ac)) (bj 2 sc_Run_end_all.nd) (ak (ay (bc m_Run_deed hr (pv 0) (aa (pv 1) (aa (pv 2) (aa au ac)))))))),?_⟩
 walk_at "rd1";refine R.opened ?_
 walk_at "rd1";refine⟨by omega,by omega,?_⟩
 rw[show ((st.opened:Int)).toNat=st.opened from Int.toNat_natCast _]
 refine lh (fun i σ H'=>∃ o2:Option V,σ=[some (.ref E.r),some (.int (l:Int)),o2]∧RO K E H0 H' { st with log:=st.log++(List.range i).map fun (h:Nat)=>([.int l,.int h,.str "end", .int st.last]:List V) })
  ⟨none,rfl,by simpa using R⟩ ?_ ?_
 ·rintro i σ H' hi ⟨o2,rfl,R'⟩
  walk_at "rd1";refine⟨R'.isM (by decide +kernel),E,H0,_,l,some i, "end", rfl,by rw[Int.zero_add]; rfl,R',?_,fun H2 R2=>⟨_,rfl,?_⟩⟩
  ·simp only[RS.sz,List.length_append,List.length_map,List.length_range]at hz ⊢; omega
  ·have e:aW l (some i) "end" { st with log:=st.log++(List.range i).map fun (h:Nat)=>([.int l,.int h,.str "end", .int st.last]:List V) }={ st with log:=st.log++(List.range (i+1)).map fun (h:Nat)=>([.int l,.int h,.str "end", .int st.last]:List V) }:=by
    rw[List.range_succ,List.map_append,← List.append_assoc]; rfl
   rw[e]at R2
   exact R2
 ·rintro σ H' ⟨o2,rfl,R'⟩
  exact q _ R'
theorem zE(D:MakeAt K mg "Run" CR "Run.__init__" b5) (a_inputs:Fl K CR "inputs") (a_watches:Fl K CR "watches") (a_at:Fl K CR "at") (a_taken:Fl K CR "taken") (a_last:Fl K CR "last") (a_opened:Fl K CR "opened") (a_held:Fl K CR "held") (a_log:Fl K CR "log"):jy P w K mg base 1 "Run" CR ["self", "inputs", "watches"] (mj K CR):=by
 refine D.mkal (k:=0) lJ (fun _ _ _ _ _ _ us hl=>match us,hl with | [_,_,_],_=>rfl) (fun vs H Q E h=>by obtain⟨x,dx,ip,wp,H0,xs,rfl,_⟩:=h; rfl) (fun f cdv A outer s H vs Q _ hr h=>?_)
 obtain⟨x,dx,ip,wp,H0,xs,rfl,hx,h0x,sm,hip,hwp,hxl,q⟩:=h
 refine⟨_,(ae (cR a_inputs (pv 0) (pv 1))
   (ae (cR a_watches (pv 0) (pv 2))
   (ae (cR a_at (pv 0) af)
   (ae (cR a_taken (pv 0) af)
   (ae (cR a_last (pv 0) af)
   (ae (cR a_opened (pv 0) af)
   (ae (cR a_held (pv 0) kZ)
   (ak (cR a_log (pv 0) (bi ac)))))))))),?_⟩
 walk_at "rd1";refine⟨dx,_,hx,by simp,?_⟩
 generalize hA:upd H x _=HA
 have eA:HA x=some (.ins CR dx [("inputs", .ref ip)]):=by rw[← hA,ah]; walk_at "pf"
 have sA:Same H0 HA:=by rw[← hA]; exact sm.upd h0x _
 walk_at "nx";refine⟨dx,_,eA,by simp,?_⟩
 generalize hA2:upd HA x _=HA2
 have eA2:HA2 x=some (.ins CR dx [("inputs", .ref ip),("watches", .ref wp)]):=by rw[← hA2,ah]; walk_at "pf"
 have sA2:Same H0 HA2:=by rw[← hA2]; exact sA.upd h0x _
 walk_at "nx";refine⟨dx,_,eA2,by simp,?_⟩
 generalize hA3:upd HA2 x _=HA3
 have eA3:HA3 x=some (.ins CR dx [("inputs", .ref ip),("watches", .ref wp),("at", .int 0)]):=by rw[← hA3,ah]; walk_at "pf"
 have sA3:Same H0 HA3:=by rw[← hA3]; exact sA2.upd h0x _
 walk_at "nx";refine⟨dx,_,eA3,by simp,?_⟩
 generalize hB:upd HA3 x _=HB
 have eB:HB x=some (.ins CR dx [("inputs", .ref ip),("watches", .ref wp),("at", .int 0),("taken", .int 0)]):=by rw[← hB,ah]; walk_at "pf"
 have sB:Same H0 HB:=by rw[← hB]; exact sA3.upd h0x _
 walk_at "nx";refine⟨dx,_,eB,by simp,?_⟩
 generalize hC:upd HB x _=HC
 have eC:HC x=some (.ins CR dx [("inputs", .ref ip),("watches", .ref wp),("at", .int 0),("taken", .int 0),("last", .int 0)]):=by rw[← hC,ah]; walk_at "pf"
 have sC:Same H0 HC:=by rw[← hC]; exact sB.upd h0x _
 walk_at "nx";refine⟨dx,_,eC,by simp,?_⟩
 generalize hD:upd HC x _=HD
 have eD:HD x=some (.ins CR dx [("inputs", .ref ip),("watches", .ref wp),("at", .int 0),("taken", .int 0),("last", .int 0),("opened", .int 0)]):=by rw[← hD,ah]; walk_at "pf"
 have sD:Same H0 HD:=by rw[← hD]; exact sC.upd h0x _
 walk_at "nx";intro hp hhp
 generalize hE:upd HD hp _=HE
 have sE:=cP hE hhp;have eE:=dG hE;refine⟨dx,_,sE _ _ eD,by simp,?_⟩
 generalize hF:upd HE x _=HF
 have eF:HF x=some (.ins CR dx [("inputs", .ref ip),("watches", .ref wp),("at", .int 0),("taken", .int 0),("last", .int 0),("opened", .int 0),("held", .ref hp)]):=by rw[← hF,ah]; walk_at "pf"
 have sF:Same H0 HF:=by rw[← hF]; exact(sD.trans sE).upd h0x _
 have dF:HF hp=some (.dK []):=by rw[← hF,ai (bW eE (sE _ _ eD) (fun z=>nomatch z))]; exact eE
 walk_at "nx";refine⟨by decide,fun lp hlp=>?_⟩
 generalize hG:upd HF lp _=HG
 have sG:=cP hG hlp;have eG:=dG hG;refine⟨dx,_,sG _ _ eF,by simp,?_⟩
 refine q hp lp _ ⟨(sF.trans sG).upd h0x _,h0x,sD.free hhp,sF.free hlp,hip,hwp,hxl,Nat.zero_le _,⟨dx,?_⟩,?_,⟨[],?_,.nil⟩,fun k v e=>by cases e⟩
 ·rw[ah]; unfold rF; walk_at "pf"; rfl
 ·rw[ai (bW (sG _ _ dF) (sG _ _ eF) (fun z=>nomatch z))]; exact sG _ _ dF
 ·rw[ai (bW eG (sG _ _ eF) (fun z=>nomatch z))]; exact eG
end
def hX(K:PySem.W.Frag)(CR CN:Addr)(d:Nat)(is:Stp→Prop):Sp:=fun vs H Q _=>∃ (E:RE) (H0:Hp) (st:RS) (a:Addr) (l:Nat) (s:Stp) (S:Addr→Prop),E.C=CR∧vs=[.ref E.r,.ref a]∧is s∧nstpAt K CN (aj d) S (NumAt K CN S d H0) H0 a l s∧my (fF d) s∧RO K E H0 H st∧
 (cg (aj d) (aQ E.xs d) E.xs l s st).sz≤400000∧∀ H',RO K E H0 H' (cg (aj d) (aQ E.xs d) E.xs l s st)→Q .non H'
def jf(K:PySem.W.Frag)(CR CN:Addr)(d:Nat):Sp:=fun vs H Q _=>∃ (E:RE) (H0:Hp) (st:RS) (p:Addr) (l:Nat) (T:List Stp) (S:Addr→Prop),E.C=CR∧vs=[.ref E.r,.ref p]∧NumAt K CN S d H0 p l T∧fF d T∧RO K E H0 H st∧
 (aQ E.xs d l T st).sz≤400000∧∀ H',RO K E H0 H' (aQ E.xs d l T st)→Q .non H'
def sQ:Stp→Prop
 | .plain _=>True
 | _=>False
def xC:Stp→Prop
 | .lend _ _ _=>True
 | _=>False
def Bk:Stp→Prop
 | .ite _ _ _=>True
 | _=>False
def AW:Stp→Prop
 | .whl _ _=>True
 | _=>False
section
variable{P:Program}{w:World}{K:PySem.W.Frag}{mg:Str→Option Value}{base:Heap}{CR CN:Addr}
theorem rX(l:Nat)(x:Str)(st:RS):cZ l ["open", x] st=d0 l (.inr x) st:=by
 show (if ("open" : Str) = "open" then d0 l (.inr x) st else aO (.inr x) none st)=_
 exact if_pos rfl
theorem rW(l:Nat)(x:Str)(st:RS):cZ l ["drop", x] st=aO (.inr x) none st:=by
 show (if ("drop" : Str) = "open" then d0 l (.inr x) st else aO (.inr x) none st)=_
 exact if_neg (by decide)
theorem xo(l:Nat)(u x:Str)(st:RS):cZ l ["do", u,x] st=aW l (aM st (.inr x)) u st:=by
 show (if ("do" : Str) = "do" then aW l (aM st (.inr x)) u st else if ("do" : Str) = "copy" then aO (.inr u) (aM st (.inr x)) st else db l (aM st (.inr u)) (aM st (.inr x)) st)=_
 exact if_pos rfl
theorem rY(l:Nat)(u x:Str)(st:RS):cZ l ["copy", u,x] st=aO (.inr u) (aM st (.inr x)) st:=by
 show (if ("copy" : Str) = "do" then aW l (aM st (.inr x)) u st else if ("copy" : Str) = "copy" then aO (.inr u) (aM st (.inr x)) st else db l (aM st (.inr u)) (aM st (.inr x)) st)=_
 rw[if_neg (by decide)]; exact if_pos rfl
theorem vq(l:Nat)(u x:Str)(st:RS):cZ l ["tie", u,x] st=db l (aM st (.inr u)) (aM st (.inr x)) st:=by
 show (if ("tie" : Str) = "do" then aW l (aM st (.inr x)) u st else if ("tie" : Str) = "copy" then aO (.inr u) (aM st (.inr x)) st else db l (aM st (.inr u)) (aM st (.inr x)) st)=_
 rw[if_neg (by decide)]; exact if_neg (by decide)
theorem km{α : Type}{x y:α}{xs:List α}:eY (x::y::xs) 1=some y:=aR (j:=1) rfl
theorem rQ(D:DefAt K mg "do_simple" cX) (a_lines:Fl K CN "lines") (a_parts:Fl K CN "parts") (a_kind:Fl K CN "kind")
  (m_Run_new_handle:cB P w K mg base 3 CR "new_handle" ["self", "line", "holder"] (rg K CR)) (m_Run_deed:cB P w K mg base 2 CR "deed" ["self", "line", "handle", "word"] (im K CR)) (m_Run_handle_of:cB P w K mg base 1 CR "handle_of" ["self", "holder"] (iU K CR))
  (m_Run_hold:cB P w K mg base 1 CR "hold" ["self", "holder", "handle"] (jE K CR)) (m_Run_tie:cB P w K mg base 2 CR "tie" ["self", "line", "one", "other"] (wc K CR)) {d:Nat}:aK P w K mg base 4 "do_simple" ["run", "step"] (hX K CR CN d sQ):=by
 refine D.cal (k:=3) sc_do_simple (fun _ _ _ _ _ _ us hl=>match us,hl with | [_,_],_=>rfl) (fun vs H Q E h=>by obtain⟨E,H0,st,a,l,s,S,_,rfl,_⟩:=h; rfl) (fun f cdv A outer sh H vs Q _ hr h=>?_)
 obtain⟨E,H0,st,a,l,s,S,rfl,rfl,hs,hn,sp,R,hz,q⟩:=h
 refine⟨_,(ae (aw 2 sc_do_simple.nd (ax (aG K) (aq a_lines (pv 1)) af (fun _ _=>rfl)))
   (ae (aw 3 sc_do_simple.nd (aq a_parts (pv 1)))
   (ak (a_ (aC bD (aq a_kind (pv 1)) au (aH _)) (ak (ay (bc m_Run_new_handle hr (pv 0) (aa (pv 2) (aa (ax (aG K) (pv 3) af (fun _ _=>rfl)) ac))))) (ak (a_ (aC bD (aq a_kind (pv 1)) au (aH _)) (ak (ay (bc m_Run_deed hr (pv 0) (aa (pv 2) (aa (bc m_Run_handle_of hr (pv 0) (aa (ax (aG K) (pv 3) af (fun _ _=>rfl)) ac)) (aa (ax (aG K) (pv 3) af (fun _ _=>rfl)) ac)))))) (ak (a_ (aC bD (aq a_kind (pv 1)) au (aH _)) (ak (ay (bc m_Run_hold hr (pv 0) (aa (ax (aG K) (pv 3) af (fun _ _=>rfl)) (aa (bc m_Run_handle_of hr (pv 0) (aa (ax (aG K) (pv 3) af (fun _ _=>rfl)) ac)) ac))))) (ak (a_ (aC bD (aq a_kind (pv 1)) au (aH _)) (ak (ay (bc m_Run_hold hr (pv 0) (aa (ax (aG K) (pv 3) af (fun _ _=>rfl)) (aa gu ac))))) (ak (ay (bc m_Run_tie hr (pv 0) (aa (pv 2) (aa (bc m_Run_handle_of hr (pv 0) (aa (ax (aG K) (pv 3) af (fun _ _=>rfl)) ac)) (aa (bc m_Run_handle_of hr (pv 0) (aa (ax (aG K) (pv 3) af (fun _ _=>rfl)) ac)) ac)))))))))))))))),?_⟩
 cases s with
 | plain ws=>
  obtain⟨dx,pp,lp,bp,bs,g1,g2,g3,g4,g5,g6,g7⟩:=hn
  have k4:H lp=some (.lst (e7 [l])):=R.sm _ _ g4
  have px:dN ws:=sp
  cases px with
  | op x=>
   have k1:H a=some (.ins CN dx (nF "open" pp lp bp)):=R.sm _ _ g1
   have k2:SqT K H pp [.str x]:=g2.same R.sm
   have e:cg (aj d) (aQ E.xs d) E.xs l (.plain ["open", x]) st=d0 l (.inr x) st:=rX l x st
   rw[e]at hz q
   walk_at "rd1";refine aY k1 (cx _ _ _ _) ?_
   walk_at "rd1";refine⟨_,_,.inl (SqL.of k4),cn,?_⟩
   walk_at "nx";refine aY k1 (b8 _ _ _ _) ?_
   walk_at "nx";refine aY k1 (bx _ _ _ _) ?_
   walk_at "rd1";exact⟨R.isM (by decide +kernel),_,_,.inr k2,cn,E,H0,st,l,.inr x,rfl,rfl,R,hz,q⟩
  | dr x=>
   have k1:H a=some (.ins CN dx (nF "drop" pp lp bp)):=R.sm _ _ g1
   have k2:SqT K H pp [.str x]:=g2.same R.sm
   have e:cg (aj d) (aQ E.xs d) E.xs l (.plain ["drop", x]) st=aO (.inr x) none st:=rW l x st
   rw[e]at hz q
   walk_at "rd1";refine aY k1 (cx _ _ _ _) ?_
   walk_at "rd1";refine⟨_,_,.inl (SqL.of k4),cn,?_⟩
   walk_at "nx";refine aY k1 (b8 _ _ _ _) ?_
   walk_at "nx";refine aY k1 (bx _ _ _ _) ?_
   walk_at "rd1";refine aI (fun c=>absurd c (by decide)) (fun _=>?_)
   refine aY k1 (bx _ _ _ _) ?_
   walk_at "rd1";refine aI (fun c=>absurd c (by decide)) (fun _=>?_)
   refine aY k1 (bx _ _ _ _) ?_
   walk_at "rd1";refine aI (fun c=>absurd c (by decide)) (fun _=>?_)
   refine aY k1 (bx _ _ _ _) ?_
   walk_at "rd1";exact⟨R.isM (by decide +kernel),_,_,.inr k2,cn,E,H0,st,.inr x,none,rfl,rfl,R,by have:=(eP (.inr x) none st).2; omega,q⟩
  | dd u x=>
   have k1:H a=some (.ins CN dx (nF "do" pp lp bp)):=R.sm _ _ g1
   have k2:SqT K H pp [.str u,.str x]:=g2.same R.sm
   have e:cg (aj d) (aQ E.xs d) E.xs l (.plain ["do", u,x]) st=aW l (aM st (.inr x)) u st:=xo l u x st
   rw[e]at hz q
   walk_at "rd1";refine aY k1 (cx _ _ _ _) ?_
   walk_at "rd1";refine⟨_,_,.inl (SqL.of k4),cn,?_⟩
   walk_at "nx";refine aY k1 (b8 _ _ _ _) ?_
   walk_at "nx";refine aY k1 (bx _ _ _ _) ?_
   walk_at "rd1";refine aI (fun c=>absurd c (by decide)) (fun _=>?_)
   refine aY k1 (bx _ _ _ _) ?_
   walk_at "rd1";exact⟨R.isM (by decide +kernel),R.isM (by decide +kernel),_,_,.inr k2,km,E,H0,st,.inr x,rfl,rfl,R,_,_,.inr k2,cn,E,H0,st,l,aM st (.inr x),u,rfl,rfl,R,by have:=(fN l (aM st (.inr x)) u st).2; omega,q⟩
  | cp x y=>
   have k1:H a=some (.ins CN dx (nF "copy" pp lp bp)):=R.sm _ _ g1
   have k2:SqT K H pp [.str x,.str y]:=g2.same R.sm
   have e:cg (aj d) (aQ E.xs d) E.xs l (.plain ["copy", x,y]) st=aO (.inr x) (aM st (.inr y)) st:=rY l x y st
   rw[e]at hz q
   walk_at "rd1";refine aY k1 (cx _ _ _ _) ?_
   walk_at "rd1";refine⟨_,_,.inl (SqL.of k4),cn,?_⟩
   walk_at "nx";refine aY k1 (b8 _ _ _ _) ?_
   walk_at "nx";refine aY k1 (bx _ _ _ _) ?_
   walk_at "rd1";refine aI (fun c=>absurd c (by decide)) (fun _=>?_)
   refine aY k1 (bx _ _ _ _) ?_
   walk_at "rd1";refine aI (fun c=>absurd c (by decide)) (fun _=>?_)
   refine aY k1 (bx _ _ _ _) ?_
   walk_at "rd1";exact⟨R.isM (by decide +kernel),_,_,.inr k2,cn,R.isM (by decide +kernel),_,_,.inr k2,km,E,H0,st,.inr y,rfl,rfl,R,E,H0,st,.inr x,aM st (.inr y),rfl,rfl,R,by have:=(eP (.inr x) (aM st (.inr y)) st).2; omega,q⟩
  | ti x y=>
   have k1:H a=some (.ins CN dx (nF "tie" pp lp bp)):=R.sm _ _ g1
   have k2:SqT K H pp [.str x,.str y]:=g2.same R.sm
   have e:cg (aj d) (aQ E.xs d) E.xs l (.plain ["tie", x,y]) st=db l (aM st (.inr x)) (aM st (.inr y)) st:=vq l x y st
   rw[e]at hz q
   walk_at "rd1";refine aY k1 (cx _ _ _ _) ?_
   walk_at "rd1";refine⟨_,_,.inl (SqL.of k4),cn,?_⟩
   walk_at "nx";refine aY k1 (b8 _ _ _ _) ?_
   walk_at "nx";refine aY k1 (bx _ _ _ _) ?_
   walk_at "rd1";refine aI (fun c=>absurd c (by decide)) (fun _=>?_)
   refine aY k1 (bx _ _ _ _) ?_
   walk_at "rd1";refine aI (fun c=>absurd c (by decide)) (fun _=>?_)
   refine aY k1 (bx _ _ _ _) ?_
   walk_at "rd1";refine aI (fun c=>absurd c (by decide)) (fun _=>?_)
   refine aY k1 (bx _ _ _ _) ?_
   walk_at "rd1";refine aI (fun c=>absurd c (by decide)) (fun _=>?_)
   exact⟨R.isM (by decide +kernel),R.isM (by decide +kernel),_,_,.inr k2,cn,E,H0,st,.inr x,rfl,rfl,R,R.isM (by decide +kernel),_,_,.inr k2,km,E,H0,st,.inr y,rfl,rfl,R,E,H0,st,l,aM st (.inr x),aM st (.inr y),rfl,rfl,R,by have:=(wm l (aM st (.inr x)) (aM st (.inr y)) st).2; omega,q⟩
 | lend x y b=>exact hs.elim
 | ite n b c=>exact hs.elim
 | whl n b=>exact hs.elim
theorem xK(D:DefAt K mg "do_lend" dS) (a_lines:Fl K CN "lines") (a_parts:Fl K CN "parts") (a_blocks:Fl K CN "blocks") (m_Run_deed:cB P w K mg base 2 CR "deed" ["self", "line", "handle", "word"] (im K CR)) (m_Run_handle_of:cB P w K mg base 1 CR "handle_of" ["self", "holder"] (iU K CR))
  (m_Run_hold:cB P w K mg base 1 CR "hold" ["self", "holder", "handle"] (jE K CR)) {d:Nat} (c_do_steps:aK P w K mg base (2 * d+4) "do_steps" ["run", "steps"] (jf K CR CN d)):aK P w K mg base (2 * d+5) "do_lend" ["run", "step"] (hX K CR CN d xC):=by
 refine D.cal (k:=2 * d+4) sc_do_lend (fun _ _ _ _ _ _ us hl=>match us,hl with | [_,_],_=>rfl) (fun vs H Q E h=>by obtain⟨E,H0,st,a,l,s,S,_,rfl,_⟩:=h; rfl) (fun f cdv A outer sh H vs Q _ hr h=>?_)
 obtain⟨E,H0,st,a,l,s,S,rfl,rfl,hs,hn,sp,R,hz,q⟩:=h
 refine⟨_,(ae (aw 2 sc_do_lend.nd (bc m_Run_handle_of hr (pv 0) (aa (ax (aG K) (aq a_parts (pv 1)) af (fun _ _=>rfl)) ac) (hle:=by omega)))
   (ae (ay (bc m_Run_deed hr (pv 0) (aa (ax (aG K) (aq a_lines (pv 1)) af (fun _ _=>rfl)) (aa (pv 2) (aa au ac))) (hle:=by omega)))
   (ae (ay (bc m_Run_hold hr (pv 0) (aa (ax (aG K) (aq a_parts (pv 1)) af (fun _ _=>rfl)) (aa (pv 2) ac)) (hle:=by omega)))
   (ae (ay (az c_do_steps hr (aa (pv 0) (aa (ax (aG K) (aq a_blocks (pv 1)) af (fun _ _=>rfl)) ac)) (hle:=by omega)))
   (ae (ay (bc m_Run_deed hr (pv 0) (aa (ax (aG K) (aq a_lines (pv 1)) af (fun _ _=>rfl)) (aa (pv 2) (aa au ac))) (hle:=by omega)))
   (ak (ay (bc m_Run_hold hr (pv 0) (aa (ax (aG K) (aq a_parts (pv 1)) af (fun _ _=>rfl)) (aa gu ac)) (hle:=by omega))))))))),?_⟩
 cases s with
 | lend x y b=>
  obtain⟨dx,pp,lp,bp,bs,g1,g2,g3,g4,g5,g6,g7⟩:=hn
  have g2':SqT K H0 pp [.str x,.str y]:=g2
  have g4':H0 lp=some (.lst (e7 [l,l+1+aj d b])):=g4
  cases g7 with
  | cons gb gn=>
  cases gn
  rename_i qb
  have gb':NumAt K CN S d H0 qb (l+1) b:=gb
  have spb:fF d b:=sp
  have e:cg (aj d) (aQ E.xs d) E.xs l (.lend x y b) st=aO (.inr y) none (aW (l+1+aj d b) (aM st (.inr x)) "back" (aQ E.xs d (l+1) b (aO (.inr y) (aM st (.inr x)) (aW l (aM st (.inr x)) "lend" st)))):=rfl
  rw[e]at hz q
  generalize hh:aM st (.inr x)=h at hz q;have u1:=(fN l h "lend" st).2;have u2:=(eP (.inr y) h (aW l h "lend" st)).2;have u3:=(jL E.xs d (l+1) b (aO (.inr y) h (aW l h "lend" st))).2;have u4:=(fN (l+1+aj d b) h "back" (aQ E.xs d (l+1) b (aO (.inr y) h (aW l h "lend" st)))).2;have u5:=(eP (.inr y) none (aW (l+1+aj d b) h "back" (aQ E.xs d (l+1) b (aO (.inr y) h (aW l h "lend" st))))).2;walk_at "rd1";refine⟨R.isM (by decide +kernel),aY (R.sm _ _ g1) (b8 _ _ _ _) ?_⟩
  walk_at "rd1";refine⟨_,_,.inr (g2'.same R.sm),cn,E,H0,st,.inr x,rfl,rfl,R,?_⟩
  rw[hh];walk_at "nx";refine⟨R.isM (by decide +kernel),aY (R.sm _ _ g1) (cx _ _ _ _) ?_⟩
  walk_at "rd1";refine⟨_,_,.inl (SqL.of (R.sm _ _ g4')),cn,E,H0,st,l,h, "lend", rfl,rfl,R,by omega,fun H1 R1=>?_⟩
  walk_at "nx";refine⟨R1.isM (by decide +kernel),aY (R1.sm _ _ g1) (b8 _ _ _ _) ?_⟩
  walk_at "rd1";refine⟨_,_,.inr (g2'.same R1.sm),km,E,H0,_,.inr y,h,rfl,rfl,R1,by omega,fun H2 R2=>?_⟩
  walk_at "nx";refine aY (R2.sm _ _ g1) (dy _ _ _ _) ?_
  walk_at "rd1";refine⟨_,_,.inl (SqL.of (R2.sm _ _ g6)),cn,E,H0,_,qb,l+1,b,S,rfl,rfl,gb',spb,R2,by omega,fun H3 R3=>?_⟩
  walk_at "nx";refine⟨R3.isM (by decide +kernel),aY (R3.sm _ _ g1) (cx _ _ _ _) ?_⟩
  walk_at "rd1";refine⟨_,_,.inl (SqL.of (R3.sm _ _ g4')),km,E,H0,_,l+1+aj d b,h, "back", rfl,rfl,R3,by omega,fun H4 R4=>?_⟩
  walk_at "nx";refine⟨R4.isM (by decide +kernel),aY (R4.sm _ _ g1) (b8 _ _ _ _) ?_⟩
  walk_at "rd1";exact⟨_,_,.inr (g2'.same R4.sm),km,E,H0,_,.inr y,none,rfl,rfl,R4,by omega,q⟩
 | plain ws=>exact hs.elim
 | ite n b c=>exact hs.elim
 | whl n b=>exact hs.elim
theorem BP(D:DefAt K mg "do_if" gH) (a_parts:Fl K CN "parts") (a_blocks:Fl K CN "blocks") (m_Run_takes_more:cB P w K mg base 1 CR "takes_more" ["self", "bound"] (jU K CR)) {d:Nat} (c_do_steps:aK P w K mg base (2 * d+4) "do_steps" ["run", "steps"] (jf K CR CN d)):aK P w K mg base (2 * d+5) "do_if" ["run", "step"] (hX K CR CN d Bk):=by
 refine D.cal (k:=2 * d+4) zk (fun _ _ _ _ _ _ us hl=>match us,hl with | [_,_],_=>rfl) (fun vs H Q E h=>by obtain⟨E,H0,st,a,l,s,S,_,rfl,_⟩:=h; rfl) (fun f cdv A outer sh H vs Q _ hr h=>?_)
 obtain⟨E,H0,st,a,l,s,S,rfl,rfl,hs,hn,sp,R,hz,q⟩:=h
 refine⟨_,(ak (a_ (eK (bc m_Run_takes_more hr (pv 0) (aa (ax (aG K) (aq a_parts (pv 1)) af (fun _ _=>rfl)) ac) (hle:=by omega))) (ak (ay (az c_do_steps hr (aa (pv 0) (aa (ax (aG K) (aq a_blocks (pv 1)) af (fun _ _=>rfl)) ac)) (hle:=by omega)))) (ak (ay (az c_do_steps hr (aa (pv 0) (aa (ax (aG K) (aq a_blocks (pv 1)) af (fun _ _=>rfl)) ac)) (hle:=by omega)))))),?_⟩
 cases s with
 | ite n b c=>
  obtain⟨dx,pp,lp,bp,bs,g1,g2,g3,g4,g5,g6,g7⟩:=hn
  have g2':SqT K H0 pp [.int n]:=g2
  cases g7 with
  | cons gb gn=>
  cases gn with
  | cons gc gn=>
  cases gn
  rename_i qb qc
  have gb':NumAt K CN S d H0 qb (l+1) b:=gb
  have gc':NumAt K CN S d H0 qc (l+1+aj d b+1) c:=gc
  have spb:fF d b∧fF d c:=sp
  have e:cg (aj d) (aQ E.xs d) E.xs l (.ite n b c) st=if (ar E.xs n st).1=true then aQ E.xs d (l+1) b (ar E.xs n st).2 else aQ E.xs d (l+1+aj d b+1) c (ar E.xs n st).2:=rfl
  rw[e]at hz q
  walk_at "rd1";refine⟨R.isM (by decide +kernel),aY (R.sm _ _ g1) (b8 _ _ _ _) ?_⟩
  walk_at "rd1";refine⟨_,_,.inr (g2'.same R.sm),cn,E,H0,st,n,rfl,rfl,R,fun H1 R1=>?_⟩
  walk_at "rd1";refine aI (fun c1=>?_) (fun c1=>?_)
  ·rw[if_pos c1]at hz q
   refine aY (R1.sm _ _ g1) (dy _ _ _ _) ?_
   walk_at "rd1";exact⟨_,_,.inl (SqL.of (R1.sm _ _ g6)),cn,E,H0,_,qb,l+1,b,S,rfl,rfl,gb',spb.1,R1,hz,q⟩
  ·rw[if_neg c1]at hz q
   refine aY (R1.sm _ _ g1) (dy _ _ _ _) ?_
   walk_at "rd1";exact⟨_,_,.inl (SqL.of (R1.sm _ _ g6)),km,E,H0,_,qc,l+1+aj d b+1,c,S,rfl,rfl,gc',spb.2,R1,hz,q⟩
 | plain ws=>exact hs.elim
 | lend x y b=>exact hs.elim
 | whl n b=>exact hs.elim
theorem vt(D:DefAt K mg "do_while" fm) (a_parts:Fl K CN "parts") (a_blocks:Fl K CN "blocks") (m_Run_takes_more:cB P w K mg base 1 CR "takes_more" ["self", "bound"] (jU K CR)) {d:Nat} (c_do_steps:aK P w K mg base (2 * d+4) "do_steps" ["run", "steps"] (jf K CR CN d)):aK P w K mg base (2 * d+5) "do_while" ["run", "step"] (hX K CR CN d AW):=by
 refine D.cal (k:=2 * d+4) rR (fun _ _ _ _ _ _ us hl=>match us,hl with | [_,_],_=>rfl) (fun vs H Q E h=>by obtain⟨E,H0,st,a,l,s,S,_,rfl,_⟩:=h; rfl) (fun f cdv A outer sh H vs Q _ hr h=>?_)
 obtain⟨E,H0,st,a,l,s,S,rfl,rfl,hs,hn,sp,R,hz,q⟩:=h
 refine⟨_,(ak (oW PassesOwn.never (eK (bc m_Run_takes_more hr (pv 0) (aa (ax (aG K) (aq a_parts (pv 1)) af (fun _ _=>rfl)) ac) (hle:=by omega))) (ak (ay (az c_do_steps hr (aa (pv 0) (aa (ax (aG K) (aq a_blocks (pv 1)) af (fun _ _=>rfl)) ac)) (hle:=by omega)))))),?_⟩
 cases s with
 | whl n b=>
  obtain⟨dx,pp,lp,bp,bs,g1,g2,g3,g4,g5,g6,g7⟩:=hn
  have g2':SqT K H0 pp [.int n]:=g2
  cases g7 with
  | cons gb gn=>
  cases gn
  rename_i qb
  have gb':NumAt K CN S d H0 qb (l+1) b:=gb
  have spb:fF d b:=sp
  have e:cg (aj d) (aQ E.xs d) E.xs l (.whl n b) st=cE (aQ E.xs d (l+1) b) E.xs n E.xs.length st:=rfl
  rw[e]at hz q
  generalize hT:cE (aQ E.xs d (l+1) b) E.xs n E.xs.length st=last at hz q;refine⟨fun m σ H'=>∃ st',σ=[some (.ref E.r),some (.ref a)]∧RO K E H0 H' st'∧E.xs.length≤st'.taken+m∧cE (aQ E.xs d (l+1) b) E.xs n m st'=last,⟨E.xs.length,st,rfl,R,by omega,hT⟩,?_⟩
  rintro m σ H' ⟨st',rfl,R',hm,hT'⟩
  walk_at "rd1";refine⟨R'.isM (by decide +kernel),aY (R'.sm _ _ g1) (b8 _ _ _ _) ?_⟩
  walk_at "rd1";refine⟨_,_,.inr (g2'.same R'.sm),cn,E,H0,st',n,rfl,rfl,R',fun H1 R1=>?_⟩
  walk_at "rd1";refine aI (fun c1=>?_) (fun c1=>?_)
  ·obtain⟨t1,t2,t3⟩:=nA c1
   cases m with
   | zero=>omega
   | succ m=>
   have hT2:cE (aQ E.xs d (l+1) b) E.xs n m (aQ E.xs d (l+1) b (ar E.xs n st').2)=last:=by rw[← hT']; show _=(if (ar E.xs n st').1=true then _ else _); rw[if_pos c1]
   have u1:=jL E.xs d (l+1) b (ar E.xs n st').2;have u2:=mw (f:=aQ E.xs d (l+1) b) (jL E.xs d (l+1) b) E.xs n m (aQ E.xs d (l+1) b (ar E.xs n st').2);rw[hT2]at u2
   refine⟨fun σ' H''=>∃ st'',σ'=[some (.ref E.r),some (.ref a)]∧RO K E H0 H'' st''∧E.xs.length≤st''.taken+m∧cE (aQ E.xs d (l+1) b) E.xs n m st''=last,fun σ' H'' z=>⟨m,Nat.lt_succ_self _,z⟩,?_⟩
   refine aY (R1.sm _ _ g1) (dy _ _ _ _) ?_
   walk_at "rd1";exact⟨_,_,.inl (SqL.of (R1.sm _ _ g6)),cn,E,H0,_,qb,l+1,b,S,rfl,rfl,gb',spb,R1,by have:=u2.2; omega,fun H2 R2=>⟨_,R2,by have:=u1.1; omega,hT2⟩⟩
  ·refine q _ ?_
   cases m with
   | zero=>
    have e0:ar E.xs n st'=(false,st'):=by unfold ar; rw[List.getElem?_eq_none (by omega)]
    rw[e0]at R1
    have:st'=last:=hT'
    rw[← this]; exact R1
   | succ m=>
    have:(ar E.xs n st').2=last:=by rw[← hT']; show _=(if (ar E.xs n st').1=true then _ else _); rw[if_neg c1]
    rw[← this]; exact R1
 | plain ws=>exact hs.elim
 | lend x y b=>exact hs.elim
 | ite n b c=>exact hs.elim
theorem vk{ws:List Str}(px:dN ws):¬ kindOf (.plain ws) = "lend" ∧ ¬ kindOf (.plain ws) = "if" ∧ ¬ kindOf (.plain ws) = "while" := by
 cases px
 ·show ¬ ("open" : Str) = "lend" ∧ ¬ ("open" : Str) = "if" ∧ ¬ ("open" : Str) = "while"; decide
 ·show ¬ ("drop" : Str) = "lend" ∧ ¬ ("drop" : Str) = "if" ∧ ¬ ("drop" : Str) = "while"; decide
 ·show ¬ ("do" : Str) = "lend" ∧ ¬ ("do" : Str) = "if" ∧ ¬ ("do" : Str) = "while"; decide
 ·show ¬ ("copy" : Str) = "lend" ∧ ¬ ("copy" : Str) = "if" ∧ ¬ ("copy" : Str) = "while"; decide
 ·show ¬ ("tie" : Str) = "lend" ∧ ¬ ("tie" : Str) = "if" ∧ ¬ ("tie" : Str) = "while"; decide
theorem Bn(D:DefAt K mg "do_steps" cL) (a_kind:Fl K CN "kind") (c_do_simple:∀ d,aK P w K mg base 4 "do_simple" ["run", "step"] (hX K CR CN d sQ))
  (hl:∀ d,aK P w K mg base (2 * d+4) "do_steps" ["run", "steps"] (jf K CR CN d)→aK P w K mg base (2 * d+5) "do_lend" ["run", "step"] (hX K CR CN d xC))
  (hi:∀ d,aK P w K mg base (2 * d+4) "do_steps" ["run", "steps"] (jf K CR CN d)→aK P w K mg base (2 * d+5) "do_if" ["run", "step"] (hX K CR CN d Bk))
  (hw:∀ d,aK P w K mg base (2 * d+4) "do_steps" ["run", "steps"] (jf K CR CN d)→aK P w K mg base (2 * d+5) "do_while" ["run", "step"] (hX K CR CN d AW)):∀ d,aK P w K mg base (2 * d+4) "do_steps" ["run", "steps"] (jf K CR CN d)
 | 0=>D.cal (k:=3) sc_do_steps (fun _ _ _ _ _ _ us hl=>match us,hl with | [_,_],_=>rfl) (fun vs H Q E h=>by obtain⟨E,H0,st,p,l,T,S,_,rfl,_⟩:=h; rfl) (fun f cdv A outer s H vs Q _ hr h=>by obtain⟨E,H0,st,p,l,T,S,_,rfl,z,_⟩:=h; exact z.elim)
 | d+1=>by
  have ih:=Bn D a_kind c_do_simple hl hi hw d;have c_do_simple:=c_do_simple d;have c_do_lend:=hl d ih;have c_do_if:=hi d ih;have c_do_while:=hw d ih;refine D.cal (k:=2 * d+5) sc_do_steps (fun _ _ _ _ _ _ us hl=>match us,hl with | [_,_],_=>rfl) (fun vs H Q E h=>by obtain⟨E,H0,st,p,l,T,S,_,rfl,_⟩:=h; rfl) (fun f cdv A outer sh H vs Q _ hr h=>?_)
  obtain⟨E,H0,st,p,l,T,S,rfl,rfl,⟨h0,as,h1,h2⟩,shp,R,hz,q⟩:=h
  have eT:aQ E.xs (d+1) l T st=(df (aU (aj d)) l T).foldl (fun st (z:Nat × Stp)=>cg (aj d) (aQ E.xs d) E.xs z.1 z.2 st) st:=rfl
  have hlen:=aB h2
  have hN:∀ z∈df (aU (aj d)) l T,my (fF d) z.2:=fun z hz=>by
   obtain⟨i,hi,rfl⟩:=List.mem_iff_getElem.mp hz
   have hiT:i<T.length:=by rw[fG]at hi; exact hi
   have:=mM (aU (aj d)) l T i T[i] (List.getElem?_eq_getElem hiT)
   rw[List.getElem?_eq_getElem hi]at this
   rw[Option.some.inj this];exact shp _ (List.getElem_mem hiT)
  rw[eT]at hz q
  generalize df (aU (aj d)) l T=N at h2 hlen hN hz q;refine⟨_,(ak (cC PassesOwn.never rfl (cH K (pv 1)) (bj 2 sc_do_steps.nd) (ak (a_ (aC bD (aq a_kind (pv 2)) au (aH _)) (ak (ay (az c_do_lend hr (aa (pv 0) (aa (pv 2) ac)) (hle:=by omega)))) (ak (a_ (aC bD (aq a_kind (pv 2)) au (aH _)) (ak (ay (az c_do_if hr (aa (pv 0) (aa (pv 2) ac)) (hle:=by omega)))) (ak (a_ (aC bD (aq a_kind (pv 2)) au (aH _)) (ak (ay (az c_do_while hr (aa (pv 0) (aa (pv 2) ac)) (hle:=by omega)))) (ak (ay (az c_do_simple hr (aa (pv 0) (aa (pv 2) ac)) (hle:=by omega)))))))))))),?_⟩
  walk_at "rd1";refine⟨⟨_,SqL.of (R.sm _ _ h1)⟩,?_⟩
  refine da (xs:=as.map V.ref) (fun i σ H'=>∃ o2:Option V,σ=[some (.ref E.r),some (.ref p),o2]∧RO K E H0 H' ((N.take i).foldl (fun st (z:Nat × Stp)=>cg (aj d) (aQ E.xs d) E.xs z.1 z.2 st) st))
   ⟨none,rfl,R⟩ (fun i σ H' _ h=>by obtain⟨_,_,R'⟩:=h; exact SqL.of (R'.sm _ _ h1)) ?_ ?_
  ·rintro i v σ H' hv ⟨o2,rfl,R'⟩
   have hi:i<as.length:=by have:=(List.getElem?_eq_some_iff.mp hv).1; simpa using this
   rw[List.getElem?_map,List.getElem?_eq_getElem hi]at hv
   cases hv;obtain⟨z,hz1,hz2⟩:=bI h2 (List.getElem?_eq_getElem hi)
   have hzm:=hN z (List.mem_of_getElem? hz1)
   have es:(N.take (i+1)).foldl (fun st (z:Nat × Stp)=>cg (aj d) (aQ E.xs d) E.xs z.1 z.2 st) st=cg (aj d) (aQ E.xs d) E.xs z.1 z.2 ((N.take i).foldl (fun st (z:Nat × Stp)=>cg (aj d) (aQ E.xs d) E.xs z.1 z.2 st) st):=by
    rw[List.take_add_one,hz1,List.foldl_append]; rfl
   have hup:(cg (aj d) (aQ E.xs d) E.xs z.1 z.2 ((N.take i).foldl (fun st (z:Nat × Stp)=>cg (aj d) (aQ E.xs d) E.xs z.1 z.2 st) st)).sz≤400000:=by
    have u:=mK (h:=fun st (z:Nat × Stp)=>cg (aj d) (aQ E.xs d) E.xs z.1 z.2 st) (fun st z=>sY (f:=aj d) (jL E.xs d) E.xs z.1 z.2 st) (N.drop (i+1)) ((N.take (i+1)).foldl (fun st (z:Nat × Stp)=>cg (aj d) (aQ E.xs d) E.xs z.1 z.2 st) st)
    rw[← List.foldl_append,List.take_append_drop,es]at u
    have:=u.2; omega
   rw[es];generalize (N.take i).foldl (fun st (z:Nat × Stp)=>cg (aj d) (aQ E.xs d) E.xs z.1 z.2 st) st=si at R' hup es
   obtain⟨l',s⟩:=z
   have hn:nstpAt K CN (aj d) S (NumAt K CN S d H0) H0 as[i] l' s:=hz2
   obtain⟨dx,pp,lp,bp,bs,g1,_⟩:=id hn
   have k1:=R'.sm _ _ g1;walk_at "rd1";refine aY k1 (bx _ _ _ _) ?_
   walk_at "rd1"
   cases s with
   | plain ws=>
    obtain⟨n1,n2,n3⟩:=vk (show dN ws from hzm)
    refine aI (fun c=>absurd c n1) (fun _=>?_)
    refine aY k1 (bx _ _ _ _) ?_
    walk_at "rd1";refine aI (fun c=>absurd c n2) (fun _=>?_)
    refine aY k1 (bx _ _ _ _) ?_
    walk_at "rd1";refine aI (fun c=>absurd c n3) (fun _=>?_)
    exact⟨E,H0,si,as[i],l',.plain ws,S,rfl,rfl,trivial,hn,hzm,R',hup,fun H2 R2=>⟨_,rfl,R2⟩⟩
   | lend x y b=>
    refine aI (fun _=>?_) (fun c=>absurd rfl c)
    exact⟨E,H0,si,as[i],l',.lend x y b,S,rfl,rfl,trivial,hn,hzm,R',hup,fun H2 R2=>⟨_,rfl,R2⟩⟩
   | ite n b c=>
    refine aI (fun c=>absurd c (show ¬ ("if" : Str) = "lend" by decide)) (fun _=>?_)
    refine aY k1 (bx _ _ _ _) ?_
    walk_at "rd1";refine aI (fun _=>?_) (fun c=>absurd rfl c)
    exact⟨E,H0,si,as[i],l',.ite n b c,S,rfl,rfl,trivial,hn,hzm,R',hup,fun H2 R2=>⟨_,rfl,R2⟩⟩
   | whl n b=>
    refine aI (fun c=>absurd c (show ¬ ("while" : Str) = "lend" by decide)) (fun _=>?_)
    refine aY k1 (bx _ _ _ _) ?_
    walk_at "rd1";refine aI (fun c=>absurd c (show ¬ ("while" : Str) = "if" by decide)) (fun _=>?_)
    refine aY k1 (bx _ _ _ _) ?_
    walk_at "rd1";refine aI (fun _=>?_) (fun c=>absurd rfl c)
    exact⟨E,H0,si,as[i],l',.whl n b,S,rfl,rfl,trivial,hn,hzm,R',hup,fun H2 R2=>⟨_,rfl,R2⟩⟩
  ·rintro σ H' ⟨o2,rfl,R'⟩
   rw[List.length_map,hlen,List.take_length]at R'
   exact q _ R'
def tK(K:PySem.W.Frag)(d:Nat):Sp:=fun vs H Q _=>∃ (p ip:Addr) (T:List Stp) (S:Addr→Prop) (xs:List Int),vs=[.ref p,.ref ip]∧ProgAt S d H p T∧dE d T∧fF d T∧aj d T≤100∧SqL K H ip (xs.map V.int)∧xs.length≤100∧
 ∀ (q:Addr) (H':Hp) (es:List Addr),Same H H'→H q=none→H' q=some (.lst (es.map V.ref))→Paired (fun a e=>H' a=some (.tup e)) es (f_ xs d T).log→(f_ xs d T).log.length≤100000→Q (.ref q) H'
theorem Dj(D:DefAt K mg "run_plain" b6) (a_log:Fl K CR "log") (k_Run:jy P w K mg base 1 "Run" CR ["self", "inputs", "watches"] (mj K CR)) (m_Run_end_all:cB P w K mg base 3 CR "end_all" ["self", "line"] (vv K CR)) (c_line_behind:aK P w K mg base 1 "line_behind" ["steps", "line"] (gS K CN))
  {d:Nat} (c_numbered_steps:aK P w K mg base (2 * (d+1)+4) "numbered_steps" ["steps", "line"] (lF K CN (d+1))) (c_do_steps:aK P w K mg base (2 * (d+1)+4) "do_steps" ["run", "steps"] (jf K CR CN (d+1))):aK P w K mg base (2 * (d+1)+5) "run_plain" ["program", "inputs"] (tK K (d+1)):=by
 refine D.cal (k:=2 * (d+1)+4) sc_run_plain (fun _ _ _ _ _ _ us hl=>match us,hl with | [_,_],_=>rfl) (fun vs H Q E h=>by obtain⟨p,ip,T,S,xs,rfl,_⟩:=h; rfl) (fun f cdv A outer sh H vs Q _ hr h=>?_)
 obtain⟨p,ip,T,S,xs,rfl,hP,ok,shp,hc,hip,hx,q⟩:=h
 have hz:=DM xs (d+1) T;have hz1:3 * aj (d+1) T * (xs.length+1)≤300 * 101:=Nat.mul_le_mul (by omega) (by omega)
 refine⟨_,(ae (aw 2 sc_run_plain.nd (az c_numbered_steps hr (aa (pv 0) (aa af ac)) (hle:=by omega)))
   (ae (aw 3 sc_run_plain.nd (wa k_Run hr (aa (pv 1) (aa (bi ac) ac)) (hle:=by omega)))
   (ae (ay (az c_do_steps hr (aa (pv 3) (aa (pv 2) ac)) (hle:=by omega)))
   (ae (ay (bc m_Run_end_all hr (pv 3) (aa (az c_line_behind hr (aa (pv 2) (aa af ac)) (hle:=by omega)) ac) (hle:=by omega)))
   (ak (aE (aq a_log (pv 3)))))))),?_⟩
 walk_at "rd1";refine⟨p,0,T,S,rfl,hP,ok,by omega,fun np HA sA hN=>?_⟩
 walk_at "nx";refine⟨by decide,fun wp hwp=>?_⟩
 have sW:=al hwp (.lst []);have eW:upd HA wp (.lst []) wp=some (.lst []):=ah
 have hN:=hN.mono sW;have sA:=sA.trans sW;generalize upd HA wp (.lst [])=HA at hN sA eW ⊢;intro x dx hx0 hdx ndx
 generalize hM:upd (upd HA dx (.own x)) x (.ins CR dx [])=HM
 have sM:Same HA HM:=by rw[← hM]; exact(al hdx (.own x)).upd hx0 _
 have eM:HM x=some (.ins CR dx []):=by rw[← hM,ah]
 refine⟨x,dx,ip,wp,HA,xs,rfl,eM,hx0,sM,sA.seq hip,SqL.of eW,by omega,fun hp lp HB R=>⟨rfl,?_⟩⟩
 walk_at "nx";refine⟨⟨CR,x,ip,hp,lp,xs,wp⟩,HA,rs0,np,0,T,_,rfl,rfl,hN,shp,R,by show (aQ xs (d+1) 0 T rs0).sz≤400000; omega,fun HC RC=>?_⟩
 have RC':RO K ⟨CR,x,ip,hp,lp,xs,wp⟩ HA HC (aQ xs (d+1) 0 T rs0):=RC
 walk_at "nx";refine⟨RC'.isM (by decide +kernel),np,0,d,T,_,rfl,hN.mono RC'.sm,by omega,?_⟩
 refine⟨⟨CR,x,ip,hp,lp,xs,wp⟩,HA,_,0+aj (d+1) T,rfl,rfl,RC',by omega,fun HD RD=>?_⟩
 walk_at "nx";rw[Nat.zero_add]at RD
 obtain⟨es,l1,l2⟩:=id RD.lg
 refine RD.log (q lp HD es (sA.trans RD.sm) (sA.free RD.fl) l1 l2 ?_)
 show (ia (aj (d+1) T) (aQ xs (d+1) 0 T rs0)).log.length≤100000
 unfold ia;rw[List.length_append,List.length_map,List.length_range];unfold RS.sz at hz; omega
end
section
variable{P:Program}{w:World}{K:PySem.W.Frag}{mg:Str→Option Value}{base:Heap}
abbrev bw:=List V
def bA(kv:List (aF × V))(k:aF):V:=(bN kv k).getD .non
def iN(n:Nat):V:=.int (n:Int)
def dq(kv:List (aF × V))(l:Nat)(ws:List Str):bw:=
 if ws.headD "" = "do" then [.str "do", iN l,bA kv (.inr (ws.getD 2 "")),.str (ws.getD 1 "")] else .str (ws.headD "")::iN l::(ws.drop 1).map fun n=>bA kv (.inr n)
section
variable(kv:List (aF × V))(f:Bool→Nat→Nat→List Stp→List bw)(cnt:List Stp→Nat)
def fA(t:Bool)(a l:Nat)(x y:Str)(b:List Stp):List bw:=
 [[.str "copy", iN l,bA kv (.inl l),bA kv (.inr x)],[.str "do", iN l,bA kv (.inl l),.str "lend"],[.str "copy", iN l,bA kv (.inr y),bA kv (.inl l)]]++f t (a+3) (l+1) b ++
 [[.str "do", iN (l+1+cnt b),bA kv (.inl l),.str "back"],[.str "drop", iN (l+1+cnt b),bA kv (.inr y)],[.str "drop", iN (l+1+cnt b),bA kv (.inl l)]]
def jB(t:Bool)(a l:Nat)(n:Int)(b c:List Stp):List bw:=
 [[.str "test", iN l,.int n,iN (a+1+(f t (a+1) (l+1) b).length+1)]]++f t (a+1) (l+1) b ++
 [[.str "jump", iN (l+1+cnt b),iN (a+1+(f t (a+1) (l+1) b).length+1+(f t (a+1+(f t (a+1) (l+1) b).length+1) (l+1+cnt b+1) c).length)]]++f t (a+1+(f t (a+1) (l+1) b).length+1) (l+1+cnt b+1) c
def de(a l:Nat)(n:Int)(b:List Stp):List bw:=
 [[.str "test", iN l,.int n,iN (a+1+(f false (a+1) (l+1) b).length+1)]]++f false (a+1) (l+1) b++[[.str "jump", iN (l+1+cnt b),iN a]]
def dz(t:Bool)(a l:Nat)(n:Int)(b:List Stp):List bw:=
 if t=true then [[.str "test", iN l,.int n,iN (a+1+(f true (a+1) (l+1) b).length+(de f cnt (a+1+(f true (a+1) (l+1) b).length) l n b).length)]]++f true (a+1) (l+1) b++de f cnt (a+1+(f true (a+1) (l+1) b).length) l n b
 else de f cnt a l n b
def dX(t:Bool)(a l:Nat):Stp→List bw
 | .plain ws=>[dq kv l ws]
 | .lend x y b=>fA kv f cnt t a l x y b
 | .ite n b c=>jB f cnt t a l n b c
 | .whl n b=>dz f cnt t a l n b
end
def dg(g:Nat→Nat→Stp→List bw)(c:Stp→Nat):Nat→Nat→List Stp→List bw
 | _,_,[]=>[]
 | a,l,s::T=>g a l s++dg g c (a+(g a l s).length) (l+c s) T
theorem kg(g:Nat→Nat→Stp→List bw)(c:Stp→Nat)(s:Stp):∀ (T:List Stp) (a l:Nat),dg g c a l (T++[s])=dg g c a l T++g (a+(dg g c a l T).length) (l+(T.map c).sum) s
 | [],a,l=>by simp[dg]
 | t::T,a,l=>by
  show g a l t++dg g c _ _ (T++[s])=(g a l t++dg g c _ _ T)++_
  have e:(dg g c a l (t::T)).length=(g a l t).length+(dg g c (a+(g a l t).length) (l+c t) T).length:=List.length_append
  rw[kg g c s T,List.append_assoc,e,List.map_cons,List.sum_cons,Nat.add_assoc,Nat.add_assoc]
def aL(kv:List (aF × V)):Nat→Bool→Nat→Nat→List Stp→List bw
 | 0,_,_,_,_=>[]
 | d+1,t,a,l,T=>dg (dX kv (aL kv d) (aj d) t) (aU (aj d)) a l T
theorem iW{f:Bool→Nat→Nat→List Stp→List bw}{cnt:List Stp→Nat}{a l:Nat}{n:Int}{b:List Stp}:(de f cnt a l n b).length=(f false (a+1) (l+1) b).length+2:=by
 unfold de; simp
theorem AE{kv:List (aF × V)}{f:Bool→Nat→Nat→List Stp→List bw}{cnt:List Stp→Nat}{m:Nat}(h0:∀ a l T,(f false a l T).length≤6 * cnt T)(h1:∀ a l T,(f true a l T).length≤6 * m * cnt T)(hm:1≤m):∀ (s:Stp) (t:Bool) (a l:Nat),(dX kv f cnt t a l s).length≤(if t=true then 6 * (m+1) else 6) * aU cnt s
 | .plain ws,t,a,l=>by
  show 1≤_ * 1
  split <;> omega
 | .lend x y b,t,a,l=>by
  cases t with
  | false=>
   have:=h0 (a+3) (l+1) b
   show (fA kv f cnt false a l x y b).length≤6 * (cnt b+2)
   unfold fA;simp only[List.length_append,List.length_cons,List.length_nil]
   omega
  | true=>
   have:=h1 (a+3) (l+1) b
   show (fA kv f cnt true a l x y b).length≤6 * (m+1) * (cnt b+2)
   unfold fA;simp only[List.length_append,List.length_cons,List.length_nil]
   have e:6 * (m+1) * (cnt b+2)=6 * m * cnt b+6 * cnt b+12 * m+12:=by rw[Nat.mul_add 6 m 1,Nat.add_mul,Nat.mul_add,Nat.mul_add]; omega
   omega
 | .ite n b c,t,a,l=>by
  cases t with
  | false=>
   have:=h0 (a+1) (l+1) b
   have:=h0 (a+1+(f false (a+1) (l+1) b).length+1) (l+1+cnt b+1) c
   show (jB f cnt false a l n b c).length≤6 * (cnt b+cnt c+3)
   unfold jB;simp only[List.length_append,List.length_cons,List.length_nil]
   omega
  | true=>
   have:=h1 (a+1) (l+1) b
   have:=h1 (a+1+(f true (a+1) (l+1) b).length+1) (l+1+cnt b+1) c
   show (jB f cnt true a l n b c).length≤6 * (m+1) * (cnt b+cnt c+3)
   unfold jB;simp only[List.length_append,List.length_cons,List.length_nil]
   have e:6 * (m+1) * (cnt b+cnt c+3)=6 * m * cnt b+6 * m * cnt c+18 * m+6 * cnt b+6 * cnt c+18:=by rw[Nat.mul_add 6 m 1,Nat.add_mul,Nat.mul_add,Nat.mul_add,Nat.mul_add,Nat.mul_add]; omega
   omega
 | .whl n b,t,a,l=>by
  cases t with
  | false=>
   have:=h0 (a+1) (l+1) b
   show (dz f cnt false a l n b).length≤6 * (cnt b+2)
   unfold dz;rw[if_neg (by decide),iW]
   omega
  | true=>
   have:=h1 (a+1) (l+1) b
   have:=h0 (a+1+(f true (a+1) (l+1) b).length+1) (l+1) b
   show (dz f cnt true a l n b).length≤6 * (m+1) * (cnt b+2)
   unfold dz;rw[if_pos rfl];simp only[List.length_append,List.length_cons,List.length_nil,iW]
   have e:6 * (m+1) * (cnt b+2)=6 * m * cnt b+6 * cnt b+12 * m+12:=by rw[Nat.mul_add 6 m 1,Nat.add_mul,Nat.mul_add,Nat.mul_add]; omega
   omega
theorem rH{g:Nat→Nat→Stp→List bw}{c:Stp→Nat}{k:Nat}(h:∀ s a l,(g a l s).length≤k * c s):∀ (T:List Stp) (a l:Nat),(dg g c a l T).length≤k * (T.map c).sum
 | [],_,_=>Nat.zero_le _
 | s::T,a,l=>by
  have:=h s a l
  have:=rH h T (a+(g a l s).length) (l+c s)
  show (g a l s++dg g c (a+(g a l s).length) (l+c s) T).length≤k * (c s+(T.map c).sum)
  rw[List.length_append,Nat.mul_add]; omega
theorem qh(kv:List (aF × V)):∀ (d:Nat) (a l:Nat) (T:List Stp),(aL kv d false a l T).length≤6 * aj d T∧(aL kv d true a l T).length≤6 * (d+1) * aj d T
 | 0,_,_,_=>⟨Nat.zero_le _,Nat.zero_le _⟩
 | d+1,a,l,T=>by
  have ih:=qh kv d;have st:=AE (kv:=kv) (f:=aL kv d) (cnt:=aj d) (m:=d+1) (fun a l T=>(ih a l T).1) (fun a l T=>(ih a l T).2) (by omega)
  exact⟨rH (k:=6) (fun s a l=>by have:=st s false a l; simpa using this) T a l,rH (k:=6 * (d+1+1)) (fun s a l=>by have:=st s true a l; simpa using this) T a l⟩
def bP(H:Hp)(c:Addr)(r:bw):Prop:=H c=some (.tup r)
def eJ(ws:List Str):List Str:=if ws.headD "" = "do" then [ws.getD 2 ""] else ws.drop 1
def dQ(kv:List (aF × V))(k:aF):Prop:=bN kv k=some (bA kv k)
def jw(kv:List (aF × V))(f:Nat→List Stp→Prop)(cnt:List Stp→Nat)(l:Nat):Stp→Prop
 | .plain ws=>(ws.headD "" = "do" → ws.length=3)∧∀ n∈eJ ws,dQ kv (.inr n)
 | .lend x y b=>dQ kv (.inr x)∧dQ kv (.inr y)∧dQ kv (.inl (l:Int))∧f (l+1) b
 | .ite _ b c=>f (l+1) b∧f (l+1+cnt b+1) c
 | .whl _ b=>f (l+1) b
def dC(kv:List (aF × V)):Nat→Nat→List Stp→Prop
 | 0,_,_=>False
 | d+1,l,T=>∀ z∈df (aU (aj d)) l T,jw kv (dC kv d) (aj d) z.1 z.2
section
variable{CN:Addr}
def zd(K:PySem.W.Frag)(C:Addr):Sp:=fun vs H Q _=>∃ (a sp:Addr) (l:Nat) (ws:List Str) (kv:List (aF × V)) (S:Addr→Prop) (PA:Addr→Nat→List Stp→Prop) (g:List Stp→Nat) (f:Nat→List Stp→Prop),vs=[.ref a,.ref sp]∧nstpAt K C g S PA H a l (.plain ws)∧hJ ws∧H sp=some (.dK kv)∧jw kv f g l (.plain ws)∧
 ∀ (t:Addr) (H':Hp),Same H H'→bP H' t (dq kv l ws)→Q (.ref t) H'
theorem yy(D:DefAt K mg "simple_row" bJ) (z_tuple:mg "tuple" = none) (a_kind:Fl K CN "kind") (a_parts:Fl K CN "parts") (a_lines:Fl K CN "lines"):aK P w K mg base 1 "simple_row" ["step", "slots"] (zd K CN):=by
 refine D.cal (k:=0) sc_simple_row (fun _ _ _ _ _ _ us hl=>match us,hl with | [_,_],_=>rfl) (fun vs H Q E h=>by obtain⟨_,_,_,_,_,_,_,_,_,rfl,_⟩:=h; rfl) (fun f cdv A outer s H vs Q E hr h=>?_)
 obtain⟨a,sp,l,ws,kv,S,PA,g,ff,rfl,⟨dx,pp,lp,bp,bs,g1,g2,g3,g4,g5,g6,g7⟩,ok,esp,⟨hk3,hks⟩,q⟩:=h
 refine⟨_,(ae (aw 2 sc_simple_row.nd (ax (aG K) (aq a_lines (pv 0)) af (fun _ _=>rfl)))
   (ae (a_ (aC bD (aq a_kind (pv 0)) au (aH _)) (ak (aE (bm (aa au (aa (pv 2) (aa (ax (qz K) (pv 1 (hv:=Jk)) (ax (aG K) (aq a_parts (pv 0)) af (fun _ _=>rfl)) (fun _ _=>rfl)) (aa (ax (aG K) (aq a_parts (pv 0)) af (fun _ _=>rfl)) ac))))))) bt)
   (ak (aE (ao (zw K) (bm (aa (aq a_kind (pv 0)) (aa (pv 2) ac))) (eh (xq K) z_tuple oY (aa (gL (CompSc.to (fsc:=(defScope bJ)) (N:=["step", "slots", "line"]) (N0:=["step", "slots", "line"]) (T:=["name"]) ⟨by decide +kernel,by decide +kernel,by decide +kernel,by decide +kernel,by decide +kernel,by decide +kernel,by decide +kernel⟩ rfl rfl) rfl ((j0 K) (aq a_parts (pv 0))) (fun _ _ _ _=>(bj 3 (show (["step", "slots", "line", "name"]:List Str).Nodup from by decide +kernel) (hx:=(kQ (defScope bJ) (by decide +kernel))) (hf:=qa (defScope bJ) (by decide +kernel)))) (fB (show (["step", "slots", "line"]:List Str).length≤3 from by decide)) (fun _ _ _ _=>kK) (fun _ _ _ _=>(ax (qz K) (pv 1 (hv:=(fD (defScope bJ) (by decide +kernel)))) (pv 3 (hv:=(fD (defScope bJ) (by decide +kernel)))) (fun _ _=>rfl)))) ac))))))),?_⟩
 walk_at "rd1";refine⟨dx,_,_,g1,cx _ _ _ _,?_⟩
 walk_at "rd1";refine⟨_,_,.inl (SqL.of g4),fe (i:=0) (n:=l) rfl,?_⟩
 walk_at "nx";refine⟨dx,_,_,g1,bx _ _ _ _,?_⟩
 walk_at "rd1";unfold dq at q;unfold eJ at hks;refine aI (fun c=>?_) (fun c=>?_)
 ·have hdo:ws.headD "" = "do" := c
  rw[if_pos hdo]at q hks
  obtain⟨k0,w0,x0,rfl⟩ : ∃ k w x,ws=[k,w,x]:=by
   have:=hk3 hdo
   match ws,this with
   | [k,w,x],_=>exact⟨k,w,x,rfl⟩
  have hx:=hks x0 (by simp)
  refine⟨dx,_,_,g1,b8 _ _ _ _,?_⟩
  walk_at "rd1";refine⟨_,_,.inr g2,aR (j:=1) (v:=.str x0) rfl,?_⟩
  refine .inr ⟨sp,kv,.inr x0,_,rfl,rfl,esp,hx,?_⟩
  refine⟨dx,_,_,g1,b8 _ _ _ _,?_⟩
  walk_at "rd1";refine⟨_,_,.inr g2,aR (j:=0) (v:=.str w0) rfl,by decide,fun t ht=>?_⟩
  exact q t _ (al ht _) ah
 ·have hdo:¬ ws.headD "" = "do" := c
  rw[if_neg hdo]at q hks
  walk_at "nx";refine⟨dx,_,_,g1,bx _ _ _ _,by decide,fun t1 ht1=>?_⟩
  generalize hH1:upd H t1 _=H1
  have s1:Same H H1:=by rw[← hH1]; exact al ht1 _
  have et1:H1 t1=some (.tup [.str (kindOf (.plain ws)),iN l]):=by rw[← hH1]; exact ah
  refine⟨dx,_,_,s1 _ _ g1,b8 _ _ _ _,?_⟩
  refine⟨pp,rfl,⟨_,g2.same s1⟩,fun L hL=>?_⟩
  have g2':SqT K H1 pp ((ws.drop 1).map V.str):=g2.same s1
  have esp1:=s1 _ _ esp;refine ng (xs:=(ws.drop 1).map V.str) (fun i ys H'=>Same H1 H'∧H' L=some (.lst ys)∧ys=((ws.drop 1).take i).map fun n=>bA kv (.inr n)) ⟨al hL _,ah,rfl⟩ (fun i ys H' _ hh=>g2'.same hh.1) ?_ ?_
  ·rintro i ys H' v hv hi ⟨sm,hl,rfl⟩
   rw[List.length_map]at hi
   rw[List.getElem?_map,List.getElem?_eq_getElem hi]at hv
   cases hv;have hn:=hks _ (List.getElem_mem hi);have h3:=ok.three;have hdl:(ws.drop 1).length≤3:=by rw[List.length_drop]; omega
   walk_at "rd1";refine .inr ⟨sp,kv,.inr (ws.drop 1)[i],_,rfl,rfl,sm _ _ esp1,hn,?_⟩
   refine uW (by rw[List.length_map]; exact hi) (by rw[List.length_map,List.length_take]; omega) (by rw[List.length_map]; exact bo (by omega)) hl ⟨sm.upd hL _,ah,?_⟩
   rw[List.take_add_one,List.getElem?_eq_getElem hi,List.map_append]; rfl
  ·rintro ys H2 ⟨s2,e2,rfl⟩
   rw[List.length_map,List.take_length]at e2
   have h2:=ok.two;have h3:=ok.three;have hdl:(ws.drop 1).length≤3∧1≤(ws.drop 1).length:=by rw[List.length_drop]; omega
   walk_at "rd1";refine⟨_,.inl ⟨SqL.of e2,fun t2 ht2=>?_⟩⟩
   have s3:=al ht2 (.tup ((ws.drop 1).map fun n=>bA kv (.inr n)))
   have et2:upd H2 t2 (.tup ((ws.drop 1).map fun n=>bA kv (.inr n))) t2=some (.tup ((ws.drop 1).map fun n=>bA kv (.inr n))):=ah
   generalize upd H2 t2 (.tup ((ws.drop 1).map fun n=>bA kv (.inr n)))=H3 at s3 et2 ⊢
   refine⟨_,_,SqT.of (s3 _ _ (s2 _ _ et1)),SqT.of et2,by simp,by rw[List.length_map]; exact bo (by simp only[List.length_cons,List.length_nil]; omega),fun hz=>?_,fun _ t3 ht3=>?_⟩
   ·have:=congrArg List.length hz
    rw[List.length_map]at this
    simp only[List.length_nil]at this
    omega
   ·exact q t3 _ (((s1.trans s2).trans s3).trans (al ht3 _)) ah
end
def ListR(H:Hp)(q:Addr)(rows:List bw):Prop:=∃ as:List Addr,H q=some (.lst (as.map V.ref))∧Paired (bP H) as rows
theorem ListR.mono{H H':Hp}{q:Addr}{rows:List bw}(h:ListR H q rows)(s:Same H H'):ListR H' q rows:=let ⟨as,h1,h2⟩:=h; ⟨as,s _ _ h1,Paired.imp' (fun _ _ z=>s _ _ z) h2⟩
theorem gj{α β : Type}{R:α→β→Prop}:∀ {xs zs:List α} {ys us:List β},Paired R xs ys→Paired R zs us→Paired R (xs++zs) (ys++us)
 | _,_,_,_,.nil,h=>h
 | _,_,_,_,.cons a t,h=>.cons a (gj t h)
theorem fw{H:Hp}{x:Addr}{as bs:List Addr}{r1 r2:List bw}(a2:Paired (bP H) as r1)(b2:Paired (bP H) bs r2)(hx:H x=none):ListR (upd H x (.lst (as.map V.ref++bs.map V.ref))) x (r1++r2):=by
 have s:=al hx (.lst (as.map V.ref++bs.map V.ref));exact⟨as++bs,by rw[ah,List.map_append],gj (Paired.imp' (fun _ _ z=>s _ _ z) a2) (Paired.imp' (fun _ _ z=>s _ _ z) b2)⟩
theorem eO{H:Hp}{as bs:List Addr}{r1 r2:List bw}(a2:Paired (bP H) as r1)(b2:Paired (bP H) bs r2)(hl:r1.length+r2.length≤1000000):(as.map V.ref).length+(bs.map V.ref).length≤sizeLine:=by
 rw[List.length_map,List.length_map,aB a2,aB b2]; exact bo hl
theorem gJ{H:Hp}{c x:Addr}{r:bw}(hc:bP H c r)(hx:H x=none):ListR (upd H x (.lst [.ref c])) x [r]:=⟨[c],ah,.cons (al hx _ _ _ hc) .nil⟩
section
variable{CN:Addr}
def gK(K:PySem.W.Frag)(C:Addr)(d:Nat):Sp:=fun vs H Q _=>∃ (p sp:Addr) (a l:Nat) (t:Bool) (T:List Stp) (kv:List (aF × V)) (S:Addr→Prop),vs=[.ref p,.int (a:Int),.ref sp,.bl t]∧NumAt K C S d H p l T∧dE d T∧H sp=some (.dK kv)∧dC kv d l T∧aj d T≤200∧d≤20∧
 ∀ (q:Addr) (H':Hp),Same H H'→H q=none→ListR H' q (aL kv d t a l T)→Q (.ref q) H'
def xf(K:PySem.W.Frag)(C:Addr)(d:Nat):Sp:=fun vs H Q _=>∃ (x sp:Addr) (a l:Nat) (n:Int) (b:List Stp) (kv:List (aF × V)) (S:Addr→Prop),vs=[.ref x,.int (a:Int),.ref sp]∧nstpAt K C (aj d) S (NumAt K C S d H) H x l (.whl n b)∧dE d b∧H sp=some (.dK kv)∧dC kv d (l+1) b∧aj d b≤200∧d≤20∧
 ∀ (q:Addr) (H':Hp),Same H H'→H q=none→ListR H' q (de (aL kv d) (aj d) a l n b)→Q (.ref q) H'
theorem dZ{kv:List (aF × V)}{d a l:Nat}{t:Bool}{T:List Stp}(h:aj d T≤200)(hd:d≤20):(aL kv d t a l T).length≤30000:=by
 have h1:=qh kv d a l T;have h2:6 * (d+1) * aj d T≤6 * 21 * 200:=Nat.mul_le_mul (by omega) h
 cases t with
 | false=>omega
 | true=>omega
theorem BF(D:DefAt K mg "loop_rows" b7) (z_len:mg "len" = none) (a_parts:Fl K CN "parts") (a_lines:Fl K CN "lines") (a_blocks:Fl K CN "blocks") {d:Nat} (c_rows_of:aK P w K mg base (3 * d+2) "rows_of" ["steps", "at", "slots", "turned"] (gK K CN d)):aK P w K mg base (3 * d+3) "loop_rows" ["step", "at", "slots"] (xf K CN d):=by
 refine D.cal (k:=3 * d+2) sc_loop_rows (fun _ _ _ _ _ _ us hl=>match us,hl with | [_,_,_],_=>rfl) (fun vs H Q E h=>by obtain⟨_,_,_,_,_,_,_,_,rfl,_⟩:=h; rfl) (fun f cdv A outer s H vs Q E hr h=>?_)
 obtain⟨x,sp,a,l,n,b,kv,S,rfl,⟨dx,pp,lp,bp,bs,g1,g2,g3,g4,g5,g6,g7⟩,ok,esp,hk,hc,hd,q⟩:=h
 obtain⟨q0,rfl⟩ : ∃ q0,bs=[q0]:=by
  cases g7 with
  | cons _ t=>cases t; exact⟨_,rfl⟩
 have hb:NumAt K CN S d H q0 (l+1) b:=by
  cases g7 with
  | cons h _=>exact h
 refine⟨_,(ae (aw 3 sc_loop_rows.nd (az c_rows_of hr (aa (ax (aG K) (aq a_blocks (pv 0)) af (fun _ _=>rfl)) (aa (ao aD (pv 1) af) (aa (pv 2) (aa eX ac)))) (hle:=by omega)))
   (ae (aw 4 sc_loop_rows.nd (ao aD (ao aD (ao aD (pv 1) af) (bF (bh K) z_len cf (aa (pv 3) ac))) af))
   (ak (aE (ao aD (ao aD (bi (aa (bm (aa au (aa (ax (aG K) (aq a_lines (pv 0)) af (fun _ _=>rfl)) (aa (ax (aG K) (aq a_parts (pv 0)) af (fun _ _=>rfl)) (aa (pv 4) ac))))) ac)) (pv 3)) (bi (aa (bm (aa au (aa (ax (aG K) (aq a_lines (pv 0)) af (fun _ _=>rfl)) (aa (pv 1) ac)))) ac))))))),?_⟩
 walk_at "rd1";refine⟨dx,_,_,g1,dy _ _ _ _,?_⟩
 walk_at "rd1";refine⟨_,_,.inl (SqL.of g6),aR (j:=0) (v:=V.ref q0) rfl,?_⟩
 refine⟨q0,sp,a+1,l+1,false,b,kv,S,by simp,hb,ok,esp,hk,hc,hd,fun wq H1 s1 hwq hW=>?_⟩
 have hWl:=dZ (kv:=kv) (a:=a+1) (l:=l+1) (t:=false) hc hd;generalize hWW:aL kv d false (a+1) (l+1) b=W at hW hWl;obtain⟨was,w1,w2⟩:=id hW
 have wl:=aB w2;walk_at "nx";refine⟨_,.inl (SqL.of w1),?_⟩
 rw[List.length_map,wl];walk_at "nx";refine⟨dx,_,_,s1 _ _ g1,cx _ _ _ _,?_⟩
 walk_at "rd1";refine⟨_,_,.inl (SqL.of (s1 _ _ g4)),fe (i:=0) (n:=l) rfl,?_⟩
 refine⟨dx,_,_,s1 _ _ g1,b8 _ _ _ _,?_⟩
 walk_at "rd1";refine⟨_,_,.inr (g2.same s1),aR (j:=0) (v:=V.int n) rfl,by decide,fun t1 ht1=>?_⟩
 generalize hH2:upd H1 t1 _=H2
 have s2:Same H1 H2:=by rw[← hH2]; exact al ht1 _
 have et1:bP H2 t1 [.str "test", iN l,.int n,iN (a+1+W.length+1)]:=by
  show H2 t1=_
  rw[← hH2,ah];simp[iN]
 refine⟨by decide,fun l1 hl1=>?_⟩
 have s3:=al hl1 (.lst [.ref t1]);have L1:=gJ et1 hl1;generalize upd H2 l1 (.lst [.ref t1])=H3 at s3 L1 ⊢;have s13:=s2.trans s3;obtain⟨as1,a1,a2⟩:=L1
 obtain⟨bs1,b1,b2⟩:=hW.mono s13
 refine⟨_,_,a1,b1,eO a2 b2 (by simp only[List.length_cons,List.length_nil]; omega),fun l2 hl2=>?_⟩
 have s4:=al hl2 (.lst (as1.map V.ref++bs1.map V.ref));have L2:=fw a2 b2 hl2;generalize upd H3 l2 (.lst (as1.map V.ref++bs1.map V.ref))=H4 at s4 L2 ⊢;have s04:=(s1.trans s13).trans s4;refine⟨dx,_,_,s04 _ _ g1,cx _ _ _ _,?_⟩
 walk_at "rd1";refine⟨_,_,.inl (SqL.of (s04 _ _ g4)),fe (i:=1) (n:=l+1+aj d b) rfl,by decide,fun t2 ht2=>?_⟩
 generalize hH5:upd H4 t2 _=H5
 have s5:Same H4 H5:=by rw[← hH5]; exact al ht2 _
 have et2:bP H5 t2 [.str "jump", iN (l+1+aj d b),iN a]:=by
  show H5 t2=_
  rw[← hH5,ah];simp[iN]
 refine⟨by decide,fun l3 hl3=>?_⟩
 have s6:=al hl3 (.lst [.ref t2]);have L3:=gJ et2 hl3;generalize upd H5 l3 (.lst [.ref t2])=H6 at s6 L3 ⊢;obtain⟨as2,c1,c2⟩:=L2.mono (s5.trans s6)
 obtain⟨bs2,d1,d2⟩:=L3
 refine⟨_,_,c1,d1,eO c2 d2 (by simp only[List.length_append,List.length_cons,List.length_nil]; omega),fun l4 hl4=>?_⟩
 have s7:=al hl4 (.lst (as2.map V.ref++bs2.map V.ref));have L4:=fw c2 d2 hl4;generalize upd H6 l4 (.lst (as2.map V.ref++bs2.map V.ref))=H7 at s7 L4 ⊢;refine q l4 H7 (((s04.trans s5).trans s6).trans s7) (((s04.trans s5).trans s6).free hl4) ?_
 unfold de;rw[hWW];exact L4
end
section
variable{CN:Addr}
def zT(K:PySem.W.Frag)(C:Addr)(d:Nat):Sp:=fun vs H Q _=>∃ (x sp:Addr) (a l:Nat) (t:Bool) (n:Int) (b:List Stp) (kv:List (aF × V)) (S:Addr→Prop),vs=[.ref x,.int (a:Int),.ref sp,.bl t]∧nstpAt K C (aj d) S (NumAt K C S d H) H x l (.whl n b)∧dE d b∧H sp=some (.dK kv)∧dC kv d (l+1) b∧aj d b≤200∧d≤20∧
 ∀ (q:Addr) (H':Hp),Same H H'→H q=none→ListR H' q (dz (aL kv d) (aj d) t a l n b)→Q (.ref q) H'
theorem yT(D:DefAt K mg "while_rows" bn) (z_len:mg "len" = none) (a_parts:Fl K CN "parts") (a_lines:Fl K CN "lines") (a_blocks:Fl K CN "blocks") {d:Nat} (c_rows_of:aK P w K mg base (3 * d+2) "rows_of" ["steps", "at", "slots", "turned"] (gK K CN d)) (c_loop_rows:aK P w K mg base (3 * d+3) "loop_rows" ["step", "at", "slots"] (xf K CN d)):aK P w K mg base (3 * d+4) "while_rows" ["step", "at", "slots", "turned"] (zT K CN d):=by
 refine D.cal (k:=3 * d+3) sc_while_rows (fun _ _ _ _ _ _ us hl=>match us,hl with | [_,_,_,_],_=>rfl) (fun vs H Q E h=>by obtain⟨_,_,_,_,_,_,_,_,_,rfl,_⟩:=h; rfl) (fun f cdv A outer s H vs Q E hr h=>?_)
 obtain⟨x,sp,a,l,t,n,b,kv,S,rfl,hN,ok,esp,hk,hc,hd,q⟩:=h
 obtain⟨dx,pp,lp,bp,bs,g1,g2,g3,g4,g5,g6,g7⟩:=id hN
 obtain⟨q0,rfl⟩ : ∃ q0,bs=[q0]:=by
  cases g7 with
  | cons _ t=>cases t; exact⟨_,rfl⟩
 have hb:NumAt K CN S d H q0 (l+1) b:=by
  cases g7 with
  | cons h _=>exact h
 refine⟨_,(ae (a_ (gp (eK (pv 3))) (ak (aE (az c_loop_rows hr (aa (pv 0) (aa (pv 1) (aa (pv 2) ac))) (hle:=by omega)))) bt)
   (ae (aw 4 sc_while_rows.nd (az c_rows_of hr (aa (ax (aG K) (aq a_blocks (pv 0)) af (fun _ _=>rfl)) (aa (ao aD (pv 1) af) (aa (pv 2) (aa eX ac)))) (hle:=by omega)))
   (ae (aw 5 sc_while_rows.nd (az c_loop_rows hr (aa (pv 0) (aa (ao aD (ao aD (pv 1) af) (bF (bh K) z_len cf (aa (pv 4) ac))) (aa (pv 2) ac))) (hle:=by omega)))
   (ae (aw 6 sc_while_rows.nd (ao aD (ao aD (ao aD (pv 1) af) (bF (bh K) z_len cf (aa (pv 4) ac))) (bF (bh K) z_len cf (aa (pv 5) ac))))
   (ak (aE (ao aD (ao aD (bi (aa (bm (aa au (aa (ax (aG K) (aq a_lines (pv 0)) af (fun _ _=>rfl)) (aa (ax (aG K) (aq a_parts (pv 0)) af (fun _ _=>rfl)) (aa (pv 6) ac))))) ac)) (pv 4)) (pv 5)))))))),?_⟩
 walk_at "rd1"
 cases t with
 | false=>
  refine aI (fun _=>?_) (fun c=>absurd rfl c)
  exact⟨x,sp,a,l,n,b,kv,S,rfl,hN,ok,esp,hk,hc,hd,fun q' H' s' hq' L'=>q q' H' s' hq' (by unfold dz; rw[if_neg (by decide)]; exact L')⟩
 | true=>
  refine aI (fun c=>absurd c (by decide)) (fun _=>?_)
  walk_at "nx";refine⟨dx,_,_,g1,dy _ _ _ _,?_⟩
  walk_at "rd1";refine⟨_,_,.inl (SqL.of g6),aR (j:=0) (v:=V.ref q0) rfl,?_⟩
  refine⟨q0,sp,a+1,l+1,true,b,kv,S,by simp,hb,ok,esp,hk,hc,hd,fun wq H1 s1 hwq hW=>?_⟩
  have hWl:=dZ (kv:=kv) (a:=a+1) (l:=l+1) (t:=true) hc hd;generalize hWW:aL kv d true (a+1) (l+1) b=W at hW hWl;obtain⟨was,w1,w2⟩:=id hW
  have wl:=aB w2;walk_at "nx";refine⟨_,.inl (SqL.of w1),?_⟩
  rw[List.length_map,wl];walk_at "rd1";refine⟨x,sp,a+1+W.length,l,n,b,kv,S,by simp,hN.mono s1,ok,s1 _ _ esp,hk,hc,hd,fun lq H2 s2 hlq hLp=>?_⟩
  have hLl:(de (aL kv d) (aj d) (a+1+W.length) l n b).length≤30002:=by
   rw[iW];have:=dZ (kv:=kv) (a:=a+1+W.length+1) (l:=l+1) (t:=false) hc hd
   omega
  generalize hLL:de (aL kv d) (aj d) (a+1+W.length) l n b=LP at hLp hLl;obtain⟨las,l1,l2⟩:=id hLp
  have ll:=aB l2;have s12:=s1.trans s2;walk_at "nx";refine⟨_,.inl (SqL.of (s2 _ _ w1)),?_⟩
  rw[List.length_map,wl];walk_at "rd1";refine⟨_,.inl (SqL.of l1),?_⟩
  rw[List.length_map,ll];walk_at "nx";refine⟨dx,_,_,s12 _ _ g1,cx _ _ _ _,?_⟩
  walk_at "rd1";refine⟨_,_,.inl (SqL.of (s12 _ _ g4)),fe (i:=0) (n:=l) rfl,?_⟩
  refine⟨dx,_,_,s12 _ _ g1,b8 _ _ _ _,?_⟩
  walk_at "rd1";refine⟨_,_,.inr (g2.same s12),aR (j:=0) (v:=V.int n) rfl,by decide,fun t1 ht1=>?_⟩
  generalize hH3:upd H2 t1 _=H3
  have s3:Same H2 H3:=by rw[← hH3]; exact al ht1 _
  have et1:bP H3 t1 [.str "test", iN l,.int n,iN (a+1+W.length+LP.length)]:=by
   show H3 t1=_
   rw[← hH3,ah];simp[iN]
  refine⟨by decide,fun m1 hm1=>?_⟩
  have s4:=al hm1 (.lst [.ref t1]);have L1:=gJ et1 hm1;generalize upd H3 m1 (.lst [.ref t1])=H4 at s4 L1 ⊢;obtain⟨as1,a1,a2⟩:=L1
  obtain⟨bs1,b1,b2⟩:=hW.mono ((s2.trans s3).trans s4)
  refine⟨_,_,a1,b1,eO a2 b2 (by simp only[List.length_cons,List.length_nil]; omega),fun m2 hm2=>?_⟩
  have s5:=al hm2 (.lst (as1.map V.ref++bs1.map V.ref));have L2:=fw a2 b2 hm2;generalize upd H4 m2 (.lst (as1.map V.ref++bs1.map V.ref))=H5 at s5 L2 ⊢;obtain⟨as2,c1,c2⟩:=L2
  obtain⟨bs2,d1,d2⟩:=hLp.mono ((s3.trans s4).trans s5)
  refine⟨_,_,c1,d1,eO c2 d2 (by simp only[List.length_append,List.length_cons,List.length_nil]; omega),fun m3 hm3=>?_⟩
  have s6:=al hm3 (.lst (as2.map V.ref++bs2.map V.ref));have L4:=fw c2 d2 hm3;generalize upd H5 m3 (.lst (as2.map V.ref++bs2.map V.ref))=H6 at s6 L4 ⊢;have s05:=((s12.trans s3).trans s4).trans s5;refine q m3 H6 (s05.trans s6) (s05.free hm3) ?_
  unfold dz;rw[if_pos rfl,hWW,hLL];exact L4
def Fy(K:PySem.W.Frag)(C:Addr)(d:Nat):Sp:=fun vs H Q _=>∃ (x sp:Addr) (a l:Nat) (t:Bool) (n:Int) (b c:List Stp) (kv:List (aF × V)) (S:Addr→Prop),vs=[.ref x,.int (a:Int),.ref sp,.bl t]∧nstpAt K C (aj d) S (NumAt K C S d H) H x l (.ite n b c)∧dE d b∧dE d c∧H sp=some (.dK kv)∧dC kv d (l+1) b∧dC kv d (l+1+aj d b+1) c∧aj d b≤200∧aj d c≤200∧d≤20∧
 ∀ (q:Addr) (H':Hp),Same H H'→H q=none→ListR H' q (jB (aL kv d) (aj d) t a l n b c)→Q (.ref q) H'
theorem Fj(D:DefAt K mg "if_rows" bE) (z_len:mg "len" = none) (a_parts:Fl K CN "parts") (a_lines:Fl K CN "lines") (a_blocks:Fl K CN "blocks") {d:Nat} (c_rows_of:aK P w K mg base (3 * d+2) "rows_of" ["steps", "at", "slots", "turned"] (gK K CN d)):aK P w K mg base (3 * d+3) "if_rows" ["step", "at", "slots", "turned"] (Fy K CN d):=by
 refine D.cal (k:=3 * d+2) sc_if_rows (fun _ _ _ _ _ _ us hl=>match us,hl with | [_,_,_,_],_=>rfl) (fun vs H Q E h=>by obtain⟨_,_,_,_,_,_,_,_,_,_,rfl,_⟩:=h; rfl) (fun f cdv A outer s H vs Q E hr h=>?_)
 obtain⟨x,sp,a,l,t,n,b,c,kv,S,rfl,hN,ok,ok',esp,hk,hk',hc,hc',hd,q⟩:=h
 obtain⟨dx,pp,lp,bp,bs,g1,g2,g3,g4,g5,g6,g7⟩:=id hN
 obtain⟨q0,q1,rfl⟩ : ∃ q0 q1,bs=[q0,q1]:=by
  cases g7 with
  | cons _ t=>cases t with
   | cons _ t=>cases t; exact⟨_,_,rfl⟩
 have hb:NumAt K CN S d H q0 (l+1) b∧NumAt K CN S d H q1 (l+1+aj d b+1) c:=by
  cases g7 with
  | cons h t=>cases t with
   | cons h' _=>exact⟨h,h'⟩
 refine⟨_,(ae (aw 4 sc_if_rows.nd (az c_rows_of hr (aa (ax (aG K) (aq a_blocks (pv 0)) af (fun _ _=>rfl)) (aa (ao aD (pv 1) af) (aa (pv 2) (aa (pv 3) ac)))) (hle:=by omega)))
   (ae (aw 5 sc_if_rows.nd (ao aD (ao aD (pv 1) af) (bF (bh K) z_len cf (aa (pv 4) ac))))
   (ae (aw 6 sc_if_rows.nd (az c_rows_of hr (aa (ax (aG K) (aq a_blocks (pv 0)) af (fun _ _=>rfl)) (aa (ao aD (pv 5) af) (aa (pv 2) (aa (pv 3) ac)))) (hle:=by omega)))
   (ae (aw 7 sc_if_rows.nd (ao aD (ao aD (pv 5) af) (bF (bh K) z_len cf (aa (pv 6) ac))))
   (ae (aw 8 sc_if_rows.nd (bm (aa au (aa (ax (aG K) (aq a_lines (pv 0)) af (fun _ _=>rfl)) (aa (ax (aG K) (aq a_parts (pv 0)) af (fun _ _=>rfl)) (aa (ao aD (pv 5) af) ac))))))
   (ak (aE (ao aD (ao aD (ao aD (bi (aa (pv 8) ac)) (pv 4)) (bi (aa (bm (aa au (aa (ax (aG K) (aq a_lines (pv 0)) af (fun _ _=>rfl)) (aa (pv 7) ac)))) ac))) (pv 6))))))))),?_⟩
 walk_at "rd1";refine⟨dx,_,_,g1,dy _ _ _ _,?_⟩
 walk_at "rd1";refine⟨_,_,.inl (SqL.of g6),aR (j:=0) (v:=V.ref q0) rfl,?_⟩
 refine⟨q0,sp,a+1,l+1,t,b,kv,S,by simp,hb.1,ok,esp,hk,hc,hd,fun wq H1 s1 hwq hW=>?_⟩
 have hWl:=dZ (kv:=kv) (a:=a+1) (l:=l+1) (t:=t) hc hd;generalize hWW:aL kv d t (a+1) (l+1) b=W at hW hWl;obtain⟨was,w1,w2⟩:=id hW
 have wl:=aB w2;walk_at "nx";refine⟨_,.inl (SqL.of w1),?_⟩
 rw[List.length_map,wl];walk_at "nx";refine⟨dx,_,_,s1 _ _ g1,dy _ _ _ _,?_⟩
 walk_at "rd1";refine⟨_,_,.inl (SqL.of (s1 _ _ g6)),aR (j:=1) (v:=V.ref q1) rfl,?_⟩
 refine⟨q1,sp,a+1+W.length+1,l+1+aj d b+1,t,c,kv,S,by simp,hb.2.mono s1,ok',s1 _ _ esp,hk',hc',hd,fun rq H2 s2 hrq hR=>?_⟩
 have hRl:=dZ (kv:=kv) (a:=a+1+W.length+1) (l:=l+1+aj d b+1) (t:=t) hc' hd;generalize hRR:aL kv d t (a+1+W.length+1) (l+1+aj d b+1) c=R at hR hRl;obtain⟨ras,r1,r2⟩:=id hR
 have rl:=aB r2;have s12:=s1.trans s2;walk_at "nx";refine⟨_,.inl (SqL.of r1),?_⟩
 rw[List.length_map,rl];walk_at "nx";refine⟨dx,_,_,s12 _ _ g1,cx _ _ _ _,?_⟩
 walk_at "rd1";refine⟨_,_,.inl (SqL.of (s12 _ _ g4)),fe (i:=0) (n:=l) rfl,?_⟩
 refine⟨dx,_,_,s12 _ _ g1,b8 _ _ _ _,?_⟩
 walk_at "rd1";refine⟨_,_,.inr (g2.same s12),aR (j:=0) (v:=V.int n) rfl,by decide,fun t1 ht1=>?_⟩
 generalize hH3:upd H2 t1 _=H3
 have s3:Same H2 H3:=by rw[← hH3]; exact al ht1 _
 have et1:bP H3 t1 [.str "test", iN l,.int n,iN (a+1+W.length+1)]:=by
  show H3 t1=_
  rw[← hH3,ah];simp[iN]
 walk_at "nx";refine⟨by decide,fun m1 hm1=>?_⟩
 have s4:=al hm1 (.lst [.ref t1]);have L1:=gJ et1 hm1;generalize upd H3 m1 (.lst [.ref t1])=H4 at s4 L1 ⊢;obtain⟨as1,a1,a2⟩:=L1
 obtain⟨bs1,b1,b2⟩:=hW.mono ((s2.trans s3).trans s4)
 refine⟨_,_,a1,b1,eO a2 b2 (by simp only[List.length_cons,List.length_nil]; omega),fun m2 hm2=>?_⟩
 have s5:=al hm2 (.lst (as1.map V.ref++bs1.map V.ref));have L2:=fw a2 b2 hm2;generalize upd H4 m2 (.lst (as1.map V.ref++bs1.map V.ref))=H5 at s5 L2 ⊢;have s05:=((s12.trans s3).trans s4).trans s5;refine⟨dx,_,_,s05 _ _ g1,cx _ _ _ _,?_⟩
 walk_at "rd1";refine⟨_,_,.inl (SqL.of (s05 _ _ g4)),fe (i:=1) (n:=l+1+aj d b) rfl,by decide,fun t2 ht2=>?_⟩
 generalize hH6:upd H5 t2 _=H6
 have s6:Same H5 H6:=by rw[← hH6]; exact al ht2 _
 have et2:bP H6 t2 [.str "jump", iN (l+1+aj d b),iN (a+1+W.length+1+R.length)]:=by
  show H6 t2=_
  rw[← hH6,ah];simp[iN]
 refine⟨by decide,fun m3 hm3=>?_⟩
 have s7:=al hm3 (.lst [.ref t2]);have L3:=gJ et2 hm3;generalize upd H6 m3 (.lst [.ref t2])=H7 at s7 L3 ⊢;obtain⟨as2,c1,c2⟩:=L2.mono (s6.trans s7)
 obtain⟨bs2,d1,d2⟩:=L3
 refine⟨_,_,c1,d1,eO c2 d2 (by simp only[List.length_append,List.length_cons,List.length_nil]; omega),fun m4 hm4=>?_⟩
 have s8:=al hm4 (.lst (as2.map V.ref++bs2.map V.ref));have L4:=fw c2 d2 hm4;generalize upd H7 m4 (.lst (as2.map V.ref++bs2.map V.ref))=H8 at s8 L4 ⊢;obtain⟨as3,e1,e2⟩:=L4
 obtain⟨bs3,f1,f2⟩:=hR.mono (((((s3.trans s4).trans s5).trans s6).trans s7).trans s8)
 refine⟨_,_,e1,f1,eO e2 f2 (by simp only[List.length_append,List.length_cons,List.length_nil]; omega),fun m5 hm5=>?_⟩
 have s9:=al hm5 (.lst (as3.map V.ref++bs3.map V.ref));have L5:=fw e2 f2 hm5;generalize upd H8 m5 (.lst (as3.map V.ref++bs3.map V.ref))=H9 at s9 L5 ⊢;have s08:=((s05.trans s6).trans s7).trans s8;refine q m5 H9 (s08.trans s9) (s08.free hm5) ?_
 unfold jB;rw[hWW,hRR];exact L5
end
section
variable{CN:Addr}
def Cs(K:PySem.W.Frag)(C:Addr)(d:Nat):Sp:=fun vs H Q _=>∃ (z sp:Addr) (a l:Nat) (t:Bool) (x y:Str) (b:List Stp) (kv:List (aF × V)) (S:Addr→Prop),vs=[.ref z,.int (a:Int),.ref sp,.bl t]∧nstpAt K C (aj d) S (NumAt K C S d H) H z l (.lend x y b)∧dE d b∧H sp=some (.dK kv)∧dQ kv (.inr x)∧dQ kv (.inr y)∧dQ kv (.inl (l:Int))∧dC kv d (l+1) b∧aj d b≤200∧d≤20∧
 ∀ (q:Addr) (H':Hp),Same H H'→H q=none→ListR H' q (fA kv (aL kv d) (aj d) t a l x y b)→Q (.ref q) H'
theorem lR{H:Hp}{c1 c2 c3 x:Addr}{r1 r2 r3:bw}(h1:bP H c1 r1)(h2:bP H c2 r2)(h3:bP H c3 r3)(hx:H x=none):ListR (upd H x (.lst [.ref c1,.ref c2,.ref c3])) x [r1,r2,r3]:=⟨[c1,c2,c3],ah,.cons (al hx _ _ _ h1) (.cons (al hx _ _ _ h2) (.cons (al hx _ _ _ h3) .nil))⟩
theorem BX(D:DefAt K mg "lend_rows" aV) (z_len:mg "len" = none) (a_parts:Fl K CN "parts") (a_lines:Fl K CN "lines") (a_blocks:Fl K CN "blocks") {d:Nat} (c_rows_of:aK P w K mg base (3 * d+2) "rows_of" ["steps", "at", "slots", "turned"] (gK K CN d)):aK P w K mg base (3 * d+3) "lend_rows" ["step", "at", "slots", "turned"] (Cs K CN d):=by
 refine D.cal (k:=3 * d+2) sc_lend_rows (fun _ _ _ _ _ _ us hl=>match us,hl with | [_,_,_,_],_=>rfl) (fun vs H Q E h=>by obtain⟨_,_,_,_,_,_,_,_,_,_,rfl,_⟩:=h; rfl) (fun f cdv A outer s H vs Q E hr h=>?_)
 obtain⟨z,sp,a,l,t,x,y,b,kv,S,rfl,hN,ok,esp,kx,ky,kl,hk,hc,hd,q⟩:=h
 obtain⟨dx,pp,lp,bp,bs,g1,g2,g3,g4,g5,g6,g7⟩:=id hN
 obtain⟨q0,rfl⟩ : ∃ q0,bs=[q0]:=by
  cases g7 with
  | cons _ t=>cases t; exact⟨_,rfl⟩
 have hb:NumAt K CN S d H q0 (l+1) b:=by
  cases g7 with
  | cons h _=>exact h
 refine⟨_,(ae (aw 4 sc_lend_rows.nd (ax (aG K) (aq a_lines (pv 0)) af (fun _ _=>rfl)))
   (ae (aw 5 sc_lend_rows.nd (ax (aG K) (aq a_lines (pv 0)) af (fun _ _=>rfl)))
   (ae (aw 6 sc_lend_rows.nd (ax (qz K) (pv 2) (ax (aG K) (aq a_parts (pv 0)) af (fun _ _=>rfl)) (fun _ _=>rfl)))
   (ae (aw 7 sc_lend_rows.nd (ax (qz K) (pv 2) (ax (aG K) (aq a_parts (pv 0)) af (fun _ _=>rfl)) (fun _ _=>rfl)))
   (ae (aw 8 sc_lend_rows.nd (ax (qz K) (pv 2) (pv 4) (fun _ _=>rfl)))
   (ae (aw 9 sc_lend_rows.nd (bi (aa (bm (aa au (aa (pv 4) (aa (pv 8) (aa (pv 6) ac))))) (aa (bm (aa au (aa (pv 4) (aa (pv 8) (aa au ac))))) (aa (bm (aa au (aa (pv 4) (aa (pv 7) (aa (pv 8) ac))))) ac)))))
   (ae (aw 10 sc_lend_rows.nd (az c_rows_of hr (aa (ax (aG K) (aq a_blocks (pv 0)) af (fun _ _=>rfl)) (aa (ao aD (pv 1) (bF (bh K) z_len cf (aa (pv 9) ac))) (aa (pv 2) (aa (pv 3) ac)))) (hle:=by omega)))
   (ak (aE (ao aD (ao aD (pv 9) (pv 10)) (bi (aa (bm (aa au (aa (pv 5) (aa (pv 8) (aa au ac))))) (aa (bm (aa au (aa (pv 5) (aa (pv 7) ac)))) (aa (bm (aa au (aa (pv 5) (aa (pv 8) ac)))) ac)))))))))))))),?_⟩
 walk_at "rd1";refine⟨dx,_,_,g1,cx _ _ _ _,?_⟩
 walk_at "rd1";refine⟨_,_,.inl (SqL.of g4),fe (i:=0) (n:=l) rfl,?_⟩
 walk_at "nx";refine⟨dx,_,_,g1,cx _ _ _ _,?_⟩
 walk_at "rd1";refine⟨_,_,.inl (SqL.of g4),fe (i:=1) (n:=l+1+aj d b) rfl,?_⟩
 walk_at "nx";refine⟨dx,_,_,g1,b8 _ _ _ _,?_⟩
 walk_at "rd1";refine⟨_,_,.inr g2,aR (j:=0) (v:=V.str x) rfl,.inr ⟨sp,kv,.inr x,_,rfl,rfl,esp,kx,?_⟩⟩
 walk_at "nx";refine⟨dx,_,_,g1,b8 _ _ _ _,?_⟩
 walk_at "rd1";refine⟨_,_,.inr g2,aR (j:=1) (v:=V.str y) rfl,.inr ⟨sp,kv,.inr y,_,rfl,rfl,esp,ky,?_⟩⟩
 walk_at "nx";refine .inr ⟨sp,kv,.inl (l:Int),_,rfl,rfl,esp,kl,?_⟩
 generalize hgx:bA kv (.inr x)=gx
 generalize hgy:bA kv (.inr y)=gy
 generalize hgl:bA kv (.inl (l:Int))=gl
 walk_at "nx";refine⟨by decide,fun t1 ht1=>?_⟩
 generalize hH1:upd H t1 _=H1
 have s1:Same H H1:=by rw[← hH1]; exact al ht1 _
 have r1:bP H1 t1 [.str "copy", iN l,gl,gx]:=by show H1 t1=_; rw[← hH1]; exact ah
 refine⟨by decide,fun t2 ht2=>?_⟩
 generalize hH2:upd H1 t2 _=H2
 have s2:Same H1 H2:=by rw[← hH2]; exact al ht2 _
 have r2:bP H2 t2 [.str "do", iN l,gl,.str "lend"]:=by show H2 t2=_; rw[← hH2]; exact ah
 refine⟨by decide,fun t3 ht3=>?_⟩
 generalize hH3:upd H2 t3 _=H3
 have s3:Same H2 H3:=by rw[← hH3]; exact al ht3 _
 have r3:bP H3 t3 [.str "copy", iN l,gy,gl]:=by show H3 t3=_; rw[← hH3]; exact ah
 refine⟨by decide,fun m1 hm1=>?_⟩
 have s4:=al hm1 (.lst [.ref t1,.ref t2,.ref t3]);have L1:=lR (s3 _ _ (s2 _ _ r1)) (s3 _ _ r2) r3 hm1;have em1:upd H3 m1 (.lst [.ref t1,.ref t2,.ref t3]) m1=some (.lst [.ref t1,.ref t2,.ref t3]):=ah
 generalize upd H3 m1 (.lst [.ref t1,.ref t2,.ref t3])=H4 at s4 L1 em1 ⊢;have s04:=((s1.trans s2).trans s3).trans s4;walk_at "nx";refine⟨dx,_,_,s04 _ _ g1,dy _ _ _ _,?_⟩
 walk_at "rd1";refine⟨_,_,.inl (SqL.of (s04 _ _ g6)),aR (j:=0) (v:=V.ref q0) rfl,?_⟩
 walk_at "rd1";refine⟨_,.inl (SqL.of em1),?_⟩
 refine⟨q0,sp,a+3,l+1,t,b,kv,S,by simp,hb.mono s04,ok,s04 _ _ esp,hk,hc,hd,fun wq H5 s5 hwq hW=>?_⟩
 have hWl:=dZ (kv:=kv) (a:=a+3) (l:=l+1) (t:=t) hc hd;generalize hWW:aL kv d t (a+3) (l+1) b=W at hW hWl;have s05:=s04.trans s5;walk_at "nx";obtain⟨as1,a1,a2⟩:=L1.mono s5
 obtain⟨bs1,b1,b2⟩:=id hW
 refine⟨_,_,a1,b1,eO a2 b2 (by simp only[List.length_cons,List.length_nil]; omega),fun m2 hm2=>?_⟩
 have s6:=al hm2 (.lst (as1.map V.ref++bs1.map V.ref));have L2:=fw a2 b2 hm2;generalize upd H5 m2 (.lst (as1.map V.ref++bs1.map V.ref))=H6 at s6 L2 ⊢;refine⟨by decide,fun t4 ht4=>?_⟩
 generalize hH7:upd H6 t4 _=H7
 have s7:Same H6 H7:=by rw[← hH7]; exact al ht4 _
 have r4:bP H7 t4 [.str "do", iN (l+1+aj d b),gl,.str "back"]:=by show H7 t4=_; rw[← hH7]; exact ah
 refine⟨by decide,fun t5 ht5=>?_⟩
 generalize hH8:upd H7 t5 _=H8
 have s8:Same H7 H8:=by rw[← hH8]; exact al ht5 _
 have r5:bP H8 t5 [.str "drop", iN (l+1+aj d b),gy]:=by show H8 t5=_; rw[← hH8]; exact ah
 refine⟨by decide,fun t6 ht6=>?_⟩
 generalize hH9:upd H8 t6 _=H9
 have s9:Same H8 H9:=by rw[← hH9]; exact al ht6 _
 have r6:bP H9 t6 [.str "drop", iN (l+1+aj d b),gl]:=by show H9 t6=_; rw[← hH9]; exact ah
 refine⟨by decide,fun m3 hm3=>?_⟩
 have s10:=al hm3 (.lst [.ref t4,.ref t5,.ref t6]);have L3:=lR (s9 _ _ (s8 _ _ r4)) (s9 _ _ r5) r6 hm3;generalize upd H9 m3 (.lst [.ref t4,.ref t5,.ref t6])=H10 at s10 L3 ⊢;obtain⟨as2,c1,c2⟩:=L2.mono (((s7.trans s8).trans s9).trans s10)
 obtain⟨bs2,d1,d2⟩:=L3
 refine⟨_,_,c1,d1,eO c2 d2 (by simp only[List.length_append,List.length_cons,List.length_nil]; omega),fun m4 hm4=>?_⟩
 have s11:=al hm4 (.lst (as2.map V.ref++bs2.map V.ref));have L4:=fw c2 d2 hm4;generalize upd H10 m4 (.lst (as2.map V.ref++bs2.map V.ref))=H11 at s11 L4 ⊢;have s010:=((((s05.trans s6).trans s7).trans s8).trans s9).trans s10;refine q m4 H11 (s010.trans s11) (s010.free hm4) ?_
 unfold fA;rw[hWW,hgx,hgy,hgl];exact L4
theorem sJ(D:DefAt K mg "rows_of" bO) (DL:DefAt K mg "lend_rows" aV) (DI:DefAt K mg "if_rows" bE) (DO:DefAt K mg "loop_rows" b7) (DW:DefAt K mg "while_rows" bn) (DS:DefAt K mg "simple_row" bJ) (z_len:mg "len" = none) (z_tuple:mg "tuple" = none) (a_kind:Fl K CN "kind") (a_parts:Fl K CN "parts") (a_lines:Fl K CN "lines") (a_blocks:Fl K CN "blocks"):∀ d:Nat,aK P w K mg base (3 * d+2) "rows_of" ["steps", "at", "slots", "turned"] (gK K CN d)
 | 0=>D.cal (k:=1) sc_rows_of (fun _ _ _ _ _ _ us hl=>match us,hl with | [_,_,_,_],_=>rfl) (fun vs H Q E h=>by obtain⟨_,_,_,_,_,_,_,_,rfl,_⟩:=h; rfl) (fun f cdv A outer s H vs Q E hr h=>by obtain⟨_,_,_,_,_,_,_,_,rfl,z,_⟩:=h; exact z.elim)
 | d+1=>by
  have ih:=sJ D DL DI DO DW DS z_len z_tuple a_kind a_parts a_lines a_blocks d;have c_lend_rows:=BX DL z_len a_parts a_lines a_blocks ih;have c_if_rows:=Fj DI z_len a_parts a_lines a_blocks ih;have c_while_rows:=yT DW z_len a_parts a_lines a_blocks ih (BF DO z_len a_parts a_lines a_blocks ih);have c_simple_row:=yy (P:=P) (w:=w) (base:=base) DS z_tuple a_kind a_parts a_lines;refine D.cal (k:=3 * d+4) sc_rows_of (fun _ _ _ _ _ _ us hl=>match us,hl with | [_,_,_,_],_=>rfl) (fun vs H Q E h=>by obtain⟨_,_,_,_,_,_,_,_,rfl,_⟩:=h; rfl) (fun f cdv A outer s H vs Q E hr h=>?_)
  obtain⟨p,sp,a,l,t,T,kv,S,rfl,⟨h0,as,h1,h2⟩,ok,esp,hk,hc,hd,q⟩:=h
  have hlen:=aB h2;rw[fG]at hlen
  refine⟨_,(ae (aw 4 sc_rows_of.nd (bi ac))
   (ae (cC PassesOwn.never rfl (cH K (pv 0)) (bj 5 sc_rows_of.nd) (ae (aw 6 sc_rows_of.nd (ao aD (pv 1) (bF (bh K) z_len cf (aa (pv 4) ac))))
   (ak (a_ (aC bD (aq a_kind (pv 5)) au (aH _)) (ak (ay (bb K PySem.F.plainAttrs_list PySem.F.slot_list_extend PySem.F.type_list_extend fR (pv 4) (aa (az c_lend_rows hr (aa (pv 5) (aa (pv 6) (aa (pv 2) (aa (pv 3) ac)))) (hle:=by omega)) ac)))) (ak (a_ (aC bD (aq a_kind (pv 5)) au (aH _)) (ak (ay (bb K PySem.F.plainAttrs_list PySem.F.slot_list_extend PySem.F.type_list_extend fR (pv 4) (aa (az c_if_rows hr (aa (pv 5) (aa (pv 6) (aa (pv 2) (aa (pv 3) ac)))) (hle:=by omega)) ac)))) (ak (a_ (aC bD (aq a_kind (pv 5)) au (aH _)) (ak (ay (bb K PySem.F.plainAttrs_list PySem.F.slot_list_extend PySem.F.type_list_extend fR (pv 4) (aa (az c_while_rows hr (aa (pv 5) (aa (pv 6) (aa (pv 2) (aa (pv 3) ac)))) (hle:=by omega)) ac)))) (ak (ay (bb K PySem.F.plainAttrs_list PySem.F.slot_list_append PySem.F.type_list_append aS (pv 4) (aa (az c_simple_row hr (aa (pv 5) (aa (pv 2) ac)) (hle:=by omega)) ac))))))))))))
   (ak (aE (pv 4))))),?_⟩
  walk_at "rd1";refine⟨by decide,fun R hR=>?_⟩
  have s1:=al hR (.lst []);have eR0:upd H R (.lst []) R=some (.lst (([]:List Addr).map V.ref)):=ah
  generalize upd H R (.lst [])=H1 at s1 eR0 ⊢;walk_at "nx";refine⟨⟨_,SqL.of (s1 _ _ h1)⟩,?_⟩
  have hnR:∀ {z:Addr} {o:HO},H z=some o→z≠R:=fun e=>av e hR
  refine da (xs:=as.map V.ref) (fun i σ H'=>∃ (o5 o6:Option V),σ=[some (.ref p),some (.int (a:Int)),some (.ref sp),some (.bl t),some (.ref R),o5,o6]∧Same H H'∧ListR H' R (aL kv (d+1) t a l (T.take i)))
   ⟨_,_,rfl,s1,[],eR0,.nil⟩ (fun i σ H' _ hh=>by obtain⟨_,_,_,sm,_⟩:=hh; exact SqL.of (sm _ _ h1)) (fun i v σ H2 hv hh=>?_) (fun σ H2 hh=>?_)
  ·obtain⟨o5,o6,rfl,sm,ras,r1,r2⟩:=hh
   rw[List.getElem?_map]at hv
   cases hi:as[i]? with
   | none=>rw[hi]at hv; cases hv
   | some x=>
    rw[hi]at hv; cases hv
    have hiT:i<T.length:=by have:=(List.getElem?_eq_some_iff.mp hi).1; omega
    have hs:=List.getElem?_eq_getElem hiT;have hz:=mM (aU (aj d)) l T i _ hs;obtain⟨z,hz1,hz2⟩:=bI h2 hi
    rw[hz]at hz1
    have hz1:=Option.some.inj hz1;subst hz1;have hkz:=hk _ (List.mem_of_getElem? hz);have hmem:=List.getElem_mem hiT;generalize T[i]=st at hs hz hz2 hkz hmem;have oks:=ok st hmem;have hcs:=mx (d:=d) hmem;generalize hl':l+((T.take i).map (aU (aj d))).sum=l' at hz hz2 hkz;have etk:T.take (i+1)=T.take i++[st]:=by rw[List.take_add_one,hs]; rfl
    have erow:aL kv (d+1) t a l (T.take (i+1))=aL kv (d+1) t a l (T.take i)++dX kv (aL kv d) (aj d) t (a+(aL kv (d+1) t a l (T.take i)).length) l' st:=by
     rw[etk];show dg _ _ a l (T.take i++[st])=_
     rw[kg,hl']; rfl
    have hcnt:=qm (d:=d) (i:=i) (T:=T);have hpre:=dZ (kv:=kv) (d:=d+1) (a:=a) (l:=l) (t:=t) (T:=T.take i) (by omega) hd
    rw[erow];generalize aL kv (d+1) t a l (T.take i)=pre at r2 hpre;have rl:=aB r2;have hx2:=hz2.mono sm;obtain⟨dx,pp,lp,bp,bs,g1,g2,g3,g4,g5,g6,g7⟩:=id hx2
    have put:∀ {b:Addr} {H3:Hp} {rows:List bw},Same H2 H3→ListR H3 b rows→b≠R→rows.length≤100000→∃ xs zs,H3 R=some (.lst xs)∧H3 b=some (.lst zs)∧xs.length+zs.length≤sizeLine∧(Same H (upd H3 R (.lst (xs++zs)))∧ListR (upd H3 R (.lst (xs++zs))) R (pre++rows)):=fun {b H3 rows} s3 hL hne hl3=>by
     obtain⟨bas,e1,e2⟩:=hL
     have bl:=aB e2;have eR3:=s3 _ _ r1
     have tp:∀ {c:Addr} {r:bw},bP H3 c r→bP (upd H3 R (.lst (ras.map V.ref++bas.map V.ref))) c r:=fun {c r} z=>by
      show upd H3 R _ c=_
      rw[ai (bW z eR3 (fun y=>nomatch y))]; exact z
     refine⟨_,_,eR3,e1,by rw[List.length_map,List.length_map,rl,bl]; exact bo (by omega),fun c o y=>?_,ras++bas,by rw[ah,List.map_append],gj (Paired.imp' (fun _ _ y=>tp (s3 _ _ y)) r2) (Paired.imp' (fun _ _ y=>tp y) e2)⟩
     rw[ai (hnR y)]; exact s3 _ _ (sm _ _ y)
    walk_at "rd1";refine⟨_,.inl (SqL.of r1),?_⟩
    rw[List.length_map,rl];walk_at "nx";refine⟨dx,_,_,g1,bx _ _ _ _,?_⟩
    walk_at "rd1";have hst200:aU (aj d) st≤200:=by omega
    have hsl:(dX kv (aL kv d) (aj d) t (a+pre.length) l' st).length≤30000:=by
     have:=dZ (kv:=kv) (d:=d+1) (a:=a+pre.length) (l:=l') (t:=t) (T:=[st]) (by show aU (aj d) st+0≤200; omega) hd
     have e:aL kv (d+1) t (a+pre.length) l' [st]=dX kv (aL kv d) (aj d) t (a+pre.length) l' st++[]:=rfl
     rw[e,List.append_nil]at this
     exact this
    cases st with
    | lend x0 y0 b0=>
     obtain⟨k1,k2,k3,k4⟩ : dQ kv (.inr x0)∧dQ kv (.inr y0)∧dQ kv (.inl (l':Int))∧dC kv d (l'+1) b0:=hkz
     have hcb:aj d b0+2≤200:=hst200
     refine aI (fun _=>?_) (fun c=>absurd rfl c)
     refine⟨⟨_,SqL.of r1⟩,x,sp,a+pre.length,l',t,x0,y0,b0,kv,S,by simp,hx2,oks.2.2,sm _ _ esp,k1,k2,k3,k4,by omega,by omega,fun q' H3 s3 hq' L3=>?_⟩
     dsimp only
     rw[fX];obtain⟨xs,zs,p1,p2,p3,p4,p5⟩:=put s3 L3 (av r1 hq').symm (by have:(fA kv (aL kv d) (aj d) t (a+pre.length) l' x0 y0 b0).length≤30000:=hsl; omega)
     exact⟨xs,zs,p1,p2,p3,_,_,rfl,p4,p5⟩
    | ite n0 b0 c0=>
     obtain⟨k1,k2⟩ : dC kv d (l'+1) b0∧dC kv d (l'+1+aj d b0+1) c0:=hkz
     have hcb:aj d b0+aj d c0+3≤200:=hst200
     refine aI (fun c=>absurd c (by show ¬ (Str.ofString "if" = Str.ofString "lend"); decide +kernel)) (fun _=>?_)
     refine⟨dx,_,_,g1,bx _ _ _ _,?_⟩
     walk_at "rd1";refine aI (fun _=>?_) (fun c=>absurd rfl c)
     refine⟨⟨_,SqL.of r1⟩,x,sp,a+pre.length,l',t,n0,b0,c0,kv,S,by simp,hx2,oks.2.1,oks.2.2,sm _ _ esp,k1,k2,by omega,by omega,by omega,fun q' H3 s3 hq' L3=>?_⟩
     dsimp only
     rw[fX];obtain⟨xs,zs,p1,p2,p3,p4,p5⟩:=put s3 L3 (av r1 hq').symm (by have:(jB (aL kv d) (aj d) t (a+pre.length) l' n0 b0 c0).length≤30000:=hsl; omega)
     exact⟨xs,zs,p1,p2,p3,_,_,rfl,p4,p5⟩
    | whl n0 b0=>
     have k1:dC kv d (l'+1) b0:=hkz
     have hcb:aj d b0+2≤200:=hst200
     refine aI (fun c=>absurd c (by show ¬ (Str.ofString "while" = Str.ofString "lend"); decide +kernel)) (fun _=>?_)
     refine⟨dx,_,_,g1,bx _ _ _ _,?_⟩
     walk_at "rd1";refine aI (fun c=>absurd c (by show ¬ (Str.ofString "while" = Str.ofString "if"); decide +kernel)) (fun _=>?_)
     refine⟨dx,_,_,g1,bx _ _ _ _,?_⟩
     walk_at "rd1";refine aI (fun _=>?_) (fun c=>absurd rfl c)
     refine⟨⟨_,SqL.of r1⟩,x,sp,a+pre.length,l',t,n0,b0,kv,S,by simp,hx2,oks.2,sm _ _ esp,k1,by omega,by omega,fun q' H3 s3 hq' L3=>?_⟩
     dsimp only
     rw[fX];obtain⟨xs,zs,p1,p2,p3,p4,p5⟩:=put s3 L3 (av r1 hq').symm (by have:(dz (aL kv d) (aj d) t (a+pre.length) l' n0 b0).length≤30000:=hsl; omega)
     exact⟨xs,zs,p1,p2,p3,_,_,rfl,p4,p5⟩
    | plain ws=>
     have hkd:ws.headD "" ∈ dh:=oks.kind
     have nk:∀ {u:Str},u∉dh→¬ kindOf (.plain ws)=u:=fun hu c=>hu (by have c':ws.headD "" = _:=c; rw[← c']; exact hkd)
     refine aI (fun c=>absurd c (nk (by decide +kernel))) (fun _=>?_)
     refine⟨dx,_,_,g1,bx _ _ _ _,?_⟩
     walk_at "rd1";refine aI (fun c=>absurd c (nk (by decide +kernel))) (fun _=>?_)
     refine⟨dx,_,_,g1,bx _ _ _ _,?_⟩
     walk_at "rd1";refine aI (fun c=>absurd c (nk (by decide +kernel))) (fun _=>?_)
     refine⟨⟨_,SqL.of r1⟩,x,sp,l',ws,kv,S,_,aj d,dC kv d,rfl,hx2,oks,sm _ _ esp,hkz,fun c H3 s3 hc3=>?_⟩
     have eR3:=s3 _ _ r1
     have tp:∀ {c:Addr} {r:bw},bP H3 c r→∀ zs,bP (upd H3 R (.lst zs)) c r:=fun {c r} z zs=>by
      show upd H3 R _ c=_
      rw[ai (bW z eR3 (fun y=>nomatch y))]; exact z
     walk_at "rd1";refine⟨_,eR3,bG (by rw[List.length_map]; omega),_,_,rfl,fun c' o y=>?_,ras++[c],by rw[ah,List.map_append]; rfl,gj (Paired.imp' (fun _ _ y=>tp (s3 _ _ y) _) r2) (.cons (tp hc3 _) .nil)⟩
     rw[ai (hnR y)]; exact s3 _ _ (sm _ _ y)
  ·obtain⟨o5,o6,rfl,sm,hL⟩:=hh
   rw[List.length_map,hlen,List.take_length]at hL
   walk_at "nx";exact q R H2 sm hR hL
end
def iD(s:Str):Bool:=decide (0+("lend " : Str).length≤s.length)&&PySem.Builtin.Str.subAt s "lend " 0
def gr(L:List Str):List Nat:=(List.range L.length).filter fun i=>iD (L.getD i "")
def ko(d:Nat):Sp:=fun vs H Q _=>∃ (p:Addr) (L:List Str),vs=[.ref p]∧LinesAt d H p L∧L.length≤1000∧∀ (q:Addr) (H':Hp),Same H H'→H q=none→H' q=some (.lst ((gr L).map iN))→Q (.ref q) H'
theorem kz(f:Nat→Bool)(i:Nat):(List.range (i+1)).filter f=(List.range i).filter f++(if f i=true then [i] else []):=by
 rw[List.range_succ,List.filter_append]
 congr 1
 rw[List.filter_cons];split <;> rfl
theorem oP(D:DefAt K mg "lend_lines" bS) (z_enumerate:mg "enumerate" = none) {d k:Nat} (c_lines_of:aK P w K mg base k "lines_of" ["program"] (tJ d)):aK P w K mg base (k+1) "lend_lines" ["program"] (ko d):=by
 refine D.cal (k:=k) ou (fun _ _ _ _ _ _ us hl=>match us,hl with | [_],_=>rfl) (fun vs H Q E h=>by obtain⟨_,_,rfl,_⟩:=h; rfl) (fun f cdv A outer s H vs Q E hr h=>?_)
 obtain⟨p,L,rfl,hL,hl,q⟩:=h
 refine⟨_,(ak (aE (gL (CompSc.to (fsc:=(defScope bS)) (N:=["program"]) (N0:=["program"]) (T:=["at", "line"]) ⟨by decide +kernel,by decide +kernel,by decide +kernel,by decide +kernel,by decide +kernel,by decide +kernel,by decide +kernel⟩ rfl rfl) rfl (qX K KA z_enumerate (aa (az c_lines_of hr (aa (pv 0) ac) (hle:=by omega)) ac)) (fun _ _ _ _=>(fM K (n:=2) (cj (bj 1 (show (["program", "at", "line"]:List Str).Nodup from by decide +kernel) (hx:=(kQ (defScope bS) (by decide +kernel))) (hf:=qa (defScope bS) (by decide +kernel))) (cj (bj 2 (show (["program", "at", "line"]:List Str).Nodup from by decide +kernel) (hx:=(kQ (defScope bS) (by decide +kernel))) (hf:=qa (defScope bS) (by decide +kernel))) fO)))) (BL (nY (fB (show (["program"]:List Str).length≤1 from by decide)) l8 (nY (fB (show (["program"]:List Str).length≤2 from by decide)) l8 yO sw) (zA l8 sw))) (fun _ _ _ _=>(kP (eK (bb K PySem.F.plainAttrs_str PySem.F.slot_str_startswith PySem.F.type_str_startswith oy (pv 2 (hv:=(fD (defScope bS) (by decide +kernel)))) (aa au ac))))) (fun _ _ _ _=>(pv 1 (hv:=(fD (defScope bS) (by decide +kernel)))))))),?_⟩
 walk_at "rd1";refine⟨p,L,rfl,hL,by omega,fun lq H1 s1 hlq e1=>?_⟩
 refine⟨lq,rfl,⟨_,e1⟩,fun R hR=>?_⟩
 refine uH (xs:=L.map V.str) (fun i ys H'=>∃ ns:List Nat,Same H1 H'∧H' R=some (.lst ys)∧ys=ns.map iN∧ns.length≤i∧ns=(List.range i).filter fun j=>iD (L.getD j "")) ⟨[],al hR _,ah,rfl,Nat.le_refl _,rfl⟩ (fun i ys H' _ hh=>by obtain⟨_,sm,_⟩:=hh; exact SqL.of (sm _ _ e1)) ?_ ?_
 ·rintro i ys H' v t hv hi ⟨ns,sm,hl',rfl,hnl,hns⟩ ht
  rw[List.length_map]at hi
  rw[List.getElem?_map,List.getElem?_eq_getElem hi]at hv
  cases hv;have s2:=al ht (.tup [.int (i:Int),.str L[i]]);have et:upd H' t (.tup [.int (i:Int),.str L[i]]) t=some (.tup [.int (i:Int),.str L[i]]):=ah
  generalize upd H' t (.tup [.int (i:Int),.str L[i]])=H2 at s2 et ⊢;have sm2:=sm.trans s2;have eR2:=s2 _ _ hl'
  have hg:iD (L.getD i "")=(decide (0+("lend " : Str).length≤L[i].length)&&PySem.Builtin.Str.subAt L[i] "lend " 0):=by
   unfold iD;rw[List.getD_eq_getElem?_getD,List.getElem?_eq_getElem hi]; rfl
  walk_at "rd1";refine⟨t,_,rfl,SqT.of et,rfl,?_⟩
  walk_at "rd1";rw[← hg];refine aI (fun c=>?_) (fun c=>?_)
  ·refine qx (by rw[List.length_map]; exact hi) (by rw[List.length_map]; exact hnl) (by rw[List.length_map]; exact bo (by omega)) eR2 ⟨ns++[i],sm2.upd hR _,ah,Af _ _,by simp; omega,?_⟩
   rw[kz,if_pos c,← hns]
  ·refine uS (by rw[List.length_map]; exact hi) ⟨ns,sm2,eR2,rfl,by omega,?_⟩
   rw[kz,if_neg c,← hns,List.append_nil]
 ·rintro ys H2 ⟨ns,s2,e2,rfl,_,hns⟩
  rw[List.length_map]at hns
  refine q R H2 (s1.trans s2) (s1.free hR) ?_
  rw[hns]at e2
  exact e2
def gv(ks:List aF):List (aF × V):=(List.range ks.length).foldl (fun acc i=>cU acc (ks.getD i (.inl 0)) (iN i)) []
def ft(ks:List aF)(i:Nat):List (aF × V):=(List.range i).foldl (fun acc i=>cU acc (ks.getD i (.inl 0)) (iN i)) []
theorem fI(ks:List aF)(i:Nat):ft ks (i+1)=cU (ft ks i) (ks.getD i (.inl 0)) (iN i):=by
 unfold ft; rw[List.range_succ,List.foldl_append]; rfl
theorem rB(ks:List aF):∀ i,(ft ks i).length≤i
 | 0=>Nat.le_refl _
 | i+1=>by
  have:=rB ks i
  rw[fI];unfold cU;split
  ·rw[List.length_map]; omega
  ·rw[List.length_append]; simp; omega
theorem qF(ks:List aF):∀ (i j:Nat) k,j<i→ks[j]? = some k→(bN (ft ks i) k).isSome=true
 | 0,j,_,h,_=>absurd h (Nat.not_lt_zero _)
 | i+1,j,k,h,hk=>by
  rw[fI,gd];split
  ·rfl
  ·rename_i c
   rcases Nat.lt_or_ge j i with z | z
   ·exact qF ks i j k z hk
   ·have:j=i:=by omega
    subst this;exact absurd (by rw[List.getD_eq_getElem?_getD,hk]; rfl) c
theorem jW{ks:List aF}{k:aF}(h:k∈ks):dQ (gv ks) k:=by
 obtain⟨j,hj⟩:=List.mem_iff_getElem?.mp h
 have:=qF ks ks.length j k (List.getElem?_eq_some_iff.mp hj).1 hj
 show bN (ft ks ks.length) k=some (bA (ft ks ks.length) k)
 unfold bA
 cases e:bN (ft ks ks.length) k with
 | none=>rw[e]at this; cases this
 | some v=>rfl
section
variable{NO:Hp→Addr→List Str→Prop}
def C3(NO:Hp→Addr→List Str→Prop):Sp:=fun vs H Q _=>∃ (p:Addr) (NM:List Str),vs=[.ref p]∧NO H p NM∧∀ (q:Addr) (H':Hp),Same H H'→H q=none→H' q=some (.lst (NM.map V.str))→Q (.ref q) H'
def cY(NM:List Str)(L:List Str):List aF:=NM.map Sum.inr++(gr L).map fun (n:Nat)=>Sum.inl (n:Int)
def uB(NO:Hp→Addr→List Str→Prop)(d:Nat):Sp:=fun vs H Q _=>∃ (p:Addr) (NM L:List Str),vs=[.ref p]∧NO H p NM∧LinesAt d H p L∧L.length≤1000∧NM.length≤1000∧∀ (q:Addr) (H':Hp),Same H H'→H q=none→H' q=some (.dK (gv (cY NM L)))→Q (.ref q) H'
theorem Ac(noM:∀ {H H':Hp} {p:Addr} {NM:List Str},NO H p NM→Same H H'→NO H' p NM)(D:DefAt K mg "slots_of" cr) (z_enumerate:mg "enumerate" = none) {d k:Nat} (c_names_of:aK P w K mg base k "names_of" ["program"] (C3 NO)) (c_lend_lines:aK P w K mg base k "lend_lines" ["program"] (ko d)):aK P w K mg base (k+1) "slots_of" ["program"] (uB NO d):=by
 refine D.cal (k:=k) sc_slots_of (fun _ _ _ _ _ _ us hl=>match us,hl with | [_],_=>rfl) (fun vs H Q E h=>by obtain⟨_,_,_,rfl,_⟩:=h; rfl) (fun f cdv A outer s H vs Q E hr h=>?_)
 obtain⟨p,NM,L,rfl,hN,hL,hl,hnl,q⟩:=h
 refine⟨_,(ae (aw 1 sc_slots_of.nd kZ)
   (ae (cC PassesOwn.never rfl (qX K JI z_enumerate (aa (ao aD (az c_names_of hr (aa (pv 0) ac) (hle:=by omega)) (az c_lend_lines hr (aa (pv 0) ac) (hle:=by omega))) ac)) (fM K (n:=2) (cj (bj 2 sc_slots_of.nd) (cj (bj 3 sc_slots_of.nd) fO))) (ak (ix (pv 2) (ra (pv 1) (pv 3) (uO hr)))))
   (ak (aE (pv 1))))),?_⟩
 walk_at "rd1";intro RD hRD
 have s1:=al hRD (.dK []);have eRD:upd H RD (.dK []) RD=some (.dK (ft (cY NM L) 0)):=ah
 generalize upd H RD (.dK [])=H1 at s1 eRD ⊢;walk_at "nx";refine⟨p,NM,rfl,noM hN s1,fun nq H2 s2 hnq e2=>?_⟩
 have s12:=s1.trans s2;refine⟨p,L,rfl,hL.mono _ s12,hl,fun lq H3 s3 hlq e3=>?_⟩
 have hll:(gr L).length≤1000:=by
  unfold gr;refine Nat.le_trans (List.length_filter_le _ _) ?_
  rw[List.length_range]; exact hl
 dsimp only
 rw[jc];refine⟨_,_,s3 _ _ e2,e3,by rw[List.length_map,List.length_map]; exact bo (by omega),fun cq hcq=>?_⟩
 have ecat:NM.map V.str++(gr L).map iN=(cY NM L).map kV:=by
  unfold cY;rw[List.map_append,List.map_map,List.map_map]; rfl
 rw[ecat];have hkl:(cY NM L).length≤2000:=by unfold cY; rw[List.length_append,List.length_map,List.length_map]; omega
 generalize hks:cY NM L=ks at eRD hkl q ⊢;have s4:=al hcq (.lst (ks.map kV));have ecq:upd H3 cq (.lst (ks.map kV)) cq=some (.lst (ks.map kV)):=ah
 generalize upd H3 cq (.lst (ks.map kV))=H4 at s4 ecq ⊢;have s24:=(s2.trans s3).trans s4;have eRD4:=s24 _ _ eRD;have ncR:cq≠RD:=bW ecq eRD4 (fun z=>nomatch z)
 walk_at "rd1";refine⟨⟨_,ecq⟩,?_⟩
 refine wj (xs:=ks.map kV) (fun i σ H'=>∃ (o2 o3:Option V),σ=[some (.ref p),some (.ref RD),o2,o3]∧(∀ b o,b≠RD→H4 b=some o→H' b=some o)∧H' RD=some (.dK (ft ks i)))
  ⟨_,_,rfl,fun _ _ _ z=>z,eRD4⟩ (fun i σ H' _ hh=>by obtain⟨_,_,_,sb,_⟩:=hh; exact SqL.of (sb _ _ ncR ecq)) (fun i v t σ H5 hv hh ht=>?_) (fun σ H5 hh=>?_)
 ·obtain⟨o2,o3,rfl,sb,e5⟩:=hh
  rw[List.getElem?_map]at hv
  cases hi:ks[i]? with
  | none=>rw[hi]at hv; cases hv
  | some k0=>
   rw[hi]at hv; cases hv
   have hil:=(List.getElem?_eq_some_iff.mp hi).1;have s6:=al ht (.tup [.int (i:Int),kV k0]);have et:upd H5 t (.tup [.int (i:Int),kV k0]) t=some (.tup [.int (i:Int),kV k0]):=ah
   generalize upd H5 t (.tup [.int (i:Int),kV k0])=H6 at s6 et ⊢;have hkt:=rB ks i;walk_at "rd1";refine⟨t,_,rfl,SqT.of et,rfl,?_⟩
   walk_at "rd1";refine⟨RD,_,k0,rfl,rfl,s6 _ _ e5,bG (by omega),_,_,rfl,fun b o hb z=>by rw[ai hb]; exact s6 _ _ (sb b o hb z),?_⟩
   rw[ah,fI,List.getD_eq_getElem?_getD,hi]; rfl
 ·obtain⟨o2,o3,rfl,sb,e5⟩:=hh
  rw[List.length_map]at e5
  walk_at "nx";refine q RD H5 (fun b o z=>sb b o (av z hRD) (s4 _ _ (s3 _ _ (s12 _ _ z)))) hRD e5
end
theorem qv{f:List Stp→List Str}{g:List Stp→Nat}(h:∀ T,(f T).length=g T):∀ s:Stp,(bM f s).length=aU g s
 | .plain _=>rfl
 | .lend _ _ b=>by simp[bM,aU,h]
 | .ite _ b c=>by simp[bM,aU,h]; omega
 | .whl _ b=>by simp[bM,aU,h]
theorem jO:∀ (d:Nat) (T:List Stp),(bV d T).length=aj d T
 | 0,_=>rfl
 | d+1,T=>by
  show (T.flatMap (bM (bV d))).length=(T.map (aU (aj d))).sum
  induction T with
  | nil=>rfl
  | cons s T ih=>rw[List.flatMap_cons,List.length_append,List.map_cons,List.sum_cons,ih,qv (jO d)]
def Sub(L:List Str)(l:Nat)(X:List Str):Prop:=∀ (i:Nat) s,X[i]? = some s→L[l+i]? = some s
theorem Sub.left{L X Y:List Str}{l:Nat}(h:Sub L l (X++Y)):Sub L l X:=fun i s e=>h i s (by rw[List.getElem?_append_left (List.getElem?_eq_some_iff.mp e).1]; exact e)
theorem Sub.right{L X Y:List Str}{l:Nat}(h:Sub L l (X++Y)):Sub L (l+X.length) Y:=fun i s e=>by
 have:=h (X.length+i) s (by rw[List.getElem?_append_right (by omega),Nat.add_sub_cancel_left]; exact e)
 rw[← Nat.add_assoc]at this; exact this
def AX(f:List Stp→Prop)(N:Str→Prop):Stp→Prop
 | .plain ws=>(ws.headD "" = "do" → ws.length=3)∧∀ n∈eJ ws,N n
 | .lend x y b=>N x∧N y∧f b
 | .ite _ b c=>f b∧f c
 | .whl _ b=>f b
def oo(N:Str→Prop):Nat→List Stp→Prop
 | 0,_=>False
 | d+1,T=>∀ s∈T,AX (oo N d) N s
theorem xA(x y:Str):iD (Txt.join " " ["lend", x,y])=true:=by
 have e:Txt.join " " ["lend", x,y]=("lend " : Str)++(x++((" " : Str)++y)):=by
  apply mG
  have h1:("lend " : Str).cps.toList=("lend" : Str).cps.toList++(" " : Str).cps.toList:=by decide +kernel
  rw[fJ,fJ,fJ,h1];show ((("lend" : Str).cps++(" " : Str).cps++x.cps)++(" " : Str).cps++y.cps).toList=_
  simp only[Array.toList_append,List.append_assoc]
 rw[e];unfold iD;have hl:("lend " : Str).length=5:=by decide +kernel
 rw[Str.length_append,hl,decide_eq_true (by omega),Bool.true_and]
 unfold PySem.Builtin.Str.subAt;rw[hl,beq_iff_eq]
 apply Array.ext'
 rw[Array.toList_extract,fJ];have h5:("lend " : Str).cps.toList.length=5:=by decide +kernel
 simp[List.extract_eq_drop_take,List.take_append,h5]
theorem wV{L:List Str}{i:Nat}{s:Str}(h:L[i]? = some s)(hs:iD s=true):i∈gr L:=by
 unfold gr;rw[List.mem_filter];refine⟨List.mem_range.mpr (List.getElem?_eq_some_iff.mp h).1,?_⟩
 rw[List.getD_eq_getElem?_getD,h]; exact hs
section
variable{NM L:List Str}
theorem zg{f:Nat→List Stp→Prop}{g:List Stp→Prop}{d l:Nat}(hf:∀ l b,Sub L l (bV d b)→g b→f l b):∀ (s:Stp),Sub L l (bM (bV d) s)→AX g (fun n=>n∈NM) s→jw (gv (cY NM L)) f (aj d) l s
 | .plain ws,_,⟨h1,h2⟩=>⟨h1,fun n hn=>jW (by unfold cY; exact List.mem_append_left _ (List.mem_map.mpr ⟨n,h2 n hn,rfl⟩))⟩
 | .lend x y b,hS,⟨hx,hy,hb⟩=>by
  have hh:L[l]? = some (Txt.join " " ["lend", x,y]):=hS 0 _ rfl
  refine⟨jW (by unfold cY; exact List.mem_append_left _ (List.mem_map.mpr ⟨x,hx,rfl⟩)),jW (by unfold cY; exact List.mem_append_left _ (List.mem_map.mpr ⟨y,hy,rfl⟩)),jW (by unfold cY; exact List.mem_append_right _ (List.mem_map.mpr ⟨l,wV hh (xA x y),rfl⟩)),hf _ _ ?_ hb⟩
  have:Sub L l ([Txt.join " " ["lend", x,y]]++(bV d b++[("back" : Str)])):=hS
  exact this.right.left
 | .ite n b c,hS,⟨hb,hc⟩=>by
  have:Sub L l ([Txt.join " " ["if", cw n]]++((bV d b++[("else" : Str)])++(bV d c++[("fi" : Str)]))):=hS
  refine⟨hf _ _ this.right.left.left hb,hf _ _ ?_ hc⟩
  have h2:=this.right.right.left;rw[List.length_append,jO,List.length_singleton,List.length_singleton]at h2
  rw[show l+1+aj d b+1=l+1+(aj d b+1) by omega]; exact h2
 | .whl n b,hS,hb=>by
  have:Sub L l ([Txt.join " " ["while", cw n]]++(bV d b++[("done" : Str)])):=hS
  exact hf _ _ this.right.left hb
theorem jV:∀ (d l:Nat) (T:List Stp),Sub L l (bV d T)→oo (fun n=>n∈NM) d T→dC (gv (cY NM L)) d l T
 | 0,_,_,_,h=>h
 | d+1,l,T,hS,hN=>by
  have go:∀ (T:List Stp) (l:Nat),Sub L l (T.flatMap (bM (bV d)))→(∀ s∈T,AX (oo (fun n=>n∈NM) d) (fun n=>n∈NM) s)→∀ z∈df (aU (aj d)) l T,jw (gv (cY NM L)) (dC (gv (cY NM L)) d) (aj d) z.1 z.2:=fun T=>by
   induction T with
   | nil=>intro l _ _ z hz; cases hz
   | cons s T ih=>
    intro l hS hN z hz
    rw[List.flatMap_cons]at hS
    rcases List.mem_cons.mp hz with rfl | hz
    ·exact zg (fun l b h1 h2=>jV d l b h1 h2) s hS.left (hN s List.mem_cons_self)
    ·have h2:=hS.right
     rw[qv (jO d)]at h2
     exact ih (l+aU (aj d) s) h2 (fun s hs=>hN s (List.mem_cons_of_mem _ hs)) z hz
  exact go T l hS hN
end
section
variable{CN:Addr}{NO:Hp→Addr→List Str→Prop}
def dW(NM:List Str)(d:Nat)(t:Bool)(T:List Stp):List bw:=aL (gv (cY NM (bV d T))) d t 0 0 T++[[.str "end", iN (aj d T)]]
structure lU (NO:Hp→Addr→List Str→Prop) (H:Hp) (p:Addr) (d:Nat) (T:List Stp) (NM:List Str):Prop where
 prog:∃ S,ProgAt S d H p T
 ok:dE d T
 no:NO H p NM
 ln:LinesAt d H p (bV d T)
 nm:oo (fun n=>n∈NM) d T
 cnt:aj d T≤200
 nl:NM.length≤1000
 d20:d≤20
def mW(NO:Hp→Addr→List Str→Prop)(d:Nat):Sp:=fun vs H Q _=>∃ (p:Addr) (t:Bool) (T:List Stp) (NM:List Str),vs=[.ref p,.bl t]∧lU NO H p d T NM∧∀ (q:Addr) (H':Hp),Same H H'→H q=none→ListR H' q (dW NM d t T)→Q (.ref q) H'
theorem uG(noM:∀ {H H':Hp} {p:Addr} {NM:List Str},NO H p NM→Same H H'→NO H' p NM)(D:DefAt K mg "rows_and_end" bT) {d k:Nat} (hk1:1≤k) (c_numbered_steps:aK P w K mg base (2 * d+4) "numbered_steps" ["steps", "line"] (lF K CN d)) (c_rows_of:aK P w K mg base (3 * d+2) "rows_of" ["steps", "at", "slots", "turned"] (gK K CN d)) (c_slots_of:aK P w K mg base k "slots_of" ["program"] (uB NO d)) (c_line_behind:aK P w K mg base 1 "line_behind" ["steps", "line"] (gS K CN)) (h1:2 * d+4≤k) (h2:3 * d+2≤k):aK P w K mg base (k+1) "rows_and_end" ["program", "turned"] (mW NO d):=by
 refine D.cal (k:=k) sc_rows_and_end (fun _ _ _ _ _ _ us hl=>match us,hl with | [_,_],_=>rfl) (fun vs H Q E h=>by obtain⟨_,_,_,_,rfl,_⟩:=h; rfl) (fun f cdv A outer s H vs Q E hr h=>?_)
 obtain⟨p,t,T,NM,rfl,I,q⟩:=h
 obtain⟨S,hP⟩:=I.prog
 have hcnt:=I.cnt
 refine⟨_,(ae (aw 2 sc_rows_and_end.nd (az c_numbered_steps hr (aa (pv 0) (aa af ac)) (hle:=by omega)))
   (ak (aE (ao aD (az c_rows_of hr (aa (pv 2) (aa af (aa (az c_slots_of hr (aa (pv 0) ac) (hle:=by omega)) (aa (pv 1) ac)))) (hle:=by omega)) (bi (aa (bm (aa au (aa (az c_line_behind hr (aa (pv 2) (aa af ac)) (hle:=by omega)) ac))) ac)))))),?_⟩
 walk_at "rd1";refine⟨p,0,T,S,rfl,hP,I.ok,by omega,fun nq H1 s1 hN=>?_⟩
 walk_at "nx";refine⟨p,NM,bV d T,rfl,noM I.no s1,I.ln.mono _ s1,by rw[jO]; omega,I.nl,fun sq H2 s2 hsq e2=>?_⟩
 refine⟨nq,sq,0,0,t,T,_,_,rfl,hN.mono s2,I.ok,e2,jV d 0 T (fun i s e=>by rw[Nat.zero_add]; exact e) I.nm,I.cnt,I.d20,fun rq H3 s3 hrq hR=>?_⟩
 have hRl:=dZ (kv:=gv (cY NM (bV d T))) (a:=0) (l:=0) (t:=t) I.cnt I.d20;generalize hRR:aL (gv (cY NM (bV d T))) d t 0 0 T=R at hR hRl;have s23:=s2.trans s3
 cases d with
 | zero=>exact hN.elim
 | succ d=>
  refine⟨nq,0,d,T,_,rfl,hN.mono s23,by omega,?_⟩
  walk_at "rd1";refine⟨by decide,fun t1 ht1=>?_⟩
  generalize hH4:upd H3 t1 _=H4
  have s4:Same H3 H4:=by rw[← hH4]; exact al ht1 _
  have et1:bP H4 t1 [.str "end", iN (aj (d+1) T)]:=by
   show H4 t1=_
   rw[← hH4,ah,Nat.zero_add]; rfl
  refine⟨by decide,fun m1 hm1=>?_⟩
  have s5:=al hm1 (.lst [.ref t1]);have L1:=gJ et1 hm1;generalize upd H4 m1 (.lst [.ref t1])=H5 at s5 L1 ⊢;obtain⟨as1,a1,a2⟩:=hR.mono (s4.trans s5)
  obtain⟨bs1,b1,b2⟩:=L1
  refine⟨_,_,a1,b1,eO a2 b2 (by simp only[List.length_cons,List.length_nil]; omega),fun m2 hm2=>?_⟩
  have s6:=al hm2 (.lst (as1.map V.ref++bs1.map V.ref));have L2:=fw a2 b2 hm2;generalize upd H5 m2 (.lst (as1.map V.ref++bs1.map V.ref))=H6 at s6 L2 ⊢;have s05:=((s1.trans s23).trans s4).trans s5;refine q m2 H6 (s05.trans s6) (s05.free hm2) ?_
  unfold dW;rw[hRR];exact L2
def yh(NO:Hp→Addr→List Str→Prop)(d:Nat):Sp:=fun vs H Q _=>∃ (p:Addr) (T:List Stp) (NM:List Str),vs=[.ref p]∧lU NO H p d T NM∧∀ (q:Addr) (H':Hp),Same H H'→H q=none→ListR H' q (dW NM d false T)→Q (.ref q) H'
theorem Ci(D:DefAt K mg "code_of" gq) {d k:Nat} (c_rows_and_end:aK P w K mg base k "rows_and_end" ["program", "turned"] (mW NO d)):aK P w K mg base (k+1) "code_of" ["program"] (yh NO d):=by
 refine D.cal (k:=k) uQ (fun _ _ _ _ _ _ us hl=>match us,hl with | [_],_=>rfl) (fun vs H Q E h=>by obtain⟨_,_,_,rfl,_⟩:=h; rfl) (fun f cdv A outer s H vs Q E hr h=>?_)
 obtain⟨p,T,NM,rfl,I,q⟩:=h
 refine⟨_,(ak (aE (az c_rows_and_end hr (aa (pv 0) (aa eX ac)) (hle:=by omega)))),?_⟩
 walk_at "rd1";exact⟨p,false,T,NM,rfl,I,q⟩
def pL(NO:Hp→Addr→List Str→Prop)(d:Nat):Sp:=fun vs H Q _=>∃ (p:Addr) (T:List Stp) (NM:List Str),vs=[.ref p]∧lU NO H p d T NM∧∀ (q:Addr) (H':Hp),Same H H'→H q=none→ListR H' q (dW NM d true T)→Q (.ref q) H'
theorem yj(D:DefAt K mg "turned_code" eI) {d k:Nat} (c_rows_and_end:aK P w K mg base k "rows_and_end" ["program", "turned"] (mW NO d)):aK P w K mg base (k+1) "turned_code" ["program"] (pL NO d):=by
 refine D.cal (k:=k) mT (fun _ _ _ _ _ _ us hl=>match us,hl with | [_],_=>rfl) (fun vs H Q E h=>by obtain⟨_,_,_,rfl,_⟩:=h; rfl) (fun f cdv A outer s H vs Q E hr h=>?_)
 obtain⟨p,T,NM,rfl,I,q⟩:=h
 refine⟨_,(ak (aE (az c_rows_and_end hr (aa (pv 0) (aa eX ac)) (hle:=by omega)))),?_⟩
 walk_at "rd1";exact⟨p,true,T,NM,rfl,I,q⟩
end
end
def dR:Stp→List (List Stp)
 | .plain _=>[]
 | .lend _ _ b=>[b]
 | .ite _ b c=>[b,c]
 | .whl _ b=>[b]
def fT(f:List Stp→List Stp)(s:Stp):List Stp:=s::(dR s).flatMap f
def cA:Nat→List Stp→List Stp
 | 0,_=>[]
 | d+1,T=>T.flatMap (fT (cA d))
inductive fP:List Str→Prop
 | opn (x:Str):fP ["open", x]
 | drp (x:Str):fP ["drop", x]
 | cpy (x y:Str):fP ["copy", x,y]
 | tie (x y:Str):fP ["tie", x,y]
 | doo (u x:Str):fP ["do", u,x]
def bY:Stp→List Str
 | .plain ws=>if ws.headD "" = "do" then ws.drop 2 else ws.drop 1
 | .lend x y _=>[x,y]
 | .ite _ _ _=>[]
 | .whl _ _=>[]
def fS(f:List Stp→Prop):Stp→Prop
 | .plain ws=>fP ws
 | .lend _ _ b=>f b
 | .ite _ b c=>f b∧f c
 | .whl _ b=>f b
def jC:Nat→List Stp→Prop
 | 0,_=>False
 | d+1,T=>∀ s∈T,fS (jC d) s
def headAt(H:Hp)(a:Addr)(s:Stp):Prop:=stpAt (fun _ _=>True) H a s
theorem headAt.mono{H H':Hp}{a:Addr}{s:Stp}(h:headAt H a s)(sm:Same H H'):headAt H' a s:=stpAt.imp (fun b xs e=>sm _ _ e) (fun _ _ _=>trivial) h
theorem vi{PA:Addr→List Stp→Prop}{H:Hp}{a:Addr}{g:List Stp→Prop}:∀ {s:Stp},stpAt PA H a s→fS g s→∃ (kind:Str) (hs:List V) (bs:List Addr),H a=some (.tup (.str kind::hs++bs.map V.ref))∧bs.length=(ba kind).length∧Paired PA bs (dR s)∧∀ b∈dR s,g b
 | .plain ws,h,ok=>by
  cases ok with
  | opn x=>exact⟨"open", [.str x],[],h,by show 0=(ba "open").length; decide,.nil,by simp[dR]⟩
  | drp x=>exact⟨"drop", [.str x],[],h,by show 0=(ba "drop").length; decide,.nil,by simp[dR]⟩
  | cpy x y=>exact⟨"copy", [.str x,.str y],[],h,by show 0=(ba "copy").length; decide,.nil,by simp[dR]⟩
  | tie x y=>exact⟨"tie", [.str x,.str y],[],h,by show 0=(ba "tie").length; decide,.nil,by simp[dR]⟩
  | doo u x=>exact⟨"do", [.str u,.str x],[],h,by show 0=(ba "do").length; decide,.nil,by simp[dR]⟩
 | .lend x y b,⟨q,h,z⟩,ok=>⟨"lend", [.str x,.str y],[q],h,by show 1=(ba "lend").length; decide,.cons z .nil,by simpa [dR,fS] using ok⟩
 | .ite n b c,⟨q,r,h,z,y⟩,ok=>⟨"if", [.int n],[q,r],h,by show 2=(ba "if").length; decide,.cons z (.cons y .nil),by simpa [dR,fS] using ok⟩
 | .whl n b,⟨q,h,z⟩,ok=>⟨"while", [.int n],[q],h,by show 1=(ba "while").length; decide,.cons z .nil,by simpa [dR,fS] using ok⟩
def pC(d:Nat):Sp:=fun vs H Q _=>∃ (p:Addr) (T:List Stp) (S:Addr→Prop),vs=[.ref p]∧ProgAt S d H p T∧jC d T∧(cA d T).length≤5000∧
 ∀ (q:Addr) (H':Hp) (ads:List Addr),Same H H'→H q=none→H' q=some (.lst (ads.map V.ref))→Paired (headAt H') ads (cA d T)→Q (.ref q) H'
theorem vj{α β : Type}(f:α→List β)(T:List α)(i:Nat):((T.take i).flatMap f).length≤(T.flatMap f).length:=by
 rw[List.flatMap_def,List.flatMap_def,List.map_take]; exact mz _ _
theorem mB{α β : Type}(f:α→List β){T:List α}{i:Nat}{x:α}(h:T[i]? = some x):(T.take (i+1)).flatMap f=(T.take i).flatMap f++f x:=by
 rw[List.take_add_one,h,List.flatMap_append]; simp
theorem lD{α β : Type}{R:α→β→Prop}:∀ {xs zs:List α} {ys us:List β},Paired R xs ys→Paired R zs us→Paired R (xs++zs) (ys++us)
 | _,_,_,_,.nil,h=>h
 | _,_,_,_,.cons h t,h'=>.cons h (lD t h')
section
variable{P:Program}{w:World}{K:PySem.W.Frag}{mg:Str→Option Value}{base:Heap}
theorem ny(D:DefAt K mg "steps_within" bH) (c_blocks_of:aK P w K mg base 3 "blocks_of" ["step"] (gW K)):∀ d:Nat,aK P w K mg base (d+4) "steps_within" ["program"] (pC d)
 | 0=>D.cal (k:=3) sc_steps_within (fun _ _ _ _ _ _ us hl=>match us,hl with | [_],_=>rfl) (fun vs H Q E h=>by obtain⟨p,T,S,rfl,_⟩:=h; rfl) (fun f cdv A outer s H vs Q E hr h=>by obtain⟨p,T,S,rfl,z,_⟩:=h; exact z.elim)
 | d+1=>by
  have c_steps_within:=ny D c_blocks_of d;refine D.cal (k:=d+4) sc_steps_within (fun _ _ _ _ _ _ us hl=>match us,hl with | [_],_=>rfl) (fun vs H Q E h=>by obtain⟨p,T,S,rfl,_⟩:=h; rfl) (fun f cdv A outer s H vs Q E hr h=>?_)
  obtain⟨p,T,S,rfl,⟨hS,as,h1,h2⟩,ok,hL,q⟩:=h
  have hlen:=aB h2
  refine⟨_,(ae (aw 1 sc_steps_within.nd (bi ac))
   (ae (cC PassesOwn.never rfl (cH K (pv 0)) (bj 2 sc_steps_within.nd) (ae (ay (bb K PySem.F.plainAttrs_list PySem.F.slot_list_append PySem.F.type_list_append aS (pv 1) (aa (pv 2) ac)))
   (ak (cC PassesOwn.never rfl (j0 K (az c_blocks_of hr (aa (pv 2) ac) (hle:=by omega))) (bj 3 sc_steps_within.nd) (ak (ay (bb K PySem.F.plainAttrs_list PySem.F.slot_list_extend PySem.F.type_list_extend fR (pv 1) (aa (az c_steps_within hr (aa (pv 3) ac) (hle:=by omega)) ac))))))))
   (ak (aE (pv 1))))),?_⟩
  walk_at "rd1";refine⟨by decide,fun lp hlp=>?_⟩
  generalize hH1:upd H lp _=H1
  have sm1:=cP hH1 hlp;have e1:=dG hH1;walk_at "nx";refine⟨⟨_,SqL.of (sm1 _ _ h1)⟩,?_⟩
  refine da (xs:=as.map V.ref) (fun i σ H'=>∃ (ads:List Addr) (o2 o3:Option V),σ=[some (.ref p),some (.ref lp),o2,o3]∧Same H H'∧H' lp=some (.lst (ads.map V.ref))∧Paired (headAt H') ads ((T.take i).flatMap (fT (cA d))))
   ⟨[],none,none,rfl,sm1,e1,.nil⟩ (fun i σ H' _ h=>by obtain⟨_,_,_,_,sm,_⟩:=h; exact SqL.of (sm _ _ h1)) ?_ ?_
  ·rintro i v σ H' hv ⟨ads,o2,o3,rfl,sm,hl,hp⟩
   have hi:i<as.length:=by have:=(List.getElem?_eq_some_iff.mp hv).1; simpa using this
   rw[List.getElem?_map,List.getElem?_eq_getElem hi]at hv
   cases hv;obtain⟨s,hs,st⟩:=bI h2 (List.getElem?_eq_getElem hi)
   have oks:=ok s (List.mem_of_getElem? hs);obtain⟨kind,hds,bs,ha,hbl,hbp,hbo⟩:=vi st oks
   have hflat:=mB (fT (cA d)) hs;have hfl:=vj (fT (cA d)) T (i+1);have hL':(T.flatMap (fT (cA d))).length≤5000:=hL
   rw[hflat]at hfl ⊢
   have hpl:=aB hp;generalize (T.take i).flatMap (fT (cA d))=pre at hp hfl hpl ⊢;have hps:(fT (cA d) s).length=1+((dR s).flatMap (cA d)).length:=by show (s::_).length=_; rw[List.length_cons]; omega
   rw[List.length_append,hps]at hfl
   have hhd:headAt H as[i] s:=stpAt.imp (fun b xs e=>e) (fun _ _ _=>trivial) st
   walk_at "rd1";refine⟨⟨_,SqL.of hl⟩,_,hl,by rw[List.length_map]; exact bG (by omega),?_⟩
   have upl:∀ {X:Hp} {o:HO} {l:List Addr} {us:List Stp} {ys:List V},X lp=some (.lst ys)→Paired (headAt X) l us→Paired (headAt (upd X lp o)) l us:=fun {X o l us ys} e h=>Paired.imp' (fun a s z=>stpAt.imp (fun b xs e'=>by rw[ai (bW e' e (fun z=>nomatch z))]; exact e') (fun _ _ _=>trivial) z) h
   have hp2:=upl (o:=.lst (ads.map V.ref++[.ref as[i]])) hl hp;have sm2:Same H (upd H' lp (.lst (ads.map V.ref++[.ref as[i]]))):=sm.upd hlp _
   have e2:upd H' lp (.lst (ads.map V.ref++[.ref as[i]])) lp=some (.lst ((ads++[as[i]]).map V.ref)):=by rw[ah,List.map_append]; rfl
   generalize upd H' lp (.lst (ads.map V.ref++[.ref as[i]]))=H2 at hp2 sm2 e2 ⊢;have hat:SqT K H2 as[i] (.str kind::(hds++bs.map V.ref)):=SqT.of (sm2 _ _ ha)
   have hcl:(ba kind).length≤(hds++bs.map V.ref).length+1:=by rw[List.length_append,List.length_map,hbl]; omega
   have hcut:(hds++bs.map V.ref).length+1 - (ba kind).length=hds.length+1:=by rw[List.length_append,List.length_map,hbl]; omega
   walk_at "nx";refine⟨as[i],kind,hds++bs.map V.ref,rfl,hat,hcl,fun bp H3 sm3 hbp3=>?_⟩
   rw[hcut]at hbp3
   have edr:(V.str kind::(hds++bs.map V.ref)).drop (hds.length+1)=bs.map V.ref:=by rw[List.drop_succ_cons,List.drop_left']; rfl
   rw[edr]at hbp3
   walk_at "rd1";refine⟨⟨_,hbp3⟩,?_⟩
   have hil:=aB hbp
   refine rJ (xs:=bs.map V.ref) (fun j σ H'=>∃ (ads':List Addr) (o3:Option V),σ=[some (.ref p),some (.ref lp),some (.ref as[i]),o3]∧Same H H'∧SqT K H' bp (bs.map V.ref)∧H' lp=some (.lst (ads'.map V.ref))∧Paired (headAt H') ads' (pre++(s::((dR s).take j).flatMap (cA d))))
    ⟨ads++[as[i]],o3,rfl,sm2.trans sm3,hbp3,sm3 _ _ e2,?_⟩ (fun j σ H' _ h=>by obtain⟨_,_,_,_,z1,_⟩:=h; exact z1) ?_ ?_
   ·exact ck (R:=headAt H3) (hhd.mono (sm2.trans sm3)) (Paired.imp' (fun a s z=>headAt.mono z sm3) hp2)
   ·rintro j x σ H4 hx ⟨ads',o3,rfl,sm4,hb4,hl4,hp4⟩
    have hj:j<bs.length:=by have:=(List.getElem?_eq_some_iff.mp hx).1; simpa using this
    rw[List.getElem?_map,List.getElem?_eq_getElem hj]at hx
    cases hx;obtain⟨b,hb,hpb⟩:=bI hbp (List.getElem?_eq_getElem hj)
    have hsn:=mB (cA d) hb;have hle:=vj (cA d) (dR s) (j+1);rw[hsn]at hle ⊢
    rw[List.length_append]at hle
    have hpl4:=aB hp4;rw[List.length_append,List.length_cons]at hpl4
    walk_at "rd1";refine⟨⟨_,SqL.of hl4⟩,bs[j],b,S,rfl,hpb.mono sm4,hbo b (List.mem_of_getElem? hb),by omega,fun r H5 ads5 sm5 hr5 hl5 hp5=>?_⟩
    have hpl5:=aB hp5;walk_at "rd1";refine⟨_,_,sm5 _ _ hl4,hl5,bo (by rw[List.length_map,List.length_map]; omega),?_⟩
    refine⟨ads'++ads5,_,rfl,(sm4.trans sm5).upd hlp _,(hb4.same sm5).updL (sm5 _ _ hl4),by rw[ah,List.map_append],?_⟩
    rw[← List.cons_append,← List.append_assoc];exact lD (upl (sm5 _ _ hl4) (Paired.imp' (fun a s z=>headAt.mono z sm5) hp4)) (upl (sm5 _ _ hl4) hp5)
   ·rintro σ H4 ⟨ads',o3,rfl,sm4,hb4,hl4,hp4⟩
    rw[List.length_map,List.take_of_length_le (by omega)]at hp4
    exact⟨ads',_,_,rfl,sm4,hl4,hp4⟩
  ·rintro σ H' ⟨ads,o2,o3,rfl,sm,hl,hp⟩
   walk_at "nx";rw[List.length_map,List.take_of_length_le (by omega)]at hp
   exact q lp H' ads sm hlp hl hp
def fY(acc:List Str)(x:Str):List Str:=if x∈acc then acc else acc++[x]
def fq(l:List Str):List Str:=l.foldl fY []
def je(l:List Str):List (aF × V):=l.map fun x=>(Sum.inr x,V.bl true)
theorem Cv(acc:List Str)(x:Str):cU (je acc) (.inr x) (.bl true)=je (fY acc x):=by
 unfold cU fY
 by_cases h:x∈acc
 ·rw[if_pos h]
  have ha:((je acc).any fun kv=>decide (kv.1=(Sum.inr x:aF)))=true:=by
   rw[List.any_eq_true];exact⟨(.inr x,.bl true),List.mem_map.mpr ⟨x,h,rfl⟩,by simp⟩
  rw[if_pos ha];unfold je;rw[List.map_map];refine List.map_congr_left fun y _=>?_
  by_cases e:y=x
  ·subst e; simp
  ·have:¬ ((Sum.inr y:aF)=Sum.inr x):=fun z=>e (Sum.inr.inj z)
   simp[this]
 ·rw[if_neg h]
  have ha:((je acc).any fun kv=>decide (kv.1=(Sum.inr x:aF)))=false:=by
   rw[List.any_eq_false];intro kv hkv
   obtain⟨y,hy,rfl⟩:=List.mem_map.mp hkv
   have:¬ ((Sum.inr y:aF)=Sum.inr x):=fun z=>h (Sum.inr.inj z ▸ hy)
   simp[this]
  rw[if_neg (by rw[ha]; exact Bool.false_ne_true)]
  unfold je;rw[List.map_append]; rfl
theorem ij:∀ (l acc:List Str),(l.foldl fY acc).length≤acc.length+l.length
 | [],acc=>by simp
 | x::l,acc=>by
  have:=ij l (fY acc x)
  have h2:(fY acc x).length≤acc.length+1:=by unfold fY; split <;> simp
  rw[List.foldl_cons,List.length_cons]; omega
def cy:List V→List Str→List Str
 | .str x::xs,k::ks=>if k = "name" then x::cy xs ks else cy xs ks
 | _::xs,_::ks=>cy xs ks
 | _,_=>[]
def ef:List (Str × List Str):=[("open", ["name"]),("do", ["word", "name"]),("copy", ["name", "name"]),("drop", ["name"]),("tie", ["name", "name"]),("lend", ["name", "name", "steps"]),("if", ["bound", "steps", "steps"]),("while", ["bound", "steps"])]
structure Kr (H:Hp) (a:Addr) (s:Stp) (kind:Str) (xs:List V) (ks:List Str):Prop where
 at':H a=some (.tup (.str kind::xs))
 kd:(kind,ks)∈ef
 len:xs.length=ks.length
 txt:∀ (i:Nat) (x:V),xs[i]? = some x→ks[i]? = some "name" → ∃ y,x = .str y
 names:cy xs ks=bY s
theorem pH{α : Type}{a b x:α}{i:Nat}(h:[a,b][i]? = some x):(i=0∧x=a)∨(i=1∧x=b):=by
 match i,h with
 | 0,h=>exact .inl ⟨rfl,by simpa using h.symm⟩
 | 1,h=>exact .inr ⟨rfl,by simpa using h.symm⟩
 | i+2,h=>simp at h
theorem uX{H:Hp}{a:Addr}{g:List Stp→Prop}:∀ {s:Stp},headAt H a s→fS g s→∃ kind xs ks,Kr H a s kind xs ks
 | .plain ws,h,ok=>by
  cases ok with
  | opn x=>exact⟨"open", [.str x],["name"],h,by simp[ef],rfl,fun i y e _=>by match i,e with | 0,e=>exact⟨x,by simpa using e.symm⟩ | i+1,e=>simp at e,by simp[cy,bY]; decide⟩
  | drp x=>exact⟨"drop", [.str x],["name"],h,by simp[ef],rfl,fun i y e _=>by match i,e with | 0,e=>exact⟨x,by simpa using e.symm⟩ | i+1,e=>simp at e,by simp[cy,bY]; decide⟩
  | cpy x y=>exact⟨"copy", [.str x,.str y],["name", "name"],h,by simp[ef],rfl,fun i z e _=>by rcases pH e with ⟨_,rfl⟩ | ⟨_,rfl⟩ <;> exact⟨_,rfl⟩,by simp[cy,bY]; decide⟩
  | tie x y=>exact⟨"tie", [.str x,.str y],["name", "name"],h,by simp[ef],rfl,fun i z e _=>by rcases pH e with ⟨_,rfl⟩ | ⟨_,rfl⟩ <;> exact⟨_,rfl⟩,by simp[cy,bY]; decide⟩
  | doo u x=>exact⟨"do", [.str u,.str x],["word", "name"],h,by simp[ef],rfl,fun i z e _=>by rcases pH e with ⟨_,rfl⟩ | ⟨_,rfl⟩ <;> exact⟨_,rfl⟩,by simp[cy,bY]; decide⟩
 | .lend x y b,⟨q,h,_⟩,ok=>⟨"lend", [.str x,.str y,.ref q],["name", "name", "steps"],h,by simp[ef],rfl,fun i z e e2=>by match i,e,e2 with | 0,e,e2=>exact⟨_,by simpa using e.symm⟩ | 1,e,e2=>exact⟨_,by simpa using e.symm⟩ | 2,e,e2=>exact absurd (by simpa using e2) (show ¬ (("steps" : Str) = "name") from by decide) | i+3,e,e2=>simp at e,by simp[cy,bY]⟩
 | .ite n b c,⟨q,r,h,_,_⟩,ok=>⟨"if", [.int n,.ref q,.ref r],["bound", "steps", "steps"],h,by simp[ef],rfl,fun i z e e2=>by match i,e,e2 with | 0,e,e2=>exact absurd (by simpa using e2) (show ¬ (("bound" : Str) = "name") from by decide) | 1,e,e2=>exact absurd (by simpa using e2) (show ¬ (("steps" : Str) = "name") from by decide) | 2,e,e2=>exact absurd (by simpa using e2) (show ¬ (("steps" : Str) = "name") from by decide) | i+3,e,e2=>simp at e,by simp[cy,bY]⟩
 | .whl n b,⟨q,h,_⟩,ok=>⟨"while", [.int n,.ref q],["bound", "steps"],h,by simp[ef],rfl,fun i z e e2=>by match i,e,e2 with | 0,e,e2=>exact absurd (by simpa using e2) (show ¬ (("bound" : Str) = "name") from by decide) | 1,e,e2=>exact absurd (by simpa using e2) (show ¬ (("steps" : Str) = "name") from by decide) | i+2,e,e2=>simp at e,by simp[cy,bY]⟩
theorem qt:∀ {xs:List V} {ks:List Str} (x:V) (k:Str),xs.length=ks.length→cy (xs++[x]) (ks++[k])=cy xs ks++cy [x] [k]
 | [],[],x,k,_=>rfl
 | [],_::_,_,_,h=>by simp at h
 | _::_,[],_,_,h=>by simp at h
 | y::xs,c::ks,x,k,h=>by
  have ih:=qt (xs:=xs) (ks:=ks) x k (by simpa using h)
  cases y <;> simp only[List.cons_append,cy,ih]
  split <;> simp
theorem oB(xs:List V)(ks:List Str)(j:Nat)(h:xs.length=ks.length):(cy (xs.take j) (ks.take j)).length≤(cy xs ks).length:=by
 induction xs generalizing ks j with
 | nil=>simp[cy]
 | cons y xs ih=>
  cases ks with
  | nil=>simp at h
  | cons c ks=>
   cases j with
   | zero=>simp[cy]
   | succ j=>
    have:=ih ks j (by simpa using h)
    rw[List.take_succ_cons,List.take_succ_cons]
    cases y <;> simp only[cy] <;> (try split) <;> (try simp only[List.length_cons]) <;> omega
theorem Aw{K:PySem.W.Frag}{H:Hp}{a l:Addr}{xs:List V}{kvs:List (aF × V)}{o:HO}(h:SqT K H a xs)(hl:H l=some (.dK kvs)):SqT K (upd H l o) a xs:=by
 rcases h with (h | ⟨o',h⟩) | h
 ·exact .inl (.inl (by rw[ai (bW h hl (fun z=>nomatch z))]; exact h))
 ·exact .inl (.inr ⟨o',by rw[ai (bW h hl (fun z=>nomatch z))]; exact h⟩)
 ·exact .inr h
def oh:Sp:=fun vs H Q _=>∃ (sp:Addr) (ads:List Addr) (Ps:List Stp) (g:List Stp→Prop),vs=[.ref sp]∧H sp=some (.lst (ads.map V.ref))∧Paired (headAt H) ads Ps∧(∀ s∈Ps,fS g s)∧(Ps.flatMap bY).length≤5000∧
 ∀ (q:Addr) (H':Hp),Same H H'→H q=none→H' q=some (.lst ((fq (Ps.flatMap bY)).map V.str))→Q (.ref q) H'
theorem we(D:DefAt K mg "names_in" bX) (z_zip:mg "zip" = none) (z_list:mg "list" = none) {dP:Addr} {kvs:List (Str × V)} (g_PARTS:mg "PARTS" = some (.ref dP)) (m:ModD w K dP kvs)
  (qk:∀ kind ks,(kind,ks)∈ef→∃ a,bN kvs kind=some (.ref a)∧∀ H:Hp,SqT K H a (ks.map V.str)):aK P w K mg base 1 "names_in" ["steps"] oh:=by
 refine D.cal sc_names_in (fun _ _ _ _ _ _ us hl=>match us,hl with | [_],_=>rfl) (fun vs H Q E h=>by obtain⟨_,_,_,_,rfl,_⟩:=h; rfl) (fun f cdv A outer s H vs Q E hr h=>?_)
 obtain⟨sp,ads,Ps,g,rfl,hsp,hp,hok,hL,q⟩:=h
 have hlen:=aB hp
 refine⟨_,(ae (aw 1 sc_names_in.nd kZ)
   (ae (cC PassesOwn.never rfl (cH K (pv 0)) (bj 2 sc_names_in.nd) (ak (cC PassesOwn.never rfl (tX K Kv z_zip (aa (b_ (j7 K) (pv 2) (ci af) cQ) (aa (ax (Je w K) (tY g_PARTS) (ax (aG K) (pv 2) af (fun _ _=>rfl)) (fun _ _=>rfl)) ac))) (fM K (n:=2) (cj (bj 3 sc_names_in.nd) (cj (bj 4 sc_names_in.nd) fO))) (ak (a_ (aC bD (pv 4) au (aH _)) (ak (ix eX (ra (pv 1) (pv 3) (uO hr)))) bt)))))
   (ak (aE (eh (v5 hr) z_list gM (aa (pv 1) ac)))))),?_⟩
 walk_at "rd1";refine fun dp hdp=>?_
 generalize hH1:upd H dp _=H1
 have sm1:=cP hH1 hdp;have e1:=dG hH1;walk_at "nx";refine⟨⟨_,SqL.of (sm1 _ _ hsp)⟩,?_⟩
 refine da (xs:=ads.map V.ref) (fun i σ H'=>∃ o2 o3 o4:Option V,σ=[some (.ref sp),some (.ref dp),o2,o3,o4]∧Same H H'∧H' dp=some (.dK (je (fq ((Ps.take i).flatMap bY)))))
  ⟨none,none,none,rfl,sm1,e1⟩ (fun i σ H' _ h=>by obtain⟨_,_,_,_,sm,_⟩:=h; exact SqL.of (sm _ _ hsp)) ?_ ?_
 ·rintro i v σ H' hv ⟨o2,o3,o4,rfl,sm,hd⟩
  have hi:i<ads.length:=by have:=(List.getElem?_eq_some_iff.mp hv).1; simpa using this
  rw[List.getElem?_map,List.getElem?_eq_getElem hi]at hv
  cases hv;obtain⟨s,hs,st⟩:=bI hp (List.getElem?_eq_getElem hi)
  obtain⟨kind,xs,ks,hd1,hd2,hd3,hd4,hd5⟩:=uX st (hok s (List.mem_of_getElem? hs))
  obtain⟨ka,hka,hks⟩:=qk kind ks hd2
  have hsn:=mB bY hs;have hfl:=vj bY Ps (i+1);rw[hsn]at hfl ⊢
  have hded:fq ((Ps.take i).flatMap bY++bY s)=(bY s).foldl fY (fq ((Ps.take i).flatMap bY)):=by unfold fq; rw[List.foldl_append]
  rw[hded];have hac:=ij ((Ps.take i).flatMap bY) [];rw[List.length_append]at hfl
  rw[List.length_nil]at hac
  have hac':(fq ((Ps.take i).flatMap bY)).length≤((Ps.take i).flatMap bY).length:=by unfold fq; omega
  generalize fq ((Ps.take i).flatMap bY)=acc at hd hac' ⊢;have hat:SqT K H' ads[i] (.str kind::xs):=SqT.of (sm _ _ hd1)
  walk_at "rd1";refine iO hat fun p2 H2 sm2 h2=>?_
  have e1:dO (V.str kind::xs) (some 1) none=xs:=ju _ 1
  rw[e1]at h2
  walk_at "rd1";refine⟨_,_,.inr (hat.same sm2),cn,dP,kvs,kind,.ref ka,rfl,rfl,m,hka,?_⟩
  refine⟨p2,ka,rfl,⟨_,h2⟩,⟨_,hks _⟩,?_⟩
  refine nJ (xs:=xs) (ys:=ks.map V.str) (fun j σ H'=>∃ o3 o4:Option V,σ=[some (.ref sp),some (.ref dp),some (.ref ads[i]),o3,o4]∧Same H H'∧SqT K H' p2 xs∧H' dp=some (.dK (je ((cy (xs.take j) (ks.take j)).foldl fY acc))))
   (by rw[List.length_map]; exact hd3) ⟨o3,o4,rfl,sm.trans sm2,h2,sm2 _ _ hd⟩ (fun j σ H' _ h=>by obtain⟨_,_,_,_,z1,_⟩:=h; exact⟨z1,hks _⟩) ?_ ?_
  ·rintro j x y t σ H3 hx hy ⟨o3,o4,rfl,sm3,h3,hd3'⟩ ht
   have hjx:j<xs.length:=(List.getElem?_eq_some_iff.mp hx).1
   have hjk:j<ks.length:=by omega
   have hkj:ks[j]? = some ks[j]:=List.getElem?_eq_getElem hjk
   rw[List.getElem?_map,hkj]at hy
   cases hy;have ht1:xs.take (j+1)=xs.take j++[x]:=by rw[List.take_add_one,hx]; rfl
   have ht2:ks.take (j+1)=ks.take j++[ks[j]]:=by rw[List.take_add_one,hkj]; rfl
   have hpa:=qt (xs:=xs.take j) (ks:=ks.take j) x ks[j] (by rw[List.length_take,List.length_take,hd3])
   have hpl:=oB xs ks j hd3;rw[hd5]at hpl
   have hfl2:=ij (cy (xs.take j) (ks.take j)) acc;rw[ht1,ht2,hpa];have htx:=hd4 j x hx;rw[hkj]at htx
   generalize ks[j]=kj at hpa htx ⊢;generalize cy (xs.take j) (ks.take j)=pk at hd3' hpl hfl2 ⊢;have st:=al ht (.tup [x,V.str kj]);have et:upd H3 t (.tup [x,V.str kj]) t=some (.tup [x,V.str kj]):=ah
   generalize upd H3 t (.tup [x,V.str kj])=H4 at st et ⊢;walk_at "rd1";refine⟨t,_,rfl,SqT.of et,rfl,?_⟩
   walk_at "rd1";refine aI (fun c=>?_) (fun c=>?_)
   ·subst c
    obtain⟨z,rfl⟩:=htx rfl
    have hd4':=st _ _ hd3';refine⟨dp,_,.inr z,rfl,rfl,hd4',by unfold je; rw[List.length_map]; exact bG (by omega),?_⟩
    rw[Cv];refine⟨_,_,rfl,(sm3.trans st).upd hdp _,Aw (h3.same st) hd4',?_⟩
    rw[ah,List.foldl_append]; rfl
   ·have hno:cy [x] [kj]=[]:=by
     cases x <;> simp[cy,c]
    rw[hno,List.append_nil];exact⟨_,_,rfl,sm3.trans st,h3.same st,st _ _ hd3'⟩
  ·rintro σ H3 ⟨o3,o4,rfl,sm3,h3,hd3'⟩
   rw[List.take_length,List.take_of_length_le (by omega),hd5]at hd3'
   exact⟨_,_,_,rfl,sm3,hd3'⟩
 ·rintro σ H' ⟨o2,o3,o4,rfl,sm,hd⟩
  walk_at "nx";rw[List.length_map,List.take_of_length_le (by omega)]at hd
  have hac:=ij (Ps.flatMap bY) [];rw[List.length_nil]at hac
  refine⟨_,hd,by unfold je fq; rw[List.length_map]; omega,fun l hl=>q l _ (sm.trans (al hl _)) (sm.free hl) ?_⟩
  rw[ah];unfold je;rw[List.map_map]; rfl
def nH:Sp:=fun vs H Q _=>∃ (p:Addr) (T:List Stp) (S:Addr→Prop),vs=[.ref p]∧ProgAt S 10 H p T∧jC 10 T∧(cA 10 T).length≤1000∧((cA 10 T).flatMap bY).length≤5000∧
 ∀ (q:Addr) (H':Hp),Same H H'→H q=none→H' q=some (.lst ((fq ((cA 10 T).flatMap bY)).map V.str))→Q (.ref q) H'
theorem qw:∀ (d:Nat) {T:List Stp},jC d T→∀ s∈cA d T,∃ g:List Stp→Prop,fS g s
 | 0,_,h,_,_=>h.elim
 | d+1,T,ok,s,hs=>by
  obtain⟨u,hu,hs⟩:=List.mem_flatMap.mp hs
  have o:=ok u hu;rcases List.mem_cons.mp hs with rfl | hs
  ·exact⟨_,o⟩
  obtain⟨b,hb,hs⟩:=List.mem_flatMap.mp hs
  refine qw d (T:=b) ?_ s hs
  cases u with
  | plain ws=>simp[dR]at hb
  | lend x y c=>
   have:b=c:=by simpa [dR] using hb
   subst this; exact o
  | ite n c e=>
   obtain⟨o1,o2⟩:=o
   have:b=c∨b=e:=by simpa [dR] using hb
   rcases this with rfl | rfl
   ·exact o1
   ·exact o2
  | whl n c=>
   have:b=c:=by simpa [dR] using hb
   subst this; exact o
theorem zP:∀ {s:Stp} {g:List Stp→Prop},fS g s→fS (fun _=>True) s
 | .plain _,_,h=>h
 | .lend _ _ _,_,_=>trivial
 | .ite _ _ _,_,_=>⟨trivial,trivial⟩
 | .whl _ _,_,_=>trivial
theorem vV(D:DefAt K mg "names_of" fo) (c_names_in:aK P w K mg base 1 "names_in" ["steps"] oh) (c_steps_within:aK P w K mg base 14 "steps_within" ["program"] (pC 10)):aK P w K mg base 15 "names_of" ["program"] nH:=by
 refine D.cal su (fun _ _ _ _ _ _ us hl=>match us,hl with | [_],_=>rfl) (fun vs H Q E h=>by obtain⟨_,_,_,rfl,_⟩:=h; rfl) (fun f cdv A outer s H vs Q E hr h=>?_)
 obtain⟨p,T,S,rfl,hp,ok,h1,h2,q⟩:=h
 refine⟨_,(ak (aE (az c_names_in hr (aa (az c_steps_within hr (aa (pv 0) ac) (hle:=by omega)) ac) (hle:=by omega)))),?_⟩
 walk_at "rd1";refine⟨p,T,S,rfl,hp,ok,by omega,fun sp H1 ads sm1 hsp hl1 hp1=>?_⟩
 walk_at "rd1";refine⟨sp,ads,cA 10 T,fun _=>True,rfl,hl1,hp1,fun s hs=>let ⟨g,z⟩:=qw 10 ok s hs; zP z,h2,fun r H2 sm2 hr2 hl2=>?_⟩
 exact q r H2 (sm1.trans sm2) (sm1.free hr2) hl2
theorem pQ{ws:List Str}(h:fP ws):(ws.headD "" = "do" → ws.length=3)∧eJ ws=bY (.plain ws):=by
 cases h with
 | opn x=>exact⟨fun c=>absurd c (by show ¬ (Str.ofString "open" = Str.ofString "do"); decide +kernel),by unfold eJ; simp only[bY]; rw[if_neg (by show ¬ (Str.ofString "open" = Str.ofString "do"); decide +kernel),if_neg (by show ¬ (Str.ofString "open" = Str.ofString "do"); decide +kernel)]⟩
 | drp x=>exact⟨fun c=>absurd c (by show ¬ (Str.ofString "drop" = Str.ofString "do"); decide +kernel),by unfold eJ; simp only[bY]; rw[if_neg (by show ¬ (Str.ofString "drop" = Str.ofString "do"); decide +kernel),if_neg (by show ¬ (Str.ofString "drop" = Str.ofString "do"); decide +kernel)]⟩
 | cpy x y=>exact⟨fun c=>absurd c (by show ¬ (Str.ofString "copy" = Str.ofString "do"); decide +kernel),by unfold eJ; simp only[bY]; rw[if_neg (by show ¬ (Str.ofString "copy" = Str.ofString "do"); decide +kernel),if_neg (by show ¬ (Str.ofString "copy" = Str.ofString "do"); decide +kernel)]⟩
 | tie x y=>exact⟨fun c=>absurd c (by show ¬ (Str.ofString "tie" = Str.ofString "do"); decide +kernel),by unfold eJ; simp only[bY]; rw[if_neg (by show ¬ (Str.ofString "tie" = Str.ofString "do"); decide +kernel),if_neg (by show ¬ (Str.ofString "tie" = Str.ofString "do"); decide +kernel)]⟩
 | doo u x=>exact⟨fun _=>rfl,by unfold eJ; simp only[bY]; rw[if_pos (by rfl),if_pos (by rfl)]; rfl⟩
theorem Cq{f g:List Stp→Prop}{N:Str→Prop}{pr:List Stp→List Stp}(hf:∀ b,g b→(∀ n∈(pr b).flatMap bY,N n)→f b):∀ (s:Stp),fS g s→(∀ n∈(fT pr s).flatMap bY,N n)→AX f N s
 | .plain ws,ok,h=>by
  obtain⟨h1,h2⟩:=pQ ok
  refine⟨h1,fun n hn=>h n ?_⟩
  rw[h2]at hn
  exact List.mem_flatMap.mpr ⟨.plain ws,List.mem_cons_self,hn⟩
 | .lend x y b,ok,h=>by
  refine⟨h x (List.mem_flatMap.mpr ⟨.lend x y b,List.mem_cons_self,by simp[bY]⟩),h y (List.mem_flatMap.mpr ⟨.lend x y b,List.mem_cons_self,by simp[bY]⟩),hf b ok fun n hn=>h n ?_⟩
  obtain⟨s,hs,hn⟩:=List.mem_flatMap.mp hn
  exact List.mem_flatMap.mpr ⟨s,List.mem_cons_of_mem _ (List.mem_flatMap.mpr ⟨b,by simp[dR],hs⟩),hn⟩
 | .ite m b c,ok,h=>by
  refine⟨hf b ok.1 fun n hn=>h n ?_,hf c ok.2 fun n hn=>h n ?_⟩
  ·obtain⟨s,hs,hn⟩:=List.mem_flatMap.mp hn
   exact List.mem_flatMap.mpr ⟨s,List.mem_cons_of_mem _ (List.mem_flatMap.mpr ⟨b,by simp[dR],hs⟩),hn⟩
  ·obtain⟨s,hs,hn⟩:=List.mem_flatMap.mp hn
   exact List.mem_flatMap.mpr ⟨s,List.mem_cons_of_mem _ (List.mem_flatMap.mpr ⟨c,by simp[dR],hs⟩),hn⟩
 | .whl m b,ok,h=>hf b ok fun n hn=>h n (by
   obtain⟨s,hs,hn⟩:=List.mem_flatMap.mp hn
   exact List.mem_flatMap.mpr ⟨s,List.mem_cons_of_mem _ (List.mem_flatMap.mpr ⟨b,by simp[dR],hs⟩),hn⟩)
theorem qW{N:Str→Prop}:∀ (d:Nat) (T:List Stp),jC d T→(∀ n∈(cA d T).flatMap bY,N n)→oo N d T
 | 0,_,h,_=>h
 | d+1,T,ok,h=>fun s hs=>Cq (fun b hb hn=>qW d b hb hn) s (ok s hs) fun n hn=>h n (by
   obtain⟨s',hs',hn⟩:=List.mem_flatMap.mp hn
   exact List.mem_flatMap.mpr ⟨s',List.mem_flatMap.mpr ⟨s,hs,hs'⟩,hn⟩)
end
set_option genSizeOf false in
inductive Frm where
 | lend (x y:Str) (up:List Stp)
 | whl (n:Int) (up:List Stp)
 | inB (n:Int) (up:List Stp)
 | inC (n:Int) (b up:List Stp)
inductive Ctx (H:Hp) (S:Addr→Prop) (root:Addr):List Frm→List (Str × Addr)→Nat→Addr→Prop
 | nil:Ctx H S root [] [] 9 root
 | lend {x y:Str} {us:List Stp} {r:List Frm} {pr:List (Str × Addr)} {d:Nat} {here up t:Addr} {as:List Addr}:H up=some (.lst (as.map V.ref++[.ref t]))→Paired (stpAt (ProgAt S (d+1) H) H) as us→H t=some (.tup [.str "lend", .str x,.str y,.ref here])→Ctx H S root r pr (d+1) up→Ctx H S root (.lend x y us::r) (("back", up)::pr) d here
 | whl {n:Int} {us:List Stp} {r:List Frm} {pr:List (Str × Addr)} {d:Nat} {here up t:Addr} {as:List Addr}:H up=some (.lst (as.map V.ref++[.ref t]))→Paired (stpAt (ProgAt S (d+1) H) H) as us→H t=some (.tup [.str "while", .int n,.ref here])→Ctx H S root r pr (d+1) up→Ctx H S root (.whl n us::r) (("done", up)::pr) d here
 | inB {n:Int} {us:List Stp} {r:List Frm} {pr:List (Str × Addr)} {d:Nat} {here up t oth:Addr} {as:List Addr}:H up=some (.lst (as.map V.ref++[.ref t]))→Paired (stpAt (ProgAt S (d+1) H) H) as us→H t=some (.tup [.str "if", .int n,.ref here,.ref oth])→H oth=some (.lst [])→Ctx H S root r pr (d+1) up→Ctx H S root (.inB n us::r) (("else", oth)::("fi", up)::pr) d here
 | inC {n:Int} {b us:List Stp} {r:List Frm} {pr:List (Str × Addr)} {d:Nat} {here up t bq:Addr} {as:List Addr}:H up=some (.lst (as.map V.ref++[.ref t]))→Paired (stpAt (ProgAt S (d+1) H) H) as us→H t=some (.tup [.str "if", .int n,.ref bq,.ref here])→ProgAt S (d+1) H bq b→Ctx H S root r pr (d+1) up→Ctx H S root (.inC n b us::r) (("fi", up)::pr) d here
theorem Ctx.imp{H H':Hp}{S S':Addr→Prop}{root:Addr}(ht:∀ b xs,H b=some (.tup xs)→H' b=some (.tup xs))(hl:∀ b xs,S b→H b=some (.lst xs)→H' b=some (.lst xs))(hS:∀ b,S b→S' b){fs:List Frm}{pr:List (Str × Addr)}{d:Nat}{here:Addr}
  (h:Ctx H S root fs pr d here):(∀ q∈pr,∀ xs,H q.2=some (.lst xs)→H' q.2=some (.lst xs))→Ctx H' S' root fs pr d here:=by
 have st:∀ {d:Nat} {as:List Addr} {us:List Stp},Paired (stpAt (ProgAt S d H) H) as us→Paired (stpAt (ProgAt S' d H') H') as us:=fun {d as us} h=>Paired.imp' (fun a s z=>z.imp ht fun q b y=>y.imp ht hl hS d) h
 induction h with
 | nil=>intro _; exact .nil
 | lend h1 h2 h3 _ ih=>intro hu; exact .lend (hu _ List.mem_cons_self _ h1) (st h2) (ht _ _ h3) (ih fun q hq=>hu q (List.mem_cons_of_mem _ hq))
 | whl h1 h2 h3 _ ih=>intro hu; exact .whl (hu _ List.mem_cons_self _ h1) (st h2) (ht _ _ h3) (ih fun q hq=>hu q (List.mem_cons_of_mem _ hq))
 | inB h1 h2 h3 h4 _ ih=>intro hu; exact .inB (hu _ (List.mem_cons_of_mem _ List.mem_cons_self) _ h1) (st h2) (ht _ _ h3) (hu _ List.mem_cons_self _ h4) (ih fun q hq=>hu q (List.mem_cons_of_mem _ (List.mem_cons_of_mem _ hq)))
 | inC h1 h2 h3 h4 _ ih=>intro hu; exact .inC (hu _ List.mem_cons_self _ h1) (st h2) (ht _ _ h3) (h4.imp ht hl hS _) (ih fun q hq=>hu q (List.mem_cons_of_mem _ hq))
def dk(pr:List (Str × Addr)):Nat:=(pr.filter fun q=>decide (q.1≠("else" : Str))).length
theorem iA{w:Str}(h:w ≠ "else") (a:Addr) (pr:List (Str × Addr)):dk ((w,a)::pr)=dk pr+1:=by
 unfold dk;rw[List.filter_cons,if_pos (by simpa using h)]; rfl
theorem tU(a:Addr)(pr:List (Str × Addr)):dk (("else", a)::pr)=dk pr:=by
 unfold dk;rw[List.filter_cons,if_neg (by simp)]
theorem Ctx.deep{H:Hp}{S:Addr→Prop}{root:Addr}{fs:List Frm}{pr:List (Str × Addr)}{d:Nat}{here:Addr}(h:Ctx H S root fs pr d here):d+fs.length=9∧dk pr=fs.length∧pr.length≤2 * fs.length:=by
 induction h with
 | nil=>exact⟨rfl,rfl,Nat.le_refl _⟩
 | lend _ _ _ _ ih=>obtain⟨a,b,c⟩:=ih; refine⟨by rw[List.length_cons]; omega,by rw[iA (by decide),List.length_cons]; omega,by simp only[List.length_cons]; omega⟩
 | whl _ _ _ _ ih=>obtain⟨a,b,c⟩:=ih; refine⟨by rw[List.length_cons]; omega,by rw[iA (by decide),List.length_cons]; omega,by simp only[List.length_cons]; omega⟩
 | inB _ _ _ _ _ ih=>obtain⟨a,b,c⟩:=ih; refine⟨by rw[List.length_cons]; omega,by rw[tU,iA (by decide),List.length_cons]; omega,by simp only[List.length_cons]; omega⟩
 | inC _ _ _ _ _ ih=>obtain⟨a,b,c⟩:=ih; refine⟨by rw[List.length_cons]; omega,by rw[iA (by decide),List.length_cons]; omega,by simp only[List.length_cons]; omega⟩
set_option genInjectivity false in
set_option genSizeOf false in
structure BS where
 cur:List Stp
 stk:List Frm
 L:List Str
 left:Int
 lends:Int
def eU(st:BS):BS:=match st.stk with
 | []=>st
 | .lend x y up::r=>{ st with cur:=up++[.lend x y st.cur],stk:=r,L:=st.L++[("back" : Str)] }
 | .whl n up::r=>{ st with cur:=up++[.whl n st.cur],stk:=r,L:=st.L++[("done" : Str)] }
 | .inB n up::r=>{ st with cur:=[],stk:=.inC n st.cur up::r,L:=st.L++[("else" : Str)] }
 | .inC n b up::r=>{ st with cur:=up++[.ite n b st.cur],stk:=r,L:=st.L++[("fi" : Str)] }
def eS:List Frm→Nat→List Str
 | [],_=>[]
 | .lend x y up::r,d=>eS r (d+1)++bV (d+2) up++[Txt.join " " ["lend", x,y]]
 | .whl n up::r,d=>eS r (d+1)++bV (d+2) up++[Txt.join " " ["while", cw n]]
 | .inB n up::r,d=>eS r (d+1)++bV (d+2) up++[Txt.join " " ["if", cw n]]
 | .inC n b up::r,d=>eS r (d+1)++bV (d+2) up++[Txt.join " " ["if", cw n]]++bV (d+1) b++[("else" : Str)]
def t7:List Frm→Nat→Prop
 | [],_=>True
 | .lend x y up::r,d=>x.length≤20∧y.length≤20∧dE (d+2) up∧t7 r (d+1)
 | .whl n up::r,d=>n.natAbs.log2<1920∧dE (d+2) up∧t7 r (d+1)
 | .inB n up::r,d=>n.natAbs.log2<1920∧dE (d+2) up∧t7 r (d+1)
 | .inC n b up::r,d=>n.natAbs.log2<1920∧dE (d+1) b∧dE (d+2) up∧t7 r (d+1)
def fz:Frm→Nat
 | .lend _ _ up=>up.length
 | .whl _ up=>up.length
 | .inB _ up=>up.length
 | .inC _ _ up=>up.length
structure gY (st:BS) (d:Nat):Prop where
 dep:d+st.stk.length=9
 lines:st.L=eS st.stk d++bV (d+1) st.cur
 ok:dE (d+1) st.cur
 okf:t7 st.stk d
 size:st.cur.length+(st.stk.map fz).sum≤st.L.length
theorem ly(d:Nat)(T U:List Stp):bV (d+1) (T++U)=bV (d+1) T++bV (d+1) U:=by show List.flatMap _ _=_; rw[List.flatMap_append]; rfl
theorem lz{d:Nat}{T U:List Stp}(h:dE (d+1) T)(h':dE (d+1) U):dE (d+1) (T++U):=fun s hs=>(List.mem_append.mp hs).elim (h s) (h' s)
theorem li{d:Nat}{s:Stp}(h:p0 (dE d) s):dE (d+1) [s]:=fun u hu=>by rw[List.mem_singleton.mp hu]; exact h
theorem Ck{st:BS}{d:Nat}(h:gY st d)(hne:st.stk≠[]):∃ d',gY (eU st) d':=by
 obtain⟨cur,stk,L,left,lends⟩:=st
 obtain⟨h1,h2,h3,h4,h5⟩:=h
 dsimp only at h1 h2 h3 h4 h5 hne
 cases stk with
 | nil=>exact absurd rfl hne
 | cons f r=>
  rw[List.map_cons,List.sum_cons]at h5
  rw[List.length_cons]at h1
  cases f with
  | lend x y up=>
   obtain⟨k1,k2,k3,k4⟩:=h4
   refine⟨d+1,⟨by show d+1+r.length=9; omega,?_,lz k3 (li ⟨k1,k2,h3⟩),k4,?_⟩⟩
   ·show L++[("back" : Str)]=eS r (d+1)++bV (d+2) (up++[.lend x y cur])
    rw[ly,h2];simp[eS,bV,bM,List.append_assoc]
   ·show (up++[Stp.lend x y cur]).length+(r.map fz).sum≤(L++[("back" : Str)]).length
    simp only[List.length_append,List.length_cons,List.length_nil]
    have:fz (.lend x y up)=up.length:=rfl
    omega
  | whl n up=>
   obtain⟨k1,k3,k4⟩:=h4
   refine⟨d+1,⟨by show d+1+r.length=9; omega,?_,lz k3 (li ⟨k1,h3⟩),k4,?_⟩⟩
   ·show L++[("done" : Str)]=eS r (d+1)++bV (d+2) (up++[.whl n cur])
    rw[ly,h2];simp[eS,bV,bM,List.append_assoc]
   ·show (up++[Stp.whl n cur]).length+(r.map fz).sum≤(L++[("done" : Str)]).length
    simp only[List.length_append,List.length_cons,List.length_nil]
    have:fz (.whl n up)=up.length:=rfl
    omega
  | inB n up=>
   obtain⟨k1,k3,k4⟩:=h4
   refine⟨d,⟨by show d+(r.length+1)=9; omega,?_,fun s hs=>absurd hs (by show ¬ s∈([]:List Stp); simp),⟨k1,h3,k3,k4⟩,?_⟩⟩
   ·show L++[("else" : Str)]=eS (.inC n cur up::r) d++bV (d+1) []
    rw[h2];simp[eS,bV,List.append_assoc]
   ·show 0+(((Frm.inC n cur up)::r).map fz).sum≤(L++[("else" : Str)]).length
    rw[List.map_cons,List.sum_cons];simp only[List.length_append,List.length_cons,List.length_nil]
    have:fz (.inC n cur up)=up.length:=rfl
    have:fz (.inB n up)=up.length:=rfl
    omega
  | inC n b up=>
   obtain⟨k1,k2,k3,k4⟩:=h4
   refine⟨d+1,⟨by show d+1+r.length=9; omega,?_,lz k3 (li ⟨k1,k2,h3⟩),k4,?_⟩⟩
   ·show L++[("fi" : Str)]=eS r (d+1)++bV (d+2) (up++[.ite n b cur])
    rw[ly,h2];simp[eS,bV,bM,List.append_assoc]
   ·show (up++[Stp.ite n b cur]).length+(r.map fz).sum≤(L++[("fi" : Str)]).length
    simp only[List.length_append,List.length_cons,List.length_nil]
    have:fz (.inC n b up)=up.length:=rfl
    omega
def h9(H:Hp)(e:Addr)(q:Str × Addr):Prop:=H e=some (.tup [.str q.1,.ref q.2])
structure BInv (H0 H:Hp) (root lp pp here:Addr) (st:BS) (d:Nat) (pr:List (Str × Addr)) (S:Addr→Prop) (as es:List Addr):Prop where
 ctx:Ctx H S root st.stk pr d here
 pile:H pp=some (.lst (es.map V.ref))
 ents:Paired (h9 H) es pr.reverse
 cur:H here=some (.lst (as.map V.ref))
 steps:Paired (stpAt (ProgAt S d H) H) as st.cur
 lines:H lp=some (.lst (st.L.map V.str))
 nd:(here::pr.map (·.2)).Nodup
 apart:∀ a∈here::pr.map (·.2),¬ S a∧a≠lp∧a≠pp∧H0 a=none∧∃ xs,H a=some (.lst xs)
 lpp:lp≠pp
 off:¬ S lp∧¬ S pp∧H0 lp=none∧H0 pp=none
 sin:∀ b,S b→∃ xs,H b=some (.lst xs)
 sm:Same H0 H
section
variable{H0 H H':Hp}{root lp pp here:Addr}{st:BS}{d:Nat}{pr:List (Str × Addr)}{S:Addr→Prop}{as es:List Addr}
theorem BInv.fr(I:BInv H0 H root lp pp here st d pr S as es)(fr:∀ b o,H b=some o→b≠here→b≠pp→b≠lp→H' b=some o) :
  (∀ b xs,H b=some (.tup xs)→H' b=some (.tup xs))∧(∀ b xs,S b→H b=some (.lst xs)→H' b=some (.lst xs))∧(∀ q∈pr,∀ xs,H q.2=some (.lst xs)→H' q.2=some (.lst xs))∧Same H0 H':=by
 have hh:=I.apart here List.mem_cons_self;refine⟨fun b xs e=>fr b _ e ?_ ?_ ?_,fun b xs hs e=>fr b _ e ?_ ?_ ?_,fun q hq xs e=>fr _ _ e ?_ ?_ ?_,fun b o e=>fr b o (I.sm b o e) ?_ ?_ ?_⟩
 ·rintro rfl; rw[I.cur]at e; cases e
 ·rintro rfl; rw[I.pile]at e; cases e
 ·rintro rfl; rw[I.lines]at e; cases e
 ·rintro rfl; exact hh.1 hs
 ·rintro rfl; exact I.off.2.1 hs
 ·rintro rfl; exact I.off.1 hs
 ·intro z
  have:=(List.nodup_cons.mp I.nd).1
  exact this (z ▸ List.mem_map_of_mem hq)
 ·exact(I.apart _ (List.mem_cons_of_mem _ (List.mem_map_of_mem hq))).2.2.1
 ·exact(I.apart _ (List.mem_cons_of_mem _ (List.mem_map_of_mem hq))).2.1
 ·rintro rfl; rw[hh.2.2.2.1]at e; cases e
 ·rintro rfl; rw[I.off.2.2.2]at e; cases e
 ·rintro rfl; rw[I.off.2.2.1]at e; cases e
theorem BInv.new(I:BInv H0 H root lp pp here st d pr S as es){a:Addr}(ha:H a=none):a≠lp∧a≠pp∧¬ S a∧H0 a=none∧a∉here::pr.map (·.2):=by
 refine⟨?_,?_,fun z=>?_,I.sm.free ha,fun z=>?_⟩
 ·rintro rfl; rw[I.lines]at ha; cases ha
 ·rintro rfl; rw[I.pile]at ha; cases ha
 ·obtain⟨xs,e⟩:=I.sin a z; rw[ha]at e; cases e
 ·obtain⟨_,_,_,_,xs,e⟩:=I.apart a z; rw[ha]at e; cases e
theorem BInv.alloc(I:BInv H0 H root lp pp here st d pr S as es)(sm:Same H H'):BInv H0 H' root lp pp here st d pr S as es:=
 ⟨I.ctx.imp (fun b xs e=>sm _ _ e) (fun b xs _ e=>sm _ _ e) (fun _ z=>z) (fun q _ xs e=>sm _ _ e),sm _ _ I.pile,Paired.imp' (fun e q z=>sm _ _ z) I.ents,sm _ _ I.cur,Paired.imp' (fun a s z=>z.imp (fun b xs e=>sm _ _ e) fun q b y=>y.mono sm) I.steps,sm _ _ I.lines,I.nd,
  fun a ha=>let ⟨z1,z2,z3,z4,xs,z5⟩:=I.apart a ha; ⟨z1,z2,z3,z4,xs,sm _ _ z5⟩,I.lpp,I.off,fun b hb=>let ⟨xs,e⟩:=I.sin b hb; ⟨xs,sm _ _ e⟩,I.sm.trans sm⟩
theorem BInv.plain(I:BInv H0 H root lp pp here st d pr S as es)(fr:∀ b o,H b=some o→b≠here→b≠pp→b≠lp→H' b=some o){t:Addr}{ws:List Str}{L':List Str}(hh:H' here=some (.lst ((as++[t]).map V.ref)))(ht:H' t=some (.tup (ws.map V.str)))
  (hl:H' lp=some (.lst (L'.map V.str))) (hp:H' pp=some (.lst (es.map V.ref))) {lf ld:Int}:BInv H0 H' root lp pp here ⟨st.cur++[.plain ws],st.stk,L',lf,ld⟩ d pr S (as++[t]) es:=by
 obtain⟨f1,f2,f3,f4⟩:=I.fr fr
 refine⟨I.ctx.imp f1 f2 (fun _ z=>z) f3,hp,Paired.imp' (fun e q z=>f1 _ _ z) I.ents,hh,ck (R:=stpAt (ProgAt S d H') H') (show stpAt _ H' t (.plain ws) from ht) (Paired.imp' (fun a s z=>stpAt.imp f1 (fun q b y=>ProgAt.imp f1 f2 (fun _ z=>z) d y) z) I.steps),hl,I.nd,fun a ha=>?_,I.lpp,I.off,fun b hb=>let ⟨xs,e⟩:=I.sin b hb; ⟨xs,f2 _ _ hb e⟩,f4⟩
 obtain⟨z1,z2,z3,z4,xs,z5⟩:=I.apart a ha
 refine⟨z1,z2,z3,z4,?_⟩
 rcases List.mem_cons.mp ha with rfl | ha
 ·exact⟨_,hh⟩
 ·obtain⟨q,hq,rfl⟩:=List.mem_map.mp ha
  exact⟨xs,f3 q hq _ z5⟩
theorem BInv.open1(I:BInv H0 H root lp pp here st (d+1) pr S as es)(fr:∀ b o,H b=some o→b≠here→b≠pp→b≠lp→H' b=some o){t e inner:Addr}{word:Str}{L':List Str}{f:Frm}(hh:H' here=some (.lst ((as++[t]).map V.ref)))(hin:H inner=none)(hi:H' inner=some (.lst []))
  (hl:H' lp=some (.lst (L'.map V.str))) (hp:H' pp=some (.lst ((es++[e]).map V.ref))) (he:H' e=some (.tup [.str word,.ref here]))
  (hc:Ctx H' S root st.stk pr (d+1) here→Paired (stpAt (ProgAt S (d+1) H') H') as st.cur→Ctx H' S root (f::st.stk) ((word,here)::pr) d inner) {lf ld:Int} :
  BInv H0 H' root lp pp inner ⟨[],f::st.stk,L',lf,ld⟩ d ((word,here)::pr) S [] (es++[e]):=by
 obtain⟨f1,f2,f3,f4⟩:=I.fr fr
 obtain⟨n1,n2,n3,n4,n5⟩:=I.new hin
 refine⟨hc (I.ctx.imp f1 f2 (fun _ z=>z) f3) (Paired.imp' (fun a s z=>z.imp f1 fun q b y=>y.imp f1 f2 (fun _ z=>z) _) I.steps),hp,?_,hi,.nil,hl,?_,fun a ha=>?_,I.lpp,I.off,fun b hb=>let ⟨xs,e⟩:=I.sin b hb; ⟨xs,f2 _ _ hb e⟩,f4⟩
 ·rw[List.reverse_cons]
  exact ck (R:=h9 H') (show h9 H' e (word,here) from he) (Paired.imp' (fun e q z=>f1 _ _ z) I.ents)
 ·rw[List.map_cons]
  exact List.nodup_cons.mpr ⟨n5,I.nd⟩
 ·rw[List.map_cons]at ha
  rcases List.mem_cons.mp ha with rfl | ha
  ·exact⟨n3,n1,n2,n4,_,hi⟩
  obtain⟨z1,z2,z3,z4,xs,z5⟩:=I.apart a ha
  refine⟨z1,z2,z3,z4,?_⟩
  rcases List.mem_cons.mp ha with rfl | ha
  ·exact⟨_,hh⟩
  ·obtain⟨q,hq,rfl⟩:=List.mem_map.mp ha
   exact⟨xs,f3 q hq _ z5⟩
theorem BInv.open2(I:BInv H0 H root lp pp here st (d+1) pr S as es)(fr:∀ b o,H b=some o→b≠here→b≠pp→b≠lp→H' b=some o){t e e2 inner oth:Addr}{L':List Str}{n:Int}(hh:H' here=some (.lst ((as++[t]).map V.ref)))(hin:H inner=none)(hi:H' inner=some (.lst []))(hon:H oth=none)(ho:H' oth=some (.lst []))(hio:inner≠oth)
  (hl:H' lp=some (.lst (L'.map V.str))) (hp:H' pp=some (.lst ((es++[e,e2]).map V.ref))) (he:H' e=some (.tup [.str "fi", .ref here])) (he2:H' e2=some (.tup [.str "else", .ref oth])) (ht:H' t=some (.tup [.str "if", .int n,.ref inner,.ref oth])) {lf ld:Int} :
  BInv H0 H' root lp pp inner ⟨[],.inB n st.cur::st.stk,L',lf,ld⟩ d (("else", oth)::("fi", here)::pr) S [] (es++[e,e2]):=by
 obtain⟨f1,f2,f3,f4⟩:=I.fr fr
 obtain⟨n1,n2,n3,n4,n5⟩:=I.new hin
 obtain⟨m1,m2,m3,m4,m5⟩:=I.new hon
 refine⟨.inB (by rw[hh,List.map_append]; rfl) (Paired.imp' (fun a s z=>z.imp f1 fun q b y=>y.imp f1 f2 (fun _ z=>z) _) I.steps) ht ho (I.ctx.imp f1 f2 (fun _ z=>z) f3),hp,?_,hi,.nil,hl,?_,fun a ha=>?_,I.lpp,I.off,fun b hb=>let ⟨xs,e⟩:=I.sin b hb; ⟨xs,f2 _ _ hb e⟩,f4⟩
 ·rw[List.reverse_cons,List.reverse_cons,show es++[e,e2]=(es++[e])++[e2] by simp]
  exact ck (R:=h9 H') (show h9 H' e2 ("else", oth) from he2) (ck (R:=h9 H') (show h9 H' e ("fi", here) from he) (Paired.imp' (fun e q z=>f1 _ _ z) I.ents))
 ·rw[List.map_cons,List.map_cons]
  refine List.nodup_cons.mpr ⟨fun z=>?_,List.nodup_cons.mpr ⟨m5,I.nd⟩⟩
  rcases List.mem_cons.mp z with z | z
  ·exact hio z
  ·exact n5 z
 ·rw[List.map_cons,List.map_cons]at ha
  rcases List.mem_cons.mp ha with rfl | ha
  ·exact⟨n3,n1,n2,n4,_,hi⟩
  rcases List.mem_cons.mp ha with rfl | ha
  ·exact⟨m3,m1,m2,m4,_,ho⟩
  obtain⟨z1,z2,z3,z4,xs,z5⟩:=I.apart a ha
  refine⟨z1,z2,z3,z4,?_⟩
  rcases List.mem_cons.mp ha with rfl | ha
  ·exact⟨_,hh⟩
  ·obtain⟨q,hq,rfl⟩:=List.mem_map.mp ha
   exact⟨xs,f3 q hq _ z5⟩
theorem h_{α β : Type}{R:α→β→Prop}{x:α}{y:β}:∀ {xs:List α} {ys:List β},Paired R (xs++[x]) (ys++[y])→Paired R xs ys∧R x y
 | [],[],.cons h _=>⟨.nil,h⟩
 | [],b::ys,.cons h t=>by have:=aB t; simp at this
 | a::xs,[],.cons h t=>by have:=aB t; simp at this
 | a::xs,b::ys,.cons h t=>let ⟨z1,z2⟩:=h_ t; ⟨.cons h z1,z2⟩
theorem BInv.pop{w:Str}{up e:Addr}{pr':List (Str × Addr)}(I:BInv H0 H root lp pp here st d ((w,up)::pr') S as (es++[e]))(fr:∀ b o,H b=some o→b≠pp→b≠lp→H' b=some o)(hp:H' pp=some (.lst (es.map V.ref)))(hl:H' lp=some (.lst ((st.L++[w]).map V.str))) :
  ∃ d' as',BInv H0 H' root lp pp up (eU st) d' pr' (fun b=>S b∨b=here) as' es:=by
 obtain⟨f1,f2,f3,f4⟩:=I.fr fun b o e _ n1 n2=>fr b o e n1 n2
 have hh:=I.apart here List.mem_cons_self;have hcur:H' here=some (.lst (as.map V.ref)):=fr _ _ I.cur hh.2.2.1 hh.2.1
 have hS:∀ b,S b→S b∨b=here:=fun b z=>.inl z
 have hents:Paired (h9 H') es pr'.reverse:=by
  have:=I.ents
  rw[List.reverse_cons]at this
  exact Paired.imp' (fun e q z=>f1 _ _ z) (h_ this).1
 have hnd:=I.nd;rw[List.map_cons]at hnd
 have hnd2:=(List.nodup_cons.mp hnd).2;have hnh:=(List.nodup_cons.mp hnd).1
 have hap:∀ a∈up::pr'.map (·.2),¬ (S a∨a=here)∧a≠lp∧a≠pp∧H0 a=none∧∃ xs,H' a=some (.lst xs):=fun a ha=>by
  obtain⟨z1,z2,z3,z4,xs,z5⟩:=I.apart a (by rw[List.map_cons]; exact List.mem_cons_of_mem _ ha)
  refine⟨fun z=>z.elim z1 fun z=>hnh (z ▸ ha),z2,z3,z4,xs,fr _ _ z5 z3 z2⟩
 have hoff:¬ (S lp∨lp=here)∧¬ (S pp∨pp=here)∧H0 lp=none∧H0 pp=none:=⟨fun z=>z.elim I.off.1 fun z=>hh.2.1 z.symm,fun z=>z.elim I.off.2.1 fun z=>hh.2.2.1 z.symm,I.off.2.2⟩
 have hsin:∀ b,S b∨b=here→∃ xs,H' b=some (.lst xs):=fun b z=>by
  rcases z with z | rfl
  ·obtain⟨xs,e⟩:=I.sin b z; exact⟨xs,f2 _ _ z e⟩
  ·exact⟨_,hcur⟩
 have hst:∀ {d:Nat} {as:List Addr} {us:List Stp},Paired (stpAt (ProgAt S d H) H) as us→Paired (stpAt (ProgAt (fun b=>S b∨b=here) d H') H') as us:=fun {d as us} h=>Paired.imp' (fun a s z=>stpAt.imp f1 (fun q b y=>ProgAt.imp f1 f2 hS d y) z) h
 have hprog:∀ d',d'=d→ProgAt (fun b=>S b∨b=here) (d'+1) H' here st.cur:=fun d' e=>by subst e; exact⟨.inr rfl,as,hcur,hst I.steps⟩
 have f3':∀ q∈pr',∀ xs,H q.2=some (.lst xs)→H' q.2=some (.lst xs):=fun q hq=>f3 q (List.mem_cons_of_mem _ hq)
 have hup:∀ xs,H up=some (.lst xs)→H' up=some (.lst xs):=fun xs=>f3 (w,up) List.mem_cons_self xs
 have hctx:=I.ctx;have hsm:=f4;have hlpp:=I.lpp;clear I;obtain⟨cur,stk,L,left,lends⟩:=st
 dsimp only at hctx hl hprog
 cases hctx with
 | @lend x y us r _ _ _ _ t aus h1 h2 h3 h4=>
  refine⟨d+1,aus++[t],⟨h4.imp f1 f2 hS f3',hp,hents,by rw[hup _ h1,List.map_append]; rfl,?_,hl,hnd2,hap,hlpp,hoff,hsin,hsm⟩⟩
  exact ck (R:=stpAt (ProgAt (fun b=>S b∨b=here) (d+1) H') H') (x:=t) (y:=.lend x y cur) ⟨here,f1 _ _ h3,hprog d rfl⟩ (hst h2)
 | @whl n us r _ _ _ _ t aus h1 h2 h3 h4=>
  refine⟨d+1,aus++[t],⟨h4.imp f1 f2 hS f3',hp,hents,by rw[hup _ h1,List.map_append]; rfl,?_,hl,hnd2,hap,hlpp,hoff,hsin,hsm⟩⟩
  exact ck (R:=stpAt (ProgAt (fun b=>S b∨b=here) (d+1) H') H') (x:=t) (y:=.whl n cur) ⟨here,f1 _ _ h3,hprog d rfl⟩ (hst h2)
 | @inB n us r pr2 _ _ up2 t _ aus h1 h2 h3 h4 h5=>
  refine⟨d,[],⟨.inC (f3' (_,up2) List.mem_cons_self _ h1) (hst h2) (f1 _ _ h3) (hprog d rfl) (h5.imp f1 f2 hS fun q hq=>f3' q (List.mem_cons_of_mem _ hq)),hp,hents,hup _ h4,.nil,hl,hnd2,hap,hlpp,hoff,hsin,hsm⟩⟩
 | @inC n b us r _ _ _ _ t bq aus h1 h2 h3 h4 h5=>
  refine⟨d+1,aus++[t],⟨h5.imp f1 f2 hS f3',hp,hents,by rw[hup _ h1,List.map_append]; rfl,?_,hl,hnd2,hap,hlpp,hoff,hsin,hsm⟩⟩
  exact ck (R:=stpAt (ProgAt (fun b=>S b∨b=here) (d+1) H') H') (x:=t) (y:=.ite n b cur) ⟨bq,here,f1 _ _ h3,h4.imp f1 f2 hS _,hprog d rfl⟩ (hst h2)
theorem BInv.line(I:BInv H0 H root lp pp here st d pr S as es)(L':List Str){lf ld:Int}:BInv H0 (upd H lp (.lst (L'.map V.str))) root lp pp here ⟨st.cur,st.stk,L',lf,ld⟩ d pr S as es:=by
 obtain⟨_,hhl,hhp,_,_⟩:=I.apart here List.mem_cons_self
 have fr:∀ b o,H b=some o→b≠lp→upd H lp (.lst (L'.map V.str)) b=some o:=fun b o e n=>by rw[ai n]; exact e
 obtain⟨f1,f2,f3,f4⟩:=I.fr (H':=upd H lp (.lst (L'.map V.str))) fun b o e _ _ n=>fr b o e n
 refine⟨I.ctx.imp f1 f2 (fun _ z=>z) f3,fr _ _ I.pile (Ne.symm I.lpp),Paired.imp' (fun e q z=>f1 _ _ z) I.ents,fr _ _ I.cur hhl,Paired.imp' (fun a s z=>stpAt.imp f1 (fun q b y=>ProgAt.imp f1 f2 (fun _ z=>z) d y) z) I.steps,ah,I.nd,fun a ha=>?_,I.lpp,I.off,fun b hb=>let ⟨xs,e⟩:=I.sin b hb; ⟨xs,f2 _ _ hb e⟩,f4⟩
 obtain⟨z1,z2,z3,z4,xs,z5⟩:=I.apart a ha
 exact⟨z1,z2,z3,z4,xs,fr _ _ z5 z2⟩
end
section
variable{P:Program}{w:World}{K:PySem.W.Frag}{mg:Str→Option Value}{base:Heap}
theorem ki{ss:List Str}{z:Int}{n:Nat}(h0:1≤z)(h1:z≤n)(hn:ss.length=n)(hb:∀ x∈ss,x.length≤20):1≤(ss.take z.toNat).length∧((ss.take z.toNat).length:Int)=z∧∀ x∈ss.take z.toNat,x.length≤20:=by
 refine⟨?_,?_,fun x hx=>hb x (List.mem_of_mem_take hx)⟩ <;> rw[List.length_take] <;> omega
theorem jp{x:Str}{lo hi:Option Int}{P:Nat→Prop}(h:∀ c∈x.cps.toList,P c):∀ c∈(Txt.slice x lo hi).cps.toList,P c:=fun c hc=>by
 rw[xH]at hc
 exact h c (List.mem_of_mem_drop (List.mem_of_mem_take hc))
theorem tR{x:Str}(h:∀ c∈x.cps.toList,c∈letters.cps.toList):32∉x.cps.toList:=fun z=>absurd (h 32 z) (by decide)
def kW(z:Int):Nat:=letters.cps.toList.getD (z % 26).toNat 0
theorem iH(z:Int):letters.length≤sizeLine∧eY letters.cps.toList (z % 26)=some (kW z)∧kW z∈letters.cps.toList:=by
 obtain⟨c,h1,h2,h3⟩:=xJ z
 have hz:(z % 26).toNat<letters.cps.toList.length:=by show (z % 26).toNat<26; omega
 have q:=aR (List.getElem?_eq_getElem hz);rw[show (((z % 26).toNat:Nat):Int)=z % 26 by omega,h2]at q
 have e:kW z=c:=by
  unfold kW;rw[List.getD_eq_getElem?_getD,List.getElem?_eq_getElem hz];exact(Option.some.inj q).symm
 rw[e];exact⟨h1,h2,h3⟩
def iP(c:Int)(k:Nat):Nat:=kW (c / (0+(k:Int)+1)+(0+(k:Int)) * (0+(k:Int)) * c)
def iF(c:Int):Str:=Txt.join "" (((List.range 8).map (iP c)).map fun c=>(⟨#[c]⟩ : Str))
def A5(c:Int)(k:Nat):Str:=Txt.slice (iF c) none (some (c / 32 % (1+c / 4 % 8)))++(⟨#[kW (c / 256+9 * (0+(k:Int)))]⟩ : Str)++Txt.slice (iF c) (some (c / 32 % (1+c / 4 % 8)+1)) (some (1+c / 4 % 8))
def g_(c:Int):List Str:=if c % 4=1 then (["open", "lend", "back", "end"]:List Str).take (1+c / 3 % 4).toNat
 else if c % 4=2 then [Txt.slice (iF c) none (some 2),Txt.slice (iF c) none (some 3),Txt.slice (iF c) none (some 8),Txt.slice (iF c) none (some 7)].take (1+c / 3 % 4).toNat
 else (List.range (1+c / 3 % 4).toNat).map (A5 c)
def qJ:Sp:=fun vs H Q _=>∃ c:Int,vs=[.int c]∧∀ (L:Addr) (H':Hp),Same H H'→H L=none→H' L=some (.lst ((g_ c).map V.str))→1≤(g_ c).length→(g_ c).length≤7→(∀ x∈g_ c,x.length≤20)→(∀ x∈g_ c,32∉x.cps.toList)→Q (.ref L) H'
theorem Ar(D:DefAt K mg "_law_names" aJ) (z_range:mg "range" = none):aK P w K mg base 1 "_law_names" ["_law_cell"] qJ:=by
 refine D.cal sc_law_names (fun _ _ _ _ _ _ us hl=>match us,hl with | [_],_=>rfl) (fun vs H Q E h=>by obtain⟨c,rfl,_⟩:=h; rfl) (fun f cdv A outer s H vs Q E hr h=>?_)
 obtain⟨c,rfl,q0⟩:=h
 have q:∀ (L:Addr) (H':Hp) (ns:List Str),ns=g_ c→Same H H'→H L=none→H' L=some (.lst (ns.map V.str))→1≤ns.length→ns.length≤7→(∀ x∈ns,x.length≤20)→(∀ x∈ns,32∉x.cps.toList)→Q (.ref L) H':=fun L H' ns e=>by subst e; exact q0 L H'
 refine⟨_,(ae (aw 1 sc_law_names.nd au (hx:=Ia))
   (ae (aw 2 sc_law_names.nd (bb K PySem.F.plainAttrs_str PySem.F.slot_str_join PySem.F.type_str_join (qZ K) au (aa (gL (CompSc.to (fsc:=(defScope aJ)) (N:=["_law_cell", "_law_letters", "_law_base", "_law_many", "_law_size", "_law_at", "_law_found", "_law_k", "_law_sign"]) (N0:=["_law_cell", "_law_letters", "_law_base", "_law_many", "_law_size", "_law_at", "_law_found", "_law_k'", "_law_sign"]) (T:=["_law_k"]) ⟨by decide +kernel,by decide +kernel,by decide +kernel,by decide +kernel,by decide +kernel,by decide +kernel,by decide +kernel⟩ rfl rfl) rfl (jg D5 z_range (aa af ac)) (fun _ _ _ _=>(bj 9 (show (["_law_cell", "_law_letters", "_law_base", "_law_many", "_law_size", "_law_at", "_law_found", "_law_k'", "_law_sign", "_law_k"]:List Str).Nodup from by decide +kernel) (hx:=(kQ (defScope aJ) (by decide +kernel))) (hf:=qa (defScope aJ) (by decide +kernel)))) (fB (show (["_law_cell", "_law_letters", "_law_base", "_law_many", "_law_size", "_law_at", "_law_found", "_law_k", "_law_sign"]:List Str).length≤9 from by decide)) (fun _ _ _ _=>kK) (fun _ _ _ _=>(ax (aG K) (pv 1 (hv:=(fD (defScope aJ) (by decide +kernel)))) (ao bK (ao aD (ao gg (pv 0 (hv:=(fD (defScope aJ) (by decide +kernel)))) (ao aD (pv 9 (hv:=(fD (defScope aJ) (by decide +kernel)))) af)) (ao eQ (ao eQ (pv 9 (hv:=(fD (defScope aJ) (by decide +kernel)))) (pv 9 (hv:=(fD (defScope aJ) (by decide +kernel))))) (pv 0 (hv:=(fD (defScope aJ) (by decide +kernel)))))) af) (fun _ _=>rfl)))) ac)))
   (ae (aw 3 sc_law_names.nd (ao aD af (ao bK (ao gg (pv 0 (hv:=mR)) af) af)))
   (ae (a_ (aC bD (ao bK (pv 0 (hv:=mR)) af) af (aH _)) (ak (aE (b_ (fb K) (bi (aa au (aa au (aa au (aa au ac))))) cQ (ci (pv 3))))) bt)
   (ae (a_ (aC bD (ao bK (pv 0 (hv:=mR)) af) af (aH _)) (ak (aE (b_ (fb K) (bi (aa (b_ iw (pv 2) cQ (ci af)) (aa (b_ iw (pv 2) cQ (ci af)) (aa (b_ iw (pv 2) cQ (ci af)) (aa (b_ iw (pv 2) cQ (ci af)) ac))))) cQ (ci (pv 3))))) bt)
   (ae (aw 4 sc_law_names.nd (ao aD af (ao bK (ao gg (pv 0 (hv:=mR)) af) af)))
   (ae (aw 5 sc_law_names.nd (ao bK (ao gg (pv 0 (hv:=mR)) af) (pv 4)))
   (ae (aw 6 sc_law_names.nd (bi ac))
   (ae (cC PassesOwn.never rfl (jg D5 z_range (aa (pv 3) ac)) (bj 7 sc_law_names.nd) (ae (aw 8 sc_law_names.nd (ax (aG K) (pv 1 (hv:=JC)) (ao bK (ao aD (ao gg (pv 0 (hv:=mR)) af) (ao eQ af (pv 7))) af) (fun _ _=>rfl)))
   (ak (ay (bb K PySem.F.plainAttrs_list PySem.F.slot_list_append PySem.F.type_list_append aS (pv 6) (aa (ao aD (ao aD (b_ iw (pv 2) cQ (ci (pv 5))) (pv 8)) (b_ iw (pv 2) (ci (ao aD (pv 5) af)) (ci (pv 4)))) ac))))))
   (ak (aE (pv 6)))))))))))),?_⟩
 walk_at "rd1";walk_at "nx";refine⟨by decide,by decide,fun C hC=>?_⟩
 refine sf (fun i ys H'=>Same H H'∧H' C=some (.lst ys)∧ys=((List.range i).map (iP c)).map (fun c=>V.str ⟨#[c]⟩)) ⟨al hC _,ah,rfl⟩ ?_ ?_
 ·rintro i ys H' hi ⟨sm,hl,rfl⟩
  have hi8:i<8:=hi
  walk_at "rd1";obtain⟨z1,z2,z3⟩:=iH (c / (0+(i:Int)+1)+(0+(i:Int)) * (0+(i:Int)) * c)
  have h49:(0+(i:Int)) * (0+(i:Int))≤49:=by
   have:=Nat.mul_le_mul (show i≤7 by omega) (show i≤7 by omega)
   have e:(0+(i:Int)) * (0+(i:Int))=((i * i:Nat):Int):=by rw[Int.zero_add]; push_cast; rfl
   rw[e]; omega
  have h0:0≤(0+(i:Int)) * (0+(i:Int)):=Int.mul_nonneg (by omega) (by omega)
  refine⟨⟨by omega,by omega⟩,.inl ⟨by omega,by omega⟩,.inl ⟨by omega,by omega⟩,by decide,_,z1,z2,?_⟩
  refine uW hi (by simp) (bo (by show 8≤1000000; decide)) hl ⟨sm.upd hC _,ah,by rw[List.range_succ,List.map_append,List.map_append]; rfl⟩
 ·rintro ys H1 ⟨sm1,hl1,rfl⟩
  have hlt:∀ d∈(List.range 8).map (iP c),d∈letters.cps.toList:=fun d hd=>by obtain⟨k,_,rfl⟩:=List.mem_map.mp hd; exact(iH _).2.2
  have hn8:((List.range 8).map (iP c)).length=8:=by simp
  have hl1:H1 C=some (.lst (((List.range 8).map (iP c)).map (fun c=>V.str ⟨#[c]⟩))):=hl1
  have hbF:Txt.join "" (((List.range 8).map (iP c)).map fun c=>(⟨#[c]⟩ : Str))=iF c:=rfl
  generalize (List.range 8).map (iP c)=cs at hl1 hlt hn8 hbF ⊢;walk_at "rd1";have hmm:cs.map (fun c=>V.str ⟨#[c]⟩)=(cs.map fun c=>(⟨#[c]⟩ : Str)).map V.str:=by rw[List.map_map]; rfl
  rw[hmm]at hl1
  have h1l:(Str.ofString "").length=0:=by decide
  refine⟨_,SqL.of hl1,?_,?_⟩
  ·rw[h1l]
   have:=gC 1 (cs.map fun c=>(⟨#[c]⟩ : Str)) (fun s hs=>by obtain⟨c,_,rfl⟩:=List.mem_map.mp hs; exact Nat.le_refl _)
   rw[List.length_map]at this ⊢
   omega
  have hbl:(Txt.join "" (cs.map fun c=>(⟨#[c]⟩ : Str))).length=8:=by rw[Ak]; exact hn8
  have hbm:∀ c∈(Txt.join "" (cs.map fun c=>(⟨#[c]⟩ : Str))).cps.toList,c∈letters.cps.toList:=by rw[rN]; exact hlt
  generalize Txt.join "" (cs.map fun c=>(⟨#[c]⟩ : Str))=bs at hbl hbm hbF ⊢
  have bsz:bs.length≤sizeLine:=by rw[hbl]; exact bo (by decide)
  have hsl:∀ l u,(Txt.slice bs l u).length≤8:=fun l u=>hbl ▸ Txt.slice_le bs l u
  walk_at "nx";refine⟨⟨by decide,by decide⟩,by decide,?_⟩
  generalize hmy:1+c / 3 % 4=many
  have m1:1≤many:=by omega
  have m4:many≤4:=by omega
  walk_at "nx";refine⟨by decide,aI (fun c1=>?_) (fun c1=>?_)⟩
  ·refine⟨by decide,fun l hl=>⟨_,SqL.of ah,fun r hr'=>?_⟩⟩
   have sl:=al hl (.lst [V.str "open", .str "lend", .str "back", .str "end"]);obtain⟨t1,t2,t3⟩:=ki (ss:=["open", "lend", "back", "end"]) (n:=4) m1 m4 rfl (by decide)
   exact q r _ _ (by unfold g_; rw[if_pos c1,hmy]) (sm1.trans (sl.trans (al hr' _))) (sm1.free (sl.free hr')) (by rw[ah]; exact congrArg (fun z=>some (HO.lst z)) (rs ["open", "lend", "back", "end"] (by omega))) t1 (by omega) t3 (fun x hx=>(by decide:∀ x∈(["open", "lend", "back", "end"]:List Str),32∉x.cps.toList) x (List.mem_of_mem_take hx))
  walk_at "nx";refine⟨by decide,aI (fun c2=>?_) (fun c2=>?_)⟩
  ·refine⟨bsz,bsz,bsz,bsz,by decide,fun l hl=>⟨_,SqL.of ah,fun r hr'=>?_⟩⟩
   have sl:=al hl (.lst ([Txt.slice bs none (some 2),Txt.slice bs none (some 3),Txt.slice bs none (some 8),Txt.slice bs none (some 7)].map V.str))
   obtain⟨t1,t2,t3⟩:=ki (ss:=[Txt.slice bs none (some 2),Txt.slice bs none (some 3),Txt.slice bs none (some 8),Txt.slice bs none (some 7)]) (n:=4) m1 m4 rfl (by
    intro x hx
    simp only[List.mem_cons,List.mem_nil_iff,or_false]at hx
    rcases hx with rfl | rfl | rfl | rfl <;> exact Nat.le_trans (hsl _ _) (by decide))
   exact q r _ _ (by unfold g_; rw[if_neg c1,if_pos c2,hmy,← hbF]) (sm1.trans (sl.trans (al hr' _))) (sm1.free (sl.free hr')) (by rw[ah]; exact congrArg (fun z=>some (HO.lst z)) (rs [Txt.slice bs none (some 2),Txt.slice bs none (some 3),Txt.slice bs none (some 8),Txt.slice bs none (some 7)] (by omega))) t1 (by omega) t3 (fun x hx=>by
    have hx:=List.mem_of_mem_take hx;simp only[List.mem_cons,List.mem_nil_iff,or_false]at hx
    rcases hx with rfl | rfl | rfl | rfl <;> exact tR (jp hbm))
  walk_at "nx";refine⟨⟨by decide,by decide⟩,by decide,?_⟩
  generalize hsz:1+c / 4 % 8=sz
  have s1:1≤sz:=by omega
  walk_at "nx";refine⟨⟨by decide,by decide⟩,by omega,?_⟩
  generalize hat9:c / 32 % sz=at9
  walk_at "nx";refine⟨by decide,fun fp hfp=>?_⟩
  generalize hH2:upd H1 fp _=H2
  have sm2:=cP hH2 hfp;have e2:=dG hH2;walk_at "nx";refine⟨by omega,by omega,?_⟩
  refine lh (fun i σ H'=>∃ (ss:List Str) (o7 o8:Option V),σ=[some (.int c),some (.str letters),some (.str bs),some (.int many),some (.int sz),some (.int at9),some (.ref fp),o7,o8]∧Same H H'∧H' fp=some (.lst (ss.map V.str))∧ss=(List.range i).map (A5 c)∧ss.length=i∧(∀ x∈ss,x.length≤20)∧∀ x∈ss,32∉x.cps.toList)
   ⟨[],none,none,rfl,sm1.trans sm2,e2,rfl,rfl,by simp,by simp⟩ ?_ ?_
  ·rintro i σ H' hi ⟨ss,o7,o8,rfl,sm,hl,hss,hn',hb,hf⟩
   walk_at "rd1";obtain⟨z1,z2,z3⟩:=iH (c / 256+9 * (0+(i:Int)))
   generalize hc':kW (c / 256+9 * (0+(i:Int)))=c' at z2 z3;have hel:Txt.slice bs none (some at9)++(⟨#[c']⟩ : Str)++Txt.slice bs (some (at9+1)) (some sz)=A5 c i:=by unfold A5; rw[← hbF,hsz,hat9,hc']
   refine⟨⟨by decide,by decide⟩,.inl ⟨by decide,by decide⟩,by decide,c',z1,z2,?_⟩
   walk_at "nx";have l1:=hsl none (some at9);have l2:=hsl (some (at9+1)) (some sz);have la:((Txt.slice bs none (some at9))++(⟨#[c']⟩ : Str)).length≤9:=by rw[zF]; omega
   have lb:((Txt.slice bs none (some at9))++(⟨#[c']⟩ : Str)++Txt.slice bs (some (at9+1)) (some sz)).length≤17:=by rw[Str.length_append]; omega
   refine⟨⟨_,SqL.of hl⟩,bsz,?_,bsz,?_,_,hl,by rw[List.length_map]; exact bG (by omega),?_⟩
   ·rw[Str.length_append]at la; exact bo (by omega)
   ·rw[Str.length_append]at lb; exact bo (by omega)
   refine⟨ss++[_],_,_,rfl,sm.upd (sm1.free hfp) _,by rw[ah,List.map_append]; rfl,by rw[List.range_succ,List.map_append,← hss,hel]; rfl,by simp[hn'],fun x hx=>?_,fun x hx=>?_⟩
   ·rcases List.mem_append.mp hx with z | z
    ·exact hb x z
    ·rw[List.mem_singleton.mp z]; omega
   ·rcases List.mem_append.mp hx with z | z
    ·exact hf x z
    ·rw[List.mem_singleton.mp z]
     refine tR fun d hd=>?_
     rw[fJ,fJ,List.mem_append,List.mem_append]at hd
     rcases hd with (hd | hd) | hd
     ·exact jp hbm d hd
     ·have:d=c':=by simpa using hd
      rw[this]; exact z3
     ·exact jp hbm d hd
  ·rintro σ H' ⟨ss,o7,o8,rfl,sm,hl,hss,hn',hb,hf⟩
   walk_at "nx";exact q fp H' ss (by rw[hss]; unfold g_; rw[if_neg c1,if_neg c2,hmy]) sm (sm1.free hfp) hl (by omega) (by omega) hb hf
def cT(c:Int):Int:=if c * 16807 % 65537 % 4<2 then c / 15 % 9 - 4 else if c * 16807 % 65537 % 4=2 then c % 10 ^ 60 else 0 - c % 10 ^ 60
theorem qM{n:Int}(h:-(10 ^ 61)<n)(h':n<10 ^ 61):n.natAbs.log2<1920:=by
 have hb:n.natAbs<2 ^ 1920:=Nat.lt_of_lt_of_le (show n.natAbs<10 ^ 61 by omega) (by decide)
 by_cases h0:n.natAbs=0
 ·rw[h0]; decide
 ·exact(Nat.log2_lt h0).mpr hb
theorem k_(c:Int):(cT c).natAbs.log2<1920:=by
 unfold cT;split
 ·exact qM (by omega) (by omega)
 split
 ·exact qM (by omega) (by omega)
 ·exact qM (by omega) (by omega)
def t0:Sp:=fun vs H Q _=>∃ c:Int,vs=[.int c]∧Q (.int (cT c)) H
theorem zc(D:DefAt K mg "_law_bound" eL):aK P w K mg base 1 "_law_bound" ["_law_cell"] t0:=by
 refine D.cal sc_law_bound (fun _ _ _ _ _ _ us hl=>match us,hl with | [_],_=>rfl) (fun vs H Q E h=>by obtain⟨c,rfl,_⟩:=h; rfl) (fun f cdv A outer s H vs Q E hr h=>?_)
 obtain⟨c,rfl,q⟩:=h
 refine⟨_,(ae (aw 1 sc_law_bound.nd (ao bK (ao bK (ao eQ (pv 0) af) af) af))
   (ae (a_ (aC jG (pv 1) af (aH _)) (ak (aE (ao fu (ao bK (ao gg (pv 0) af) af) af))) bt)
   (ae (a_ (aC bD (pv 1) af (aH _)) (ak (aE (ao bK (pv 0) (ao lc af af)))) bt)
   (ak (aE (ao fu af (ao bK (pv 0) (ao lc af af)))))))),?_⟩
 unfold cT at q;walk_at "rd1";refine⟨.inr ⟨by decide,by decide⟩,by decide,by decide,?_⟩
 walk_at "nx";refine aI (fun c1=>?_) (fun c1=>?_)
 ·rw[if_pos c1]at q
  exact⟨⟨by decide,by decide⟩,by decide,q⟩
 rw[if_neg c1]at q
 walk_at "nx";refine aI (fun c1=>?_) (fun c1=>?_)
 ·rw[if_pos c1]at q
  exact⟨⟨by decide,by decide,by decide⟩,by decide,q⟩
 rw[if_neg c1]at q
 walk_at "nx";exact⟨⟨by decide,by decide,by decide⟩,by decide,q⟩
abbrev kh:List Str:=["read", "lend", "back", "open", "end", "write"]
def pk(nm:List Str)(z:Int):Str:=nm.getD (z % (nm.length:Int)).toNat ""
theorem fU{nm:List Str}(hn:1≤nm.length)(z:Int):pk nm z∈nm∧eY (nm.map V.str) (z % (nm.length:Int))=some (.str (pk nm z)):=by
 have h0:0≤z % (nm.length:Int):=Int.emod_nonneg _ (by omega)
 have h1:z % (nm.length:Int)<nm.length:=Int.emod_lt_of_pos _ (by omega)
 have hlt:(z % (nm.length:Int)).toNat<nm.length:=by omega
 have e:pk nm z=nm[(z % (nm.length:Int)).toNat]:=by unfold pk; rw[List.getD_eq_getElem?_getD,List.getElem?_eq_getElem hlt]; rfl
 rw[e];exact⟨List.getElem_mem hlt,pY h0 (List.getElem?_eq_getElem hlt)⟩
def xB(nm:List Str)(c:Int):Str:=pk nm (c * 48271 % 1009)
def yB(nm:List Str)(c:Int):Str:=pk nm (c * 69621 % 2003)
def dB(nm:List Str)(c:Int):List Str:=
 if c % 15<3 then ["open", xB nm c] else if c % 15=3 then ["copy", xB nm c,yB nm c] else if c % 15=4 then ["drop", xB nm c] else if c % 15=5 then ["tie", xB nm c,yB nm c] else ["do", pk (kh++nm) (c * 40692 % 4001),xB nm c]
structure NmOk (nm:List Str):Prop where
 n1:1≤nm.length
 n7:nm.length≤7
 len:∀ x∈nm,x.length≤20
theorem NmOk.xl{nm:List Str}(h:NmOk nm)(c:Int):(xB nm c).length≤20:=h.len _ (fU h.n1 _).1
theorem NmOk.yl{nm:List Str}(h:NmOk nm)(c:Int):(yB nm c).length≤20:=h.len _ (fU h.n1 _).1
theorem NmOk.ex{nm:List Str}(h:NmOk nm):1≤(kh++nm).length∧∀ u∈kh++nm,u.length≤20:=by
 refine⟨by rw[List.length_append]; have:=h.n1; omega,fun u hu=>?_⟩
 rcases List.mem_append.mp hu with z | z
 ·exact(by decide:∀ u∈kh,u.length≤20) u z
 ·exact h.len u z
theorem zh{nm:List Str}(h:NmOk nm)(c:Int):hJ (dB nm c):=by
 have xl:=h.xl c;have yl:=h.yl c;have wl:=h.ex.2 _ (fU h.ex.1 (c * 40692 % 4001)).1
 have two:∀ (k:Str),k∈dh→k.length≤20→hJ [k,xB nm c]:=fun k h1 h2=>⟨by simp,by simp,h1,fun z hz=>by
  simp only[List.mem_cons,List.mem_nil_iff,or_false]at hz
  rcases hz with rfl | rfl <;> assumption⟩
 have three:∀ (k u v:Str),k∈dh→k.length≤20→u.length≤20→v.length≤20→hJ [k,u,v]:=fun k u v h1 h2 h3 h4=>⟨by simp,by simp,h1,fun z hz=>by
  simp only[List.mem_cons,List.mem_nil_iff,or_false]at hz
  rcases hz with rfl | rfl | rfl <;> assumption⟩
 unfold dB;split
 ·exact two "open" (by decide) (by decide)
 split
 ·exact three "copy" _ _ (by decide) (by decide) xl yl
 split
 ·exact two "drop" (by decide) (by decide)
 split
 ·exact three "tie" _ _ (by decide) (by decide) xl yl
 ·exact three "do" _ _ (by decide) (by decide) wl xl
def yk:Sp:=fun vs H Q _=>∃ (c:Int) (a:Addr) (nm:List Str),vs=[.int c,.str (xB nm c),.str (yB nm c),.ref a]∧H a=some (.lst (nm.map V.str))∧NmOk nm∧
 ∀ (t:Addr) (H':Hp),Same H H'→H t=none→H' t=some (.tup ((dB nm c).map V.str))→Q (.ref t) H'
theorem CC(D:DefAt K mg "_law_step" cF) (z_len:mg "len" = none):aK P w K mg base 1 "_law_step" ["_law_cell", "_law_x", "_law_y", "_law_names_here"] yk:=by
 refine D.cal sc_law_step (fun _ _ _ _ _ _ us hl=>match us,hl with | [_,_,_,_],_=>rfl) (fun vs H Q E h=>by obtain⟨c,a,ns,rfl,_⟩:=h; rfl) (fun f cdv A outer s H vs Q E hr h=>?_)
 obtain⟨c,a,ns,rfl,ha,ok,q⟩:=h
 obtain⟨n1,n7,hb⟩:=id ok
 refine⟨_,(ae (aw 4 sc_law_step.nd (ao bK (pv 0) af))
   (ae (a_ (aC jG (pv 4) af (aH _)) (ak (aE (bm (aa au (aa (pv 1) ac))))) bt)
   (ae (a_ (aC bD (pv 4) af (aH _)) (ak (aE (bm (aa au (aa (pv 1) (aa (pv 2) ac)))))) bt)
   (ae (a_ (aC bD (pv 4) af (aH _)) (ak (aE (bm (aa au (aa (pv 1) ac))))) bt)
   (ae (a_ (aC bD (pv 4) af (aH _)) (ak (aE (bm (aa au (aa (pv 1) (aa (pv 2) ac)))))) bt)
   (ae (aw 5 sc_law_step.nd (ao aD (bi (aa au (aa au (aa au (aa au (aa au (aa au ac))))))) (pv 3)))
   (ak (aE (bm (aa au (aa (ax (aG K) (pv 5) (ao bK (ao bK (ao eQ (pv 0) af) af) (bF (bh K) z_len cf (aa (pv 5) ac))) (fun _ _=>rfl)) (aa (pv 1) ac)))))))))))),?_⟩
 walk_at "rd1";refine⟨by decide,?_⟩
 unfold dB at q;walk_at "nx";refine aI (fun c1=>?_) (fun c1=>?_)
 ·rw[if_pos c1]at q
  exact⟨by decide,fun p hp=>q p _ (al hp _) hp ah⟩
 rw[if_neg c1]at q
 walk_at "nx";refine aI (fun c1=>?_) (fun c1=>?_)
 ·rw[if_pos c1]at q
  exact⟨by decide,fun p hp=>q p _ (al hp _) hp ah⟩
 rw[if_neg c1]at q
 walk_at "nx";refine aI (fun c1=>?_) (fun c1=>?_)
 ·rw[if_pos c1]at q
  exact⟨by decide,fun p hp=>q p _ (al hp _) hp ah⟩
 rw[if_neg c1]at q
 walk_at "nx";refine aI (fun c1=>?_) (fun c1=>?_)
 ·rw[if_pos c1]at q
  exact⟨by decide,fun p hp=>q p _ (al hp _) hp ah⟩
 rw[if_neg c1]at q
 walk_at "nx";refine⟨by decide,fun p hp=>⟨_,_,ah,by rw[ai (av ha hp)]; exact ha,bo (by rw[List.length_map]; simp only[List.length_cons,List.length_nil]; omega),fun r hr'=>?_⟩⟩
 have sp:=al hp (.lst [V.str "read", .str "lend", .str "back", .str "open", .str "end", .str "write"]);have smr:=sp.trans (al hr' (.lst ([V.str "read", .str "lend", .str "back", .str "open", .str "end", .str "write"]++ns.map V.str)));have er:[V.str "read", .str "lend", .str "back", .str "open", .str "end", .str "write"]++ns.map V.str=(kh++ns).map V.str:=by rw[List.map_append]; rfl
 have hat:upd (upd H p (.lst [V.str "read", .str "lend", .str "back", .str "open", .str "end", .str "write"])) r (.lst ([V.str "read", .str "lend", .str "back", .str "open", .str "end", .str "write"]++ns.map V.str)) r=some (.lst ((kh++ns).map V.str)):=by rw[ah,er]
 generalize upd (upd H p (.lst [V.str "read", .str "lend", .str "back", .str "open", .str "end", .str "write"])) r (.lst ([V.str "read", .str "lend", .str "back", .str "open", .str "end", .str "write"]++ns.map V.str))=H2 at hat smr ⊢;have hwl:=ok.ex.1;generalize kh++ns=wl at hat hwl q ⊢;walk_at "nx";have eu:=(fU hwl (c * 40692 % 4001)).2;refine⟨.inr ⟨by decide,by decide⟩,by decide,_,.inl (SqL.of hat),?_⟩
 rw[List.length_map];walk_at "rd1";refine⟨by omega,_,_,.inl (SqL.of hat),eu,by decide,fun t ht=>?_⟩
 exact q t _ (smr.trans (al ht _)) (smr.free ht) ah
theorem Cb(nm:List Str)(c:Int):dN (dB nm c):=by
 unfold dB;split
 ·exact .op _
 split
 ·exact .cp _ _
 split
 ·exact .dr _
 split
 ·exact .ti _ _
 ·exact .dd _ _
theorem cu{H:Hp}{a b:Addr}{o:HO}(h:upd H a o b=none):b≠a∧H b=none:=by
 have n:b≠a:=fun z=>by rw[z,ah]at h; cases h
 exact⟨n,by rw[ai n]at h; exact h⟩
theorem AV{H1:Hp}{t here e pp lp:Addr}{T L1 E L2 L3:HO}(ht:H1 t=none)(he:H1 e=none)(hht:here≠t)(hpt:pp≠t)(hlt:lp≠t)(e1:e≠here)(e2:e≠t)(e3:e≠pp)(e4:e≠lp)(hhl:here≠lp)(hhp:here≠pp)(hpl:pp≠lp) :
  let H':=upd (upd (upd (upd (upd H1 t T) here L1) e E) pp L2) lp L3
  H' t=some T∧H' here=some L1∧H' e=some E∧H' pp=some L2∧H' lp=some L3∧∀ b o,H1 b=some o→b≠here→b≠pp→b≠lp→H' b=some o:=by
 refine⟨?_,?_,?_,?_,ah,fun b o eb n1 n2 n3=>?_⟩
 ·rw[ai hlt.symm,ai hpt.symm,ai e2.symm,ai hht.symm,ah]
 ·rw[ai hhl,ai hhp,ai e1.symm,ah]
 ·rw[ai e4,ai e3,ah]
 ·rw[ai hpl,ah]
 ·rw[ai n3,ai n2,ai (av eb he),ai n1,ai (av eb ht)]; exact eb
theorem FA{H1:Hp}{t here e e' pp lp:Addr}{T L1 E L2 E' L2' L3:HO}(ht:H1 t=none)(he:H1 e=none)(he':H1 e'=none)(hht:here≠t)(hpt:pp≠t)(hlt:lp≠t)(e1:e≠here)(e2:e≠t)(e3:e≠pp)(e4:e≠lp)(d1:e'≠here)(d2:e'≠t)(d3:e'≠pp)(d4:e'≠lp)(d5:e'≠e)(hhl:here≠lp)(hhp:here≠pp)(hpl:pp≠lp) :
  let H':=upd (upd (upd (upd (upd (upd (upd H1 t T) here L1) e E) pp L2) e' E') pp L2') lp L3
  H' t=some T∧H' here=some L1∧H' e=some E∧H' e'=some E'∧H' pp=some L2'∧H' lp=some L3∧∀ b o,H1 b=some o→b≠here→b≠pp→b≠lp→H' b=some o:=by
 refine⟨?_,?_,?_,?_,?_,ah,fun b o eb n1 n2 n3=>?_⟩
 ·rw[ai hlt.symm,ai hpt.symm,ai d2.symm,ai hpt.symm,ai e2.symm,ai hht.symm,ah]
 ·rw[ai hhl,ai hhp,ai d1.symm,ai hhp,ai e1.symm,ah]
 ·rw[ai e4,ai e3,ai d5.symm,ai e3,ah]
 ·rw[ai d4,ai d3,ah]
 ·rw[ai hpl,ah]
 ·rw[ai n3,ai n2,ai (av eb he'),ai n2,ai (av eb he),ai n1,ai (av eb ht)]; exact eb
theorem FE(x y:Str):Str.ofString "lend " ++ x++Str.ofString " " ++ y=Txt.join " " ["lend", x,y]:=by
 rw[hZ];show _=Str.ofString "lend" ++ Str.ofString " " ++ x++Str.ofString " " ++ y
 rw[show Str.ofString "lend" ++ Str.ofString " " = Str.ofString "lend " from by decide]
theorem E2(n:Int):Str.ofString "while " ++ Str.ofString (toString n)=Txt.join " " ["while", cw n]:=by
 rw[hZ];show _=Str.ofString "while" ++ Str.ofString " " ++ cw n
 rw[show Str.ofString "while" ++ Str.ofString " " = Str.ofString "while " from by decide]; rfl
theorem K5(n:Int):Str.ofString "if " ++ Str.ofString (toString n)=Txt.join " " ["if", cw n]:=by
 rw[hZ];show _=Str.ofString "if" ++ Str.ofString " " ++ cw n
 rw[show Str.ofString "if" ++ Str.ofString " " = Str.ofString "if " from by decide]; rfl
def dI(nm:List Str)(c:Int)(st:BS):BS:=
 if c % 15=9 then ⟨[],.lend (xB nm c) (yB nm c) st.cur::st.stk,st.L++[Txt.join " " ["lend", xB nm c,yB nm c]],st.left,st.lends⟩
 else if c % 15=11 then ⟨[],.whl (cT c) st.cur::st.stk,st.L++[Txt.join " " ["while", cw (cT c)]],st.left,st.lends⟩
 else ⟨[],.inB (cT c) st.cur::st.stk,st.L++[Txt.join " " ["if", cw (cT c)]],st.left,st.lends⟩
def ux:Sp:=fun vs H Q _=>∃ (here pp lp:Addr) (c:Int) (nm:List Str) (H0:Hp) (root:Addr) (st:BS) (d:Nat) (pr:List (Str × Addr)) (S:Addr→Prop) (as es:List Addr),vs=[.ref here,.ref pp,.ref lp,.int c,.str (xB nm c),.str (yB nm c)]∧
 BInv H0 H root lp pp here st (d+1) pr S as es∧NmOk nm∧as.length≤1000∧es.length≤1000∧st.L.length≤1000∧
 ∀ (inner:Addr) (H':Hp) (pr':List (Str × Addr)) (es':List Addr),BInv H0 H' root lp pp inner (dI nm c st) d pr' S [] es'→Q (.ref inner) H'
theorem AL(D:DefAt K mg "_law_begun" bz) (z_len:mg "len" = none) (z_str:mg "str" = none) (c_law_bound:aK P w K mg base 1 "_law_bound" ["_law_cell"] t0):aK P w K mg base 2 "_law_begun" ["_law_here", "_law_pile", "_law_lines", "_law_cell", "_law_x", "_law_y"] ux:=by
 refine D.cal sc_law_begun (fun _ _ _ _ _ _ us hl=>match us,hl with | [_,_,_,_,_,_],_=>rfl) (fun vs H Q E h=>by obtain⟨_,_,_,_,_,_,_,_,_,_,_,_,_,rfl,_⟩:=h; rfl) (fun f cdv A outer s H vs Q E hr h=>?_)
 obtain⟨here,pp,lp,c,nm,H0,root,st,d,pr,S,as,es,rfl,I,ok,ha1,he1,hl1,q⟩:=h
 refine⟨_,(ae (aw 6 sc_law_begun.nd (bi ac))
   (ae (aw 7 sc_law_begun.nd (az c_law_bound hr (aa (pv 3) ac)))
   (ae (a_ (aC bD (ao bK (pv 3) af) af (aH _)) (ae (ay (bb K PySem.F.plainAttrs_list PySem.F.slot_list_append PySem.F.type_list_append aS (pv 0) (aa (bm (aa au (aa (pv 4) (aa (pv 5) (aa (pv 6) ac))))) ac)))
   (ae (ay (bb K PySem.F.plainAttrs_list PySem.F.slot_list_append PySem.F.type_list_append aS (pv 1) (aa (bm (aa au (aa (pv 0) ac))) ac)))
   (ae (ay (bb K PySem.F.plainAttrs_list PySem.F.slot_list_append PySem.F.type_list_append aS (pv 2) (aa (ao aD (ao aD (ao aD au (pv 4)) au) (pv 5)) ac)))
   (ak (aE (pv 6)))))) bt)
   (ae (a_ (aC bD (ao bK (pv 3) af) af (aH _)) (ae (ay (bb K PySem.F.plainAttrs_list PySem.F.slot_list_append PySem.F.type_list_append aS (pv 0) (aa (bm (aa au (aa (pv 7) (aa (pv 6) ac)))) ac)))
   (ae (ay (bb K PySem.F.plainAttrs_list PySem.F.slot_list_append PySem.F.type_list_append aS (pv 1) (aa (bm (aa au (aa (pv 0) ac))) ac)))
   (ae (ay (bb K PySem.F.plainAttrs_list PySem.F.slot_list_append PySem.F.type_list_append aS (pv 2) (aa (ao aD au (eh oj z_str lu (aa (pv 7) ac))) ac)))
   (ak (aE (pv 6)))))) bt)
   (ae (aw 8 sc_law_begun.nd (bi ac))
   (ae (ay (bb K PySem.F.plainAttrs_list PySem.F.slot_list_append PySem.F.type_list_append aS (pv 0) (aa (bm (aa au (aa (pv 7) (aa (pv 6) (aa (pv 8) ac))))) ac)))
   (ae (ay (bb K PySem.F.plainAttrs_list PySem.F.slot_list_append PySem.F.type_list_append aS (pv 1) (aa (bm (aa au (aa (pv 0) ac))) ac)))
   (ae (ay (bb K PySem.F.plainAttrs_list PySem.F.slot_list_append PySem.F.type_list_append aS (pv 1) (aa (bm (aa au (aa (pv 8) ac))) ac)))
   (ae (ay (bb K PySem.F.plainAttrs_list PySem.F.slot_list_append PySem.F.type_list_append aS (pv 2) (aa (ao aD au (eh oj z_str lu (aa (pv 7) ac))) ac)))
   (ak (aE (pv 6)))))))))))),?_⟩
 walk_at "rd1";refine⟨by decide,fun inn hinn=>?_⟩
 have sm1:=al hinn (.lst []);have ei:upd H inn (.lst []) inn=some (.lst []):=ah
 generalize upd H inn (.lst [])=H1 at sm1 ei ⊢;have I1:=I.alloc sm1;obtain⟨_,hhl,hhp,_,_⟩:=I.apart here List.mem_cons_self
 have hph:=Ne.symm hhp;have hlh:=Ne.symm hhl;have hlp:=I.lpp;have hpl:=Ne.symm hlp;obtain⟨i1,i2,i3,i4,i5⟩:=I.new hinn
 have i6:inn≠here:=fun z=>i5 (z ▸ List.mem_cons_self)
 walk_at "nx";refine⟨c,rfl,?_⟩
 have hlog:=k_ c;have hnl:=iy hlog;unfold cw at hnl;walk_at "nx";refine⟨by decide,aI (fun c1=>?_) (fun c1=>?_)⟩
 ·refine⟨⟨_,SqL.of I1.cur⟩,by decide,fun t ht=>⟨_,by rw[ai (av I1.cur ht)]; exact I1.cur,by rw[List.length_map]; exact bG (by omega),?_⟩⟩
  walk_at "nx";have hpt:=av I1.pile ht;have hlt:=av I1.lines ht;have hht:=av I1.cur ht;have hit:=av ei ht;have pile3:∀ o1 o2,upd (upd H1 t o1) here o2 pp=some (.lst (es.map V.ref)):=fun o1 o2=>by rw[ai hph,ai hpt]; exact I1.pile
  refine⟨⟨_,SqL.of (pile3 _ _)⟩,by decide,fun e he=>?_⟩
  obtain⟨e1,he⟩:=cu he
  obtain⟨e2,he⟩:=cu he
  have e3:=Ne.symm (av I1.pile he);have e4:=Ne.symm (av I1.lines he);have e5:=Ne.symm (av ei he);refine⟨_,by rw[ai (Ne.symm e3)]; exact pile3 _ _,by rw[List.length_map]; exact bG (by omega),?_⟩
  walk_at "nx";obtain⟨g1,g2,g3,g4,g5,g6⟩:=AV (T:=.tup [.str "lend", .str (xB nm c),.str (yB nm c),.ref inn]) (L1:=.lst (as.map V.ref++[.ref t])) (E:=.tup [.str "back", .ref here]) (L2:=.lst (es.map V.ref++[.ref e])) (L3:=.lst (st.L.map V.str++[.str (Str.ofString "lend " ++ xB nm c++Str.ofString " " ++ yB nm c)])) ht he hht hpt hlt e1 e2 e3 e4 hhl hhp hpl
  have lines5:∀ o1 o2 o3 o4,upd (upd (upd (upd H1 t o1) here o2) e o3) pp o4 lp=some (.lst (st.L.map V.str)):=fun o1 o2 o3 o4=>by rw[ai hlp,ai (Ne.symm e4),ai hlh,ai hlt]; exact I1.lines
  have xl:=ok.xl c;have yl:=ok.yl c;have l5:(Str.ofString "lend ").length=5:=by decide
  have l1:(Str.ofString " ").length=1:=by decide
  refine⟨⟨_,SqL.of (lines5 _ _ _ _)⟩,bo (by omega),bo (by rw[Str.length_append]; omega),bo (by rw[Str.length_append,Str.length_append]; omega),_,lines5 _ _ _ _,by rw[List.length_map]; exact bG (by omega),?_⟩
  walk_at "nx";refine q inn _ (("back", here)::pr) (es++[e]) ?_
  have eq:dI nm c st=⟨[],.lend (xB nm c) (yB nm c) st.cur::st.stk,st.L++[Txt.join " " ["lend", xB nm c,yB nm c]],st.left,st.lends⟩:=if_pos c1
  rw[eq];refine BInv.open1 (e:=e) I (fun b o eb n1 n2 n3=>g6 b o (sm1 _ _ eb) n1 n2 n3) (t:=t) (by rw[List.map_append]; exact g2) hinn (g6 _ _ ei i6 i2 i1) (by rw[List.map_append,← FE]; exact g5) (by rw[List.map_append]; exact g4) g3 (fun z1 z2=>.lend g2 z2 g1 z1)
 walk_at "nx";refine⟨by decide,aI (fun c2=>?_) (fun c2=>?_)⟩
 ·refine⟨⟨_,SqL.of I1.cur⟩,by decide,fun t ht=>⟨_,by rw[ai (av I1.cur ht)]; exact I1.cur,by rw[List.length_map]; exact bG (by omega),?_⟩⟩
  walk_at "nx";have hpt:=av I1.pile ht;have hlt:=av I1.lines ht;have hht:=av I1.cur ht;have hit:=av ei ht;have pile3:∀ o1 o2,upd (upd H1 t o1) here o2 pp=some (.lst (es.map V.ref)):=fun o1 o2=>by rw[ai hph,ai hpt]; exact I1.pile
  refine⟨⟨_,SqL.of (pile3 _ _)⟩,by decide,fun e he=>?_⟩
  obtain⟨e1,he⟩:=cu he
  obtain⟨e2,he⟩:=cu he
  have e3:=Ne.symm (av I1.pile he);have e4:=Ne.symm (av I1.lines he);refine⟨_,by rw[ai (Ne.symm e3)]; exact pile3 _ _,by rw[List.length_map]; exact bG (by omega),?_⟩
  walk_at "nx";obtain⟨g1,g2,g3,g4,g5,g6⟩:=AV (T:=.tup [.str "while", .int (cT c),.ref inn]) (L1:=.lst (as.map V.ref++[.ref t])) (E:=.tup [.str "done", .ref here]) (L2:=.lst (es.map V.ref++[.ref e])) (L3:=.lst (st.L.map V.str++[.str (Str.ofString "while " ++ Str.ofString (toString (cT c)))])) ht he hht hpt hlt e1 e2 e3 e4 hhl hhp hpl
  have lines5:∀ o1 o2 o3 o4,upd (upd (upd (upd H1 t o1) here o2) e o3) pp o4 lp=some (.lst (st.L.map V.str)):=fun o1 o2 o3 o4=>by rw[ai hlp,ai (Ne.symm e4),ai hlh,ai hlt]; exact I1.lines
  have l5:(Str.ofString "while ").length=6:=by decide
  refine⟨⟨_,SqL.of (lines5 _ _ _ _)⟩,hlog,bo (by omega),_,lines5 _ _ _ _,by rw[List.length_map]; exact bG (by omega),?_⟩
  walk_at "nx";refine q inn _ (("done", here)::pr) (es++[e]) ?_
  have eq:dI nm c st=⟨[],.whl (cT c) st.cur::st.stk,st.L++[Txt.join " " ["while", cw (cT c)]],st.left,st.lends⟩:=(if_neg c1).trans (if_pos c2)
  rw[eq];refine BInv.open1 (e:=e) I (fun b o eb n1 n2 n3=>g6 b o (sm1 _ _ eb) n1 n2 n3) (t:=t) (by rw[List.map_append]; exact g2) hinn (g6 _ _ ei i6 i2 i1) (by rw[List.map_append,← E2]; exact g5) (by rw[List.map_append]; exact g4) g3 (fun z1 z2=>.whl g2 z2 g1 z1)
 walk_at "nx";refine⟨by decide,fun oth hoth=>?_⟩
 have sm2:=al hoth (.lst []);have eo:upd H1 oth (.lst []) oth=some (.lst []):=ah
 generalize upd H1 oth (.lst [])=H2 at sm2 eo ⊢;have I2:=I1.alloc sm2;have ei2:=sm2 _ _ ei;obtain⟨o1,o2,o3,o4,o5⟩:=I1.new hoth
 have o6:oth≠here:=fun z=>o5 (z ▸ List.mem_cons_self)
 have hio:inn≠oth:=av ei hoth
 walk_at "nx";refine⟨⟨_,SqL.of I2.cur⟩,by decide,fun t ht=>⟨_,by rw[ai (av I2.cur ht)]; exact I2.cur,by rw[List.length_map]; exact bG (by omega),?_⟩⟩
 walk_at "nx";have hpt:=av I2.pile ht;have hlt:=av I2.lines ht;have hht:=av I2.cur ht;have pile3:∀ o1 o2,upd (upd H2 t o1) here o2 pp=some (.lst (es.map V.ref)):=fun o1 o2=>by rw[ai hph,ai hpt]; exact I2.pile
 refine⟨⟨_,SqL.of (pile3 _ _)⟩,by decide,fun e he=>?_⟩
 obtain⟨e1,he⟩:=cu he
 obtain⟨e2,he⟩:=cu he
 have e3:=Ne.symm (av I2.pile he);have e4:=Ne.symm (av I2.lines he);refine⟨_,by rw[ai (Ne.symm e3)]; exact pile3 _ _,by rw[List.length_map]; exact bG (by omega),?_⟩
 walk_at "nx";refine⟨⟨_,SqL.of ah⟩,by decide,fun e' he'=>?_⟩
 obtain⟨d3,he'⟩:=cu he'
 obtain⟨d5,he'⟩:=cu he'
 obtain⟨d1,he'⟩:=cu he'
 obtain⟨d2,he'⟩:=cu he'
 have d4:=Ne.symm (av I2.lines he');refine⟨_,by rw[ai (Ne.symm d3)]; exact ah,by rw[List.length_append,List.length_map]; exact bG (by simp only[List.length_cons,List.length_nil]; omega),?_⟩
 walk_at "nx";obtain⟨g1,g2,g3,g3',g4,g5,g6⟩:=FA (T:=.tup [.str "if", .int (cT c),.ref inn,.ref oth]) (L1:=.lst (as.map V.ref++[.ref t])) (E:=.tup [.str "fi", .ref here]) (L2:=.lst (es.map V.ref++[.ref e])) (E':=.tup [.str "else", .ref oth]) (L2':=.lst (es.map V.ref++[.ref e]++[.ref e'])) (L3:=.lst (st.L.map V.str++[.str (Str.ofString "if " ++ Str.ofString (toString (cT c)))])) ht he he' hht hpt hlt e1 e2 e3 e4 d1 d2 d3 d4 d5 hhl hhp hpl
 have lines7:∀ o1 o2 o3 o4 o5 o6,upd (upd (upd (upd (upd (upd H2 t o1) here o2) e o3) pp o4) e' o5) pp o6 lp=some (.lst (st.L.map V.str)):=fun o1 o2 o3 o4 o5 o6=>by rw[ai hlp,ai (Ne.symm d4),ai hlp,ai (Ne.symm e4),ai hlh,ai hlt]; exact I2.lines
 have l3:(Str.ofString "if ").length=3:=by decide
 refine⟨⟨_,SqL.of (lines7 _ _ _ _ _ _)⟩,hlog,bo (by omega),_,lines7 _ _ _ _ _ _,by rw[List.length_map]; exact bG (by omega),?_⟩
 walk_at "nx";refine q inn _ (("else", oth)::("fi", here)::pr) (es++[e,e']) ?_
 have eq:dI nm c st=⟨[],.inB (cT c) st.cur::st.stk,st.L++[Txt.join " " ["if", cw (cT c)]],st.left,st.lends⟩:=(if_neg c1).trans (if_neg c2)
 rw[eq];exact BInv.open2 (e:=e) (e2:=e') (oth:=oth) I (fun b o eb n1 n2 n3=>g6 b o (sm2 _ _ (sm1 _ _ eb)) n1 n2 n3) (t:=t) (by rw[List.map_append]; exact g2) hinn (g6 _ _ ei2 i6 i2 i1) (sm1.free hoth) (g6 _ _ eo o6 o2 o1) hio (by rw[List.map_append,← K5]; exact g5) (by rw[List.map_append]; rw[g4,List.append_assoc]; rfl) g3 g3' g1
def dm(nm:List Str)(st:BS)(c:Int):BS:=
 if c % 15>11∧st.stk≠[] then eU st
 else if (9≤c % 15∧c % 15≤11)∧st.left>2∧(st.stk.length:Int)<8∧(c % 15≠9∨st.lends>0) then dI nm c ⟨st.cur,st.stk,st.L,st.left - 3+(if (!decide (c % 15=10))=true then 1 else 0),st.lends - (if c % 15=9 then 1 else 0)⟩
 else if c % 15<9∧st.left>0 then ⟨st.cur++[.plain (dB nm c)],st.stk,st.L++[Txt.join " " (dB nm c)],st.left - 1,st.lends⟩
 else st
def cz:List Frm→Nat
 | []=>0
 | .inB _ _::r=>cz r+2
 | _::r=>cz r+1
def eV:Nat→BS→BS
 | 0,st=>st
 | n+1,st=>eU (eV n st)
def jm(left:Int):BS:=⟨[],[],[],left,3⟩
def dA(left:Int)(nm:List Str)(cs:List Int):BS:=eV (cz (cs.foldl (dm nm) (jm left)).stk) (cs.foldl (dm nm) (jm left))
theorem Ctx.pile{H:Hp}{S:Addr→Prop}{root:Addr}{fs:List Frm}{pr:List (Str × Addr)}{d:Nat}{here:Addr}(h:Ctx H S root fs pr d here):pr.length=cz fs:=by
 induction h with
 | nil=>rfl
 | lend _ _ _ _ ih=>rw[List.length_cons,ih]; rfl
 | whl _ _ _ _ ih=>rw[List.length_cons,ih]; rfl
 | inB _ _ _ _ _ ih=>rw[List.length_cons,List.length_cons,ih]; rfl
 | inC _ _ _ _ _ ih=>rw[List.length_cons,ih]; rfl
theorem rm{nm:List Str}(hn:NmOk nm){st:BS}{d:Nat}(c:Int)(h:gY st (d+1)):gY (dI nm c st) d:=by
 obtain⟨cur,stk,L,left,lends⟩:=st
 obtain⟨h1,h2,h3,h4,h5⟩:=h
 dsimp only at h1 h2 h3 h4 h5
 have go:∀ (f:Frm) (x:Str),eS (f::stk) d=eS stk (d+1)++bV (d+2) cur++[x]→t7 (f::stk) d→fz f=cur.length→gY ⟨[],f::stk,L++[x],left,lends⟩ d:=fun f x e1 e2 e3=>by
  refine⟨by show d+(stk.length+1)=9; omega,?_,fun s hs=>absurd hs (by show ¬ s∈([]:List Stp); simp),e2,?_⟩
  ·show L++[x]=eS (f::stk) d++bV (d+1) []
   rw[e1,h2];simp[bV]
  ·show 0+((f::stk).map fz).sum≤(L++[x]).length
   rw[List.map_cons,List.sum_cons,List.length_append,e3];omega
 unfold dI;split
 ·exact go _ _ rfl ⟨hn.xl c,hn.yl c,h3,h4⟩ rfl
 split
 ·exact go _ _ rfl ⟨k_ c,h3,h4⟩ rfl
 ·exact go _ _ rfl ⟨k_ c,h3,h4⟩ rfl
theorem xO{ws:List Str}(hw:hJ ws){st:BS}{d:Nat}(h:gY st d)(l:Int):gY ⟨st.cur++[.plain ws],st.stk,st.L++[Txt.join " " ws],l,st.lends⟩ d:=by
 obtain⟨cur,stk,L,left,lends⟩:=st
 obtain⟨h1,h2,h3,h4,h5⟩:=h
 dsimp only at h1 h2 h3 h4 h5
 refine⟨h1,?_,lz h3 (li hw),h4,?_⟩
 ·show L++[Txt.join " " ws]=eS stk d++bV (d+1) (cur++[.plain ws])
  rw[ly,h2];simp[bV,bM]
 ·show (cur++[Stp.plain ws]).length+_≤(L++[_]).length
  simp only[List.length_append,List.length_cons,List.length_nil]
  omega
theorem qO{st:BS}{d:Nat}(h:gY st d)(l l':Int):gY ⟨st.cur,st.stk,st.L,l,l'⟩ d:=⟨h.dep,h.lines,h.ok,h.okf,h.size⟩
theorem zK(st:BS):(eU st).L.length≤st.L.length+1:=by
 obtain⟨cur,stk,L,left,lends⟩:=st
 cases stk with
 | nil=>exact Nat.le_succ _
 | cons f r=>cases f <;> (show (L++[_]).length≤L.length+1; rw[List.length_append]; exact Nat.le_refl _)
theorem jF{H0 H:Hp}{root lp pp here:Addr}{st:BS}{d:Nat}{pr:List (Str × Addr)}{S:Addr→Prop}{as es:List Addr}(I:BInv H0 H root lp pp here st d pr S as es)(l l':Int):BInv H0 H root lp pp here ⟨st.cur,st.stk,st.L,l,l'⟩ d pr S as es:=
 ⟨I.ctx,I.pile,I.ents,I.cur,I.steps,I.lines,I.nd,I.apart,I.lpp,I.off,I.sin,I.sm⟩
theorem sO(st:BS):(eU st).left=st.left∧(eU st).lends=st.lends:=by
 obtain⟨cur,stk,L,left,lends⟩:=st
 cases stk with
 | nil=>exact⟨rfl,rfl⟩
 | cons f r=>cases f <;> exact⟨rfl,rfl⟩
theorem qG(nm:List Str)(c:Int)(st:BS):(dI nm c st).left=st.left∧(dI nm c st).lends=st.lends∧(dI nm c st).L.length=st.L.length+1:=by
 unfold dI;split
 ·exact⟨rfl,rfl,by simp⟩
 split
 ·exact⟨rfl,rfl,by simp⟩
 ·exact⟨rfl,rfl,by simp⟩
theorem fQ{nm:List Str}{st:BS}{c:Int}(h1:¬ (c % 15>11∧st.stk≠[]))(h2:¬ ((9≤c % 15∧c % 15≤11)∧st.left>2∧(st.stk.length:Int)<8∧(c % 15≠9∨st.lends>0)))(h3:¬ (c % 15<9∧st.left>0)):dm nm st c=st:=by
 unfold dm;rw[if_neg h1,if_neg h2,if_neg h3]
theorem rk{st:BS}{d d':Nat}(h:gY st d)(hne:st.stk≠[])(e:d'+(eU st).stk.length=9):gY (eU st) d':=by
 obtain⟨d2,z⟩:=Ck h hne
 have:=z.dep
 have:d'=d2:=by omega
 rw[this]; exact z
theorem lQ{nm:List Str}{st:BS}{c:Int}(h1:¬ (c % 15>11∧st.stk≠[]))(h2:(9≤c % 15∧c % 15≤11)∧st.left>2∧(st.stk.length:Int)<8∧(c % 15≠9∨st.lends>0)):dm nm st c=dI nm c ⟨st.cur,st.stk,st.L,st.left - 3+(if (!decide (c % 15=10))=true then 1 else 0),st.lends - (if c % 15=9 then 1 else 0)⟩:=by
 unfold dm;rw[if_neg h1,if_pos h2]
theorem sn{nm:List Str}{st:BS}{c:Int}(h1:¬ (c % 15>11∧st.stk≠[]))(h2:¬ ((9≤c % 15∧c % 15≤11)∧st.left>2∧(st.stk.length:Int)<8∧(c % 15≠9∨st.lends>0)))(h3:c % 15<9∧st.left>0):dm nm st c=⟨st.cur++[.plain (dB nm c)],st.stk,st.L++[Txt.join " " (dB nm c)],st.left - 1,st.lends⟩:=by
 unfold dm;rw[if_neg h1,if_neg h2,if_pos h3]
theorem gA(st:BS):∀ n,eV (n+1) st=eV n (eU st)
 | 0=>rfl
 | n+1=>by show eU (eV (n+1) st)=eU (eV n (eU st)); rw[gA st n]
theorem wF{H:Hp}{S:Addr→Prop}{root:Addr}{st:BS}{w:Str}{up:Addr}{pr:List (Str × Addr)}{d:Nat}{here:Addr}(h:Ctx H S root st.stk ((w,up)::pr) d here):(eU st).L=st.L++[w]:=by
 obtain⟨cur,stk,L,left,lends⟩:=st
 dsimp only at h
 cases h <;> rfl
theorem wG{H0:Hp}{root lp pp:Addr}:∀ (n:Nat) {H:Hp} {here:Addr} {st:BS} {d:Nat} {pr:List (Str × Addr)} {S:Addr→Prop} {as es:List Addr},pr.length=n→BInv H0 H root lp pp here st d pr S as es→gY st d→
  ∃ S' as',gY (eV n st) 9∧(eV n st).stk=[]∧(eV n st).L=st.L++pr.map (·.1)∧¬ S' root∧¬ S' lp∧¬ S' pp∧H root=some (.lst (as'.map V.ref))∧Paired (stpAt (ProgAt S' 9 H) H) as' (eV n st).cur∧(∀ b,S' b→∃ xs,H b=some (.lst xs))∧root≠lp∧root≠pp∧H0 root=none
 | 0,H,here,st,d,pr,S,as,es,hn,I,B=>by
  have:pr=[]:=List.length_eq_zero_iff.mp hn
  subst this
  have hc:st.stk=[]∧d=9∧here=root:=by
   have hcx:=I.ctx;generalize st.stk=fs at hcx ⊢
   cases hcx;exact⟨rfl,rfl,rfl⟩
  obtain⟨k1,k2,k3⟩:=hc
  subst k2 k3;obtain⟨y1,y2,y3,y4,_⟩:=I.apart here List.mem_cons_self
  exact⟨S,as,B,k1,by simp[eV],y1,I.off.1,I.off.2.1,I.cur,I.steps,I.sin,y2,y3,y4⟩
 | n+1,H,here,st,d,pr,S,as,es,hn,I,B=>by
  rcases pr with _ | ⟨⟨wd,up⟩,pr'⟩
  ·simp at hn
  have hsk:st.stk≠[]:=fun z=>by have:=I.ctx.pile; rw[z]at this; simp[cz]at this
  have hes:=aB I.ents;rw[List.length_reverse]at hes
  rcases List.eq_nil_or_concat es with z | ⟨es0,e,z⟩
  ·rw[z]at hes; simp at hes
  rw[List.concat_eq_append]at z
  subst z;obtain⟨d',as',I4⟩:=I.pop (H':=upd (upd H pp (.lst (es0.map V.ref))) lp (.lst (st.L.map V.str++[.str wd]))) (fun b o eb n1 n2=>by rw[ai n2,ai n1]; exact eb) (by rw[ai (Ne.symm I.lpp)]; exact ah) (by rw[ah,List.map_append]; rfl)
  have B4:=rk B hsk I4.ctx.deep.1;obtain⟨S',as2,z1,z2,z3,z4,z5,z6,z7,z8,z9,z10,z11,z12⟩:=wG n (by simpa using hn) I4 B4
  have back:∀ b o,upd (upd H pp (.lst (es0.map V.ref))) lp (.lst (st.L.map V.str++[.str wd])) b=some o→b≠lp→b≠pp→H b=some o:=fun b o e n1 n2=>by rw[ai n1,ai n2]at e; exact e
  have ht:∀ b xs,upd (upd H pp (.lst (es0.map V.ref))) lp (.lst (st.L.map V.str++[.str wd])) b=some (.tup xs)→H b=some (.tup xs):=fun b xs e=>back b _ e (fun z=>by rw[z,ah]at e; cases e) (fun z=>by rw[z,ai (Ne.symm I.lpp),ah]at e; cases e)
  have hl:∀ b xs,S' b→upd (upd H pp (.lst (es0.map V.ref))) lp (.lst (st.L.map V.str++[.str wd])) b=some (.lst xs)→H b=some (.lst xs):=fun b xs hb e=>back b _ e (fun z=>z5 (z ▸ hb)) (fun z=>z6 (z ▸ hb))
  refine⟨S',as2,by rw[gA]; exact z1,by rw[gA]; exact z2,?_,z4,z5,z6,back _ _ z7 z10 z11,?_,fun b hb=>?_,z10,z11,z12⟩
  ·rw[gA,z3,wF I.ctx,List.append_assoc]; rfl
  ·rw[gA]
   exact Paired.imp' (fun a s z=>stpAt.imp ht (fun q b y=>ProgAt.imp ht hl (fun _ z=>z) 9 y) z) z8
  ·obtain⟨xs,e⟩:=z9 b hb
   exact⟨xs,hl _ _ hb e⟩
theorem mH{α : Type}(xs:List α)(x:α):eY (xs++[x]) (-1)=some x:=by
 have e:kt (xs++[x]).length (-1)=some xs.length:=by
  unfold kt;simp only[List.length_append,List.length_cons,List.length_nil]
  split <;> simp_all <;> omega
 unfold eY;rw[e];simp
def n_:Sp:=fun vs H Q _=>∃ (ca na:Addr) (cs:List Int) (nm:List Str),vs=[.ref ca,.ref na]∧H ca=some (.lst (cs.map V.int))∧H na=some (.lst (nm.map V.str))∧NmOk nm∧cs.length≤63∧
 ∀ (t root lp:Addr) (H':Hp) (S:Addr→Prop) (as:List Addr),Same H H'→H' t=some (.tup [.ref root,.ref lp])→H root=none→H lp=none→root≠lp→¬ S root→¬ S lp→H' root=some (.lst (as.map V.ref))→Paired (stpAt (ProgAt S 9 H') H') as (dA 60 nm cs).cur→dE 10 (dA 60 nm cs).cur→
  H' lp=some (.lst ((bV 10 (dA 60 nm cs).cur).map V.str))→(bV 10 (dA 60 nm cs).cur).length≤100→as.length≤500→Q (.ref t) H'
theorem vY(D:DefAt K mg "_law_program" ap) (z_len:mg "len" = none) (z_int:mg "int" = none) (z_reversed:mg "reversed" = none) (c_law_begun:aK P w K mg base 2 "_law_begun" ["_law_here", "_law_pile", "_law_lines", "_law_cell", "_law_x", "_law_y"] ux) (c_law_step:aK P w K mg base 1 "_law_step" ["_law_cell", "_law_x", "_law_y", "_law_names_here"] yk):aK P w K mg base 3 "_law_program" ["_law_cells", "_law_names_here"] n_:=by
 refine D.cal sc_law_program (fun _ _ _ _ _ _ us hl=>match us,hl with | [_,_],_=>rfl) (fun vs H Q E h=>by obtain⟨_,_,_,_,rfl,_⟩:=h; rfl) (fun f cdv A outer s H vs Q E hr h=>?_)
 obtain⟨ca,na,cs,nm,rfl,hca,hna,ok,h63,q⟩:=h
 refine⟨_,(ae (aw 2 sc_law_program.nd (bi ac))
   (ae (aw 3 sc_law_program.nd (bi ac))
   (ae (aw 4 sc_law_program.nd (bi ac))
   (ae (aw 5 sc_law_program.nd (pv 2))
   (ae (aw 6 sc_law_program.nd af)
   (ae (aw 7 sc_law_program.nd af)
   (ae (cC PassesOwn.never rfl (cH K (pv 0)) (bj 8 sc_law_program.nd) (ae (aw 9 sc_law_program.nd (ao bK (pv 8) af))
   (ae (aw 10 sc_law_program.nd (ax (aG K) (pv 1) (ao bK (ao bK (ao eQ (pv 8) af) af) (bF (bh K) z_len cf (aa (pv 1) ac))) (fun _ _=>rfl)))
   (ae (aw 11 sc_law_program.nd (ax (aG K) (pv 1) (ao bK (ao bK (ao eQ (pv 8) af) af) (bF (bh K) z_len cf (aa (pv 1) ac))) (fun _ _=>rfl)))
   (ae (aw 12 sc_law_program.nd (bF (bh K) z_len cf (aa (gL (CompSc.to (fsc:=(defScope ap)) (N:=["_law_cells", "_law_names_here", "_law_program_here", "_law_lines", "_law_pile", "_law_here", "_law_left", "_law_lends", "_law_cell", "_law_kind", "_law_x", "_law_y", "_law_deep", "_law_line", "_law_there"]) (N0:=["_law_cells", "_law_names_here", "_law_program_here", "_law_lines", "_law_pile", "_law_here", "_law_left", "_law_lends", "_law_cell", "_law_kind", "_law_x", "_law_y", "_law_deep", "_law_line", "_law_there"]) (T:=["_law_one"]) ⟨by decide +kernel,by decide +kernel,by decide +kernel,by decide +kernel,by decide +kernel,by decide +kernel,by decide +kernel⟩ rfl rfl) rfl (cH K (pv 4)) (fun _ _ _ _=>(bj 15 (show (["_law_cells", "_law_names_here", "_law_program_here", "_law_lines", "_law_pile", "_law_here", "_law_left", "_law_lends", "_law_cell", "_law_kind", "_law_x", "_law_y", "_law_deep", "_law_line", "_law_there", "_law_one"]:List Str).Nodup from by decide +kernel) (hx:=(kQ (defScope ap) (by decide +kernel))) (hf:=qa (defScope ap) (by decide +kernel)))) (fB (show (["_law_cells", "_law_names_here", "_law_program_here", "_law_lines", "_law_pile", "_law_here", "_law_left", "_law_lends", "_law_cell", "_law_kind", "_law_x", "_law_y", "_law_deep", "_law_line", "_law_there"]:List Str).length≤15 from by decide)) (fun _ _ _ _=>(kP (aC jK (ax (aG K) (pv 15 (hv:=(fD (defScope ap) (by decide +kernel)))) af (fun _ _=>rfl)) au (aH _)))) (fun _ _ _ _=>(pv 15 (hv:=(fD (defScope ap) (by decide +kernel)))))) ac)))
   (ak (a_ (PW.pt' (gw (aC jT (pv 9) af (aH _)) (iC (aC (gN K hr) (pv 4) (bi ac) (aH _))))) (ae (ix (ma K PySem.F.plainAttrs_list PySem.F.slot_list_pop PySem.F.type_list_pop BY (pv 4)) (fM K (n:=2) (cj (bj 13 sc_law_program.nd) (cj (bj 5 sc_law_program.nd) fO))))
   (ak (ay (bb K PySem.F.plainAttrs_list PySem.F.slot_list_append PySem.F.type_list_append aS (pv 3) (aa (pv 13) ac))))) (ak (a_ (PW.pt' (gw (Ag A9 A9 af (pv 9) af) (gw (aC jT (pv 6) af (aH _)) (gw (aC jG (pv 12) af (aH _)) (iC (PW.pt' (iG (aC jK (pv 9) af (aH _)) (iB (aC jT (pv 7) af (aH _)))))))))) (ae (aw 6 sc_law_program.nd (ao aD (ao fu (pv 6) af) (eh nP z_int lW (aa (jZ jK (pv 9) af (aH _)) ac))))
   (ae (aw 7 sc_law_program.nd (ao fu (pv 7) (eh nP z_int lW (aa (jZ bD (pv 9) af (aH _)) ac))))
   (ak (aw 5 sc_law_program.nd (az c_law_begun hr (aa (pv 5) (aa (pv 4) (aa (pv 3) (aa (pv 8) (aa (pv 10) (aa (pv 11) ac))))))))))) (ak (a_ (PW.pt' (gw (aC jG (pv 9) af (aH _)) (iC (aC jT (pv 6) af (aH _))))) (ae (aw 6 sc_law_program.nd (ao fu (pv 6) af))
   (ae (ay (bb K PySem.F.plainAttrs_list PySem.F.slot_list_append PySem.F.type_list_append aS (pv 5) (aa (az c_law_step hr (aa (pv 8) (aa (pv 10) (aa (pv 11) (aa (pv 1) ac))))) ac)))
   (ak (ay (bb K PySem.F.plainAttrs_list PySem.F.slot_list_append PySem.F.type_list_append aS (pv 3) (aa (bb K PySem.F.plainAttrs_str PySem.F.slot_str_join PySem.F.type_str_join (Ah K) au (aa (ax (aG K) (pv 5) (j6 iu af) (fun _ _=>rfl)) ac)) ac)))))) bt)))))))))))
   (ae (cC PassesOwn.never rfl (D_ K Gb z_reversed (aa (pv 4) ac)) (fM K (n:=2) (cj (bj 13 sc_law_program.nd) (cj (bj 14 sc_law_program.nd) fO))) (ak (ay (bb K PySem.F.plainAttrs_list PySem.F.slot_list_append PySem.F.type_list_append aS (pv 3) (aa (pv 13) ac)))))
   (ak (aE (bm (aa (pv 2) (aa (pv 3) ac))))))))))))),?_⟩
 walk_at "rd1";refine⟨by decide,fun root hroot=>?_⟩
 walk_at "nx";refine⟨by decide,fun lp hlp=>?_⟩
 walk_at "nx";refine⟨by decide,fun pp hpp=>?_⟩
 obtain⟨p1,hpp⟩:=cu hpp
 obtain⟨p2,hpp⟩:=cu hpp
 obtain⟨l1,hlp⟩:=cu hlp
 have I0:BInv H (upd (upd (upd H root (.lst [])) lp (.lst [])) pp (.lst [])) root lp pp root (jm 60) 9 [] (fun _=>False) [] []:=by
  refine⟨.nil,ah,.nil,by rw[ai (Ne.symm p2),ai (Ne.symm l1)]; exact ah,.nil,by rw[ai (Ne.symm p1)]; exact ah,by simp,fun a ha=>?_,Ne.symm p1,⟨id,id,hlp,hpp⟩,fun b hb=>hb.elim,?_⟩
  ·have:a=root:=by simpa using ha
   subst this;exact⟨id,Ne.symm l1,Ne.symm p2,hroot,_,by rw[ai (Ne.symm p2),ai (Ne.symm l1)]; exact ah⟩
  ·exact(((al hroot _).upd hlp _).upd hpp _)
 have B0:gY (jm 60) 9:=⟨rfl,rfl,fun s hs=>absurd hs (by show ¬ s∈([]:List Stp); simp),trivial,Nat.le_refl _⟩
 generalize upd (upd (upd H root (.lst [])) lp (.lst [])) pp (.lst [])=H1 at I0 ⊢;walk_at "nx";walk_at "nx";walk_at "nx";walk_at "nx";refine⟨⟨_,SqL.of (I0.sm _ _ hca)⟩,?_⟩
 refine da (xs:=cs.map V.int) (fun i σ H'=>∃ (here:Addr) (d:Nat) (pr:List (Str × Addr)) (S:Addr→Prop) (as es:List Addr) (st:BS) (o8 o9 o10 o11 o12 o13 o14:Option V),σ=[some (.ref ca),some (.ref na),some (.ref root),some (.ref lp),some (.ref pp),some (.ref here),some (.int st.left),some (.int st.lends),o8,o9,o10,o11,o12,o13,o14]∧
   st=(cs.take i).foldl (dm nm) (jm 60)∧BInv H H' root lp pp here st d pr S as es∧gY st d∧st.L.length≤i)
  ⟨root,9,[],_,[],[],jm 60,none,none,none,none,none,none,none,rfl,rfl,I0,B0,Nat.le_refl _⟩ (fun i σ H' _ h=>by obtain⟨_,_,_,_,_,_,_,_,_,_,_,_,_,_,_,_,I,_⟩:=h; exact SqL.of (I.sm _ _ hca)) ?_ ?_
 ·rintro i v σ H' hv ⟨here,d,pr,S,as,es,st,o8,o9,o10,o11,o12,o13,o14,rfl,hst,I,B,hL⟩
  have hi:i<cs.length:=by have:=(List.getElem?_eq_some_iff.mp hv).1; simpa using this
  rw[List.getElem?_map,List.getElem?_eq_getElem hi]at hv
  cases hv
  have hfold:(cs.take (i+1)).foldl (dm nm) (jm 60)=dm nm st cs[i]:=by
   rw[List.take_add_one,List.getElem?_eq_getElem hi,List.foldl_append,← hst]; rfl
  generalize cs[i]=c at hfold ⊢;obtain⟨dd1,dd2,dd3⟩:=I.ctx.deep
  have hes:=aB I.ents;rw[List.length_reverse]at hes
  have hal:=aB I.steps;have hsz:=B.size;have n1:=ok.n1;have ha:=I.sm _ _ hna;walk_at "rd1";refine⟨by decide,?_⟩
  walk_at "nx";refine⟨.inr ⟨by decide,by decide⟩,by decide,_,.inl (SqL.of ha),?_⟩
  rw[List.length_map];walk_at "rd1";refine⟨by omega,_,_,.inl (SqL.of ha),(fU n1 (c * 48271 % 1009)).2,?_⟩
  rw[show pk nm (c * 48271 % 1009)=xB nm c from rfl];walk_at "nx";refine⟨.inr ⟨by decide,by decide⟩,by decide,_,.inl (SqL.of ha),?_⟩
  rw[List.length_map];walk_at "rd1";refine⟨by omega,_,_,.inl (SqL.of ha),(fU n1 (c * 69621 % 2003)).2,?_⟩
  rw[show pk nm (c * 69621 % 2003)=yB nm c from rfl];walk_at "nx";refine⟨⟨_,SqL.of I.pile⟩,fun C hC=>?_⟩
  refine lM (xs:=es.map V.ref) (fun j ys H2=>Same H' H2∧H2 C=some (.lst ys)∧ys.length=dk (pr.reverse.take j)) ⟨al hC _,ah,rfl⟩ (fun j ys H2 _ h=>SqL.of (h.1 _ _ I.pile)) ?_ ?_
  ·rintro j ys H2 x hx hj ⟨sm2,hl2,hn2⟩
   rw[List.length_map]at hj
   rw[List.getElem?_map,List.getElem?_eq_getElem hj]at hx
   cases hx;obtain⟨qq,hqq,hent⟩:=bI I.ents (List.getElem?_eq_getElem hj)
   have htk:pr.reverse.take (j+1)=pr.reverse.take j++[qq]:=by rw[List.take_add_one,hqq]; rfl
   have hns:dk (pr.reverse.take j++[qq])=dk (pr.reverse.take j)+dk [qq]:=by unfold dk; rw[List.filter_append,List.length_append]
   have hle:dk (pr.reverse.take j)≤j:=by
    unfold dk;have:=List.length_filter_le (fun q:Str × Addr=>decide (q.1≠("else" : Str))) (pr.reverse.take j)
    rw[List.length_take]at this
    omega
   walk_at "rd1";refine⟨_,_,.inr (SqT.of (sm2 _ _ hent)),cn,?_⟩
   walk_at "rd1";refine aI (fun c1=>?_) (fun c1=>?_)
   ·have hq1:qq.1 ≠ "else" := by simpa using c1
    refine qx (by rw[List.length_map]; exact hj) (by rw[hn2]; exact hle) (by rw[List.length_map]; exact bo (by omega)) hl2 ⟨sm2.upd hC _,ah,?_⟩
    obtain⟨q1,q2⟩:=qq
    rw[htk,hns,iA hq1,List.length_append,hn2]; rfl
   ·have hq1:qq.1 = "else" := by simpa using c1
    refine uS (by rw[List.length_map]; exact hj) ⟨sm2,hl2,?_⟩
    obtain⟨q1,q2⟩:=qq
    dsimp only at hq1
    subst hq1;rw[htk,hns,tU,hn2]; rfl
  rintro ys H2 ⟨sm2,hl2,hn2⟩
  have hdeep:ys.length=st.stk.length:=by
   rw[hn2,List.length_map,List.take_of_length_le (by rw[List.length_reverse]; omega),← dd2]
   unfold dk;rw[List.filter_reverse,List.length_reverse]
  have I2:=I.alloc sm2;walk_at "rd1";refine⟨_,.inl (SqL.of hl2),?_⟩
  rw[hdeep];walk_at "nx";refine aI (fun c1=>?_) (fun c1=>?_)
  ·refine⟨by decide,fun np hnp=>?_⟩
   have sm3:=al hnp (.lst []);have e3:upd H2 np (.lst []) np=some (.lst []):=ah
   generalize upd H2 np (.lst [])=H3 at sm3 e3 ⊢;have I3:=I2.alloc sm3;rcases pr with _ | ⟨⟨wd,up⟩,pr'⟩
   ·have hes0:es=[]:=List.length_eq_zero_iff.mp hes
    have hsk:st.stk=[]:=by have:=dd2; exact List.length_eq_zero_iff.mp this.symm
    subst hes0;refine⟨0,true,by decide,EqN.seqFlat (.inl ⟨SqL.of I3.pile,SqL.of e3⟩) (by simp),?_⟩
    walk_at "rd1";refine aI (fun c2=>?_) (fun c2=>absurd c2 (by omega))
    refine aI (fun c3=>absurd c3 (by omega)) (fun c3=>?_)
    refine aI (fun c4=>absurd c4 (by omega)) (fun c4=>?_)
    exact⟨here,d,_,S,as,_,st,_,_,_,_,_,_,_,rfl,by rw[hfold,fQ (by rw[hsk]; simp) (by omega) (by omega)],I3,B,by omega⟩
   ·have hsk:st.stk≠[]:=fun z=>by have:=I.ctx.pile; rw[z]at this; simp[cz]at this
    rcases List.eq_nil_or_concat es with z | ⟨es0,e,z⟩
    ·rw[z]at hes; simp at hes
    rw[List.concat_eq_append]at z
    subst z
    have hent:H3 e=some (.tup [.str wd,.ref up]):=by
     have:=I3.ents
     rw[List.reverse_cons]at this
     exact(h_ this).2
    have npe:e≠pp:=bW hent I3.pile (fun z=>nomatch z)
    refine⟨0,false,by decide,.inr ⟨pp,np,_,_,rfl,rfl,.inl ⟨SqL.of I3.pile,SqL.of e3⟩,.inr ⟨SqL.of I3.pile,SqL.of e3,by simp,rfl⟩⟩,?_⟩
    walk_at "rd1";refine⟨⟨_,SqL.of I3.pile⟩,_,.ref e,I3.pile,by simp,e,[.str wd,.ref up],rfl,SqT.of (by rw[ai npe]; exact hent),rfl,_,_,rfl,_,_,rfl,rfl,?_⟩
    walk_at "nx";have hl4:∀ o,upd H3 pp o lp=some (.lst (st.L.map V.str)):=fun o=>by rw[ai I.lpp]; exact I3.lines
    refine⟨⟨_,SqL.of (hl4 _)⟩,_,hl4 _,by rw[List.length_map]; exact bG (by omega),?_⟩
    have hdl:(List.map V.ref (es0++[e])).dropLast=es0.map V.ref:=by rw[List.map_append]; exact List.dropLast_concat
    rw[hdl];obtain⟨d',as',I4⟩:=I3.pop (H':=upd (upd H3 pp (.lst (es0.map V.ref))) lp (.lst (st.L.map V.str++[.str wd]))) (fun b o eb n1 n2=>by rw[ai n2,ai n1]; exact eb) (by rw[ai (Ne.symm I.lpp)]; exact ah) (by rw[ah,List.map_append]; rfl)
    have hpl:=zK st;refine⟨up,d',pr',_,as',es0,eU st,some (.int c),some (.int (c % 15)),some (.str (xB nm c)),some (.str (yB nm c)),some (.int (st.stk.length:Int)),some (.str wd),o14,?_,?_,I4,rk B hsk I4.ctx.deep.1,by omega⟩
    ·rw[(sO st).1,(sO st).2]
    ·rw[hfold]; unfold dm; rw[if_pos ⟨c1,hsk⟩]
  ·refine aI (fun c2=>?_) (fun c2=>?_)
   ·refine aI (fun c3=>?_) (fun c3=>absurd c3 (by omega))
    refine aI (fun c4=>?_) (fun c4=>?_)
    rotate_left
    ·refine aI (fun c9=>absurd c9 (by omega)) (fun c9=>?_)
     exact⟨here,d,pr,S,as,es,st,_,_,_,_,_,_,_,rfl,by rw[hfold,fQ (by omega) (by omega) (by omega)],I2,B,by omega⟩
    refine aI (fun c5=>?_) (fun c5=>?_)
    rotate_left
    ·refine aI (fun c9=>absurd c9 (by omega)) (fun c9=>?_)
     exact⟨here,d,pr,S,as,es,st,_,_,_,_,_,_,_,rfl,by rw[hfold,fQ (by omega) (by omega) (by omega)],I2,B,by omega⟩
    obtain⟨d',rfl⟩ : ∃ d',d=d'+1:=⟨d - 1,by omega⟩
    refine aI (fun c6=>?_) (fun c6=>?_)
    ·walk_at "nx"
     walk_at "nx";refine⟨here,pp,lp,c,nm,H,root,⟨st.cur,st.stk,st.L,st.left - 3+(if (!decide (c % 15=10))=true then 1 else 0),st.lends - (if c % 15=9 then 1 else 0)⟩,d',pr,S,as,es,rfl,jF I2 _ _,ok,by omega,by omega,by show st.L.length≤1000; omega,fun inner H3 pr3 es3 I3=>?_⟩
     obtain⟨y1,y2,y3⟩:=qG nm c ⟨st.cur,st.stk,st.L,st.left - 3+(if (!decide (c % 15=10))=true then 1 else 0),st.lends - (if c % 15=9 then 1 else 0)⟩
     refine⟨inner,d',pr3,S,[],es3,dI nm c ⟨st.cur,st.stk,st.L,st.left - 3+(if (!decide (c % 15=10))=true then 1 else 0),st.lends - (if c % 15=9 then 1 else 0)⟩,some (.int c),some (.int (c % 15)),some (.str (xB nm c)),some (.str (yB nm c)),some (.int (st.stk.length:Int)),o13,o14,?_,?_,I3,rm ok c (qO B _ _),?_⟩
     ·rw[y1,y2]
     ·rw[hfold,lQ (by omega) ⟨⟨c2,c3⟩,c4,c5,.inl (by simpa using c6)⟩]
     ·rw[y3]; show st.L.length+1≤i+1; omega
    refine aI (fun c7=>?_) (fun c7=>?_)
    ·walk_at "nx"
     walk_at "nx";refine⟨here,pp,lp,c,nm,H,root,⟨st.cur,st.stk,st.L,st.left - 3+(if (!decide (c % 15=10))=true then 1 else 0),st.lends - (if c % 15=9 then 1 else 0)⟩,d',pr,S,as,es,rfl,jF I2 _ _,ok,by omega,by omega,by show st.L.length≤1000; omega,fun inner H3 pr3 es3 I3=>?_⟩
     obtain⟨y1,y2,y3⟩:=qG nm c ⟨st.cur,st.stk,st.L,st.left - 3+(if (!decide (c % 15=10))=true then 1 else 0),st.lends - (if c % 15=9 then 1 else 0)⟩
     refine⟨inner,d',pr3,S,[],es3,dI nm c ⟨st.cur,st.stk,st.L,st.left - 3+(if (!decide (c % 15=10))=true then 1 else 0),st.lends - (if c % 15=9 then 1 else 0)⟩,some (.int c),some (.int (c % 15)),some (.str (xB nm c)),some (.str (yB nm c)),some (.int (st.stk.length:Int)),o13,o14,?_,?_,I3,rm ok c (qO B _ _),?_⟩
     ·rw[y1,y2]
     ·rw[hfold,lQ (by omega) ⟨⟨c2,c3⟩,c4,c5,.inr c7⟩]
     ·rw[y3]; show st.L.length+1≤i+1; omega
    have c8:c % 15=9:=by simpa using c6
    refine aI (fun c9=>absurd c9 (by omega)) (fun c9=>?_)
    exact⟨here,d'+1,pr,S,as,es,st,_,_,_,_,_,_,_,rfl,by rw[hfold,fQ (by omega) (by omega) (by omega)],I2,B,by omega⟩
   ·refine aI (fun c3=>?_) (fun c3=>absurd c3 (by omega))
    refine aI (fun c4=>?_) (fun c4=>?_)
    rotate_left
    ·exact⟨here,d,pr,S,as,es,st,_,_,_,_,_,_,_,rfl,by rw[hfold,fQ (by omega) (by omega) (by omega)],I2,B,by omega⟩
    walk_at "nx";refine⟨⟨_,SqL.of I2.cur⟩,c,na,nm,rfl,I2.sm _ _ hna,ok,fun t H3 sm3 ht hat=>?_⟩
    have I3:=I2.alloc sm3;walk_at "rd1";refine⟨_,I3.cur,by rw[List.length_map]; exact bG (by omega),?_⟩
    obtain⟨_,hhl,hhp,_,_⟩:=I.apart here List.mem_cons_self
    have nth:t≠here:=bW hat I3.cur (fun z=>nomatch z)
    have hl4:∀ o,upd H3 here o lp=some (.lst (st.L.map V.str)):=fun o=>by rw[ai (Ne.symm hhl)]; exact I3.lines
    have pw:=zh ok c;have hsum:=gC 20 (dB nm c) pw.len;have p3:=pw.three;have h1l:(Str.ofString " ").length=1:=by decide
    walk_at "nx";refine⟨⟨_,SqL.of (hl4 _)⟩,_,_,.inl (SqL.of ah),mH _ _,?_⟩
    walk_at "rd1";refine⟨dB nm c,SqT.of (by rw[ai nth]; exact hat),by rw[h1l]; omega,?_⟩
    refine⟨_,hl4 _,by rw[List.length_map]; exact bG (by omega),?_⟩
    have I5:=I3.plain (H':=upd (upd H3 here (.lst (as.map V.ref++[.ref t]))) lp (.lst (st.L.map V.str++[.str (Txt.join " " (dB nm c))]))) (t:=t) (ws:=dB nm c) (L':=st.L++[Txt.join " " (dB nm c)]) (lf:=st.left - 1) (ld:=st.lends) (fun b o eb n1 n2 n3=>by rw[ai n3,ai n1]; exact eb) (by rw[ai hhl,ah,List.map_append]; rfl) (by rw[ai (bW hat I3.lines (fun z=>nomatch z)),ai nth]; exact hat) (by rw[ah,List.map_append]; rfl) (by rw[ai (Ne.symm I.lpp),ai (Ne.symm hhp)]; exact I3.pile)
    refine⟨here,d,pr,S,as++[t],es,_,some (.int c),some (.int (c % 15)),some (.str (xB nm c)),some (.str (yB nm c)),some (.int (st.stk.length:Int)),o13,o14,rfl,?_,I5,xO pw B _,?_⟩
    ·rw[hfold,sn (by omega) (by omega) ⟨c3,c4⟩]
    ·show (st.L++[_]).length≤i+1
     rw[List.length_append]; simp only[List.length_cons,List.length_nil]; omega
 ·rintro σ H' ⟨here,d,pr,S,as,es,st,o8,o9,o10,o11,o12,o13,o14,rfl,hst,I,B,hL⟩
  rw[List.length_map,List.take_length]at hst
  rw[List.length_map]at hL
  have hplen:=I.ctx.pile;obtain⟨dd1,_,dd3⟩:=I.ctx.deep
  have hes:=aB I.ents;rw[List.length_reverse]at hes
  walk_at "nx";refine⟨_,SqL.of I.pile,?_⟩
  refine AB (xs:=es.map V.ref) (fun j σ H2=>∃ o13 o14:Option V,σ=[some (.ref ca),some (.ref na),some (.ref root),some (.ref lp),some (.ref pp),some (.ref here),some (.int st.left),some (.int st.lends),o8,o9,o10,o11,o12,o13,o14]∧BInv H H2 root lp pp here ⟨st.cur,st.stk,st.L++(pr.take j).map (·.1),st.left,st.lends⟩ d pr S as es)
   ⟨o13,o14,rfl,by simpa using jF I st.left st.lends⟩ (fun j σ H2 _ h=>by obtain⟨_,_,_,I⟩:=h; exact SqL.of I.pile) ?_ ?_
  ·rintro j x σ H2 hj hx ⟨o13,o14,rfl,I2⟩
   rw[List.length_map]at hj hx
   have hj':es.length - 1 - j<es.length:=by omega
   rw[List.getElem?_map,List.getElem?_eq_getElem hj']at hx
   cases hx;obtain⟨qq,hqq,hent⟩:=bI I2.ents (List.getElem?_eq_getElem hj')
   rw[List.getElem?_reverse (by omega)]at hqq
   have hix:pr.length - 1 - (es.length - 1 - j)=j:=by omega
   rw[hix]at hqq
   have htk:(pr.take (j+1)).map (·.1)=(pr.take j).map (·.1)++[qq.1]:=by rw[List.take_add_one,hqq,List.map_append]; rfl
   have hll:((pr.take j).map (·.1)).length≤20:=by rw[List.length_map,List.length_take]; omega
   walk_at "rd1";refine⟨_,_,rfl,SqT.of hent,rfl,?_⟩
   walk_at "rd1";refine⟨⟨_,SqL.of I2.lines⟩,_,I2.lines,by rw[List.length_map]; exact bG (by show (st.L++_).length≤1000000; rw[List.length_append]; omega),?_⟩
   have I3:=I2.line (st.L++(pr.take (j+1)).map (·.1)) (lf:=st.left) (ld:=st.lends);refine⟨_,_,rfl,?_⟩
   rw[htk,← List.append_assoc,List.map_append]at I3
   rw[htk,← List.append_assoc];exact I3
  ·rintro σ H2 ⟨o13,o14,rfl,I2⟩
   rw[List.length_map,List.take_of_length_le (by omega)]at I2
   walk_at "nx";refine⟨by decide,fun t ht=>?_⟩
   have I4:=I2.alloc (al ht (.tup [.ref root,.ref lp]));have ett:upd H2 t (.tup [.ref root,.ref lp]) t=some (.tup [.ref root,.ref lp]):=ah
   generalize upd H2 t (.tup [.ref root,.ref lp])=H3 at I4 ett ⊢;have Ig:BInv H (upd H3 lp (.lst (st.L.map V.str))) root lp pp here st d pr S as es:=I4.line st.L (lf:=st.left) (ld:=st.lends)
   obtain⟨S',as',z1,z2,z3,z4,z5,z6,z7,z8,z9,z10,z11,z12⟩:=wG pr.length rfl Ig B
   have back:∀ b o,upd H3 lp (.lst (st.L.map V.str)) b=some o→b≠lp→H3 b=some o:=fun b o e n1=>by rw[ai n1]at e; exact e
   have htp:∀ b xs,upd H3 lp (.lst (st.L.map V.str)) b=some (.tup xs)→H3 b=some (.tup xs):=fun b xs e=>back b _ e (fun z=>by rw[z,ah]at e; cases e)
   have hlq:∀ b xs,S' b→upd H3 lp (.lst (st.L.map V.str)) b=some (.lst xs)→H3 b=some (.lst xs):=fun b xs hb e=>back b _ e (fun z=>z5 (z ▸ hb))
   have hb:dA 60 nm cs=eV pr.length st:=by
    unfold dA;rw[← hst,hplen]
   have hlines:(eV pr.length st).L=bV 10 (eV pr.length st).cur:=by
    have:=z1.lines
    rw[z2]at this
    simpa [eS] using this
   have hal:=aB z8;have hsz:=z1.size;have hll:(st.L++pr.map (·.1)).length≤100:=by rw[List.length_append,List.length_map]; omega
   rw[z3]at hlines hsz
   refine q t root lp H3 S' as' I4.sm ett z12 I4.off.2.2.1 z10 z4 z5 (back _ _ z7 z10) ?_ (by rw[hb]; exact z1.ok) ?_ ?_ (by omega)
   ·rw[hb]
    exact Paired.imp' (fun a s z=>stpAt.imp htp (fun q b y=>ProgAt.imp htp hlq (fun _ z=>z) 9 y) z) z8
   ·rw[hb,← hlines]; exact I4.lines
   ·rw[hb,← hlines]; omega
end
def cG(x:Str):Prop:=32∉x.cps.toList
def iI(f:List Stp→Prop):Stp→Prop
 | .plain ws=>dN ws∧∀ x∈ws,cG x
 | .lend x y b=>cG x∧cG y∧f b
 | .ite n b c=>n.natAbs<10 ^ 61∧f b∧f c
 | .whl n b=>n.natAbs<10 ^ 61∧f b
def cS:Nat→List Stp→Prop
 | 0,_=>False
 | d+1,T=>∀ s∈T,iI (cS d) s
theorem yr{f g:List Stp→Prop}(h:∀ b,f b→g b):∀ {s:Stp},iI f s→my g s
 | .plain _,z=>z.1
 | .lend _ _ _,z=>h _ z.2.2
 | .ite _ _ _,z=>⟨h _ z.2.1,h _ z.2.2⟩
 | .whl _ _,z=>h _ z.2
theorem k7:∀ {d:Nat} {T:List Stp},cS d T→fF d T
 | 0,_,h=>h
 | _+1,_,h=>fun s hs=>yr (fun _ z=>k7 z) (h s hs)
def lx:List Frm→Nat→Prop
 | [],_=>True
 | .lend x y up::r,d=>cG x∧cG y∧cS (d+2) up∧lx r (d+1)
 | .whl n up::r,d=>n.natAbs<10 ^ 61∧cS (d+2) up∧lx r (d+1)
 | .inB n up::r,d=>n.natAbs<10 ^ 61∧cS (d+2) up∧lx r (d+1)
 | .inC n b up::r,d=>n.natAbs<10 ^ 61∧cS (d+1) b∧cS (d+2) up∧lx r (d+1)
structure kc (st:BS) (d:Nat):Prop where
 dep:d+st.stk.length=9
 fine:cS (d+1) st.cur
 finef:lx st.stk d
theorem iJ{d:Nat}{T:List Stp}{s:Stp}(h:cS (d+1) T)(hs:iI (cS d) s):cS (d+1) (T++[s]):=fun u hu=>(List.mem_append.mp hu).elim (h u) (fun z=>by rw[List.mem_singleton.mp z]; exact hs)
theorem gQ(d:Nat):cS (d+1) []:=fun s hs=>by cases hs
theorem nV{st:BS}{d:Nat}(h:kc st d):∃ d',kc (eU st) d':=by
 obtain⟨cur,stk,L,left,lends⟩:=st
 obtain⟨h1,h2,h3⟩:=h
 dsimp only at h1 h2 h3
 cases stk with
 | nil=>exact⟨d,h1,h2,h3⟩
 | cons f r=>
  rw[List.length_cons]at h1
  cases f with
  | lend x y up=>
   obtain⟨k1,k2,k3,k4⟩:=h3
   exact⟨d+1,by show d+1+r.length=9; omega,iJ k3 ⟨k1,k2,h2⟩,k4⟩
  | whl n up=>
   obtain⟨k1,k3,k4⟩:=h3
   exact⟨d+1,by show d+1+r.length=9; omega,iJ k3 ⟨k1,h2⟩,k4⟩
  | inB n up=>
   obtain⟨k1,k3,k4⟩:=h3
   exact⟨d,by show d+(r.length+1)=9; omega,gQ _,k1,h2,k3,k4⟩
  | inC n b up=>
   obtain⟨k1,k2,k3,k4⟩:=h3
   exact⟨d+1,by show d+1+r.length=9; omega,iJ k3 ⟨k1,k2,h2⟩,k4⟩
theorem pF(c:Int):(cT c).natAbs<10 ^ 61:=by
 unfold cT;split
 ·omega
 split
 ·omega
 ·omega
theorem vd{nm:List Str}(n1:1≤nm.length)(hn:∀ x∈nm,cG x){st:BS}{d:Nat}(c:Int)(h:kc st (d+1)):kc (dI nm c st) d:=by
 obtain⟨cur,stk,L,left,lends⟩:=st
 obtain⟨h1,h2,h3⟩:=h
 dsimp only at h1 h2 h3
 have hx:=hn _ (fU n1 (c * 48271 % 1009)).1;have hy:=hn _ (fU n1 (c * 69621 % 2003)).1;unfold dI;split
 ·exact⟨by show d+(stk.length+1)=9; omega,gQ _,hx,hy,h2,h3⟩
 split
 ·exact⟨by show d+(stk.length+1)=9; omega,gQ _,pF c,h2,h3⟩
 ·exact⟨by show d+(stk.length+1)=9; omega,gQ _,pF c,h2,h3⟩
theorem xc{nm:List Str}(n1:1≤nm.length)(hn:∀ x∈nm,cG x)(c:Int):∀ x∈dB nm c,cG x:=by
 have hx:cG (xB nm c):=hn _ (fU n1 (c * 48271 % 1009)).1
 have hy:cG (yB nm c):=hn _ (fU n1 (c * 69621 % 2003)).1
 have he:∀ u∈kh++nm,cG u:=fun u hu=>by
  rcases List.mem_append.mp hu with z | z
  ·exact(by decide:∀ u∈kh,32∉u.cps.toList) u z
  ·exact hn u z
 have hw:cG (pk (kh++nm) (c * 40692 % 4001)):=he _ (fU (by rw[List.length_append]; omega) _).1
 have k1:cG "open" := by unfold cG; decide
 have k2:cG "copy" := by unfold cG; decide
 have k3:cG "drop" := by unfold cG; decide
 have k4:cG "tie" := by unfold cG; decide
 have k5:cG "do" := by unfold cG; decide
 intro x hxm
 unfold dB at hxm;split at hxm
 ·simp only[List.mem_cons,List.mem_nil_iff,or_false]at hxm; rcases hxm with rfl | rfl <;> assumption
 split at hxm
 ·simp only[List.mem_cons,List.mem_nil_iff,or_false]at hxm; rcases hxm with rfl | rfl | rfl <;> assumption
 split at hxm
 ·simp only[List.mem_cons,List.mem_nil_iff,or_false]at hxm; rcases hxm with rfl | rfl <;> assumption
 split at hxm
 ·simp only[List.mem_cons,List.mem_nil_iff,or_false]at hxm; rcases hxm with rfl | rfl | rfl <;> assumption
 ·simp only[List.mem_cons,List.mem_nil_iff,or_false]at hxm; rcases hxm with rfl | rfl | rfl <;> assumption
theorem u7{nm:List Str}(n1:1≤nm.length)(hn:∀ x∈nm,cG x){st:BS}(c:Int)(h:∃ d,kc st d):∃ d,kc (dm nm st c) d:=by
 obtain⟨d,h⟩:=h
 unfold dm;split
 ·exact nV h
 split
 ·rename_i z
  have h1:=h.dep;obtain⟨d',rfl⟩ : ∃ d',d=d'+1:=⟨d - 1,by have:=z.2.2.1; omega⟩
  exact⟨d',vd n1 hn c ⟨h.dep,h.fine,h.finef⟩⟩
 split
 ·exact⟨d,h.dep,iJ h.fine ⟨Cb nm c,xc n1 hn c⟩,h.finef⟩
 ·exact⟨d,h⟩
theorem nu{nm:List Str}(n1:1≤nm.length)(hn:∀ x∈nm,cG x):∀ (cs:List Int) (st:BS),(∃ d,kc st d)→∃ d,kc (cs.foldl (dm nm) st) d
 | [],_,h=>h
 | c::cs,st,h=>nu n1 hn cs _ (u7 n1 hn c h)
theorem nI:∀ (n:Nat) (st:BS),(∃ d,kc st d)→∃ d,kc (eV n st) d
 | 0,_,h=>h
 | n+1,st,h=>by obtain⟨d,z⟩:=nI n st h; exact nV z
theorem wM(st:BS):cz (eU st).stk=cz st.stk - 1:=by
 obtain⟨cur,stk,L,left,lends⟩:=st
 cases stk with
 | nil=>rfl
 | cons f r=>cases f <;> rfl
theorem nc(st:BS):∀ n,cz (eV n st).stk=cz st.stk - n
 | 0=>rfl
 | n+1=>by show cz (eU (eV n st)).stk=_; rw[wM,nc st n]; omega
theorem yU:∀ {fs:List Frm},cz fs=0→fs=[]
 | [],_=>rfl
 | .lend _ _ _::r,h=>by simp[cz]at h
 | .whl _ _::r,h=>by simp[cz]at h
 | .inB _ _::r,h=>by simp[cz]at h
 | .inC _ _ _::r,h=>by simp[cz]at h
theorem vS{nm:List Str}(n1:1≤nm.length)(hn:∀ x∈nm,cG x)(l:Int)(cs:List Int):cS 10 (dA l nm cs).cur:=by
 obtain⟨d,h⟩:=nI (cz (cs.foldl (dm nm) (jm l)).stk) _ (nu n1 hn cs (jm l) ⟨9,rfl,gQ _,trivial⟩)
 have e:(dA l nm cs).stk=[]:=yU (by unfold dA; rw[nc]; omega)
 have h1:=h.dep;have e':(eV (cz (cs.foldl (dm nm) (jm l)).stk) (cs.foldl (dm nm) (jm l))).stk=[]:=e
 rw[e']at h1
 have:d=9:=by simpa using h1
 subst this;exact h.fine
def jd(f:List Stp→List (List Str)):Stp→List (List Str)
 | .plain ws=>[ws]
 | .lend x y b=>["lend", x,y]::(f b++[[("back" : Str)]])
 | .ite n b c=>["if", cw n]::(f b++[[("else" : Str)]]++(f c++[[("fi" : Str)]]))
 | .whl n b=>["while", cw n]::(f b++[[("done" : Str)]])
def xa:Nat→List Stp→List (List Str)
 | 0,_=>[]
 | d+1,T=>T.flatMap (jd (xa d))
theorem DP{f:List Stp→List Str}{g:List Stp→List (List Str)}(h:∀ b,f b=(g b).map (Txt.join " ")):∀ s:Stp,bM f s=(jd g s).map (Txt.join " ")
 | .plain ws=>rfl
 | .lend x y b=>by simp[bM,jd,h]; rfl
 | .ite n b c=>by simp[bM,jd,h]; exact⟨rfl,rfl⟩
 | .whl n b=>by simp[bM,jd,h]; rfl
theorem AT:∀ (d:Nat) (T:List Stp),bV d T=(xa d T).map (Txt.join " ")
 | 0,_=>rfl
 | d+1,T=>by
  show T.flatMap (bM (bV d))=(T.flatMap (jd (xa d))).map _
  rw[List.map_flatMap]
  congr 1
  funext s
  exact DP (AT d) s
structure WOk (ws:List Str):Prop where
 ne:ws≠[]
 free:∀ x∈ws,cG x
 num:(ws.headD "" = "if" ∨ ws.headD "" = "while")→∃ n:Int,ws[1]? = some (cw n)∧n.natAbs<10 ^ 61
theorem rf(n:Int):cG (cw n):=by
 unfold cG cw
 cases n with
 | ofNat m=>
  have e:(Str.ofString (toString (Int.ofNat m))).cps.toList=(Nat.toDigits 10 m).map Char.toNat:=PySem.W.KIN.signs_num m
  rw[e];intro z
  have:=(iZ m).1 32 z
  omega
 | negSucc m=>
  have e:(Str.ofString (toString (Int.negSucc m))).cps.toList=45::(Nat.toDigits 10 (m+1)).map Char.toNat:=by
   rw[signs_ofString];show ("-" ++ Nat.repr (m+1)).toList.map Char.toNat=_
   rw[String.toList_append,List.map_append,Nat.toList_repr]; rfl
  rw[e];intro z
  rcases List.mem_cons.mp z with z | z
  ·cases z
  ·have:=(iZ (m+1)).1 32 z
   omega
theorem j5{x:Str}(h:cG x)(h1:¬ x = "if") (h2:¬ x = "while"):WOk [x]:=⟨by simp,by simpa using h,fun z=>z.elim (fun z=>absurd z h1) (fun z=>absurd z h2)⟩
theorem C6{g:List Stp→List (List Str)}{f:List Stp→Prop}(h:∀ b,f b→∀ ws∈g b,WOk ws):∀ {s:Stp},iI f s→∀ ws∈jd g s,WOk ws
 | .plain us,⟨px,hf⟩,ws,hw=>by
  have e:ws=us:=by simpa [jd] using hw
  subst e;refine⟨fun z=>(by subst z; cases px),hf,fun z=>?_⟩
  exfalso
  cases px with
  | op x=>rcases z with z | z <;> exact absurd z (show ¬ ("open" : Str)=_ by decide)
  | dr x=>rcases z with z | z <;> exact absurd z (show ¬ ("drop" : Str)=_ by decide)
  | dd u x=>rcases z with z | z <;> exact absurd z (show ¬ ("do" : Str)=_ by decide)
  | cp x y=>rcases z with z | z <;> exact absurd z (show ¬ ("copy" : Str)=_ by decide)
  | ti x y=>rcases z with z | z <;> exact absurd z (show ¬ ("tie" : Str)=_ by decide)
 | .lend x y b,⟨hx,hy,hb⟩,ws,hw=>by
  simp only[jd,List.mem_cons,List.mem_append,List.not_mem_nil,or_false]at hw
  rcases hw with rfl | hw | rfl
  ·refine⟨by simp,fun u hu=>?_,fun z=>?_⟩
   ·simp only[List.mem_cons,List.not_mem_nil,or_false]at hu
    rcases hu with rfl | rfl | rfl
    ·show 32∉_; decide
    ·exact hx
    ·exact hy
   ·exfalso; rcases z with z | z <;> exact absurd z (show ¬ ("lend" : Str)=_ by decide)
  ·exact h b hb ws hw
  ·exact j5 (show 32∉_ by decide) (by decide) (by decide)
 | .ite n b c,⟨hn,hb,hc⟩,ws,hw=>by
  simp only[jd,List.mem_cons,List.mem_append,List.not_mem_nil,or_false]at hw
  rcases hw with rfl | (hw | rfl) | hw | rfl
  ·refine⟨by simp,fun u hu=>?_,fun _=>⟨n,rfl,hn⟩⟩
   simp only[List.mem_cons,List.not_mem_nil,or_false]at hu
   rcases hu with rfl | rfl
   ·show 32∉_; decide
   ·exact rf n
  ·exact h b hb ws hw
  ·exact j5 (show 32∉_ by decide) (by decide) (by decide)
  ·exact h c hc ws hw
  ·exact j5 (show 32∉_ by decide) (by decide) (by decide)
 | .whl n b,⟨hn,hb⟩,ws,hw=>by
  simp only[jd,List.mem_cons,List.mem_append,List.not_mem_nil,or_false]at hw
  rcases hw with rfl | hw | rfl
  ·refine⟨by simp,fun u hu=>?_,fun _=>⟨n,rfl,hn⟩⟩
   simp only[List.mem_cons,List.not_mem_nil,or_false]at hu
   rcases hu with rfl | rfl
   ·show 32∉_; decide
   ·exact rf n
  ·exact h b hb ws hw
  ·exact j5 (show 32∉_ by decide) (by decide) (by decide)
theorem BD:∀ {d:Nat} {T:List Stp},cS d T→∀ ws∈xa d T,WOk ws
 | 0,_,h,_,_=>h.elim
 | d+1,T,h,ws,hw=>by
  obtain⟨s,hs,hw⟩:=List.mem_flatMap.mp hw
  exact C6 (fun b z=>BD z) (h s hs) ws hw
theorem WOk.split{ws:List Str}(h:WOk ws):Txt.split (Txt.join " " ws) " " = ws:=uM h.ne h.free
section
variable{P:Program}{w:World}{K:PySem.W.Frag}{mg:Str→Option Value}{base:Heap}
def qT(K:PySem.W.Frag):Sp:=fun vs H Q _=>∃ (ca la:Addr) (cs:List Int) (Wl:List (List Str)),vs=[.ref ca,.ref la]∧SqL K H ca (cs.map V.int)∧SqL K H la ((Wl.map (Txt.join " ")).map V.str)∧(∀ ws∈Wl,WOk ws)∧cs.length≤63∧Wl.length≤1000∧(∀ ws∈Wl,(Txt.join " " ws).length≤5000)∧
 ∀ (q:Addr) (H':Hp) (xs:List Int),Same H H'→H q=none→H' q=some (.lst (xs.map V.int))→xs.length=cs.length→Q (.ref q) H'
theorem wI(D:DefAt K mg "_law_inputs" bf) (z_len:mg "len" = none) (z_int:mg "int" = none):aK P w K mg base 1 "_law_inputs" ["_law_cells", "_law_lines"] (qT K):=by
 refine D.cal (k:=0) sc_law_inputs (fun _ _ _ _ _ _ us hl=>match us,hl with | [_,_],_=>rfl) (fun vs H Q E h=>by obtain⟨ca,la,cs,Wl,rfl,_⟩:=h; rfl) (fun f cdv A outer s H vs Q E hr h=>?_)
 obtain⟨ca,la,cs,Wl,rfl,hca,hla,hw,h63,hWl,hlen,q⟩:=h
 refine⟨_,(ae (aw 2 sc_law_inputs.nd (ao aD (bi (aa af ac)) (gL (CompSc.to (fsc:=(defScope bf)) (N:=["_law_cells", "_law_lines", "_law_bounds", "_law_found", "_law_cell"]) (N0:=["_law_cells", "_law_lines", "_law_bounds", "_law_found", "_law_cell"]) (T:=["_law_line"]) ⟨by decide +kernel,by decide +kernel,by decide +kernel,by decide +kernel,by decide +kernel,by decide +kernel,by decide +kernel⟩ rfl rfl) rfl (cH K (pv 1)) (fun _ _ _ _=>(bj 5 (show (["_law_cells", "_law_lines", "_law_bounds", "_law_found", "_law_cell", "_law_line"]:List Str).Nodup from by decide +kernel) (hx:=(kQ (defScope bf) (by decide +kernel))) (hf:=qa (defScope bf) (by decide +kernel)))) (fB (show (["_law_cells", "_law_lines", "_law_bounds", "_law_found", "_law_cell"]:List Str).length≤5 from by decide)) (fun _ _ _ _=>(kP (aC (EJ K) (ax (aG K) (bb K PySem.F.plainAttrs_str PySem.F.slot_str_split PySem.F.type_str_split pV (pv 5 (hv:=(fD (defScope bf) (by decide +kernel)))) (aa au ac)) af (fun _ _=>rfl)) (bi (aa au (aa au ac))) (by with_unfolding_all rfl)))) (fun _ _ _ _=>(eh wo z_int lW (aa (ax (aG K) (bb K PySem.F.plainAttrs_str PySem.F.slot_str_split PySem.F.type_str_split pV (pv 5 (hv:=(fD (defScope bf) (by decide +kernel)))) (aa au ac)) af (fun _ _=>rfl)) ac) (hg:=(FO (defScope bf) (by decide +kernel))))))))
   (ae (aw 3 sc_law_inputs.nd (bi ac))
   (ae (cC PassesOwn.never rfl (cH K (pv 0)) (bj 4 sc_law_inputs.nd) (ak (a_ (aC bD (ao bK (pv 4) af) af (aH _)) (ak (ay (bb K PySem.F.plainAttrs_list PySem.F.slot_list_append PySem.F.type_list_append aS (pv 3) (aa (ao aD (ao fu (ao bK (ao gg (pv 4) af) (ao fu (ao eQ af (ao lc af af)) af)) (ao lc af af)) af) ac)))) (ak (ay (bb K PySem.F.plainAttrs_list PySem.F.slot_list_append PySem.F.type_list_append aS (pv 3) (aa (ao fu (ao aD (ax (aG K) (pv 2) (ao bK (ao bK (ao eQ (pv 4) af) af) (bF (bh K) z_len cf (aa (pv 2) ac))) (fun _ _=>rfl)) (ao bK (ao bK (ao eQ (pv 4) af) af) af)) af) ac)))))))
   (ak (aE (pv 3)))))),?_⟩
 walk_at "rd1";refine⟨by decide,fun l0 hl0=>?_⟩
 generalize hA:upd H l0 _=HA
 have sA:=cP hA hl0;have eA:=dG hA;refine⟨⟨_,sA.seq hla⟩,fun C hC=>?_⟩
 refine lM (xs:=(Wl.map (Txt.join " ")).map V.str) (fun j ys H2=>Same HA H2∧H2 C=some (.lst ys)∧∃ bs:List Int,ys=bs.map V.int∧bs.length≤j) ⟨al hC _,ah,[],rfl,Nat.le_refl _⟩ (fun j ys H2 _ h=>(sA.trans h.1).seq hla) ?_ ?_
 ·rintro j ys H2 x hx hj ⟨sm2,hl2,bs,rfl,hbn⟩
  rw[List.length_map,List.length_map]at hj
  rw[List.getElem?_map,List.getElem?_map,List.getElem?_eq_getElem hj]at hx
  cases hx;have hwj:=List.getElem_mem hj;generalize Wl[j]=ws at hwj ⊢;have ho:=hw ws hwj;have hl:=hlen ws hwj;walk_at "rd1";refine⟨by decide,by omega,fun sp hsp=>?_⟩
  rw[ho.split];have s3:=al hsp (.lst (ws.map V.str));have e3:upd H2 sp (.lst (ws.map V.str)) sp=some (.lst (ws.map V.str)):=ah
  generalize upd H2 sp (.lst (ws.map V.str))=H3 at s3 e3 ⊢;obtain⟨w0,wr,rfl⟩:=List.exists_cons_of_ne_nil ho.ne
  refine⟨_,_,.inl (SqL.of e3),cn,by decide,fun lp hlp=>?_⟩
  have s4:=al hlp (.lst [V.str "if", V.str "while"])
  have e4:upd H3 lp (.lst [V.str "if", V.str "while"]) lp=some (.lst [V.str "if", V.str "while"]):=ah
  generalize upd H3 lp (.lst [V.str "if", V.str "while"])=H4 at s4 e4 ⊢
  have s24:=(sm2.trans s3).trans s4;have hl4:H4 C=some (.lst (bs.map V.int)):=s4 _ _ (s3 _ _ hl2)
  refine⟨_,.inl (SqL.of e4),rfl,rfl,aI (fun c=>?_) (fun c=>?_)⟩
  ·have hwd:w0 = "if" ∨ w0 = "while" := by
    have c':ja (V.str w0) [V.str "if", V.str "while"]=true:=c
    simp[ja,fL]at c'
    rcases c' with z | z
    ·exact .inl z.symm
    ·exact .inr z.symm
   obtain⟨n,hn1,hn2⟩:=ho.num hwd
   rw[List.getElem?_cons_succ]at hn1
   obtain⟨wr0,wr',rfl⟩ : ∃ a r,wr=a::r:=by
    cases wr with
    | nil=>simp at hn1
    | cons a r=>exact⟨a,r,rfl⟩
   have hn1':wr0=cw n:=by simpa using hn1
   subst hn1';obtain⟨nb1,nb2⟩:=Ao hn2
   refine⟨by decide,by omega,fun sq hsq=>?_⟩
   have s5:=al hsq (.lst ((w0::cw n::wr').map V.str));have e5:upd H4 sq (.lst ((w0::cw n::wr').map V.str)) sq=some (.lst ((w0::cw n::wr').map V.str)):=ah
   generalize upd H4 sq (.lst ((w0::cw n::wr').map V.str))=H5 at s5 e5 ⊢;refine⟨_,_,.inl (SqL.of e5),km,?_⟩
   refine⟨cw n,n,rfl,nb1,nb2,?_⟩
   refine qx (by rw[List.length_map,List.length_map]; exact hj) (by rw[List.length_map]; exact hbn) (by rw[List.length_map,List.length_map]; exact bo (by omega)) (s5 _ _ hl4) ⟨(s24.trans s5).upd hC _,ah,bs++[n],by rw[List.map_append]; rfl,by rw[List.length_append]; simp; omega⟩
  ·exact uS (by rw[List.length_map,List.length_map]; exact hj) ⟨s24,hl4,bs,rfl,by omega⟩
 rintro ys H2 ⟨sm2,hl2,bs,rfl,hbn⟩
 rw[List.length_map,List.length_map]at hbn
 walk_at "rd1";refine⟨_,_,sm2 _ _ eA,hl2,bo (by rw[List.length_map]; simp; omega),fun bp hbp=>?_⟩
 generalize hB:upd H2 bp _=HB
 have sB:=cP hB hbp;have eB:HB bp=some (.lst ((0::bs).map V.int)):=dG hB
 have sHB:=(sA.trans sm2).trans sB;walk_at "nx";refine⟨by decide,fun fp hfp=>?_⟩
 generalize hC':upd HB fp _=HC
 have sC:=cP hC' hfp;have eC:=dG hC';have sHC:=sHB.trans sC;walk_at "nx";refine⟨⟨_,sHC.seq hca⟩,?_⟩
 refine da (xs:=cs.map V.int) (fun i σ H'=>∃ (o4:Option V) (xs:List Int),σ=[some (.ref ca),some (.ref la),some (.ref bp),some (.ref fp),o4]∧Same HB H'∧H' fp=some (.lst (xs.map V.int))∧xs.length=i)
  ⟨none,[],rfl,sC,eC,rfl⟩ (fun i σ H' _ h=>by obtain⟨_,_,_,sm,_⟩:=h; exact(sHB.trans sm).seq hca) ?_ ?_
 ·rintro i v σ H' hv ⟨o4,xs,rfl,sm,hf,hn⟩
  have hi:i<cs.length:=by have:=(List.getElem?_eq_some_iff.mp hv).1; simpa using this
  rw[List.getElem?_map,List.getElem?_eq_getElem hi]at hv
  cases hv;generalize cs[i]=c
  walk_at "rd1";refine⟨by decide,aI (fun c1=>?_) (fun c1=>?_)⟩
  ·exact⟨⟨_,SqL.of hf⟩,⟨by decide,by decide⟩,⟨by decide,by decide,by decide⟩,.inl ⟨by decide,by decide⟩,by decide,⟨by decide,by decide,by decide⟩,_,hf,by rw[List.length_map]; exact bG (by omega),_,xs++[_],rfl,sm.upd hfp _,by rw[ah,List.map_append]; rfl,by rw[List.length_append,hn]; rfl⟩
  ·have hbp':=SqL.of (K:=K) (sm _ _ eB)
   refine⟨⟨_,SqL.of hf⟩,.inr ⟨by decide,by decide⟩,by decide,_,.inl hbp',?_⟩
   rw[List.length_map];have h0:0≤c * 31 % 8191 % ((0::bs).length:Int):=Int.emod_nonneg _ (by rw[List.length_cons]; omega)
   have h1:c * 31 % 8191 % ((0::bs).length:Int)<(0::bs).length:=Int.emod_lt_of_pos _ (by rw[List.length_cons]; omega)
   have hlt:(c * 31 % 8191 % ((0::bs).length:Int)).toNat<(0::bs).length:=by omega
   have hat:=pY (f:=V.int) h0 (List.getElem?_eq_getElem hlt);refine⟨by rw[List.length_cons]; omega,_,_,.inl hbp',hat,?_⟩
   walk_at "rd1";exact⟨.inr ⟨by decide,by decide⟩,by decide,by decide,_,hf,by rw[List.length_map]; exact bG (by omega),_,xs++[_],rfl,sm.upd hfp _,by rw[ah,List.map_append]; rfl,by rw[List.length_append,hn]; rfl⟩
 ·rintro σ H' ⟨o4,xs,rfl,sm,hf,hn⟩
  rw[List.length_map]at hn
  walk_at "nx";exact q fp H' xs (sHB.trans sm) (sHB.free hfp) hf hn
def jN(ns:List Int):Int:=2+ns.getD (Int.toNat 1) 0 % (if ((ns.length:Nat):Int) - 1>1 then ((ns.length:Nat):Int) - 1 else 1)
def fv(ns:List Int):List Int:=gh (gh ns (some 2) (some (jN ns))) none (some 200)
def gm(ns:List Int):List Stp:=(dA 60 (g_ (ns.getD (Int.toNat 0) 0)) (fv ns)).cur
structure Drawn (H':Hp) (ns:List Int) (root lp ip:Addr) (xs:List Int):Prop where
 prog:ProgAt (fun _=>True) 10 H' root (gm ns)
 ok:dE 10 (gm ns)
 fine:cS 10 (gm ns)
 lines:H' lp=some (.lst ((bV 10 (gm ns)).map V.str))
 few:(bV 10 (gm ns)).length≤100
 inp:H' ip=some (.lst (xs.map V.int))
 ifew:xs.length≤63
def tF(K:PySem.W.Frag):Sp:=fun vs H Q _=>∃ (a:Addr) (ns:List Int),vs=[.ref a]∧SqL K H a (ns.map V.int)∧ns.length≤63∧
 ∀ (t root lp ip:Addr) (H':Hp) (xs:List Int),Same H H'→H' t=some (.tup [.ref root,.ref lp,.ref ip])→Drawn H' ns root lp ip xs→Q (.ref t) H'
theorem pT(B:Nat):∀ (ws:List Str) (k:Str),(∀ x∈ws,x.length≤B)→(ws.foldl (fun a x=>a++(" " : Str)++x) k).length≤k.length+ws.length * (B+1)
 | [],k,_=>by simp
 | x::ws,k,h=>by
  have ih:=pT B ws (k++(" " : Str)++x) fun z hz=>h z (List.mem_cons_of_mem _ hz)
  have hx:=h x List.mem_cons_self;have h1:(Str.ofString " ").length=1:=by decide
  rw[Str.length_append,Str.length_append,h1]at ih
  rw[List.foldl_cons,List.length_cons,Nat.succ_mul];omega
theorem j8(B:Nat){k:Str}{ws:List Str}(h:∀ x∈k::ws,x.length≤B):(Txt.join " " (k::ws)).length≤B+ws.length * (B+1):=by
 rw[hZ];have:=pT B ws k fun z hz=>h z (List.mem_cons_of_mem _ hz)
 have:=h k List.mem_cons_self
 omega
theorem sj{f:List Stp→List Str}{g:List Stp→Prop}(h:∀ b,g b→∀ x∈f b,x.length≤5000):∀ {s:Stp},p0 g s→∀ x∈bM f s,x.length≤5000
 | .plain ws,ok,x,hx=>by
  have e:x=Txt.join " " ws:=by simpa [bM] using hx
  subst e
  cases ws with
  | nil=>have:=ok.two; simp at this
  | cons k ws=>
   have:=j8 20 ok.len
   have h3:=ok.three;rw[List.length_cons]at h3
   have:ws.length * 21≤2 * 21:=Nat.mul_le_mul (by omega) (Nat.le_refl _)
   omega
 | .lend u v b,⟨o1,o2,o3⟩,x,hx=>by
  simp only[bM,List.mem_cons,List.mem_append,List.not_mem_nil,or_false]at hx
  rcases hx with rfl | hx | rfl
  ·have:=j8 20 (k := "lend") (ws:=[u,v]) (fun z hz=>by
    simp only[List.mem_cons,List.not_mem_nil,or_false]at hz
    rcases hz with rfl | rfl | rfl
    ·decide
    ·exact o1
    ·exact o2)
   simp only[List.length_cons,List.length_nil]at this
   omega
  ·exact h b o3 x hx
  ·decide
 | .ite n b c,⟨o1,o2,o3⟩,x,hx=>by
  simp only[bM,List.mem_cons,List.mem_append,List.not_mem_nil,or_false]at hx
  rcases hx with rfl | (hx | rfl) | hx | rfl
  ·have:=j8 1921 (k := "if") (ws:=[cw n]) (fun z hz=>by
    simp only[List.mem_cons,List.not_mem_nil,or_false]at hz
    rcases hz with rfl | rfl
    ·decide
    ·exact iy o1)
   simp only[List.length_cons,List.length_nil]at this
   omega
  ·exact h b o2 x hx
  ·decide
  ·exact h c o3 x hx
  ·decide
 | .whl n b,⟨o1,o2⟩,x,hx=>by
  simp only[bM,List.mem_cons,List.mem_append,List.not_mem_nil,or_false]at hx
  rcases hx with rfl | hx | rfl
  ·have:=j8 1921 (k := "while") (ws:=[cw n]) (fun z hz=>by
    simp only[List.mem_cons,List.not_mem_nil,or_false]at hz
    rcases hz with rfl | rfl
    ·decide
    ·exact iy o1)
   simp only[List.length_cons,List.length_nil]at this
   omega
  ·exact h b o2 x hx
  ·decide
theorem tG:∀ {d:Nat} {T:List Stp},dE d T→∀ x∈bV d T,x.length≤5000
 | 0,_,h,_,_=>h.elim
 | d+1,T,h,x,hx=>by
  obtain⟨s,hs,hx⟩:=List.mem_flatMap.mp hx
  exact sj (fun b z=>tG z) (h s hs) x hx
theorem zD(D:DefAt K mg "_law_drawn" bu) (z_len:mg "len" = none) (z_max:mg "max" = none) (c_law_cell_at:aK P w K mg base 1 "_law_cell_at" ["_law_script", "_law_k"] (wR K)) (c_law_names:aK P w K mg base 1 "_law_names" ["_law_cell"] qJ) (c_law_program:aK P w K mg base 3 "_law_program" ["_law_cells", "_law_names_here"] n_) (c_law_inputs:aK P w K mg base 1 "_law_inputs" ["_law_cells", "_law_lines"] (qT K)) :
  aK P w K mg base 4 "_law_drawn" ["_law_script"] (tF K):=by
 refine D.cal (k:=3) sc_law_drawn (fun _ _ _ _ _ _ us hl=>match us,hl with | [_],_=>rfl) (fun vs H Q E h=>by obtain⟨a,ns,rfl,_⟩:=h; rfl) (fun f cdv A outer s H vs Q E hr h=>?_)
 obtain⟨a,ns,rfl,hS,hn,q⟩:=h
 refine⟨_,(ae (aw 1 sc_law_drawn.nd (az c_law_names hr (aa (az c_law_cell_at hr (aa (pv 0) (aa af ac))) ac)))
   (ae (aw 2 sc_law_drawn.nd (ao aD af (ao bK (az c_law_cell_at hr (aa (pv 0) (aa af ac))) (bF yg z_max CJ (aa af (aa (ao fu (bF (bh K) z_len cf (aa (pv 0) ac)) af) ac))))))
   (ae (ix (az c_law_program hr (aa (b_ (fb K) (b_ (fb K) (pv 0) (ci af) (ci (pv 2))) cQ (ci af)) (aa (pv 1) ac))) (fM K (n:=2) (cj (bj 3 sc_law_drawn.nd) (cj (bj 4 sc_law_drawn.nd) fO))))
   (ak (aE (bm (aa (pv 3) (aa (pv 4) (aa (az c_law_inputs hr (aa (b_ (fb K) (b_ (fb K) (pv 0) (ci (pv 2)) cQ) cQ (ci af)) (aa (pv 4) ac))) ac))))))))),?_⟩
 walk_at "rd1";refine⟨a,ns,0,rfl,hS,by decide,?_⟩
 walk_at "rd1";refine⟨_,rfl,fun np H1 sm1 hnp hl1 n1 n7 hb hf=>?_⟩
 walk_at "nx";refine⟨a,ns,1,rfl,sm1.seq hS,by decide,?_⟩
 walk_at "rd1";refine⟨_,.inl (sm1.seq hS),?_⟩
 rw[List.length_map];walk_at "rd1";refine⟨by split <;> omega,?_⟩
 rw[show 2+ns.getD (Int.toNat 1) 0 % (if ((ns.length:Nat):Int) - 1>1 then ((ns.length:Nat):Int) - 1 else 1)=jN ns from rfl]
 walk_at "nx";refine⟨_,sm1.seq hS,fun c1 hc1=>?_⟩
 rw[gF];generalize hA:upd H1 c1 _=HA
 have sA:=cP hA hc1;have eA:=dG hA;refine⟨_,SqL.of eA,fun c2 hc2=>?_⟩
 rw[gF];generalize hB:upd HA c2 _=HB
 have sB:=cP hB hc2;have eB:HB c2=some (.lst ((fv ns).map V.int)):=dG hB
 have sAB:=sA.trans sB
 have hcl:(fv ns).length≤63:=by
  unfold fv;have:=fE (gh ns (some 2) (some (jN ns))) none (some 200)
  have:=fE ns (some 2) (some (jN ns))
  omega
 refine⟨c2,np,fv ns,g_ (ns.getD (Int.toNat 0) 0),rfl,eB,sAB _ _ hl1,⟨n1,n7,hb⟩,hcl,fun t root lp HC S as sC htt hro hlp nrl nSr nSl hroot hst okp hlines hfew has=>?_⟩
 have fine:=vS n1 hf 60 (fv ns);walk_at "rd1";refine⟨t,_,rfl,SqT.of htt,rfl,?_⟩
 have s1C:=(sm1.trans sAB).trans sC;walk_at "rd1";walk_at "nx";refine⟨_,s1C.seq hS,fun c3 hc3=>?_⟩
 rw[gF];generalize hD:upd HC c3 _=HD
 have sD:=cP hD hc3;have eD:=dG hD;refine⟨_,SqL.of eD,fun c4 hc4=>?_⟩
 rw[gF];generalize hE:upd HD c4 _=HE
 have sE:=cP hE hc4;have eE:=dG hE;have sCE:=sD.trans sE;have hwl:=AT 10 (dA 60 (g_ (ns.getD (Int.toNat 0) 0)) (fv ns)).cur;have hsz:=tG okp;rw[hwl]at hlines hfew hsz
 refine⟨c4,lp,_,xa 10 (dA 60 (g_ (ns.getD (Int.toNat 0) 0)) (fv ns)).cur,rfl,SqL.of eE,SqL.of (sCE _ _ hlines),BD fine,?_,by rw[List.length_map]at hfew; omega,fun ws hw=>hsz _ (List.mem_map.mpr ⟨ws,hw,rfl⟩),fun ip HF xs sF hip hipF hxl=>?_⟩
 ·have:=fE (gh ns (some (jN ns)) none) none (some 40)
  have:=fE ns (some (jN ns)) none
  omega
 refine⟨by decide,fun t2 ht2=>?_⟩
 have s2:=al ht2 (.tup [V.ref root,V.ref lp,V.ref ip]);have e2:upd HF t2 (.tup [V.ref root,V.ref lp,V.ref ip]) t2=some (.tup [V.ref root,V.ref lp,V.ref ip]):=ah
 generalize upd HF t2 (.tup [V.ref root,V.ref lp,V.ref ip])=HG at s2 e2 ⊢;have sCG:=(sCE.trans sF).trans s2;refine q t2 root lp ip HG xs (s1C.trans sCG) e2 ⟨?_,okp,fine,?_,?_,s2 _ _ hipF,?_⟩
 ·refine⟨trivial,as,sCG _ _ hroot,Paired.imp' (fun a s z=>stpAt.imp (fun b xs e=>sCG _ _ e) (fun q b y=>ProgAt.imp (fun b xs e=>sCG _ _ e) (fun b xs _ e=>sCG _ _ e) (fun _ _=>trivial) 9 y) z) hst⟩
 ·show HG lp=some (.lst ((bV 10 (dA 60 (g_ (ns.getD (Int.toNat 0) 0)) (fv ns)).cur).map V.str))
  rw[hwl]; exact sCG _ _ hlines
 ·show (bV 10 (dA 60 (g_ (ns.getD (Int.toNat 0) 0)) (fv ns)).cur).length≤100
  rw[hwl]; exact hfew
 ·have:=fE (gh ns (some (jN ns)) none) none (some 40)
  have:=fE ns (some (jN ns)) none
  omega
end
section
variable(W:List (List Str))(pt:Nat→Nat)(fs:Nat→Nat)(sl:Str→V)(lent:Nat→V)
end
theorem x9(l:List Str):(fq l).Nodup:=by
 unfold fq
 have go:∀ (l acc:List Str),acc.Nodup→(l.foldl fY acc).Nodup:=fun l=>by
  induction l with
  | nil=>intro acc h; exact h
  | cons x l ih=>
   intro acc h
   refine ih _ ?_
   unfold fY;split
   ·exact h
   ·rename_i c
    rw[List.nodup_append];exact⟨h,by simp,fun a ha b hb=>by rw[List.mem_singleton.mp hb]; exact fun z=>c (z ▸ ha)⟩
 exact go l [] List.nodup_nil
theorem ui{ks:List aF}(hn:ks.Nodup):∀ (i j:Nat) k,j<i→i≤ks.length→ks[j]? = some k→bN (ft ks i) k=some (iN j)
 | 0,j,_,h,_,_=>absurd h (Nat.not_lt_zero _)
 | i+1,j,k,h,hi,hk=>by
  rw[fI,gd];have hil:i<ks.length:=by omega
  have e:ks.getD i (.inl 0)=ks[i]:=by rw[List.getD_eq_getElem?_getD,List.getElem?_eq_getElem hil]; rfl
  rw[e];obtain⟨hjl,hk'⟩:=List.getElem?_eq_some_iff.mp hk
  rcases Nat.lt_or_ge j i with z | z
  ·rw[if_neg (fun c=>by rw[← hk']at c; exact List.pairwise_iff_getElem.mp hn j i hjl hil z c)]
   exact ui hn i j k z (by omega) hk
  ·have:j=i:=by omega
   subst this;rw[if_pos hk'.symm]
theorem Eb{ks:List aF}(hn:ks.Nodup){j:Nat}{k:aF}(h:ks[j]? = some k):bA (gv ks) k=iN j:=by
 have:=ui hn ks.length j k (List.getElem?_eq_some_iff.mp h).1 (Nat.le_refl _) h
 show bA (ft ks ks.length) k=_
 unfold bA;rw[this]; rfl
theorem rS(L:List Str):(gr L).Nodup:=List.Nodup.sublist List.filter_sublist List.nodup_range
theorem vM{NM L:List Str}(hn:NM.Nodup):(cY NM L).Nodup:=by
 unfold cY;rw[List.nodup_append];refine⟨List.pairwise_map.mpr (List.Pairwise.imp (fun h e=>h (Sum.inr.inj e)) hn),List.pairwise_map.mpr (List.Pairwise.imp (fun h e=>h (by have:=Sum.inl.inj e; omega)) (rS L)),fun a ha b hb=>?_⟩
 obtain⟨x,_,rfl⟩:=List.mem_map.mp ha
 obtain⟨y,_,rfl⟩:=List.mem_map.mp hb
 exact fun z=>nomatch z
theorem ym{f g:List Stp→Prop}(h:∀ b,f b→g b):∀ {s:Stp},iI f s→fS g s
 | .plain ws,⟨px,_⟩=>by
  show fP ws
  cases px with
  | op x=>exact .opn x
  | dr x=>exact .drp x
  | dd u x=>exact .doo u x
  | cp x y=>exact .cpy x y
  | ti x y=>exact .tie x y
 | .lend _ _ _,z=>h _ z.2.2
 | .ite _ _ _,z=>⟨h _ z.2.1,h _ z.2.2⟩
 | .whl _ _,z=>h _ z.2
theorem kJ:∀ {d:Nat} {T:List Stp},cS d T→jC d T
 | 0,_,h=>h
 | _+1,_,h=>fun s hs=>ym (fun _ z=>kJ z) (h s hs)
theorem tz{l:List Str}{n:Str}(h:n∈l):n∈fq l:=by
 unfold fq
 have go:∀ (l acc:List Str),n∈acc∨n∈l→n∈l.foldl fY acc:=fun l=>by
  induction l with
  | nil=>intro acc h; exact h.elim id (fun z=>by cases z)
  | cons x l ih=>
   intro acc h
   refine ih _ ?_
   unfold fY;rcases h with h | h
   ·left; split
    ·exact h
    ·exact List.mem_append_left _ h
   ·rcases List.mem_cons.mp h with rfl | h
    ·left; split
     ·assumption
     ·exact List.mem_append_right _ List.mem_cons_self
    ·exact .inr h
 exact go l [] (.inr h)
def SitsR{α : Type}(R X:List α)(a:Nat):Prop:=∀ i r,X[i]? = some r→R[a+i]? = some r
theorem SitsR.left{α : Type}{R X Y:List α}{a:Nat}(h:SitsR R (X++Y) a):SitsR R X a:=fun i r e=>h i r (by rw[List.getElem?_append_left (List.getElem?_eq_some_iff.mp e).1]; exact e)
theorem SitsR.right{α : Type}{R X Y:List α}{a:Nat}(h:SitsR R (X++Y) a):SitsR R Y (a+X.length):=fun i r e=>by
 rw[Nat.add_assoc];exact h _ r (by rw[List.getElem?_append_right (by omega),Nat.add_sub_cancel_left]; exact e)
theorem SitsR.c0{α : Type}{R Y:List α}{x:α}{a:Nat}(h:SitsR R (x::Y) a):R[a]? = some x:=h 0 x rfl
theorem SitsR.cs{α : Type}{R Y:List α}{x:α}{a:Nat}(h:SitsR R (x::Y) a):SitsR R Y (a+1):=fun i r e=>by
 rw[show a+1+i=a+(i+1) by omega]
 exact h (i+1) r e
def jS(kv:List (aF × V))(k:aF):Nat:=match bA kv k with
 | .int n=>n.toNat
 | _=>0
structure jz (kv:List (aF × V)):Prop where
 is:∀ k,dQ kv k→bA kv k=iN (jS kv k)
 inj:∀ k k',dQ kv k→dQ kv k'→jS kv k=jS kv k'→k=k'
def sK(n:Nat):aF:=.inl (n:Int)
theorem jJ{n m:Nat}(h:sK n=sK m):n=m:=by
 have:=Sum.inl.inj h
 omega
def cK(n:Nat)(st:RS):RS:={ st with pc:=n }
inductive gk (st:RS):bw→RS→Prop
 | opn (l k:Nat):gk st [.str "open", iN l,iN k] (d0 l (sK k) st)
 | deed (l k:Nat) (w:Str):gk st [.str "do", iN l,iN k,.str w] (aW l (aM st (sK k)) w st)
 | copy (l k j:Nat):gk st [.str "copy", iN l,iN k,iN j] (aO (sK k) (aM st (sK j)) st)
 | drop (l k:Nat):gk st [.str "drop", iN l,iN k] (aO (sK k) none st)
 | tie (l k j:Nat):gk st [.str "tie", iN l,iN k,iN j] (db l (aM st (sK k)) (aM st (sK j)) st)
inductive RowGo (xs:List Int) (st:RS):bw→RS→Prop
 | pl {r:bw} {s1:RS} (h:gk st r s1):RowGo xs st r (cK (st.pc+1) s1)
 | jump (l j:Nat):RowGo xs st [.str "jump", iN l,iN j] (cK j st)
 | test (l:Nat) (n:Int) (j:Nat):RowGo xs st [.str "test", iN l,.int n,iN j] (cK (if (ar xs n st).1=true then st.pc+1 else j) (ar xs n st).2)
inductive GoC (R:List bw) (xs:List Int):Nat→RS→RS→Prop
 | nil (st:RS):GoC R xs 0 st st
 | step {r:bw} {st s1 s2:RS} {n:Nat}:R[st.pc]? = some r→RowGo xs st r s1→GoC R xs n s1 s2→GoC R xs (n+1) st s2
theorem GoC.app{R:List bw}{xs:List Int}{n m:Nat}{a b c:RS}(h:GoC R xs n a b)(k:GoC R xs m b c):GoC R xs (n+m) a c:=by
 induction h with
 | nil st=>rw[Nat.zero_add]; exact k
 | step e r _ ih=>rw[show ∀ i:Nat,i+1+m=i+m+1 by omega]; exact .step e r (ih k)
theorem GoC.one{R:List bw}{xs:List Int}{r:bw}{a b:RS}{i:Nat}(hp:a.pc=i)(e:R[i]? = some r)(h:RowGo xs a r b):GoC R xs 1 a b:=.step (by rw[hp]; exact e) h (.nil b)
structure Sm (kv:List (aF × V)) (st u:RS):Prop where
 tk:u.taken=st.taken
 ls:u.last=st.last
 op:u.opened=st.opened
 lg:u.log=st.log
 hd:∀ n:Str,dQ kv (.inr n)→aM u (sK (jS kv (.inr n)))=aM st (.inr n)
def Frl(kv:List (aF × V))(lo hi:Nat)(u v:RS):Prop:=∀ l:Nat,dQ kv (sK l)→(l<lo∨hi≤l)→aM v (sK (jS kv (sK l)))=aM u (sK (jS kv (sK l)))
section
variable{kv:List (aF × V)}{st u v x:RS}{lo hi:Nat}
theorem Sm.pc(h:Sm kv st u)(n:Nat):Sm kv st (cK n u):=⟨h.tk,h.ls,h.op,h.lg,h.hd⟩
theorem Frl.trans(h:Frl kv lo hi u v)(k:Frl kv lo hi v x):Frl kv lo hi u x:=fun l a b=>(k l a b).trans (h l a b)
theorem Frl.wide{lo' hi':Nat}(h:Frl kv lo hi u v)(h1:lo'≤lo)(h2:hi≤hi'):Frl kv lo' hi' u v:=fun l a b=>h l a (by omega)
theorem Frl.same(h:v.held=u.held):Frl kv lo hi u v:=fun l _ _=>by unfold aM; rw[h]
theorem Sm.hold(ok:jz kv)(h:Sm kv st u){n:Str}(hn:dQ kv (.inr n))(o:Option Nat):Sm kv (aO (.inr n) o st) (aO (sK (jS kv (.inr n))) o u):=⟨h.tk,h.ls,h.op,h.lg,fun m hm=>by
 rw[fK,fK]
 by_cases e:m=n
 ·rw[if_pos (by rw[e]),if_pos (by rw[e])]
 ·rw[if_neg (fun z=>e (Sum.inr.inj (ok.inj _ _ hm hn (jJ z)))),if_neg (fun z=>e (Sum.inr.inj z))]
  exact h.hd m hm⟩
theorem Sm.holdL(ok:jz kv)(h:Sm kv st u){l:Nat}(hl:dQ kv (sK l))(o:Option Nat):Sm kv st (aO (sK (jS kv (sK l))) o u):=⟨h.tk,h.ls,h.op,h.lg,fun m hm=>by
 rw[fK,if_neg (fun z=>by have:=ok.inj _ _ hm hl (jJ z); cases this)]
 exact h.hd m hm⟩
theorem Frl.hold(ok:jz kv){n:Str}(hn:dQ kv (.inr n))(o:Option Nat):Frl kv lo hi u (aO (sK (jS kv (.inr n))) o u):=fun l hl _=>by
 rw[fK,if_neg (fun z=>by have:=ok.inj _ _ hl hn (jJ z); cases this)]
theorem Frl.holdL(ok:jz kv){l:Nat}(hl:dQ kv (sK l))(o:Option Nat)(h1:lo≤l)(h2:l<hi):Frl kv lo hi u (aO (sK (jS kv (sK l))) o u):=fun m hm hb=>by
 rw[fK,if_neg (fun z=>by have:=jJ (ok.inj _ _ hm hl (jJ z)); omega)]
theorem Sm.deed(h:Sm kv st u)(l:Nat)(o:Option Nat)(w:Str):Sm kv (aW l o w st) (aW l o w u):=by
 cases o with
 | none=>exact h
 | some n=>exact⟨h.tk,h.ls,h.op,by show u.log++_=st.log++_; rw[h.lg,h.ls],h.hd⟩
theorem Sm.tie(h:Sm kv st u)(l:Nat)(a b:Option Nat):Sm kv (db l a b st) (db l a b u):=by
 unfold db;split
 ·split
  ·exact h
  ·exact⟨h.tk,h.ls,h.op,by show u.log++_=st.log++_; rw[h.lg],h.hd⟩
 ·exact h
theorem Sm.opn(ok:jz kv)(h:Sm kv st u){n:Str}(hn:dQ kv (.inr n))(l:Nat):Sm kv (d0 l (.inr n) st) (d0 l (sK (jS kv (.inr n))) u):=by
 unfold d0;rw[h.op];exact Sm.hold ok (Sm.deed (st:={ st with opened:=st.opened+1 }) (u:={ u with opened:=st.opened+1 }) ⟨h.tk,h.ls,rfl,h.lg,h.hd⟩ l _ _) hn _
theorem Sm.take(h:Sm kv st u)(xs:List Int)(n:Int):(ar xs n u).1=(ar xs n st).1∧Sm kv (ar xs n st).2 (ar xs n u).2:=by
 unfold ar;rw[h.tk]
 cases xs[st.taken]? with
 | none=>exact⟨rfl,h⟩
 | some v=>exact⟨rfl,rfl,rfl,h.op,h.lg,h.hd⟩
theorem Cm(l:Nat)(o:Option Nat)(w:Str):(aW l o w u).pc=u.pc:=by cases o <;> rfl
theorem D2(l:Nat)(a b:Option Nat):(db l a b u).pc=u.pc:=by
 unfold db;split
 ·split <;> rfl
 ·rfl
theorem BK(xs:List Int)(n:Int):(ar xs n u).2.pc=u.pc:=by unfold ar; split <;> rfl
theorem Az(l:Nat)(o:Option Nat)(w:Str)(k:aF):aM (aW l o w u) k=aM u k:=by unfold aM; rw[fW]
end
def xW(f:List Stp→Nat):Stp→Nat
 | .plain _=>1
 | .lend _ _ b=>f b+6
 | .ite _ b c=>f b+f c+2
 | .whl _ b=>f b+2
def dU:Nat→List Stp→Nat
 | 0,_=>0
 | d+1,T=>(T.map (xW (dU d))).sum
theorem B1{f g:List Stp→Nat}(h:∀ T,f T≤6 * g T):∀ s:Stp,xW f s≤6 * aU g s
 | .plain _=>by show 1≤6 * 1; omega
 | .lend _ _ b=>by have:=h b; show f b+6≤6 * (g b+2); omega
 | .ite _ b c=>by have:=h b; have:=h c; show f b+f c+2≤6 * (g b+g c+3); omega
 | .whl _ b=>by have:=h b; show f b+2≤6 * (g b+2); omega
theorem xb:∀ (d:Nat) (T:List Stp),dU d T≤6 * aj d T
 | 0,_=>Nat.zero_le _
 | d+1,T=>by
  show (T.map (xW (dU d))).sum≤6 * (T.map (aU (aj d))).sum
  induction T with
  | nil=>exact Nat.zero_le _
  | cons s T ih=>
   have:=B1 (xb d) s
   simp only[List.map_cons,List.sum_cons]
   omega
theorem i7{a b W V t1 t2 t:Nat}(h1:a≤W * (1+t1))(h2:b≤V * (1+t2))(ht:t1+t2≤t):a+b≤(W+V) * (1+t):=by
 have e1:=Nat.mul_le_mul_left W (show 1+t1≤1+t by omega)
 have e2:=Nat.mul_le_mul_left V (show 1+t2≤1+t by omega)
 rw[Nat.add_mul];omega
theorem gG{a W V t:Nat}(h:a≤W * (1+t)):a+V≤(W+V) * (1+t):=by
 have e:=Nat.mul_le_mul_left V (show 1≤1+t by omega)
 rw[Nat.add_mul];omega
theorem As(l:Nat)(ws:List Str)(st:RS):(cZ l ws st).taken=st.taken:=by
 have c:ClosedR [] (fun s=>s.taken=st.taken):=⟨fun _ _ _ z=>z,fun l h w s z=>by cases h <;> exact z,fun l a b s z=>by
  unfold db; split
  ·split <;> exact z
  ·exact z,fun _ _ _ z=>z,fun n s z=>z⟩
 exact c.plain l ws st rfl
theorem mL(xs:List Int)(n:Int)(st:RS):st.taken≤(ar xs n st).2.taken:=by
 unfold ar;split
 ·exact Nat.le_refl _
 ·exact Nat.le_succ _
theorem uc{xs:List Int}{n:Int}{st:RS}(h:(ar xs n st).1=true):(ar xs n st).2.taken=st.taken+1∧st.taken<xs.length:=by
 unfold ar at h ⊢
 cases e:xs[st.taken]? with
 | none=>rw[e]at h; cases h
 | some v=>exact⟨rfl,(List.getElem?_eq_some_iff.mp e).1⟩
theorem pS{xs:List Int}{n:Int}{st:RS}(h:xs.length≤st.taken):ar xs n st=(false,st):=by
 unfold ar;rw[List.getElem?_eq_none_iff.mpr h]
def lK(kv:List (aF × V))(R:List bw)(xs:List Int)(X:List bw)(a lo hi W:Nat)(f:RS→RS):Prop:=
 ∀ st u,Sm kv st u→u.pc=a→∃ n v,GoC R xs n u v∧v.pc=a+X.length∧Sm kv (f st) v∧Frl kv lo hi u v∧st.taken≤(f st).taken∧n≤W * (1+((f st).taken - st.taken))
section
variable{kv:List (aF × V)}{R:List bw}{xs:List Int}
theorem oR{f:Bool→Nat→Nat→List Stp→List bw}{cnt:List Stp→Nat}{a l hi W:Nat}{n:Int}{b:List Stp}{g:RS→RS}(sit:SitsR R (de f cnt a l n b) a)(hb:lK kv R xs (f false (a+1) (l+1) b) (a+1) l hi W g) :
  ∀ (m:Nat) (st u:RS),xs.length - st.taken≤m→Sm kv st u→u.pc=a→∃ k v,GoC R xs k u v∧v.pc=a+(de f cnt a l n b).length∧Sm kv (cE g xs n m st) v∧Frl kv l hi u v∧st.taken≤(cE g xs n m st).taken∧k≤(W+2) * (1+((cE g xs n m st).taken - st.taken)):=by
 have hlen:(de f cnt a l n b).length=(f false (a+1) (l+1) b).length+2:=iW
 rw[hlen];unfold de at sit;have e0:=sit.left.left.c0;have e1:=sit.right.c0;rw[List.length_append,List.length_singleton]at e1
 generalize f false (a+1) (l+1) b=B at hb e0 e1
 have out:∀ (st u:RS),Sm kv st u→u.pc=a→(ar xs n st).1=false→∃ k v,GoC R xs k u v∧v.pc=a+(B.length+2)∧Sm kv (ar xs n st).2 v∧Frl kv l hi u v∧st.taken≤(ar xs n st).2.taken∧k≤(W+2) * (1+((ar xs n st).2.taken - st.taken)):=by
  intro st u hS hp hf
  obtain⟨t1,t2⟩:=hS.take xs n
  rw[hf]at t1
  refine⟨1,_,GoC.one hp e0 (.test l n _),?_,t2.pc _,Frl.same (fk _ _ _),mL _ _ _,?_⟩
  ·show (if (ar xs n u).1=true then _ else _)=_
   rw[if_neg (by rw[t1]; decide)]
   omega
  ·exact Nat.le_trans (by omega) (Nat.mul_le_mul_left (W+2) (show 1≤1+((ar xs n st).2.taken - st.taken) by omega))
 intro m
 induction m with
 | zero=>
  intro st u hm hS hp
  have te:=pS (n:=n) (show xs.length≤st.taken by omega)
  have:=out st u hS hp (by rw[te])
  rw[te]at this
  exact this
 | succ m ih=>
  intro st u hm hS hp
  unfold cE
  cases hf:(ar xs n st).1 with
  | false=>
   rw[if_neg (by decide)]
   exact out st u hS hp hf
  | true=>
   rw[if_pos rfl];obtain⟨t1,t2⟩:=hS.take xs n
   rw[hf]at t1
   obtain⟨k1,k2⟩:=uc hf
   obtain⟨n1,v1,g1,p1,s1,f1,l1,c1⟩:=hb (ar xs n st).2 (cK (a+1) (ar xs n u).2) (t2.pc _) rfl
   obtain⟨n2,v2,g2,p2,s2,f2,l2,c2⟩:=ih (g (ar xs n st).2) (cK a v1) (by omega) (s1.pc _) rfl
   have r0:RowGo xs u [.str "test", iN l,.int n,iN (a+1+B.length+1)] (cK (a+1) (ar xs n u).2):=by
    have:=RowGo.test (xs:=xs) (st:=u) l n (a+1+B.length+1)
    rw[if_pos t1,hp]at this
    exact this
   refine⟨1+n1+1+n2,v2,(((GoC.one hp e0 r0).app g1).app (GoC.one (by rw[p1]; omega) e1 (.jump _ a))).app g2,p2,s2,?_,by omega,?_⟩
   ·exact((Frl.same (fk _ _ _)).trans f1).trans f2
   ·generalize (cE g xs n m (g (ar xs n st).2)).taken=z at l2 c2 ⊢
    generalize (g (ar xs n st).2).taken=y at l1 c1 l2 c2;rw[k1]at c1 l1
    have h2:=i7 (gG (V:=2) c1) c2 (t:=y - (st.taken+1)+(z - y)) (Nat.le_refl _)
    have h3:(W+2) * (1+(y - (st.taken+1)))+(W+2) * (1+(z - y))=(W+2) * (1+(z - st.taken)):=by
     rw[← Nat.mul_add]
     congr 1
     omega
    have h4:=gG (V:=2) c1;omega
theorem zI(ok:jz kv){d:Nat}(ih:∀ t a l b,fF d b→dC kv d l b→SitsR R (aL kv d t a l b) a→lK kv R xs (aL kv d t a l b) a l (l+aj d b) (dU d b) (aQ xs d l b))(t:Bool)(a l:Nat) :
  ∀ s:Stp,my (fF d) s→jw kv (dC kv d) (aj d) l s→SitsR R (dX kv (aL kv d) (aj d) t a l s) a→lK kv R xs (dX kv (aL kv d) (aj d) t a l s) a l (l+aU (aj d) s) (xW (dU d) s) (cg (aj d) (aQ xs d) xs l s)
 | .plain ws,hs,hk,sit=>fun st u hS hp=>by
  have fin:∀ v,RowGo xs u (dq kv l ws) v→v.pc=u.pc+1→Sm kv (cZ l ws st) v→Frl kv l (l+1) u v→∃ n v,GoC R xs n u v∧v.pc=a+[dq kv l ws].length∧Sm kv (cZ l ws st) v∧Frl kv l (l+1) u v∧st.taken≤(cZ l ws st).taken∧n≤1 * (1+((cZ l ws st).taken - st.taken)):=fun v h1 h2 h3 h4=>
   ⟨1,v,GoC.one hp sit.c0 h1,by rw[h2,hp]; rfl,h3,h4,by rw[As]; exact Nat.le_refl _,by omega⟩
  have hs':dN ws:=hs
  obtain⟨hk1,hk2⟩:=hk
  cases hs' with
  | op x=>
   have hx:=hk2 x (show x∈[x] from List.mem_cons_self);refine fin _ ?_ ?_ ((hS.opn ok hx l).pc (u.pc+1)) ?_
   ·rw[show dq kv l ["open", x]=[.str "open", iN l,bA kv (.inr x)] from rfl,ok.is _ hx]
    exact .pl (.opn l _)
   ·rfl
   ·exact(Frl.same (v:=aW l (some u.opened) "open" { u with opened:=u.opened+1 }) (fW _ _ _ _)).trans (Frl.hold ok hx _)
  | dr x=>
   have hx:=hk2 x (show x∈[x] from List.mem_cons_self);refine fin _ ?_ ?_ ((hS.hold ok hx none).pc (u.pc+1)) ?_
   ·rw[show dq kv l ["drop", x]=[.str "drop", iN l,bA kv (.inr x)] from rfl,ok.is _ hx]
    exact .pl (.drop l _)
   ·rfl
   ·exact Frl.hold ok hx _
  | dd w x=>
   have hx:=hk2 x (show x∈[x] from List.mem_cons_self);refine fin _ ?_ ?_ ((hS.deed l (aM st (.inr x)) w).pc (u.pc+1)) ?_
   ·rw[show dq kv l ["do", w,x]=[.str "do", iN l,bA kv (.inr x),.str w] from rfl,ok.is _ hx,← hS.hd x hx]
    exact .pl (.deed l _ w)
   ·rfl
   ·exact Frl.same (fW _ _ _ _)
  | cp x y=>
   have hx:=hk2 x (show x∈[x,y] from List.mem_cons_self);have hy:=hk2 y (show y∈[x,y] from List.mem_cons_of_mem _ List.mem_cons_self);refine fin _ ?_ ?_ ((hS.hold ok hx (aM st (.inr y))).pc (u.pc+1)) ?_
   ·rw[show dq kv l ["copy", x,y]=[.str "copy", iN l,bA kv (.inr x),bA kv (.inr y)] from rfl,ok.is _ hx,ok.is _ hy,← hS.hd y hy]
    exact .pl (.copy l _ _)
   ·rfl
   ·exact Frl.hold ok hx _
  | ti x y=>
   have hx:=hk2 x (show x∈[x,y] from List.mem_cons_self);have hy:=hk2 y (show y∈[x,y] from List.mem_cons_of_mem _ List.mem_cons_self);refine fin _ ?_ ?_ ((hS.tie l (aM st (.inr x)) (aM st (.inr y))).pc (u.pc+1)) ?_
   ·rw[show dq kv l ["tie", x,y]=[.str "tie", iN l,bA kv (.inr x),bA kv (.inr y)] from rfl,ok.is _ hx,ok.is _ hy,← hS.hd x hx,← hS.hd y hy]
    exact .pl (.tie l _ _)
   ·rfl
   ·exact Frl.same (wu _ _ _ _)
 | .lend x y b,hs,hk,sit=>fun st u hS hp=>by
  obtain⟨hx,hy,hl,hb⟩:=hk
  have hl':dQ kv (sK l):=hl
  have sit':SitsR R (fA kv (aL kv d) (aj d) t a l x y b) a:=sit
  unfold fA at sit';have sb:=sit'.left.right;have se:=sit'.right;simp only[List.length_append,List.length_cons,List.length_nil]at sb se
  have ex:=ok.is _ hx;have ey:=ok.is _ hy;have el:bA kv (.inl (l:Int))=iN (jS kv (sK l)):=ok.is _ hl'
  rw[ex,ey,el]at sit'
  rw[ey,el]at se
  have q0:=sit'.left.left.c0;have q1:=sit'.left.left.cs.c0;have q2:=sit'.left.left.cs.cs.c0;have q3:=se.c0;have q4:=se.cs.c0;have q5:=se.cs.cs.c0;have hgx:=hS.hd x hx;generalize ho:aM st (.inr x)=o at hgx;have g0:=GoC.one (R:=R) (xs:=xs) hp q0 (.pl (.copy l _ _));rw[hgx,hp]at g0
  have s0:=(hS.holdL ok hl' o).pc (a+1)
  have z0:aM (cK (a+1) (aO (sK (jS kv (sK l))) o u)) (sK (jS kv (sK l)))=o:=by
   show aM (aO _ o u) _=o
   rw[fK,if_pos rfl]
  generalize hu0:cK (a+1) (aO (sK (jS kv (sK l))) o u)=u0 at g0 s0 z0;have f0:Frl kv l (l+(aj d b+2)) u u0:=by rw[← hu0]; exact Frl.holdL ok hl' o (Nat.le_refl _) (by omega)
  have g1:=GoC.one (R:=R) (xs:=xs) (a:=u0) (by rw[← hu0]; rfl) q1 (.pl (.deed l _ "lend"))
  rw[z0,show u0.pc=a+1 by rw[← hu0]; rfl]at g1
  have s1:=(s0.deed l o "lend").pc (a+1+1);have z1:aM (cK (a+1+1) (aW l o "lend" u0)) (sK (jS kv (sK l)))=o:=(Az _ _ _ _).trans z0
  have f1:Frl kv l (l+(aj d b+2)) u0 (cK (a+1+1) (aW l o "lend" u0)):=Frl.same (fW _ _ _ _)
  have p1:(cK (a+1+1) (aW l o "lend" u0)).pc=a+1+1:=rfl
  generalize cK (a+1+1) (aW l o "lend" u0)=u1 at g1 s1 z1 f1 p1;have g2:=GoC.one (R:=R) (xs:=xs) (a:=u1) p1 q2 (.pl (.copy l _ _));rw[z1,p1]at g2
  have s2:=(s1.hold ok hy o).pc (a+1+1+1);have z2:aM (cK (a+1+1+1) (aO (sK (jS kv (.inr y))) o u1)) (sK (jS kv (sK l)))=o:=(Frl.hold (lo:=l+1) (hi:=l+1) ok hy o l hl' (by omega)).trans z1
  have f2:Frl kv l (l+(aj d b+2)) u1 (cK (a+1+1+1) (aO (sK (jS kv (.inr y))) o u1)):=Frl.hold ok hy o
  have p2:(cK (a+1+1+1) (aO (sK (jS kv (.inr y))) o u1)).pc=a+3:=rfl
  generalize cK (a+1+1+1) (aO (sK (jS kv (.inr y))) o u1)=u2 at g2 s2 z2 f2 p2;obtain⟨n3,u3,g3,p3,s3,f3,l3,c3⟩:=ih t (a+3) (l+1) b hs hb sb _ _ s2 p2
  have z3:=(f3 l hl' (by omega)).trans z2
  have f3':=f3.wide (lo':=l) (hi':=l+(aj d b+2)) (by omega) (by omega)
  generalize hst3:aQ xs d (l+1) b (aO (.inr y) o (aW l o "lend" st))=st3 at s3 l3 c3;generalize hB:aL kv d t (a+3) (l+1) b=B at p3 sit' se q3 q4 q5;have g4:=GoC.one (R:=R) (xs:=xs) (a:=u3) (i:=a+(3+B.length)) (by rw[p3]; omega) (by simpa using q3) (.pl (.deed _ _ "back"))
  rw[z3,show u3.pc=a+3+B.length from p3]at g4
  have s4:=(s3.deed (l+1+aj d b) o "back").pc (a+3+B.length+1);have f4:Frl kv l (l+(aj d b+2)) u3 (cK (a+3+B.length+1) (aW (l+1+aj d b) o "back" u3)):=Frl.same (fW _ _ _ _)
  have p4:(cK (a+3+B.length+1) (aW (l+1+aj d b) o "back" u3)).pc=a+3+B.length+1:=rfl
  generalize cK (a+3+B.length+1) (aW (l+1+aj d b) o "back" u3)=u4 at g4 s4 f4 p4;have g5:=GoC.one (R:=R) (xs:=xs) (a:=u4) (i:=a+(3+B.length)+1) (by rw[p4]; omega) (by simpa using q4) (.pl (.drop _ _))
  rw[p4]at g5
  have s5:=(s4.hold ok hy none).pc (a+3+B.length+1+1);have f5:Frl kv l (l+(aj d b+2)) u4 (cK (a+3+B.length+1+1) (aO (sK (jS kv (.inr y))) none u4)):=Frl.hold ok hy none
  have p5:(cK (a+3+B.length+1+1) (aO (sK (jS kv (.inr y))) none u4)).pc=a+3+B.length+1+1:=rfl
  generalize cK (a+3+B.length+1+1) (aO (sK (jS kv (.inr y))) none u4)=u5 at g5 s5 f5 p5;have g6:=GoC.one (R:=R) (xs:=xs) (a:=u5) (i:=a+(3+B.length)+1+1) (by rw[p5]; omega) (by simpa using q5) (.pl (.drop _ _))
  have f6:Frl kv l (l+(aj d b+2)) u5 (cK (u5.pc+1) (aO (sK (jS kv (sK l))) none u5)):=Frl.holdL ok hl' none (Nat.le_refl _) (by omega)
  refine⟨_,_,(((((g0.app g1).app g2).app g3).app g4).app g5).app g6,?_,?_,(((((f0.trans f1).trans f2).trans f3').trans f4).trans f5).trans f6,?_,?_⟩
  ·show u5.pc+1=a+(fA kv (aL kv d) (aj d) t a l x y b).length
   rw[p5];unfold fA;simp only[List.length_append,List.length_cons,List.length_nil,hB]
   omega
  ·show Sm kv (aO (.inr y) none (aW (l+1+aj d b) (aM st (.inr x)) "back" (aQ xs d (l+1) b (aO (.inr y) (aM st (.inr x)) (aW l (aM st (.inr x)) "lend" st))))) _
   rw[ho,hst3];exact(s5.holdL ok hl' none).pc _
  ·show st.taken≤(aO (.inr y) none (aW (l+1+aj d b) (aM st (.inr x)) "back" (aQ xs d (l+1) b (aO (.inr y) (aM st (.inr x)) (aW l (aM st (.inr x)) "lend" st))))).taken
   rw[ho,hst3];have e1:(aO (.inr y) o (aW l o "lend" st)).taken=st.taken:=by cases o <;> rfl
   have e2:(aO (.inr y) none (aW (l+1+aj d b) o "back" st3)).taken=st3.taken:=by cases o <;> rfl
   omega
  ·show _≤(dU d b+6) * (1+((aO (.inr y) none (aW (l+1+aj d b) (aM st (.inr x)) "back" (aQ xs d (l+1) b (aO (.inr y) (aM st (.inr x)) (aW l (aM st (.inr x)) "lend" st))))).taken - st.taken))
   rw[ho,hst3];have e1:(aO (.inr y) o (aW l o "lend" st)).taken=st.taken:=by cases o <;> rfl
   have e2:(aO (.inr y) none (aW (l+1+aj d b) o "back" st3)).taken=st3.taken:=by cases o <;> rfl
   rw[e1]at c3
   rw[e2];have:=gG (V:=6) c3
   omega
 | .ite n b c,hs,hk,sit=>fun st u hS hp=>by
  obtain⟨hb,hc⟩:=hk
  obtain⟨sb,sc⟩:=hs
  have sit':SitsR R (jB (aL kv d) (aj d) t a l n b c) a:=sit
  have hlen:(dX kv (aL kv d) (aj d) t a l (.ite n b c)).length=(jB (aL kv d) (aj d) t a l n b c).length:=rfl
  rw[hlen];unfold jB at sit' ⊢
  have ib:=ih t (a+1) (l+1) b sb hb;generalize aL kv d t (a+1) (l+1) b=B at sit' ib ⊢;have ic:=ih t (a+1+B.length+1) (l+1+aj d b+1) c sc hc;generalize aL kv d t (a+1+B.length+1) (l+1+aj d b+1) c=C at sit' ic ⊢;have q0:=sit'.left.left.left.c0;have q1:=sit'.left.left.right;have q2:=sit'.left.right.c0;have q3:=sit'.right;simp only[List.length_append,List.length_cons,List.length_nil]at q1 q2 q3 ⊢
  have ib:=ib (by simpa using q1)
  have ic:=ic (by rw[show a+1+B.length+1=a+(0+1+B.length+(0+1)) by omega]; exact q3)
  obtain⟨t1,t2⟩:=hS.take xs n
  have hle:=mL xs n st;have r0:=RowGo.test (xs:=xs) (st:=u) l n (a+1+B.length+1);show ∃ k v,GoC R xs k u v∧v.pc=_∧Sm kv (if (ar xs n st).1=true then aQ xs d (l+1) b (ar xs n st).2 else aQ xs d (l+1+aj d b+1) c (ar xs n st).2) v∧Frl kv l (l+(aj d b+aj d c+3)) u v∧st.taken≤(if (ar xs n st).1=true then aQ xs d (l+1) b (ar xs n st).2 else aQ xs d (l+1+aj d b+1) c (ar xs n st).2).taken∧k≤(dU d b+dU d c+2) * (1+((if (ar xs n st).1=true then aQ xs d (l+1) b (ar xs n st).2 else aQ xs d (l+1+aj d b+1) c (ar xs n st).2).taken - st.taken))
  cases hf:(ar xs n st).1 with
  | true=>
   rw[if_pos rfl];rw[hf]at t1
   rw[if_pos t1,hp]at r0
   obtain⟨n1,v1,g1,p1,s1,f1,l1,c1⟩:=ib _ _ (t2.pc (a+1)) rfl
   refine⟨1+n1+1,_,((GoC.one hp q0 r0).app g1).app (GoC.one (by rw[p1]; omega) q2 (.jump _ _)),?_,s1.pc _,?_,by omega,?_⟩
   ·show a+1+B.length+1+C.length=_
    omega
   ·exact((Frl.same (fk _ _ _)).trans f1).wide (by omega) (by omega) |>.trans (Frl.same rfl)
   ·generalize (aQ xs d (l+1) b (ar xs n st).2).taken=z at l1 c1 ⊢
    have h2:=i7 (gG (V:=2) c1) (show 0≤dU d c * (1+0) by omega) (t:=z - st.taken) (by omega)
    rw[show dU d b+dU d c+2=dU d b+2+dU d c by omega]
    omega
  | false=>
   rw[if_neg (by decide)]
   rw[hf]at t1
   rw[if_neg (by rw[t1]; decide)]at r0
   obtain⟨n1,v1,g1,p1,s1,f1,l1,c1⟩:=ic _ _ (t2.pc (a+1+B.length+1)) rfl
   refine⟨1+n1,_,(GoC.one hp q0 r0).app g1,?_,s1,?_,by omega,?_⟩
   ·rw[p1]
    omega
   ·exact((Frl.same (fk _ _ _)).trans f1).wide (by omega) (by omega)
   ·generalize (aQ xs d (l+1+aj d b+1) c (ar xs n st).2).taken=z at l1 c1 ⊢
    have h2:=i7 (gG (V:=2) c1) (show 0≤dU d b * (1+0) by omega) (t:=z - st.taken) (by omega)
    rw[show dU d b+dU d c+2=dU d c+2+dU d b by omega]
    omega
 | .whl n b,hs,hk,sit=>by
  cases t with
  | false=>
   have sit':SitsR R (de (aL kv d) (aj d) a l n b) a:=sit
   refine fun st u hS hp=>?_
   have hb:=ih false (a+1) (l+1) b hs hk (by
    unfold de at sit'
    simpa using sit'.left.right)
   exact oR sit' (fun st u h1 h2=>by
    obtain⟨n1,v1,g1,p1,s1,f1,r1⟩:=hb st u h1 h2
    exact⟨n1,v1,g1,p1,s1,f1.wide (by omega) (show l+1+aj d b≤l+(aj d b+2) by omega),r1⟩) xs.length st u (by omega) hS hp
  | true=>
   have sit':SitsR R (dz (aL kv d) (aj d) true a l n b) a:=sit
   have hlen:(dX kv (aL kv d) (aj d) true a l (.whl n b)).length=(dz (aL kv d) (aj d) true a l n b).length:=rfl
   refine fun st u hS hp=>?_
   rw[hlen];unfold dz at sit' ⊢
   rw[if_pos rfl]at sit' ⊢
   have q0:=sit'.left.left.c0;have hb:=ih true (a+1) (l+1) b hs hk (by simpa using sit'.left.right)
   have sl:=sit'.right;rw[List.length_append,List.length_singleton,show a+(1+(aL kv d true (a+1) (l+1) b).length)=a+1+(aL kv d true (a+1) (l+1) b).length by omega]at sl
   generalize aL kv d true (a+1) (l+1) b=B at sit' hb sl q0 ⊢
   have hc:=ih false (a+1+B.length+1) (l+1) b hs hk (by
    have:=sl
    unfold de at this
    simpa using this.left.right)
   obtain⟨t1,t2⟩:=hS.take xs n
   have hle:=mL xs n st;have r0:=RowGo.test (xs:=xs) (st:=u) l n (a+1+B.length+(de (aL kv d) (aj d) (a+1+B.length) l n b).length);show ∃ k v,GoC R xs k u v∧v.pc=_∧Sm kv (cE (aQ xs d (l+1) b) xs n xs.length st) v∧Frl kv l (l+(aj d b+2)) u v∧st.taken≤(cE (aQ xs d (l+1) b) xs n xs.length st).taken∧k≤(dU d b+2) * (1+((cE (aQ xs d (l+1) b) xs n xs.length st).taken - st.taken))
   have out:(ar xs n st).1=false→∃ k v,GoC R xs k u v∧v.pc=a+([[V.str "test", iN l,V.int n,iN (a+1+B.length+(de (aL kv d) (aj d) (a+1+B.length) l n b).length)]]++B++de (aL kv d) (aj d) (a+1+B.length) l n b).length∧Sm kv (ar xs n st).2 v∧Frl kv l (l+(aj d b+2)) u v∧st.taken≤(ar xs n st).2.taken∧k≤(dU d b+2) * (1+((ar xs n st).2.taken - st.taken)):=fun hf=>by
    rw[hf]at t1
    rw[if_neg (by rw[t1]; decide)]at r0
    refine⟨1,_,GoC.one hp q0 r0,?_,t2.pc _,Frl.same (fk _ _ _),hle,?_⟩
    ·show a+1+B.length+_=_
     simp only[List.length_append,List.length_singleton]
     omega
    ·exact Nat.le_trans (by omega) (Nat.mul_le_mul_left (dU d b+2) (show 1≤1+((ar xs n st).2.taken - st.taken) by omega))
   cases hm:xs.length with
   | zero=>
    have te:=pS (n:=n) (show xs.length≤st.taken by omega)
    have:=out (by rw[te])
    rw[te]at this
    exact this
   | succ m=>
    unfold cE
    cases hf:(ar xs n st).1 with
    | false=>
     rw[if_neg (by decide)]
     exact out hf
    | true=>
     rw[if_pos rfl];rw[hf]at t1
     rw[if_pos t1,hp]at r0
     obtain⟨k1,k2⟩:=uc hf
     obtain⟨n1,v1,g1,p1,s1,f1,l1,c1⟩:=hb _ _ (t2.pc (a+1)) rfl
     obtain⟨n2,v2,g2,p2,s2,f2,l2,c2⟩:=oR sl (fun st u h1 h2=>by
      obtain⟨n1,v1,g1,p1,s1,f1,r1⟩:=hc st u h1 h2
      exact⟨n1,v1,g1,p1,s1,f1.wide (by omega) (show l+1+aj d b≤l+(aj d b+2) by omega),r1⟩) m (aQ xs d (l+1) b (ar xs n st).2) v1 (by omega) s1 p1
     refine⟨1+n1+n2,v2,((GoC.one hp q0 r0).app g1).app g2,?_,s2,?_,by omega,?_⟩
     ·rw[p2]
      simp only[List.length_append,List.length_singleton]
      omega
     ·exact((Frl.same (fk _ _ _)).trans (f1.wide (by omega) (by omega))).trans f2
     ·generalize (cE (aQ xs d (l+1) b) xs n m (aQ xs d (l+1) b (ar xs n st).2)).taken=z at l2 c2 ⊢
      generalize (aQ xs d (l+1) b (ar xs n st).2).taken=y at l1 c1 l2 c2;rw[k1]at c1 l1
      have h3:(dU d b+2) * (1+(y - (st.taken+1)))+(dU d b+2) * (1+(z - y))=(dU d b+2) * (1+(z - st.taken)):=by
       rw[← Nat.mul_add]
       congr 1
       omega
      have h4:=gG (V:=2) c1;omega
theorem uf(ok:jz kv):∀ (d:Nat) (t:Bool) (a l:Nat) (T:List Stp),fF d T→dC kv d l T→SitsR R (aL kv d t a l T) a→lK kv R xs (aL kv d t a l T) a l (l+aj d T) (dU d T) (aQ xs d l T)
 | 0,_,_,_,_,h,_,_=>h.elim
 | d+1,t,a,l,T,hs,hk,sit=>by
  have st:=zI ok (xs:=xs) (uf ok d) t
  have key:∀ (T:List Stp) (a l:Nat),(∀ s∈T,my (fF d) s)→(∀ z∈df (aU (aj d)) l T,jw kv (dC kv d) (aj d) z.1 z.2)→SitsR R (dg (dX kv (aL kv d) (aj d) t) (aU (aj d)) a l T) a→
    lK kv R xs (dg (dX kv (aL kv d) (aj d) t) (aU (aj d)) a l T) a l (l+(T.map (aU (aj d))).sum) (T.map (xW (dU d))).sum (fun st=>(df (aU (aj d)) l T).foldl (fun st z=>cg (aj d) (aQ xs d) xs z.1 z.2 st) st):=by
   intro T
   induction T with
   | nil=>exact fun a l _ _ _ st u hS hp=>⟨0,u,.nil u,hp,hS,fun _ _ _=>rfl,Nat.le_refl _,by omega⟩
   | cons s T ih=>
    intro a l hs hk sit st1 u hS hp
    obtain⟨n1,v1,g1,p1,s1,f1,l1,c1⟩:=st a l s (hs s List.mem_cons_self) (hk (l,s) List.mem_cons_self) sit.left st1 u hS hp
    obtain⟨n2,v2,g2,p2,s2,f2,l2,c2⟩:=ih (a+(dX kv (aL kv d) (aj d) t a l s).length) (l+aU (aj d) s) (fun x hx=>hs x (List.mem_cons_of_mem _ hx)) (fun x hx=>hk x (List.mem_cons_of_mem _ hx)) sit.right _ v1 s1 p1
    dsimp only at l2 c2
    simp only[List.map_cons,List.sum_cons]
    refine⟨n1+n2,v2,g1.app g2,?_,s2,(f1.wide (Nat.le_refl _) (by omega)).trans (f2.wide (by omega) (by omega)),Nat.le_trans l1 l2,i7 c1 c2 ?_⟩
    ·rw[p2]
     show _=a+(dX kv (aL kv d) (aj d) t a l s++_).length
     rw[List.length_append];omega
    ·show _≤(List.foldl (fun st (z:Nat × Stp)=>cg (aj d) (aQ xs d) xs z.1 z.2 st) (cg (aj d) (aQ xs d) xs l s st1) _).taken - st1.taken
     omega
  exact key T a l hs hk sit
end
section
variable{P:Program}{w:World}{K:PySem.W.Frag}{mg:Str→Option Value}{base:Heap}
theorem AO{st s1:RS}{r:bw}(h:gk st r s1):s1.sz≤st.sz+3:=by
 have hh:∀ (k:aF) (o:Option Nat) (z:RS),(aO k o z).sz≤z.sz+1:=fun k o z=>by
  unfold RS.sz aO;have:(cU z.held k (hV o)).length≤z.held.length+1:=by unfold cU; split <;> simp
  show z.log.length+(cU z.held k (hV o)).length+z.opened≤_
  omega
 have hd:∀ (l:Nat) (o:Option Nat) (w:Str) (z:RS),(aW l o w z).sz≤z.sz+1:=fun l o w z=>by
  cases o with
  | none=>exact Nat.le_succ _
  | some n=>
   show (z.log++_).length+z.held.length+z.opened≤z.log.length+z.held.length+z.opened+1
   simp
   omega
 cases h with
 | opn l k=>
  have h1:=hh (sK k) (some st.opened) (aW l (some st.opened) "open" { st with opened:=st.opened+1 });have h2:=hd l (some st.opened) "open" { st with opened:=st.opened+1 };have h3:RS.sz { st with opened:=st.opened+1 }=st.sz+1:=rfl
  unfold d0;omega
 | deed l k w=>have:=hd l (aM st (sK k)) w st; omega
 | copy l k j=>have:=hh (sK k) (aM st (sK j)) st; omega
 | drop l k=>have:=hh (sK k) none st; omega
 | tie l k j=>
  unfold db;split
  ·split
   ·omega
   ·show (st.log++_).length+st.held.length+st.opened≤st.log.length+st.held.length+st.opened+3
    simp
    omega
  ·omega
theorem sH{st s1:RS}{r:bw}(h:gk st r s1):∃ kd rest,r = .str kd::rest∧kd ≠ "jump" ∧ kd ≠ "test" ∧ kd ≠ "end" := by
 cases h <;> exact⟨_,_,rfl,by decide,by decide,by decide⟩
theorem Fo{st s1:RS}{r:bw}(h:gk st r s1):s1.pc=st.pc:=by
 cases h with
 | opn=>rfl
 | deed=>exact Cm _ _ _
 | copy=>rfl
 | drop=>rfl
 | tie=>exact D2 _ _ _
theorem Cd{xs:List Int}{st s1:RS}{r:bw}(h:RowGo xs st r s1):∃ kd rest,r = .str kd::rest∧kd ≠ "end" := by
 cases h with
 | pl h=>
  obtain⟨kd,rest,e,_,_,n⟩:=sH h
  exact⟨kd,rest,e,n⟩
 | jump l j=>exact⟨_,_,rfl,by decide⟩
 | test l n j=>exact⟨_,_,rfl,by decide⟩
theorem rO{H:Hp}{as:List Addr}{R:List bw}(h:Paired (bP H) as R){i:Nat}{r:bw}(e:R[i]? = some r):∃ a,as[i]? = some a∧bP H a r:=by
 have hi:i<as.length:=by rw[aB h]; exact(List.getElem?_eq_some_iff.mp e).1
 obtain⟨y,e1,e2⟩:=bI h (List.getElem?_eq_getElem hi)
 rw[e]at e1
 cases e1;exact⟨_,List.getElem?_eq_getElem hi,e2⟩
theorem FG{xs:List Int}{st s1:RS}{r:bw}(h:RowGo xs st r s1):s1.sz≤st.sz+3:=by
 cases h with
 | pl h=>
  have:=AO h
  exact this
 | jump l j=>exact Nat.le_add_right _ _
 | test l n j=>
  show (ar xs n st).2.sz≤st.sz+3
  unfold ar;split <;> exact Nat.le_add_right _ _
section
variable{CR:Addr}
def yC(K:PySem.W.Frag)(C:Addr):Sp:=fun vs H Q _=>∃ (E:RE) (H0:Hp) (st:RS) (n:Nat),E.C=C∧vs=[.ref E.r,.int (n:Int)]∧RO K E H0 H st∧∀ H',RO K E H0 H' (cK n st)→Q .non H'
theorem BV(D:MethAt K CR "come_to" "Run.come_to" cD) (a_at:Fl K CR "at"):cB P w K mg base 1 CR "come_to" ["self", "at"] (yC K CR):=by
 refine D.mcal (k:=0) mN (fun _ _ _ _ _ _ us hl=>match us,hl with | [_,_],_=>rfl) (fun vs H Q E h=>by obtain⟨E,H0,st,n,_,rfl,_⟩:=h; rfl) (fun f cdv A outer sh H vs Q _ hr h=>?_)
 obtain⟨E,H0,st,n,rfl,rfl,R,q⟩:=h
 refine⟨_,(ak (cR a_at (pv 0) (pv 1))),?_⟩
 walk_at "rd1";exact R.put (st':=cK n st) rfl rfl R.tk _ _ (zW E st n) q
def tQ(K:PySem.W.Frag)(C:Addr):Sp:=fun vs H Q _=>∃ (E:RE) (H0:Hp) (st s1:RS) (a:Addr) (r:bw),E.C=C∧vs=[.ref E.r,.ref a]∧bP H0 a r∧gk st r s1∧RO K E H0 H st∧st.sz+3≤400000∧∀ H',RO K E H0 H' s1→Q .non H'
theorem yI(D:DefAt K mg "do_row" fC) (m_Run_new_handle:cB P w K mg base 3 CR "new_handle" ["self", "line", "holder"] (rg K CR)) (m_Run_deed:cB P w K mg base 2 CR "deed" ["self", "line", "handle", "word"] (im K CR)) (m_Run_handle_of:cB P w K mg base 1 CR "handle_of" ["self", "holder"] (iU K CR))
  (m_Run_hold:cB P w K mg base 1 CR "hold" ["self", "holder", "handle"] (jE K CR)) (m_Run_tie:cB P w K mg base 2 CR "tie" ["self", "line", "one", "other"] (wc K CR)):aK P w K mg base 4 "do_row" ["run", "row"] (tQ K CR):=by
 refine D.cal (k:=3) sc_do_row (fun _ _ _ _ _ _ us hl=>match us,hl with | [_,_],_=>rfl) (fun vs H Q E h=>by obtain⟨E,H0,st,s1,a,r,_,rfl,_⟩:=h; rfl) (fun f cdv A outer sh H vs Q _ hr h=>?_)
 obtain⟨E,H0,st,s1,a,r,rfl,rfl,hr0,hp,R,hz,q⟩:=h
 have hs:=AO hp
 refine⟨_,(ae (aw 2 sc_do_row.nd (ax (aG K) (pv 1) af (fun _ _=>rfl)))
   (ak (a_ (aC bD (ax (aG K) (pv 1) af (fun _ _=>rfl)) au (aH _)) (ak (ay (bc m_Run_new_handle hr (pv 0) (aa (pv 2) (aa (ax (aG K) (pv 1) af (fun _ _=>rfl)) ac))))) (ak (a_ (aC bD (ax (aG K) (pv 1) af (fun _ _=>rfl)) au (aH _)) (ak (ay (bc m_Run_deed hr (pv 0) (aa (pv 2) (aa (bc m_Run_handle_of hr (pv 0) (aa (ax (aG K) (pv 1) af (fun _ _=>rfl)) ac)) (aa (ax (aG K) (pv 1) af (fun _ _=>rfl)) ac)))))) (ak (a_ (aC bD (ax (aG K) (pv 1) af (fun _ _=>rfl)) au (aH _)) (ak (ay (bc m_Run_hold hr (pv 0) (aa (ax (aG K) (pv 1) af (fun _ _=>rfl)) (aa (bc m_Run_handle_of hr (pv 0) (aa (ax (aG K) (pv 1) af (fun _ _=>rfl)) ac)) ac))))) (ak (a_ (aC bD (ax (aG K) (pv 1) af (fun _ _=>rfl)) au (aH _)) (ak (ay (bc m_Run_hold hr (pv 0) (aa (ax (aG K) (pv 1) af (fun _ _=>rfl)) (aa gu ac))))) (ak (ay (bc m_Run_tie hr (pv 0) (aa (pv 2) (aa (bc m_Run_handle_of hr (pv 0) (aa (ax (aG K) (pv 1) af (fun _ _=>rfl)) ac)) (aa (bc m_Run_handle_of hr (pv 0) (aa (ax (aG K) (pv 1) af (fun _ _=>rfl)) ac)) ac))))))))))))))),?_⟩
 have k1:SqT K H a r:=SqT.of (R.sm _ _ hr0)
 cases hp with
 | opn l k=>
  walk_at "rd1";refine⟨_,_,.inr k1,aR (j:=1) (v:=iN l) rfl,?_⟩
  walk_at "nx";refine⟨_,_,.inr k1,cn,?_⟩
  walk_at "rd1";exact⟨R.isM (by decide +kernel),_,_,.inr k1,aR (j:=2) (v:=iN k) rfl,E,H0,st,l,sK k,rfl,rfl,R,by omega,q⟩
 | deed l k w=>
  walk_at "rd1";refine⟨_,_,.inr k1,aR (j:=1) (v:=iN l) rfl,?_⟩
  walk_at "nx";refine⟨_,_,.inr k1,cn,?_⟩
  walk_at "rd1";refine⟨_,_,.inr k1,cn,?_⟩
  walk_at "rd1";exact⟨R.isM (by decide +kernel),R.isM (by decide +kernel),_,_,.inr k1,aR (j:=2) (v:=iN k) rfl,E,H0,st,sK k,rfl,rfl,R,_,_,.inr k1,aR (j:=3) (v:=.str w) rfl,E,H0,st,l,aM st (sK k),w,rfl,rfl,R,by omega,q⟩
 | copy l k j=>
  walk_at "rd1";refine⟨_,_,.inr k1,aR (j:=1) (v:=iN l) rfl,?_⟩
  walk_at "nx";refine⟨_,_,.inr k1,cn,?_⟩
  walk_at "rd1";refine⟨_,_,.inr k1,cn,?_⟩
  walk_at "rd1";refine⟨_,_,.inr k1,cn,?_⟩
  walk_at "rd1";exact⟨R.isM (by decide +kernel),_,_,.inr k1,aR (j:=2) (v:=iN k) rfl,R.isM (by decide +kernel),_,_,.inr k1,aR (j:=3) (v:=iN j) rfl,E,H0,st,sK j,rfl,rfl,R,E,H0,st,sK k,aM st (sK j),rfl,rfl,R,by omega,q⟩
 | drop l k=>
  walk_at "rd1";refine⟨_,_,.inr k1,aR (j:=1) (v:=iN l) rfl,?_⟩
  walk_at "nx";refine⟨_,_,.inr k1,cn,?_⟩
  walk_at "rd1";refine⟨_,_,.inr k1,cn,?_⟩
  walk_at "rd1";refine⟨_,_,.inr k1,cn,?_⟩
  walk_at "rd1";refine⟨_,_,.inr k1,cn,?_⟩
  walk_at "rd1";exact⟨R.isM (by decide +kernel),_,_,.inr k1,aR (j:=2) (v:=iN k) rfl,E,H0,st,sK k,none,rfl,rfl,R,by omega,q⟩
 | tie l k j=>
  walk_at "rd1";refine⟨_,_,.inr k1,aR (j:=1) (v:=iN l) rfl,?_⟩
  walk_at "nx";refine⟨_,_,.inr k1,cn,?_⟩
  walk_at "rd1";refine⟨_,_,.inr k1,cn,?_⟩
  walk_at "rd1";refine⟨_,_,.inr k1,cn,?_⟩
  walk_at "rd1";refine⟨_,_,.inr k1,cn,?_⟩
  walk_at "rd1";exact⟨R.isM (by decide +kernel),R.isM (by decide +kernel),_,_,.inr k1,aR (j:=2) (v:=iN k) rfl,E,H0,st,sK k,rfl,rfl,R,R.isM (by decide +kernel),_,_,.inr k1,aR (j:=3) (v:=iN j) rfl,E,H0,st,sK j,rfl,rfl,R,E,H0,st,l,aM st (sK k),aM st (sK j),rfl,rfl,R,by omega,q⟩
def kn(K:PySem.W.Frag)(C:Addr):Sp:=fun vs H Q _=>∃ (E:RE) (H0:Hp) (st s1:RS) (a:Addr) (r:bw),E.C=C∧vs=[.ref E.r,.ref a]∧bP H0 a r∧RowGo E.xs st r s1∧RO K E H0 H st∧st.sz+3≤400000∧∀ H' s2,RO K E H0 H' s2→s1=cK s1.pc s2→Q (.int (s1.pc:Int)) H'
theorem p_(D:DefAt K mg "row_behind" dL) (a_at:Fl K CR "at") (m_Run_takes_more:cB P w K mg base 1 CR "takes_more" ["self", "bound"] (jU K CR)) (c_do_row:aK P w K mg base 4 "do_row" ["run", "row"] (tQ K CR)):aK P w K mg base 5 "row_behind" ["run", "row"] (kn K CR):=by
 refine D.cal (k:=4) oz (fun _ _ _ _ _ _ us hl=>match us,hl with | [_,_],_=>rfl) (fun vs H Q E h=>by obtain⟨E,H0,st,s1,a,r,_,rfl,_⟩:=h; rfl) (fun f cdv A outer sh H vs Q _ hr h=>?_)
 obtain⟨E,H0,st,s1,a,r,rfl,rfl,hr0,hp,R,hz,q⟩:=h
 refine⟨_,(ae (a_ (aC bD (ax (aG K) (pv 1) af (fun _ _=>rfl)) au (aH _)) (ak (aE (ax (aG K) (pv 1) af (fun _ _=>rfl)))) bt)
   (ae (a_ (aC bD (ax (aG K) (pv 1) af (fun _ _=>rfl)) au (aH _)) (ak (aE (pP (eK (bc m_Run_takes_more hr (pv 0) (aa (ax (aG K) (pv 1) af (fun _ _=>rfl)) ac))) (ao aD (aq a_at (pv 0)) af) (ax (aG K) (pv 1) af (fun _ _=>rfl))))) bt)
   (ae (ay (az c_do_row hr (aa (pv 0) (aa (pv 1) ac))))
   (ak (aE (ao aD (aq a_at (pv 0)) af)))))),?_⟩
 have k1:SqT K H a r:=SqT.of (R.sm _ _ hr0)
 cases hp with
 | pl hp=>
  rename_i s1
  obtain⟨kd,rest,rfl,n1,n2,_⟩:=sH hp
  walk_at "rd1";refine⟨_,_,.inr k1,cn,?_⟩
  walk_at "rd1";refine aI (fun c=>absurd c n1) (fun _=>?_)
  walk_at "nx";refine⟨_,_,.inr k1,cn,?_⟩
  walk_at "rd1";refine aI (fun c=>absurd c n2) (fun _=>?_)
  walk_at "nx";refine⟨E,H0,st,_,a,_,rfl,rfl,hr0,hp,R,hz,fun H1 R1=>?_⟩
  walk_at "nx";refine R1.at ?_
  have z:=q H1 _ R1 rfl;rw[show (((cK (st.pc+1) s1).pc:Nat):Int)=(s1.pc:Int)+1 by rw[Fo hp]; rfl]at z
  exact z
 | jump l j=>
  walk_at "rd1";refine⟨_,_,.inr k1,cn,?_⟩
  walk_at "rd1";exact⟨_,_,.inr k1,aR (j:=2) (v:=iN j) rfl,q H st R rfl⟩
 | test l n j=>
  walk_at "rd1";refine⟨_,_,.inr k1,cn,?_⟩
  walk_at "rd1";walk_at "nx";refine⟨_,_,.inr k1,cn,?_⟩
  walk_at "rd1";refine⟨R.isM (by decide +kernel),_,_,.inr k1,aR (j:=2) (v:=.int n) rfl,E,H0,st,n,rfl,rfl,R,fun H1 R1=>⟨_,rfl,aI (fun c=>?_) (fun c=>?_)⟩⟩
  ·rw[if_pos c]at q
   refine R1.at ?_
   have z:=q H1 _ R1 rfl;rw[show (((cK (st.pc+1) (ar E.xs n st).2).pc:Nat):Int)=(((ar E.xs n st).2.pc:Nat):Int)+1 by rw[BK]; rfl]at z
   exact z
  ·rw[if_neg c]at q
   exact⟨_,_,.inr (SqT.of (R1.sm _ _ hr0)),aR (j:=3) (v:=iN j) rfl,q H1 _ R1 rfl⟩
def tO(K:PySem.W.Frag)(C:Addr):Sp:=fun vs H Q _=>∃ (E:RE) (H0:Hp) (st v:RS) (cp:Addr) (R:List bw) (n l:Nat),E.C=C∧vs=[.ref cp,.ref E.r]∧ListR H0 cp R∧GoC R E.xs n st v∧R[v.pc]? = some [.str "end", iN l]∧RO K E H0 H st∧st.sz+3 * n≤400000∧∀ H',RO K E H0 H' (ia l v)→Q (.ref E.lp) H'
theorem yQ(D:DefAt K mg "log_of" fZ) (a_at:Fl K CR "at") (a_log:Fl K CR "log") (m_Run_come_to:cB P w K mg base 1 CR "come_to" ["self", "at"] (yC K CR)) (m_Run_end_all:cB P w K mg base 3 CR "end_all" ["self", "line"] (vv K CR)) (c_row_behind:aK P w K mg base 5 "row_behind" ["run", "row"] (kn K CR)):aK P w K mg base 6 "log_of" ["code", "run"] (tO K CR):=by
 refine D.cal (k:=5) xU (fun _ _ _ _ _ _ us hl=>match us,hl with | [_,_],_=>rfl) (fun vs H Q E h=>by obtain⟨E,H0,st,v,cp,R,n,l,_,rfl,_⟩:=h; rfl) (fun f cdv A outer sh H vs Q _ hr h=>?_)
 obtain⟨E,H0,st,v,cp,R,n,l,rfl,rfl,⟨as,h1,h2⟩,hg,he,O,hz,q⟩:=h
 refine⟨_,(ae (oW PassesOwn.never (aC jK (ax (aG K) (ax (aG K) (pv 0) (aq a_at (pv 1)) (fun _ _=>rfl)) af (fun _ _=>rfl)) au (aH _)) (ak (ay (bc m_Run_come_to hr (pv 1) (aa (az c_row_behind hr (aa (pv 1) (aa (ax (aG K) (pv 0) (aq a_at (pv 1)) (fun _ _=>rfl)) ac))) ac)))))
   (ae (ay (bc m_Run_end_all hr (pv 1) (aa (ax (aG K) (ax (aG K) (pv 0) (aq a_at (pv 1)) (fun _ _=>rfl)) af (fun _ _=>rfl)) ac)))
   (ak (aE (aq a_log (pv 1)))))),?_⟩
 walk_at "rd1";refine⟨fun m σ H'=>∃ st',σ=[some (.ref cp),some (.ref E.r)]∧RO K E H0 H' st'∧GoC R E.xs m st' v∧st'.sz+3 * m≤400000,⟨n,st,rfl,O,hg,hz⟩,?_⟩
 rintro m σ H' ⟨st',rfl,O',hg',hz'⟩
 walk_at "rd1";refine O'.at ?_
 cases hg' with
 | nil=>
  obtain⟨a,ea,ha⟩:=rO h2 he
  have k1:SqL K H' cp (as.map V.ref):=SqL.of (O'.sm _ _ h1)
  have k2:SqT K H' a [.str "end", iN l]:=SqT.of (O'.sm _ _ ha)
  refine⟨_,_,.inl k1,aR (v:=.ref a) (by rw[List.getElem?_map,ea]; rfl),?_⟩
  refine⟨_,_,.inr k2,cn,?_⟩
  walk_at "rd1";rw[if_neg (by simp)]
  walk_at "nx";refine⟨O'.isM (by decide +kernel),O'.at ?_⟩
  refine⟨_,_,.inl k1,aR (v:=.ref a) (by rw[List.getElem?_map,ea]; rfl),?_⟩
  refine⟨_,_,.inr k2,aR (j:=1) (v:=iN l) rfl,E,H0,v,l,rfl,rfl,O',by omega,fun H1 O1=>?_⟩
  walk_at "nx";exact O1.log (q H1 O1)
 | step e g hg2=>
  rename_i r s1 m
  obtain⟨a,ea,ha⟩:=rO h2 e
  obtain⟨kd,rest,er,hne⟩:=Cd g
  have k1:SqL K H' cp (as.map V.ref):=SqL.of (O'.sm _ _ h1)
  have k2:SqT K H' a r:=SqT.of (O'.sm _ _ ha)
  have hs:=FG g;refine⟨_,_,.inl k1,aR (v:=.ref a) (by rw[List.getElem?_map,ea]; rfl),?_⟩
  refine⟨_,_,.inr k2,by rw[er]; exact cn,?_⟩
  walk_at "rd1";rw[if_pos (by simp[hne])]
  refine⟨fun σ' H''=>∃ st'',σ'=[some (.ref cp),some (.ref E.r)]∧RO K E H0 H'' st''∧GoC R E.xs m st'' v∧st''.sz+3 * m≤400000,fun σ' H'' z=>⟨m,Nat.lt_succ_self _,z⟩,O'.isM (by decide +kernel),O'.at ?_⟩
  refine⟨_,_,.inl k1,aR (v:=.ref a) (by rw[List.getElem?_map,ea]; rfl),E,H0,st',s1,a,r,rfl,rfl,ha,g,O',by omega,fun H1 s2 O1 e1=>?_⟩
  exact⟨E,H0,s2,s1.pc,rfl,rfl,O1,fun H2 O2=>⟨s1,rfl,by rw[e1]; exact O2,hg2,by omega⟩⟩
def xu(K:PySem.W.Frag):Sp:=fun vs H Q _=>∃ (cp ip:Addr) (R:List bw) (xs:List Int) (v:RS) (n l:Nat),vs=[.ref cp,.ref ip]∧ListR H cp R∧GoC R xs n rs0 v∧R[v.pc]? = some [.str "end", iN l]∧3 * n≤400000∧SqL K H ip (xs.map V.int)∧xs.length≤100∧
 ∀ (q:Addr) (H':Hp) (es:List Addr),Same H H'→H q=none→H' q=some (.lst (es.map V.ref))→Paired (fun a e=>H' a=some (.tup e)) es (ia l v).log→Q (.ref q) H'
theorem BO(D:DefAt K mg "run_code" dY) (k_Run:jy P w K mg base 1 "Run" CR ["self", "inputs", "watches"] (mj K CR)) (c_log_of:aK P w K mg base 6 "log_of" ["code", "run"] (tO K CR)):aK P w K mg base 7 "run_code" ["code", "inputs"] (xu K):=by
 refine D.cal (k:=6) sr (fun _ _ _ _ _ _ us hl=>match us,hl with | [_,_],_=>rfl) (fun vs H Q E h=>by obtain⟨cp,ip,R,xs,v,n,l,rfl,_⟩:=h; rfl) (fun f cdv A outer sh H vs Q _ hr h=>?_)
 obtain⟨cp,ip,R,xs,v,n,l,rfl,hR,hg,he,hn,hip,hxl,q⟩:=h
 refine⟨_,(ak (aE (az c_log_of hr (aa (pv 0) (aa (wa k_Run hr (aa (pv 1) (aa (bi ac) ac))) ac))))),?_⟩
 walk_at "rd1";refine⟨by decide,fun wp hwp=>?_⟩
 have sA:=al hwp (.lst []);have eW:upd H wp (.lst []) wp=some (.lst []):=ah
 generalize upd H wp (.lst [])=HA at sA eW ⊢;intro x dx hx0 hdx ndx
 generalize hM:upd (upd HA dx (.own x)) x (.ins CR dx [])=HM
 have sM:Same HA HM:=by rw[← hM]; exact(al hdx (.own x)).upd hx0 _
 have eM:HM x=some (.ins CR dx []):=by rw[← hM,ah]
 refine⟨x,dx,ip,wp,HA,xs,rfl,eM,hx0,sM,sA.seq hip,SqL.of eW,by omega,fun hp lp HB O=>⟨rfl,?_⟩⟩
 refine⟨⟨CR,x,ip,hp,lp,xs,wp⟩,HA,rs0,v,cp,R,n,l,rfl,rfl,hR.mono sA,hg,he,O,by show 0+3 * n≤400000; omega,fun HD OD=>?_⟩
 obtain⟨es,l1,l2⟩:=id OD.lg
 exact q lp HD es (sA.trans OD.sm) (sA.free OD.fl) l1 l2
end
end
theorem q9(ks:List aF):∀ (i:Nat) (k:aF),(bN (ft ks i) k).isSome=true→i≤ks.length→∃ j,j<i∧ks[j]? = some k
 | 0,k,h,_=>by
  have:bN (ft ks 0) k=none:=rfl
  rw[this]at h
  cases h
 | i+1,k,h,hi=>by
  rw[fI,gd]at h
  by_cases e:k=ks.getD i (.inl 0)
  ·exact⟨i,Nat.lt_succ_self _,by rw[e,List.getD_eq_getElem?_getD,List.getElem?_eq_getElem (by omega)]; rfl⟩
  ·rw[if_neg e]at h
   obtain⟨j,h1,h2⟩:=q9 ks i k h (by omega)
   exact⟨j,by omega,h2⟩
theorem Im{ks:List aF}(hn:ks.Nodup):jz (gv ks):=by
 have key:∀ k,dQ (gv ks) k→∃ j:Nat,ks[j]? = some k∧bA (gv ks) k=iN j∧jS (gv ks) k=j:=fun k h=>by
  obtain⟨j,_,e⟩:=q9 ks ks.length k (by
   have h':bN (ft ks ks.length) k=some _:=h
   rw[h']
   rfl) (Nat.le_refl _)
  have es:=Eb hn e;refine⟨j,e,es,?_⟩
  unfold jS;rw[es];show Int.toNat ((j:Nat):Int)=j
  rw[Int.toNat_natCast]
 refine⟨fun k h=>?_,fun k k' h h' e=>?_⟩
 ·obtain⟨j,_,e2,e3⟩:=key k h
  rw[e3,e2]
 ·obtain⟨j,e1,_,e3⟩:=key k h
  obtain⟨j',e1',_,e3'⟩:=key k' h'
  rw[e3,e3']at e
  subst e;rw[e1]at e1'
  exact Option.some.inj e1'
theorem xI{NM:List Str}(hn:NM.Nodup){d:Nat}{T:List Stp}(hs:fF d T)(hm:oo (fun n=>n∈NM) d T)(t:Bool)(xs:List Int) :
  ∃ n v,GoC (dW NM d t T) xs n rs0 v∧(dW NM d t T)[v.pc]? = some [.str "end", iN (aj d T)]∧n≤6 * aj d T * (1+xs.length)∧(ia (aj d T) v).log=(f_ xs d T).log:=by
 have ok:=Im (vM (L:=bV d T) hn);have hk:=jV (NM:=NM) (L:=bV d T) d 0 T (fun i s e=>by rw[Nat.zero_add]; exact e) hm
 have sit:SitsR (dW NM d t T) (aL (gv (cY NM (bV d T))) d t 0 0 T) 0:=by
  have:SitsR (dW NM d t T) (dW NM d t T) 0:=fun i r e=>by rw[Nat.zero_add]; exact e
  unfold dW at this ⊢
  exact this.left
 obtain⟨n,v,g,p,s,_,_,c⟩:=uf ok (xs:=xs) d t 0 0 T hs hk sit rs0 rs0 ⟨rfl,rfl,rfl,rfl,fun _ _=>rfl⟩ rfl
 refine⟨n,v,g,?_,?_,?_⟩
 ·rw[p,Nat.zero_add]
  unfold dW;rw[List.getElem?_append_right (Nat.le_refl _),Nat.sub_self]
  rfl
 ·have tk:(aQ xs d 0 T rs0).taken≤xs.length:=by
   have c:ClosedR xs (fun s=>s.taken≤xs.length):=⟨fun _ _ _ z=>z,fun l h w s z=>by cases h <;> exact z,fun l a b s z=>by
    unfold db; split
    ·split <;> exact z
    ·exact z,fun _ _ _ z=>z,fun n s z=>by
    unfold ar;split
    ·exact z
    ·rename_i e
     exact(List.getElem?_eq_some_iff.mp e).1⟩
   exact c.run d 0 T rs0 (Nat.zero_le _)
  have w1:=xb d T;have h1:(aQ xs d 0 T rs0).taken - rs0.taken≤xs.length:=Nat.le_trans (Nat.sub_le _ _) tk
  exact Nat.le_trans c (Nat.mul_le_mul w1 (by omega))
 ·unfold f_ ia
  rw[s.lg,s.op,s.ls]
section
variable{P:Program}{w:World}{K:PySem.W.Frag}{mg:Str→Option Value}{base:Heap}
theorem KB{α : Type}{x y z:α}{xs:List α}:eY (x::y::z::xs) 2=some z:=aR (j:=2) rfl
def Ep:Sp:=fun vs H Q _=>∃ i:Int,vs=[.int i]∧Q (.bl true) H
theorem Fk(D:DefAt K mg "_law_whole" dD) (z_isinstance:mg "isinstance" = none) (z_int:mg "int" = none) (z_bool:mg "bool" = none):aK P w K mg base 1 "_law_whole" ["_law_found"] Ep:=by
 refine D.cal (k:=0) qU (fun _ _ _ _ _ _ us hl=>match us,hl with | [_],_=>rfl) (fun vs H Q E h=>by obtain⟨i,rfl,_⟩:=h; rfl) (fun f cdv A outer s H vs Q E hr h=>?_)
 obtain⟨i,rfl,q⟩:=h
 refine⟨_,(ak (aE (DZ (bF gU z_isinstance d_ (aa (pv 0) (aa (jI z_int lW) ac))) (EW (ES (bF gU z_isinstance d_ (aa (pv 0) (aa (jI z_bool B2) ac)))))))),?_⟩
 walk_at "rd1";refine⟨"int", rfl,by decide,aI (fun _=>?_) (fun c=>absurd (by decide) c)⟩
 exact⟨"int", rfl,by decide,q⟩
def LogAt(H:Hp)(fp:Addr)(es:List Addr)(L:List (List V)):Prop:=H fp=some (.lst (es.map V.ref))∧Paired (fun a e=>H a=some (.tup e)) es L
theorem LogAt.mono{H H':Hp}{fp:Addr}{es:List Addr}{L:List (List V)}(h:LogAt H fp es L)(s:Same H H'):LogAt H' fp es L:=⟨s _ _ h.1,Paired.imp' (fun a e y=>s _ _ y) h.2⟩
def ud:Sp:=fun vs H Q _=>∃ (fp:Addr) (es:List Addr) (L:List (List V)),vs=[.ref fp]∧LogAt H fp es L∧(∀ e∈L,iX e)∧∀ H',Same H H'→Q (.bl true) H'
theorem zq(D:DefAt K mg "_law_is_log" bZ) (z_isinstance:mg "isinstance" = none) (z_list:mg "list" = none) (z_tuple:mg "tuple" = none) (z_len:mg "len" = none) (z_str:mg "str" = none) (c_law_whole:aK P w K mg base 1 "_law_whole" ["_law_found"] Ep):aK P w K mg base 2 "_law_is_log" ["_law_found"] ud:=by
 refine D.cal (k:=1) sc_law_is_log (fun _ _ _ _ _ _ us hl=>match us,hl with | [_],_=>rfl) (fun vs H Q E h=>by obtain⟨fp,es,L,rfl,_⟩:=h; rfl) (fun f cdv A outer s H vs Q E hr h=>?_)
 obtain⟨fp,es,L,rfl,hL,ok,q⟩:=h
 refine⟨_,(ae (a_ (gp (eK (bF gU z_isinstance d_ (aa (pv 0) (aa (jI z_list gM) ac))))) (ak (aE eX)) bt)
   (ae (cC PassesOwn.never rfl (cH K (pv 0)) (bj 1 sc_law_is_log.nd) (ae (a_ (PW.pt' (iG (gp (eK (bF gU z_isinstance d_ (aa (pv 1) (aa (jI z_tuple oY) ac))))) (iB (aC (wY K) (bF (bh K) z_len cf (aa (pv 1) ac)) (bm (aa af (aa af ac))) (by with_unfolding_all rfl))))) (ak (aE eX)) bt)
   (ae (a_ (PW.pt' (iG (gp (eK (az c_law_whole hr (aa (ax (aG K) (pv 1) af (fun _ _=>rfl)) ac)))) (iG (gp (eK (az c_law_whole hr (aa (ax (aG K) (pv 1) af (fun _ _=>rfl)) ac)))) (iB (gp (eK (az c_law_whole hr (aa (ax (aG K) (pv 1) (j6 iu af) (fun _ _=>rfl)) ac)))))))) (ak (aE eX)) bt)
   (ak (a_ (PW.pt' (gw (aC bD (bF (bh K) z_len cf (aa (pv 1) ac)) af (aH _)) (iC (gp (eK (bF gU z_isinstance d_ (aa (ax (aG K) (pv 1) af (fun _ _=>rfl)) (aa (jI z_str lu) ac)))))))) (ak (aE eX)) bt)))))
   (ak (aE eX)))),?_⟩
 walk_at "rd1";refine⟨"list", by simp[c_,hL.1],by decide,?_⟩
 refine aI (fun c=>absurd c (by decide)) (fun c=>?_)
 walk_at "nx";refine⟨⟨_,SqL.of hL.1⟩,?_⟩
 refine da (xs:=es.map V.ref) (fun i σ H'=>∃ o1:Option V,σ=[some (.ref fp),o1]∧Same H H') ⟨none,rfl,Same.refl H⟩ (fun i σ H' _ h=>by obtain⟨_,_,sm⟩:=h; exact SqL.of (sm _ _ hL.1)) ?_ ?_
 ·rintro i v σ H' hv ⟨o1,rfl,sm⟩
  have hi:i<es.length:=by have:=(List.getElem?_eq_some_iff.mp hv).1; simpa using this
  rw[List.getElem?_map,List.getElem?_eq_getElem hi]at hv
  cases hv;obtain⟨e,he,hea⟩:=bI hL.2 (List.getElem?_eq_getElem hi)
  have hok:=ok e (List.mem_of_getElem? he);have ha:=sm _ _ hea;walk_at "rd1";refine⟨"tuple", by simp[c_,ha],by decide,aI (fun c=>absurd c (by decide)) (fun _=>?_)⟩
  refine⟨_,.inr (SqT.of ha),by decide,fun tp htp=>?_⟩
  have st:=al htp (.tup [V.int 3,V.int 4]);have et:upd H' tp (.tup [V.int 3,V.int 4]) tp=some (.tup [V.int 3,V.int 4]):=ah
  generalize upd H' tp (.tup [V.int 3,V.int 4])=H1 at st et ⊢;have sm1:=sm.trans st;refine⟨_,.inr (SqT.of et),rfl,rfl,?_⟩
  cases hok with
  | deed l h u n=>
   have hb:=SqT.of (K:=K) (st _ _ ha);refine aI (fun c=>absurd c (by simp[ja,fL])) (fun _=>?_)
   walk_at "nx";refine⟨_,_,.inr hb,cn,_,rfl,?_⟩
   walk_at "rd1";refine⟨_,_,.inr hb,km,_,rfl,?_⟩
   walk_at "rd1";refine⟨_,_,.inr hb,mH [V.int l,V.int h,V.str u] (V.int n),_,rfl,?_⟩
   walk_at "rd1";walk_at "nx";refine⟨_,.inr hb,?_⟩
   walk_at "rd1";refine⟨_,_,.inr hb,KB,?_⟩
   walk_at "rd1";refine⟨"str", rfl,by decide,aI (fun c=>absurd c (by decide)) (fun _=>?_)⟩
   exact⟨_,rfl,sm1⟩
  | tie l x y=>
   have hb:=SqT.of (K:=K) (st _ _ ha);refine aI (fun c=>absurd c (by simp[ja,fL])) (fun _=>?_)
   walk_at "nx";refine⟨_,_,.inr hb,cn,_,rfl,?_⟩
   walk_at "rd1";refine⟨_,_,.inr hb,km,_,rfl,?_⟩
   walk_at "rd1";refine⟨_,_,.inr hb,mH [V.int l,V.int x] (V.int y),_,rfl,?_⟩
   walk_at "rd1";walk_at "nx";refine⟨_,.inr hb,?_⟩
   walk_at "rd1";refine aI (fun c=>absurd c (by decide)) (fun _=>?_)
   exact⟨_,rfl,sm1⟩
 ·rintro σ H' ⟨o1,rfl,sm⟩
  walk_at "nx";exact q H' sm
def fV:V→Bool
 | .str _=>true
 | .int _=>true
 | _=>false
def nB(r:bw):Prop:=(∀ v∈r,fV v=true)∧r.length≤100
theorem qD(ks:List aF):∀ (i:Nat) (k:aF) (v:V),bN (ft ks i) k=some v→∃ n:Nat,v=iN n
 | 0,_,_,h=>by cases h
 | i+1,k,v,h=>by
  rw[fI,gd]at h
  split at h
  ·exact⟨i,(Option.some.inj h).symm⟩
  ·exact qD ks i k v h
theorem E8{ks:List aF}{k:aF}(h:dQ (gv ks) k):fV (bA (gv ks) k)=true:=by
 obtain⟨n,e⟩:=qD ks ks.length k _ h
 rw[e]; rfl
theorem Bf{h:Str}{x y:V}(hx:fV x=true)(hy:fV y=true):nB [.str h,x,y]:=⟨fun v hv=>by
 simp only[List.mem_cons,List.not_mem_nil,or_false]at hv
 rcases hv with rfl | rfl | rfl
 ·rfl
 ·exact hx
 ·exact hy,by simp⟩
theorem nR{h:Str}{x y z:V}(hx:fV x=true)(hy:fV y=true)(hz:fV z=true):nB [.str h,x,y,z]:=⟨fun v hv=>by
 simp only[List.mem_cons,List.not_mem_nil,or_false]at hv
 rcases hv with rfl | rfl | rfl | rfl
 ·rfl
 ·exact hx
 ·exact hy
 ·exact hz,by simp⟩
section
variable{kv:List (aF × V)}
theorem wv(hk:∀ k,dQ kv k→fV (bA kv k)=true){l:Nat}{ws:List Str}(px:dN ws)(hn:∀ n∈eJ ws,dQ kv (.inr n)):nB (dq kv l ws):=by
 unfold dq
 by_cases c:ws.headD "" = "do"
 ·rw[if_pos c]
  unfold eJ at hn;rw[if_pos c]at hn
  cases px with
  | dd u x=>exact nR rfl (hk _ (hn x (by simp))) rfl
  | op x=>exact absurd c (show ¬ ("open" : Str) = "do" by decide +kernel)
  | dr x=>exact absurd c (show ¬ ("drop" : Str) = "do" by decide +kernel)
  | cp x y=>exact absurd c (show ¬ ("copy" : Str) = "do" by decide +kernel)
  | ti x y=>exact absurd c (show ¬ ("tie" : Str) = "do" by decide +kernel)
 ·rw[if_neg c]
  unfold eJ at hn;rw[if_neg c]at hn
  refine⟨fun v hv=>?_,?_⟩
  ·rcases List.mem_cons.mp hv with rfl | hv
   ·rfl
   rcases List.mem_cons.mp hv with rfl | hv
   ·rfl
   obtain⟨n,h1,rfl⟩:=List.mem_map.mp hv
   exact hk _ (hn n h1)
  ·cases px <;> simp
theorem sx(hk:∀ k,dQ kv k→fV (bA kv k)=true):∀ (d:Nat) (t:Bool) (a l:Nat) (T:List Stp),cS d T→dC kv d l T→∀ r∈aL kv d t a l T,nB r
 | 0,_,_,_,_,h,_=>h.elim
 | d+1,t,a,l,T,hf,hkl=>by
  have ih:=sx hk d
  have st:∀ (s:Stp) (a l:Nat),iI (cS d) s→jw kv (dC kv d) (aj d) l s→∀ r∈dX kv (aL kv d) (aj d) t a l s,nB r:=fun s a l hs hk' r hr=>by
   cases s with
   | plain ws=>rw[List.mem_singleton.mp hr]; exact wv hk hs.1 hk'.2
   | lend x y b=>
    obtain⟨k1,k2,k3,k4⟩:=hk'
    have f1:=hk _ k1;have f2:=hk _ k2;have f3:=hk _ k3;rcases List.mem_append.mp hr with hr | hr
    ·rcases List.mem_append.mp hr with hr | hr
     ·simp only[List.mem_cons,List.not_mem_nil,or_false]at hr
      rcases hr with rfl | rfl | rfl
      ·exact nR rfl f3 f1
      ·exact nR rfl f3 rfl
      ·exact nR rfl f2 f3
     ·exact ih t _ _ b hs.2.2 k4 r hr
    ·simp only[List.mem_cons,List.not_mem_nil,or_false]at hr
     rcases hr with rfl | rfl | rfl
     ·exact nR rfl f3 rfl
     ·exact Bf rfl f2
     ·exact Bf rfl f3
   | ite n b c=>
    rcases List.mem_append.mp hr with hr | hr
    ·rcases List.mem_append.mp hr with hr | hr
     ·rcases List.mem_append.mp hr with hr | hr
      ·rw[List.mem_singleton.mp hr]; exact nR rfl rfl rfl
      ·exact ih t _ _ b hs.2.1 hk'.1 r hr
     ·rw[List.mem_singleton.mp hr]; exact Bf rfl rfl
    ·exact ih t _ _ c hs.2.2 hk'.2 r hr
   | whl n b=>
    have lp:∀ a,r∈de (aL kv d) (aj d) a l n b→nB r:=fun a hr=>by
     rcases List.mem_append.mp hr with hr | hr
     ·rcases List.mem_append.mp hr with hr | hr
      ·rw[List.mem_singleton.mp hr]; exact nR rfl rfl rfl
      ·exact ih false _ _ b hs.2 hk' r hr
     ·rw[List.mem_singleton.mp hr]; exact Bf rfl rfl
    have hr':r∈dz (aL kv d) (aj d) t a l n b:=hr
    unfold dz at hr';split at hr'
    ·rcases List.mem_append.mp hr' with hr | hr
     ·rcases List.mem_append.mp hr with hr | hr
      ·rw[List.mem_singleton.mp hr]; exact nR rfl rfl rfl
      ·exact ih true _ _ b hs.2 hk' r hr
     ·exact lp _ hr
    ·exact lp _ hr'
  have go:∀ (T:List Stp) (a l:Nat),(∀ s∈T,iI (cS d) s)→(∀ z∈df (aU (aj d)) l T,jw kv (dC kv d) (aj d) z.1 z.2)→∀ r∈dg (dX kv (aL kv d) (aj d) t) (aU (aj d)) a l T,nB r:=fun T=>by
   induction T with
   | nil=>intro a l _ _ r hr; cases hr
   | cons s T ihT=>
    intro a l hf hz r hr
    rcases List.mem_append.mp hr with hr | hr
    ·exact st s a l (hf s List.mem_cons_self) (hz _ List.mem_cons_self) r hr
    ·exact ihT _ _ (fun s hs=>hf s (List.mem_cons_of_mem _ hs)) (fun z h=>hz z (List.mem_cons_of_mem _ h)) r hr
  exact go T a l hf hkl
end
theorem B8{d:Nat}{t:Bool}{T:List Stp}(hf:cS d T):∀ r∈dW (fq ((cA d T).flatMap bY)) d t T,nB r:=by
 have hnm:oo (fun n=>n∈fq ((cA d T).flatMap bY)) d T:=qW d T (kJ hf) fun n hn=>tz hn
 intro r hr
 rcases List.mem_append.mp hr with hr | hr
 ·exact sx (fun k=>E8) d t 0 0 T hf (jV d 0 T (fun i s e=>by rw[Nat.zero_add]; exact e) hnm) r hr
 ·rw[List.mem_singleton.mp hr]
  refine⟨fun v hv=>?_,by simp⟩
  simp only[List.mem_cons,List.not_mem_nil,or_false]at hv
  rcases hv with rfl | rfl <;> rfl
theorem wC{j k:Nat}{x:Str}{ps:List Str}{sp:Sp}(c:aK P w K mg base j x ps sp)(h:j≤k):aK P w K mg base k x ps sp:=by
 obtain⟨f,fd,F,r⟩:=c.ex
 exact⟨f,fd,F.mono h,r⟩
theorem Cw{k:Nat}{x:Str}{ps:List Str}{sp sp':Sp}(c:aK P w K mg base k x ps sp)(h:∀ vs H Q E,sp' vs H Q E→sp vs H Q E):aK P w K mg base k x ps sp':=by
 obtain⟨f,fd,F,r⟩:=c.ex
 exact⟨f,fd,F.imp h,r⟩
def NOt(H:Hp)(p:Addr)(NM:List Str):Prop:=∃ (T:List Stp) (S:Addr→Prop),ProgAt S 10 H p T∧jC 10 T∧(cA 10 T).length≤1000∧((cA 10 T).flatMap bY).length≤5000∧NM=fq ((cA 10 T).flatMap bY)
theorem NOt.mono{H H':Hp}{p:Addr}{NM:List Str}(h:NOt H p NM)(s:Same H H'):NOt H' p NM:=by
 obtain⟨T,S,h1,h2⟩:=h
 exact⟨T,S,h1.mono s,h2⟩
theorem Al{k:Nat}(c:aK P w K mg base k "names_of" ["program"] nH):aK P w K mg base k "names_of" ["program"] (C3 NOt):=Cw c fun vs H Q E h=>by
 obtain⟨p,NM,rfl,⟨T,S,h1,h2,h3,h4,rfl⟩,q⟩:=h
 exact⟨p,T,S,rfl,h1,h2,h3,h4,q⟩
theorem Aa{f:List Stp→List Stp}{g:List Stp→Nat}(h:∀ b,(f b).length≤g b):∀ s:Stp,(fT f s).length≤aU g s
 | .plain _=>by simp[fT,dR,aU]
 | .lend _ _ b=>by have:=h b; simp[fT,dR,aU]; omega
 | .ite _ b c=>by have:=h b; have:=h c; simp[fT,dR,aU]; omega
 | .whl _ b=>by have:=h b; simp[fT,dR,aU]; omega
theorem m9:∀ (d:Nat) (T:List Stp),(cA d T).length≤aj d T
 | 0,_=>Nat.le_refl _
 | d+1,T=>by
  show (T.flatMap (fT (cA d))).length≤(T.map (aU (aj d))).sum
  induction T with
  | nil=>exact Nat.le_refl _
  | cons s T ih=>
   have:=Aa (m9 d) s
   rw[List.flatMap_cons,List.length_append,List.map_cons,List.sum_cons]; omega
theorem Dw{g:List Stp→Prop}:∀ {s:Stp},fS g s→(bY s).length≤2
 | .plain ws,h=>by cases (show fP ws from h) <;> simp[bY] <;> split <;> simp
 | .lend _ _ _,_=>by simp[bY]
 | .ite _ _ _,_=>by simp[bY]
 | .whl _ _,_=>by simp[bY]
theorem wn{d:Nat}{T:List Stp}(h:jC d T):((cA d T).flatMap bY).length≤2 * aj d T:=by
 have h1:=m9 d T;have h2:=qw d h
 have go:∀ X:List Stp,(∀ s∈X,∃ g:List Stp→Prop,fS g s)→(X.flatMap bY).length≤2 * X.length:=fun X=>by
  induction X with
  | nil=>intro _; exact Nat.le_refl _
  | cons s X ih=>
   intro hx
   obtain⟨g,hg⟩:=hx s List.mem_cons_self
   have:=Dw hg
   have:=ih fun u hu=>hx u (List.mem_cons_of_mem _ hu)
   rw[List.flatMap_cons,List.length_append,List.length_cons]; omega
 have:=go _ h2
 omega
theorem nK{H:Hp}{Q:VK}{l:Addr}{xs:List V}(h:H l=some (.lst xs))(q:Q .non (upd H l (.lst []))):qi (.ref l) [] H Q:=⟨l,xs,rfl,rfl,h,q⟩
theorem lS{H:Hp}{a b:Addr}{es fs:List Addr}{L:List (List V)}(h1:LogAt H a es L)(h2:LogAt H b fs L)(ok:∀ e∈L,iX e):EqN K H 2 (.ref a) (.ref b) true:=by
 refine EqN.seq (.inl ⟨SqL.of h1.1,SqL.of h2.1⟩) (by rw[List.length_map,List.length_map,aB h1.2,aB h2.2]) (fun i x y e1 e2=>?_)
 rw[List.getElem?_map]at e1 e2
 cases f1:es[i]? with
 | none=>rw[f1]at e1; cases e1
 | some u=>
  cases f2:fs[i]? with
  | none=>rw[f2]at e2; cases e2
  | some v=>
   rw[f1]at e1; rw[f2]at e2; cases e1; cases e2
   obtain⟨e,he,hu⟩:=bI h1.2 f1
   obtain⟨e',he',hv⟩:=bI h2.2 f2
   rw[he]at he'; cases he'
   refine EqN.seqFlat (.inr ⟨SqT.of hu,SqT.of hv⟩) (fun z hz=>?_)
   have:=ok e (List.mem_of_getElem? he)
   cases this <;> simp only[List.mem_cons,List.not_mem_nil,or_false]at hz <;> rcases hz with rfl | rfl | rfl | rfl <;> rfl
theorem LogAt.put{H:Hp}{a p:Addr}{es:List Addr}{L:List (List V)}{ys:List V}(h:LogAt H a es L)(hp:H p=some (.lst ys))(n:a≠p)(o:HO):LogAt (upd H p o) a es L:=⟨by rw[ai n]; exact h.1,Paired.imp' (fun e x z=>by rw[ai (bW z hp (fun z=>nomatch z))]; exact z) h.2⟩
theorem sI{H:Hp}{c1 c2:Addr}{as:List Addr}{R:List bw}(h1:H c1=some (.lst (as.map V.ref)))(h2:H c2=some (.lst (as.map V.ref)))(h:Paired (bP H) as R)(hf:∀ r∈R,∀ v∈r,bU v=true):EqN K H 2 (.ref c1) (.ref c2) true:=
 EqN.seq (.inl ⟨SqL.of h1,SqL.of h2⟩) rfl fun i x y e1 e2=>by
  rw[e1]at e2
  cases e2;rw[List.getElem?_map]at e1
  cases f1:as[i]? with
  | none=>rw[f1]at e1; cases e1
  | some u=>
   rw[f1]at e1
   cases e1;obtain⟨r,hr,hu⟩:=bI h f1
   exact EqN.seqFlat (.inr ⟨SqT.of hu,SqT.of hu⟩) (hf r (List.mem_of_getElem? hr))
structure CW (T:List Stp) (NM:List Str):Prop where
 cin:∀ {H:Hp} {p:Addr} {S:Addr→Prop},ProgAt S 10 H p T→lU NOt H p 10 T NM
 go:∀ (t:Bool) (ys:List Int),ys.length≤63→∃ n v,GoC (dW NM 10 t T) ys n rs0 v∧(dW NM 10 t T)[v.pc]? = some [.str "end", iN (aj 10 T)]∧3 * n≤400000∧(ia (aj 10 T) v).log=(f_ ys 10 T).log
 flat:∀ (t:Bool),∀ r∈dW NM 10 t T,∀ v∈r,bU v=true
theorem uA{T:List Stp}(hok:dE 10 T)(fine:cS 10 T)(hcnt:aj 10 T≤100):CW T (fq ((cA 10 T).flatMap bY)):=by
 have okn:=kJ fine;have hpc:=m9 10 T;have hnf:=wn okn
 have hnl:(fq ((cA 10 T).flatMap bY)).length≤1000:=by
  have:=ij ((cA 10 T).flatMap bY) []
  rw[List.length_nil]at this
  unfold fq;omega
 have hnm:oo (fun n=>n∈fq ((cA 10 T).flatMap bY)) 10 T:=qW 10 _ okn (fun n hn=>tz hn)
 refine⟨fun {H p S} h=>⟨⟨_,h⟩,hok,⟨_,_,h,okn,by omega,by omega,rfl⟩,lj 10 h hok,hnm,by omega,hnl,by decide⟩,fun t ys hy=>?_,fun t r hr v hv=>?_⟩
 ·obtain⟨n,v,g1,g2,g3,g4⟩:=xI (x9 _) (k7 fine) hnm t ys
  have:=Nat.mul_le_mul (show 6 * aj 10 T≤600 by omega) (show 1+ys.length≤64 by omega)
  exact⟨n,v,g1,g2,by omega,g4⟩
 ·have:=(B8 (d:=10) (t:=t) (T:=T) fine r hr).1 v hv
  cases v <;> first | rfl | cases this
theorem two_ok:dE 10 [.plain ["open", "x"],.plain ["do", "read", "x"]]∧cS 10 [.plain ["open", "x"],.plain ["do", "read", "x"]]:=by
 constructor
 ·intro s hs
  simp only[List.mem_cons,List.not_mem_nil,or_false]at hs
  rcases hs with rfl | rfl
  ·exact⟨by decide,by decide,by decide,by decide⟩
  ·exact⟨by decide,by decide,by decide,by decide⟩
 ·intro s hs
  simp only[List.mem_cons,List.not_mem_nil,or_false]at hs
  rcases hs with rfl | rfl
  ·exact⟨.op "x", by unfold cG; decide⟩
  ·exact⟨.dd "read" "x", by unfold cG; decide⟩
theorem Ex{f:Addr}{fd:FuncData}(F:Fun K "law" "law" bB f fd) (z_list:mg "list" = none) (c_law_drawn:aK P w K mg base 4 "_law_drawn" ["_law_script"] (tF K)) (c_run_plain:aK P w K mg base 25 "run_plain" ["program", "inputs"] (tK K 10))
  (c_law_is_log:aK P w K mg base 2 "_law_is_log" ["_law_found"] ud) (c_code_of:aK P w K mg base 35 "code_of" ["program"] (yh NOt 10)) (c_turned_code:aK P w K mg base 35 "turned_code" ["program"] (pL NOt 10)) (c_run_code:aK P w K mg base 7 "run_code" ["code", "inputs"] (xu K)):FnOk P w K mg base ik 36 f fd ["_law_script"] (oH K):=by
 refine F.ok sc_law (fun vs H Q E h=>by obtain⟨a,ns,rfl,_⟩:=h; rfl) (fun cdv A outer s H vs Q E hr h=>?_)
 obtain⟨a,ns,rfl,hS,hn,q⟩:=h
 refine⟨_,(ae (ix (az c_law_drawn hr (aa (pv 0) ac)) (fM K (n:=3) (cj (bj 1 sc_law.nd) (cj (bj 2 sc_law.nd) (cj (bj 3 sc_law.nd) fO)))))
   (ae (aw 4 sc_law.nd (az c_code_of hr (aa (pv 1) ac)))
   (ae (aw 5 sc_law.nd (az c_turned_code hr (aa (pv 1) ac)))
   (ae (aw 6 sc_law.nd (bi (aa (eh (gD K) z_list gM (aa (pv 4) ac)) (aa (eh (gD K) z_list gM (aa (pv 5) ac)) ac))))
   (ae (aw 7 sc_law.nd (eh (gD K) z_list gM (aa (pv 3) ac)))
   (ae (aw 8 sc_law.nd (az c_run_plain hr (aa (pv 1) (aa (pv 7) ac))))
   (ae (aw 9 sc_law.nd (az c_run_code hr (aa (pv 4) (aa (pv 7) ac))))
   (ae (aw 10 sc_law.nd (az c_run_code hr (aa (pv 5) (aa (pv 7) ac))))
   (ae (cC PassesOwn.never rfl (cH K (bi (aa (pv 8) (aa (pv 9) (aa (pv 10) ac))))) (bj 11 sc_law.nd) (ak (a_ (PW.pt' (iG (gp (eK (az c_law_is_log hr (aa (pv 11) ac)))) (iB (aC (gN K hr) (pv 11) (pv 8) (aH _))))) (ak (aE eX)) bt)))
   (ae (a_ (PW.pt' (iG (aC (gN K hr) (bi (aa (pv 4) (aa (pv 5) ac))) (pv 6) (aH _)) (iB (aC (gN K hr) (pv 7) (pv 3) (aH _))))) (ak (aE eX)) bt)
   (ae (aw 12 sc_law.nd (eh (gD K) z_list gM (aa (pv 8) ac)))
   (ae (ay (bb K PySem.F.plainAttrs_list PySem.F.slot_list_append PySem.F.type_list_append aS (pv 9) (aa (bm (aa af (aa af (aa au (aa af ac))))) ac)))
   (ae (ay (ma K PySem.F.plainAttrs_list PySem.F.slot_list_clear PySem.F.type_list_clear nU (pv 8)))
   (ae (ay (az c_run_code hr (aa (az c_code_of hr (aa (bi (aa (bm (aa au (aa au ac))) (aa (bm (aa au (aa au (aa au ac)))) ac))) ac)) (aa (bi ac) ac))))
   (ae (ay (ma K PySem.F.plainAttrs_list PySem.F.slot_list_clear PySem.F.type_list_clear nU (az c_code_of hr (aa (pv 1) ac))))
   (ae (a_ (PW.pt' (iG (aC (gN K hr) (pv 10) (pv 12) (aH _)) (iB (aC (gN K hr) (az c_run_code hr (aa (pv 5) (aa (b_ (fb K) (pv 3) cQ (ci af)) ac))) (az c_run_plain hr (aa (pv 1) (aa (b_ (fb K) (pv 3) cQ (ci af)) ac))) (aH _))))) (ak (aE eX)) bt)
   (ak (aE (jZ (Cy K hr) (az c_run_code hr (aa (az c_code_of hr (aa (pv 1) ac)) (aa (pv 3) ac))) (pv 12) (aH _)))))))))))))))))))),?_⟩
 walk_at "rd1";refine⟨a,ns,rfl,hS,hn,fun t root lp ip HA xs sA htt D=>?_⟩
 walk_at "rd1";refine⟨t,_,rfl,SqT.of htt,rfl,?_⟩
 walk_at "rd1"
 have hcnt:aj 10 (gm ns)≤100:=by
  have:=D.few
  rw[jO]at this
  exact this
 have hshp:=k7 D.fine;have hif:=D.ifew;have TO:=uA D.ok D.fine hcnt;have hok:∀ (ys:List Int),∀ e∈(f_ ys 10 (gm ns)).log,iX e:=fun ys=>Cj ys 10 (gm ns)
 generalize fq ((cA 10 (gm ns)).flatMap bY)=NM at TO;have hprog:=D.prog;have hokT:=D.ok;have hip0:=D.inp;generalize gm ns=T at *
 walk_at "nx";refine⟨root,_,_,rfl,TO.cin hprog,fun cq H1 s1 hcq hC=>?_⟩
 walk_at "nx";refine⟨root,_,_,rfl,TO.cin (hprog.mono s1),fun tq H2 s2 htq hT=>?_⟩
 have hC2:=hC.mono s2;obtain⟨as1,a1,b1⟩:=id hC2
 obtain⟨as2,a2,b2⟩:=id hT
 walk_at "nx";refine⟨_,.inl (SqL.of a1),fun k1 hk1=>?_⟩
 have s3:=al hk1 (.lst (as1.map V.ref));have e3:upd H2 k1 (.lst (as1.map V.ref)) k1=some (.lst (as1.map V.ref)):=ah
 generalize upd H2 k1 (.lst (as1.map V.ref))=H3 at s3 e3 ⊢;refine⟨_,.inl (SqL.of (s3 _ _ a2)),fun k2 hk2=>?_⟩
 have s4:=al hk2 (.lst (as2.map V.ref));have e4:upd H3 k2 (.lst (as2.map V.ref)) k2=some (.lst (as2.map V.ref)):=ah
 generalize upd H3 k2 (.lst (as2.map V.ref))=H4 at s4 e4 ⊢;refine⟨by decide,fun kp hkp=>?_⟩
 have s5:=al hkp (.lst [.ref k1,.ref k2]);have e5:upd H4 kp (.lst [.ref k1,.ref k2]) kp=some (.lst [.ref k1,.ref k2]):=ah
 generalize upd H4 kp (.lst [.ref k1,.ref k2])=H5 at s5 e5 ⊢;have s25:=(s3.trans s4).trans s5;have sA5:=(s1.trans s2).trans s25;walk_at "nx";refine⟨_,.inl (SqL.of (sA5 _ _ hip0)),fun hp hhp=>?_⟩
 have s6:=al hhp (.lst (xs.map V.int));have e6:upd H5 hp (.lst (xs.map V.int)) hp=some (.lst (xs.map V.int)):=ah
 generalize upd H5 hp (.lst (xs.map V.int))=H6 at s6 e6 ⊢;have sA6:=sA5.trans s6;have s26:=s25.trans s6;walk_at "nx";refine⟨root,hp,T,_,xs,rfl,hprog.mono sA6,hokT,hshp,hcnt,SqL.of e6,by omega,fun f1 H7 es1 s7 hf1 l1 m1 hll=>?_⟩
 obtain⟨n1,v1,g1,g2,g3,g4⟩:=TO.go false xs hif
 obtain⟨n2,v2,j1,j2,j3,j4⟩:=TO.go true xs hif
 have L1:LogAt H7 f1 es1 (f_ xs 10 T).log:=⟨l1,m1⟩
 walk_at "nx";refine⟨cq,hp,_,xs,v1,n1,_,rfl,(hC2.mono s26).mono s7,g1,g2,g3,SqL.of (s7 _ _ e6),by omega,fun f2 H8 es2 s8 hf2 l2 m2=>?_⟩
 rw[g4]at m2
 have L2:LogAt H8 f2 es2 (f_ xs 10 T).log:=⟨l2,m2⟩
 walk_at "nx";have s68:=s7.trans s8;refine⟨tq,hp,_,xs,v2,n2,_,rfl,(hT.mono s26).mono s68,j1,j2,j3,SqL.of (s68 _ _ e6),by omega,fun f3 H9 es3 s9 hf3 l3 m3=>?_⟩
 rw[j4]at m3
 have L3:LogAt H9 f3 es3 (f_ xs 10 T).log:=⟨l3,m3⟩
 have s69:=s68.trans s9;have s89:=s8.trans s9;walk_at "nx";refine⟨by decide,fun lq hlq=>?_⟩
 have sa:=al hlq (.lst [.ref f1,.ref f2,.ref f3]);have ea:upd H9 lq (.lst [.ref f1,.ref f2,.ref f3]) lq=some (.lst [.ref f1,.ref f2,.ref f3]):=ah
 generalize upd H9 lq (.lst [.ref f1,.ref f2,.ref f3])=HB at sa ea ⊢;have M1:=(L1.mono s89).mono sa;have M2:=(L2.mono s9).mono sa;have M3:=L3.mono sa;refine⟨⟨_,SqL.of ea⟩,?_⟩
 refine da (xs:=[.ref f1,.ref f2,.ref f3]) (fun i σ H'=>∃ o:Option V,σ=[some (.ref a),some (.ref root),some (.ref lp),some (.ref ip),some (.ref cq),some (.ref tq),some (.ref kp),some (.ref hp),some (.ref f1),some (.ref f2),some (.ref f3),o,none]∧Same HB H') ⟨none,rfl,fun _ _ z=>z⟩ (fun i σ H' _ h=>by obtain⟨_,_,sm⟩:=h; exact SqL.of (sm _ _ ea)) ?_ ?_
 ·rintro i v σ H' hv ⟨o,rfl,sm⟩
  obtain⟨fj,ej,rfl,hj⟩ : ∃ fj ej,v = .ref fj∧LogAt HB fj ej (f_ xs 10 T).log:=by
   match i,hv with
   | 0,hv=>cases hv; exact⟨_,_,rfl,M1⟩
   | 1,hv=>cases hv; exact⟨_,_,rfl,M2⟩
   | 2,hv=>cases hv; exact⟨_,_,rfl,M3⟩
  walk_at "rd1";refine⟨fj,ej,_,rfl,hj.mono sm,hok xs,fun HC sC=>?_⟩
  walk_at "rd1";refine⟨1,true,by decide,lS ((hj.mono sm).mono sC) ((M1.mono sm).mono sC) (hok xs),?_⟩
  rw[if_neg (by decide)]
  exact⟨_,rfl,sm.trans sC⟩
 rintro σ H' ⟨o,rfl,sm⟩
 walk_at "nx";refine⟨by decide,fun pq hpq=>?_⟩
 have sc:=al hpq (.lst [.ref cq,.ref tq]);have ec:upd H' pq (.lst [.ref cq,.ref tq]) pq=some (.lst [.ref cq,.ref tq]):=ah
 generalize upd H' pq (.lst [.ref cq,.ref tq])=HD at sc ec ⊢;have sBD:=sm.trans sc;have s9D:=sa.trans sBD;have s6D:=s69.trans s9D;have s5D:=s6.trans s6D;have s4D:=s5.trans s5D;have s3D:=s4.trans s4D;have s2D:=s3.trans s3D;have b1D:Paired (bP HD) as1 _:=Paired.imp' (fun _ _ z=>s2D _ _ z) b1
 have b2D:Paired (bP HD) as2 _:=Paired.imp' (fun _ _ z=>s2D _ _ z) b2
 refine⟨2,true,by decide,EqN.seq (.inl ⟨SqL.of ec,SqL.of (s5D _ _ e5)⟩) rfl (fun i x y e1 e2=>?_),?_⟩
 ·match i,e1,e2 with
  | 0,e1,e2=>cases e1; cases e2; exact sI (s2D _ _ a1) (s3D _ _ e3) b1D (TO.flat false)
  | 1,e1,e2=>cases e1; cases e2; exact sI (s2D _ _ a2) (s4D _ _ e4) b2D (TO.flat true)
 rw[if_neg (by decide)]
 have sAD:=sA6.trans s6D;refine⟨0,true,by decide,by have:=EqN.ints (n:=0) (SqL.of (K:=K) (s6D _ _ e6)) (SqL.of (sAD _ _ hip0)); simpa using this,?_⟩
 rw[if_neg (by decide)]
 walk_at "nx";refine⟨_,.inl (SqL.of ((M1.mono sBD).1)),fun du hdu=>?_⟩
 have sd:=al hdu (.lst (es1.map V.ref));have ed:upd HD du (.lst (es1.map V.ref)) du=some (.lst (es1.map V.ref)):=ah
 generalize upd HD du (.lst (es1.map V.ref))=HE at sd ed ⊢;have sBE:=sBD.trans sd;have N1:=M1.mono sBE;have N2:=M2.mono sBE;have N3:=M3.mono sBE;have ND:LogAt HE du es1 (f_ xs 10 T).log:=⟨ed,N1.2⟩
 walk_at "nx";refine⟨⟨_,SqL.of N2.1⟩,by decide,fun tt htt2=>?_⟩
 have se:=al htt2 (.tup [V.int 0,V.int 0,V.str "open", V.int 0]);generalize upd HE tt (.tup [V.int 0,V.int 0,V.str "open", V.int 0])=HF at se ⊢;have n12:f1≠f2:=fun z=>by rw[z,hf2]at l1; cases l1
 have n32:f3≠f2:=fun z=>by rw[z,l2]at hf3; cases hf3
 have n31:f3≠f1:=fun z=>by rw[z,s8 _ _ l1]at hf3; cases hf3
 have hD1:=(M1.mono sBD).1;have hD2:=(M2.mono sBD).1;have nd1:du≠f1:=fun z=>by rw[z,hD1]at hdu; cases hdu
 have nd2:du≠f2:=fun z=>by rw[z,hD2]at hdu; cases hdu
 have lf2:=se _ _ N2.1;refine⟨_,lf2,bG (by rw[List.length_map,aB N2.2]; omega),?_⟩
 have P1:=(N1.mono se).put lf2 n12 (.lst (es2.map V.ref++[.ref tt]));have P3:=(N3.mono se).put lf2 n32 (.lst (es2.map V.ref++[.ref tt]));have PD:=(ND.mono se).put lf2 nd2 (.lst (es2.map V.ref++[.ref tt]));have s7F:=((s89.trans sa).trans sBE).trans se;have s7G:=s7F.upd hf2 (.lst (es2.map V.ref++[.ref tt]));generalize upd HF f2 (.lst (es2.map V.ref++[.ref tt]))=HG at P1 P3 PD s7G ⊢;walk_at "nx";refine⟨⟨_,SqL.of P1.1⟩,nK P1.1 ?_⟩
 have R3:=P3.put P1.1 n31 (.lst []);have RD:=PD.put P1.1 nd1 (.lst []);have s6H:=(s7.trans s7G).upd hf1 (.lst []);generalize upd HG f1 (.lst [])=HH at R3 RD s6H ⊢;have sAH:=sA6.trans s6H;walk_at "nx";refine⟨by decide,fun p1 hp1=>?_⟩
 have x1:=al hp1 (.tup [V.str "open", V.str "x"]);have y1:upd HH p1 (.tup [V.str "open", V.str "x"]) p1=some (.tup ((["open", "x"]:List Str).map V.str)):=ah
 generalize upd HH p1 (.tup [V.str "open", V.str "x"])=HI at x1 y1 ⊢;refine⟨by decide,fun p2 hp2=>?_⟩
 have x2:=al hp2 (.tup [V.str "do", V.str "read", V.str "x"]);have y2:upd HI p2 (.tup [V.str "do", V.str "read", V.str "x"]) p2=some (.tup ((["do", "read", "x"]:List Str).map V.str)):=ah
 generalize upd HI p2 (.tup [V.str "do", V.str "read", V.str "x"])=HJ at x2 y2 ⊢;refine⟨by decide,fun p3 hp3=>?_⟩
 have x3:=al hp3 (.lst [.ref p1,.ref p2]);have y3:upd HJ p3 (.lst [.ref p1,.ref p2]) p3=some (.lst (([p1,p2]:List Addr).map V.ref)):=ah
 generalize upd HJ p3 (.lst [.ref p1,.ref p2])=HK at x3 y3 ⊢;have TW:=uA two_ok.1 two_ok.2 (by decide)
 have pr:ProgAt (fun _=>True) 10 HK p3 [.plain ["open", "x"],.plain ["do", "read", "x"]]:=⟨trivial,[p1,p2],y3,.cons (x3 _ _ (x2 _ _ y1)) (.cons (x3 _ _ y2) .nil)⟩
 refine⟨p3,_,_,rfl,TW.cin pr,fun c3 HL x4 hc3 hC3=>?_⟩
 refine⟨by decide,fun i0 hi0=>?_⟩
 have x5:=al hi0 (.lst []);have y5:upd HL i0 (.lst []) i0=some (.lst (([]:List Int).map V.int)):=ah
 generalize upd HL i0 (.lst [])=HM at x5 y5 ⊢;obtain⟨n3,v3,u1,u2,u3,u4⟩:=TW.go false [] (by decide)
 refine⟨c3,i0,_,[],v3,n3,_,rfl,hC3.mono x5,u1,u2,u3,SqL.of y5,by decide,fun f4 HN es4 x6 hf4 l4 m4=>?_⟩
 have sHN:=((((x1.trans x2).trans x3).trans x4).trans x5).trans x6;walk_at "nx";refine⟨root,_,_,rfl,TO.cin (hprog.mono (sAH.trans sHN)),fun c5 HQ x7 hc5 hC5=>?_⟩
 obtain⟨as5,z5,_⟩:=hC5
 refine⟨.inl ⟨rfl,_,SqL.of z5⟩,nK z5 ?_⟩
 have sHP:=sHN.trans (x7.upd hc5 (.lst []));generalize upd HQ c5 (.lst [])=HP at sHP ⊢;have T3:=R3.mono sHP;have TD:=RD.mono sHP;have sAP:=sAH.trans sHP;have s6P:=s6H.trans sHP;walk_at "nx";refine⟨1,true,by decide,lS T3 TD (hok xs),?_⟩
 rw[if_neg (by decide)]
 walk_at "rd1";have s2P:=s26.trans s6P;refine⟨_,SqL.of (sAP _ _ hip0),fun q1 hq1=>?_⟩
 have hyl:=fE xs none (some 1);rw[gF];have w1:=al hq1 (.lst ((gh xs none (some 1)).map V.int));have y6:upd HP q1 (.lst ((gh xs none (some 1)).map V.int)) q1=some (.lst ((gh xs none (some 1)).map V.int)):=ah
 generalize hys:gh xs none (some 1)=ys at hyl w1 y6 ⊢;generalize upd HP q1 (.lst (ys.map V.int))=HR at w1 y6 ⊢;obtain⟨n4,v4,o1,o2,o3,o4⟩:=TO.go true ys (by omega)
 refine⟨tq,q1,_,ys,v4,n4,_,rfl,(hT.mono s2P).mono w1,o1,o2,o3,SqL.of y6,by omega,fun f5 HS es5 w2 hf5 l5 m5=>?_⟩
 rw[o4]at m5
 have sPS:=w1.trans w2;refine⟨_,SqL.of (sPS _ _ (sAP _ _ hip0)),fun q2 hq2=>?_⟩
 rw[gF,hys];have w3:=al hq2 (.lst (ys.map V.int));have y7:upd HS q2 (.lst (ys.map V.int)) q2=some (.lst (ys.map V.int)):=ah
 generalize upd HS q2 (.lst (ys.map V.int))=HU at w3 y7 ⊢;have sAU:=(sAP.trans sPS).trans w3;refine⟨root,q2,T,_,ys,rfl,hprog.mono sAU,hokT,hshp,hcnt,SqL.of y7,by omega,fun f6 HV es6 w4 hf6 l6 m6 _=>?_⟩
 have V5:LogAt HS f5 es5 (f_ ys 10 T).log:=⟨l5,m5⟩
 walk_at "rd1";refine⟨1,true,by decide,lS (V5.mono (w3.trans w4)) ⟨l6,m6⟩ (hok ys),?_⟩
 rw[if_neg (by decide)]
 walk_at "nx";have sAV:=sAU.trans w4;refine⟨root,_,_,rfl,TO.cin (hprog.mono sAV),fun c7 HW w5 hc7 hC7=>?_⟩
 refine⟨c7,ip,_,xs,v1,n1,_,rfl,hC7,g1,g2,g3,SqL.of ((sAV.trans w5) _ _ hip0),by omega,fun f7 HX es7 w6 hf7 l7 m7=>?_⟩
 rw[g4]at m7
 walk_at "rd1";exact⟨1,true,by decide,lS ⟨l7,m7⟩ (TD.mono ((((sPS.trans w3).trans w4).trans w5).trans w6)) (hok xs),q _⟩
end
theorem yN{K:PySem.W.Frag}{a0 a1 a2 a3 a4 a5 a6 a7:Addr}(q0:∀ H:Hp,SqT K H a0 [.str "name"]) (q1:∀ H:Hp,SqT K H a1 [.str "word", .str "name"]) (q2:∀ H:Hp,SqT K H a2 [.str "name", .str "name"]) (q3:∀ H:Hp,SqT K H a3 [.str "name"]) (q4:∀ H:Hp,SqT K H a4 [.str "name", .str "name"]) (q5:∀ H:Hp,SqT K H a5 [.str "name", .str "name", .str "steps"]) (q6:∀ H:Hp,SqT K H a6 [.str "bound", .str "steps", .str "steps"]) (q7:∀ H:Hp,SqT K H a7 [.str "bound", .str "steps"]) :
  ∀ kind ks,(kind,ks)∈ef→∃ a,bN [(("open" : Str),V.ref a0),(("do" : Str),V.ref a1),(("copy" : Str),V.ref a2),(("drop" : Str),V.ref a3),(("tie" : Str),V.ref a4),(("lend" : Str),V.ref a5),(("if" : Str),V.ref a6),(("while" : Str),V.ref a7)] kind=some (.ref a)∧∀ H:Hp,SqT K H a (ks.map V.str):=by
 intro kind ks h
 simp only[ef,List.mem_cons,Prod.mk.injEq,List.mem_nil_iff,or_false]at h
 rcases h with ⟨rfl,rfl⟩ | ⟨rfl,rfl⟩ | ⟨rfl,rfl⟩ | ⟨rfl,rfl⟩ | ⟨rfl,rfl⟩ | ⟨rfl,rfl⟩ | ⟨rfl,rfl⟩ | ⟨rfl,rfl⟩
 ·exact⟨a0,rfl,q0⟩
 ·exact⟨a1,rfl,q1⟩
 ·exact⟨a2,rfl,q2⟩
 ·exact⟨a3,rfl,q3⟩
 ·exact⟨a4,rfl,q4⟩
 ·exact⟨a5,rfl,q5⟩
 ·exact⟨a6,rfl,q6⟩
 ·exact⟨a7,rfl,q7⟩
def cm(K:PySem.W.Frag)(x:Str)(st:Stmt):Prop:=∃ (f:Addr) (od an:Option Addr) (sl:Array (Option Value)) (oc kV dc pm cd ct:Value),PySem.W.nsIn K mainGlobals x=some (some (.ref f))∧K.lookup f=some ⟨oc,od,.func (PySem.W.fnOf x x (defArgs st) (defBody st) (defScope st) .none kV dc pm an cd ct),sl⟩∧PySem.W.codeIn K cd x=true∧PySem.W.keepIn K (.ref f)=true
theorem dfe_mk{K:PySem.W.Frag}{x:Str}{st:Stmt}{f:Addr}{od an:Option Addr}{sl:Array (Option Value)}{oc kV dc pm cd ct:Value}(a:PySem.W.nsIn K mainGlobals x=some (some (.ref f)))(l:K.lookup f=some ⟨oc,od,.func (PySem.W.fnOf x x (defArgs st) (defBody st) (defScope st) .none kV dc pm an cd ct),sl⟩)(c:PySem.W.codeIn K cd x=true)(k:PySem.W.keepIn K (.ref f)=true):cm K x st:=⟨f,od,an,sl,oc,kV,dc,pm,cd,ct,a,l,c,k⟩
theorem aX{K:PySem.W.Frag}{h:Heap}{mg:Str→Option Value}{x:Str}{st:Stmt}(X:K.In h)(G:h.Ns mainGlobals mg)(e:cm K x st):DefAt K mg x st:=by
 obtain⟨f,od,an,sl,oc,kV,dc,pm,cd,ct,a,l,c,k⟩:=e
 exact⟨f,_,em (st:=st) l c k,PySem.W.mg_of X G a⟩
theorem all_mk{l:PySem.W.OpenLaw}{w:World}{K:PySem.W.Frag}{h:Heap}{mg:Str→Option Value}{fa:Addr}(X:K.In h)(G:h.Ns mainGlobals mg)(hfa:mg "law" = some (.ref fa))
  {C_NumberedStep:Addr} {fNumberedStep___init__:Addr} {odNumberedStep___init__ anNumberedStep___init__:Option Addr} {slNumberedStep___init__:Array (Option Value)} {ocNumberedStep___init__ kVNumberedStep___init__ dcNumberedStep___init__ pmNumberedStep___init__ cdNumberedStep___init__ ctNumberedStep___init__:Value} {C_Run:Addr} {fRun___init__:Addr} {odRun___init__ anRun___init__:Option Addr} {slRun___init__:Array (Option Value)} {ocRun___init__ kVRun___init__ dcRun___init__ pmRun___init__ cdRun___init__ ctRun___init__:Value} {fRun_come_to:Addr} {odRun_come_to anRun_come_to:Option Addr} {slRun_come_to:Array (Option Value)} {ocRun_come_to kVRun_come_to dcRun_come_to pmRun_come_to cdRun_come_to ctRun_come_to:Value} {fRun_takes_more:Addr} {odRun_takes_more anRun_takes_more:Option Addr} {slRun_takes_more:Array (Option Value)} {ocRun_takes_more kVRun_takes_more dcRun_takes_more pmRun_takes_more cdRun_takes_more ctRun_takes_more:Value} {fRun_handle_of:Addr} {odRun_handle_of anRun_handle_of:Option Addr} {slRun_handle_of:Array (Option Value)} {ocRun_handle_of kVRun_handle_of dcRun_handle_of pmRun_handle_of cdRun_handle_of ctRun_handle_of:Value} {fRun_hold:Addr} {odRun_hold anRun_hold:Option Addr} {slRun_hold:Array (Option Value)} {ocRun_hold kVRun_hold dcRun_hold pmRun_hold cdRun_hold ctRun_hold:Value} {fRun_deed:Addr} {odRun_deed anRun_deed:Option Addr} {slRun_deed:Array (Option Value)} {ocRun_deed kVRun_deed dcRun_deed pmRun_deed cdRun_deed ctRun_deed:Value} {fRun_new_handle:Addr} {odRun_new_handle anRun_new_handle:Option Addr} {slRun_new_handle:Array (Option Value)} {ocRun_new_handle kVRun_new_handle dcRun_new_handle pmRun_new_handle cdRun_new_handle ctRun_new_handle:Value} {fRun_tie:Addr} {odRun_tie anRun_tie:Option Addr} {slRun_tie:Array (Option Value)} {ocRun_tie kVRun_tie dcRun_tie pmRun_tie cdRun_tie ctRun_tie:Value} {fRun_end_all:Addr} {odRun_end_all anRun_end_all:Option Addr} {slRun_end_all:Array (Option Value)} {ocRun_end_all kVRun_end_all dcRun_end_all pmRun_end_all cdRun_end_all ctRun_end_all:Value} {d_PARTS:Addr} {n_PARTS:Nat} {k_PARTS_0:Tok} {a_PARTS_0:Addr} {od_PARTS_0:Option Addr} {m_PARTS_0:Nat} {sl_PARTS_0:Array (Option Value)} {k_PARTS_0_0:Tok} {k_PARTS_1:Tok} {a_PARTS_1:Addr} {od_PARTS_1:Option Addr} {m_PARTS_1:Nat} {sl_PARTS_1:Array (Option Value)} {k_PARTS_1_0:Tok} {k_PARTS_1_1:Tok} {k_PARTS_2:Tok} {a_PARTS_2:Addr} {od_PARTS_2:Option Addr} {m_PARTS_2:Nat} {sl_PARTS_2:Array (Option Value)} {k_PARTS_2_0:Tok} {k_PARTS_2_1:Tok} {k_PARTS_3:Tok} {a_PARTS_3:Addr} {od_PARTS_3:Option Addr} {m_PARTS_3:Nat} {sl_PARTS_3:Array (Option Value)} {k_PARTS_3_0:Tok} {k_PARTS_4:Tok} {a_PARTS_4:Addr} {od_PARTS_4:Option Addr} {m_PARTS_4:Nat} {sl_PARTS_4:Array (Option Value)} {k_PARTS_4_0:Tok} {k_PARTS_4_1:Tok} {k_PARTS_5:Tok} {a_PARTS_5:Addr} {od_PARTS_5:Option Addr} {m_PARTS_5:Nat} {sl_PARTS_5:Array (Option Value)} {k_PARTS_5_0:Tok} {k_PARTS_5_1:Tok} {k_PARTS_5_2:Tok} {k_PARTS_6:Tok} {a_PARTS_6:Addr} {od_PARTS_6:Option Addr} {m_PARTS_6:Nat} {sl_PARTS_6:Array (Option Value)} {k_PARTS_6_0:Tok} {k_PARTS_6_1:Tok} {k_PARTS_6_2:Tok} {k_PARTS_7:Tok} {a_PARTS_7:Addr} {od_PARTS_7:Option Addr} {m_PARTS_7:Nat} {sl_PARTS_7:Array (Option Value)} {k_PARTS_7_0:Tok} {k_PARTS_7_1:Tok} {d_CLOSERS:Addr} {n_CLOSERS:Nat} {k_CLOSERS_0:Tok} {a_CLOSERS_0:Addr} {od_CLOSERS_0:Option Addr} {m_CLOSERS_0:Nat} {sl_CLOSERS_0:Array (Option Value)} {k_CLOSERS_0_0:Tok} {k_CLOSERS_1:Tok} {a_CLOSERS_1:Addr} {od_CLOSERS_1:Option Addr} {m_CLOSERS_1:Nat} {sl_CLOSERS_1:Array (Option Value)} {k_CLOSERS_1_0:Tok} {k_CLOSERS_1_1:Tok} {k_CLOSERS_2:Tok} {a_CLOSERS_2:Addr} {od_CLOSERS_2:Option Addr} {m_CLOSERS_2:Nat} {sl_CLOSERS_2:Array (Option Value)} {k_CLOSERS_2_0:Tok}
  (a0:cm K "all_begin_tie" eZ)
  (a1:cm K "broken_or_gone_on" b9)
  (a2:cm K "do_row" fC)
  (a3:cm K "row_behind" dL)
  (a4:cm K "log_of" fZ)
  (a5:cm K "run_code" dY)
  (a6:cm K "closers_of" e_)
  (a7:cm K "head_of" fH)
  (a8:cm K "blocks_of" eR)
  (a9:cm K "steps_within" bH)
  (a10:cm K "names_in" bX)
  (a11:cm K "lines_of" bd)
  (a12:cm K "names_of" fo)
  (a13:cm K "line_behind" dw)
  (a14:cm K "numbered_step" aP)
  (a15:cm K "numbered_steps" bC)
  (a16:cm K "lend_lines" bS)
  (a17:cm K "slots_of" cr)
  (a18:cm K "simple_row" bJ)
  (a19:cm K "lend_rows" aV)
  (a20:cm K "if_rows" bE)
  (a21:cm K "loop_rows" b7)
  (a22:cm K "while_rows" bn)
  (a23:cm K "rows_of" bO)
  (a24:cm K "rows_and_end" bT)
  (a25:cm K "code_of" gq)
  (a26:cm K "turned_code" eI)
  (a27:cm K "do_simple" cX)
  (a28:cm K "do_lend" dS)
  (a29:cm K "do_if" gH)
  (a30:cm K "do_while" fm)
  (a31:cm K "do_steps" cL)
  (a32:cm K "run_plain" b6)
  (a33:cm K "_law_cell_at" dv)
  (a34:cm K "_law_names" aJ)
  (a35:cm K "_law_bound" eL)
  (a36:cm K "_law_step" cF)
  (a37:cm K "_law_begun" bz)
  (a38:cm K "_law_program" ap)
  (a39:cm K "_law_inputs" bf)
  (a40:cm K "_law_drawn" bu)
  (a41:cm K "_law_whole" dD)
  (a42:cm K "_law_is_log" bZ)
  (a43:cm K "law" bB)
  (y_isinstance:PySem.W.nsIn K mainGlobals "isinstance" = some none)
  (y_str:PySem.W.nsIn K mainGlobals "str" = some none)
  (y_int:PySem.W.nsIn K mainGlobals "int" = some none)
  (y_bool:PySem.W.nsIn K mainGlobals "bool" = some none)
  (y_tuple:PySem.W.nsIn K mainGlobals "tuple" = some none)
  (y_len:PySem.W.nsIn K mainGlobals "len" = some none)
  (y_range:PySem.W.nsIn K mainGlobals "range" = some none)
  (y_list:PySem.W.nsIn K mainGlobals "list" = some none)
  (y_max:PySem.W.nsIn K mainGlobals "max" = some none)
  (y_reversed:PySem.W.nsIn K mainGlobals "reversed" = some none)
  (y_zip:PySem.W.nsIn K mainGlobals "zip" = some none)
  (y_enumerate:PySem.W.nsIn K mainGlobals "enumerate" = some none)
  (n_NumberedStep:PySem.W.nsIn K mainGlobals "NumberedStep" = some (some (.ref C_NumberedStep))) (pg_NumberedStep:PySem.W.plainGet K C_NumberedStep Str.empty=true) (hd_NumberedStep:PySem.W.hasDictIn K C_NumberedStep=true) (po_NumberedStep:PySem.W.plainOver K C_NumberedStep=true) (sa_NumberedStep:PySem.W.findIn K (.ref C_NumberedStep) "__setattr__" = some (some (.builtin "object.__setattr__"))) (mk_NumberedStep:PySem.W.makesIn K C_NumberedStep=true) (kc_NumberedStep:PySem.W.keepIn K (.ref C_NumberedStep)=true)
  (nf_kind:PySem.W.findIn K (.ref C_NumberedStep) "kind" = some none)
  (nf_parts:PySem.W.findIn K (.ref C_NumberedStep) "parts" = some none)
  (nf_lines:PySem.W.findIn K (.ref C_NumberedStep) "lines" = some none)
  (nf_blocks:PySem.W.findIn K (.ref C_NumberedStep) "blocks" = some none)
  (aNumberedStep___init__:PySem.W.findIn K (.ref C_NumberedStep) "__init__" = some (some (.ref fNumberedStep___init__))) (iNumberedStep___init__:PySem.W.isFn K (.ref fNumberedStep___init__)=true) (lNumberedStep___init__:K.lookup fNumberedStep___init__=some ⟨ocNumberedStep___init__,odNumberedStep___init__,.func (PySem.W.fnOf "__init__" "NumberedStep.__init__" (defArgs aT) (defBody aT) (defScope aT) .none kVNumberedStep___init__ dcNumberedStep___init__ pmNumberedStep___init__ anNumberedStep___init__ cdNumberedStep___init__ ctNumberedStep___init__),slNumberedStep___init__⟩) (cNumberedStep___init__:PySem.W.codeIn K cdNumberedStep___init__ "NumberedStep.__init__" = true) (kNumberedStep___init__:PySem.W.keepIn K (.ref fNumberedStep___init__)=true)
  (n_Run:PySem.W.nsIn K mainGlobals "Run" = some (some (.ref C_Run))) (pg_Run:PySem.W.plainGet K C_Run Str.empty=true) (hd_Run:PySem.W.hasDictIn K C_Run=true) (po_Run:PySem.W.plainOver K C_Run=true) (sa_Run:PySem.W.findIn K (.ref C_Run) "__setattr__" = some (some (.builtin "object.__setattr__"))) (mk_Run:PySem.W.makesIn K C_Run=true) (kc_Run:PySem.W.keepIn K (.ref C_Run)=true)
  (nf_inputs:PySem.W.findIn K (.ref C_Run) "inputs" = some none)
  (nf_watches:PySem.W.findIn K (.ref C_Run) "watches" = some none)
  (nf_at:PySem.W.findIn K (.ref C_Run) "at" = some none)
  (nf_taken:PySem.W.findIn K (.ref C_Run) "taken" = some none)
  (nf_last:PySem.W.findIn K (.ref C_Run) "last" = some none)
  (nf_opened:PySem.W.findIn K (.ref C_Run) "opened" = some none)
  (nf_held:PySem.W.findIn K (.ref C_Run) "held" = some none)
  (nf_log:PySem.W.findIn K (.ref C_Run) "log" = some none)
  (aRun___init__:PySem.W.findIn K (.ref C_Run) "__init__" = some (some (.ref fRun___init__))) (iRun___init__:PySem.W.isFn K (.ref fRun___init__)=true) (lRun___init__:K.lookup fRun___init__=some ⟨ocRun___init__,odRun___init__,.func (PySem.W.fnOf "__init__" "Run.__init__" (defArgs b5) (defBody b5) (defScope b5) .none kVRun___init__ dcRun___init__ pmRun___init__ anRun___init__ cdRun___init__ ctRun___init__),slRun___init__⟩) (cRun___init__:PySem.W.codeIn K cdRun___init__ "Run.__init__" = true) (kRun___init__:PySem.W.keepIn K (.ref fRun___init__)=true)
  (aRun_come_to:PySem.W.findIn K (.ref C_Run) "come_to" = some (some (.ref fRun_come_to))) (iRun_come_to:PySem.W.isFn K (.ref fRun_come_to)=true) (lRun_come_to:K.lookup fRun_come_to=some ⟨ocRun_come_to,odRun_come_to,.func (PySem.W.fnOf "come_to" "Run.come_to" (defArgs cD) (defBody cD) (defScope cD) .none kVRun_come_to dcRun_come_to pmRun_come_to anRun_come_to cdRun_come_to ctRun_come_to),slRun_come_to⟩) (cRun_come_to:PySem.W.codeIn K cdRun_come_to "Run.come_to" = true) (kRun_come_to:PySem.W.keepIn K (.ref fRun_come_to)=true)
  (aRun_takes_more:PySem.W.findIn K (.ref C_Run) "takes_more" = some (some (.ref fRun_takes_more))) (iRun_takes_more:PySem.W.isFn K (.ref fRun_takes_more)=true) (lRun_takes_more:K.lookup fRun_takes_more=some ⟨ocRun_takes_more,odRun_takes_more,.func (PySem.W.fnOf "takes_more" "Run.takes_more" (defArgs bL) (defBody bL) (defScope bL) .none kVRun_takes_more dcRun_takes_more pmRun_takes_more anRun_takes_more cdRun_takes_more ctRun_takes_more),slRun_takes_more⟩) (cRun_takes_more:PySem.W.codeIn K cdRun_takes_more "Run.takes_more" = true) (kRun_takes_more:PySem.W.keepIn K (.ref fRun_takes_more)=true)
  (aRun_handle_of:PySem.W.findIn K (.ref C_Run) "handle_of" = some (some (.ref fRun_handle_of))) (iRun_handle_of:PySem.W.isFn K (.ref fRun_handle_of)=true) (lRun_handle_of:K.lookup fRun_handle_of=some ⟨ocRun_handle_of,odRun_handle_of,.func (PySem.W.fnOf "handle_of" "Run.handle_of" (defArgs ce) (defBody ce) (defScope ce) .none kVRun_handle_of dcRun_handle_of pmRun_handle_of anRun_handle_of cdRun_handle_of ctRun_handle_of),slRun_handle_of⟩) (cRun_handle_of:PySem.W.codeIn K cdRun_handle_of "Run.handle_of" = true) (kRun_handle_of:PySem.W.keepIn K (.ref fRun_handle_of)=true)
  (aRun_hold:PySem.W.findIn K (.ref C_Run) "hold" = some (some (.ref fRun_hold))) (iRun_hold:PySem.W.isFn K (.ref fRun_hold)=true) (lRun_hold:K.lookup fRun_hold=some ⟨ocRun_hold,odRun_hold,.func (PySem.W.fnOf "hold" "Run.hold" (defArgs cW) (defBody cW) (defScope cW) .none kVRun_hold dcRun_hold pmRun_hold anRun_hold cdRun_hold ctRun_hold),slRun_hold⟩) (cRun_hold:PySem.W.codeIn K cdRun_hold "Run.hold" = true) (kRun_hold:PySem.W.keepIn K (.ref fRun_hold)=true)
  (aRun_deed:PySem.W.findIn K (.ref C_Run) "deed" = some (some (.ref fRun_deed))) (iRun_deed:PySem.W.isFn K (.ref fRun_deed)=true) (lRun_deed:K.lookup fRun_deed=some ⟨ocRun_deed,odRun_deed,.func (PySem.W.fnOf "deed" "Run.deed" (defArgs bQ) (defBody bQ) (defScope bQ) .none kVRun_deed dcRun_deed pmRun_deed anRun_deed cdRun_deed ctRun_deed),slRun_deed⟩) (cRun_deed:PySem.W.codeIn K cdRun_deed "Run.deed" = true) (kRun_deed:PySem.W.keepIn K (.ref fRun_deed)=true)
  (aRun_new_handle:PySem.W.findIn K (.ref C_Run) "new_handle" = some (some (.ref fRun_new_handle))) (iRun_new_handle:PySem.W.isFn K (.ref fRun_new_handle)=true) (lRun_new_handle:K.lookup fRun_new_handle=some ⟨ocRun_new_handle,odRun_new_handle,.func (PySem.W.fnOf "new_handle" "Run.new_handle" (defArgs bv) (defBody bv) (defScope bv) .none kVRun_new_handle dcRun_new_handle pmRun_new_handle anRun_new_handle cdRun_new_handle ctRun_new_handle),slRun_new_handle⟩) (cRun_new_handle:PySem.W.codeIn K cdRun_new_handle "Run.new_handle" = true) (kRun_new_handle:PySem.W.keepIn K (.ref fRun_new_handle)=true)
  (aRun_tie:PySem.W.findIn K (.ref C_Run) "tie" = some (some (.ref fRun_tie))) (iRun_tie:PySem.W.isFn K (.ref fRun_tie)=true) (lRun_tie:K.lookup fRun_tie=some ⟨ocRun_tie,odRun_tie,.func (PySem.W.fnOf "tie" "Run.tie" (defArgs cI) (defBody cI) (defScope cI) .none kVRun_tie dcRun_tie pmRun_tie anRun_tie cdRun_tie ctRun_tie),slRun_tie⟩) (cRun_tie:PySem.W.codeIn K cdRun_tie "Run.tie" = true) (kRun_tie:PySem.W.keepIn K (.ref fRun_tie)=true)
  (aRun_end_all:PySem.W.findIn K (.ref C_Run) "end_all" = some (some (.ref fRun_end_all))) (iRun_end_all:PySem.W.isFn K (.ref fRun_end_all)=true) (lRun_end_all:K.lookup fRun_end_all=some ⟨ocRun_end_all,odRun_end_all,.func (PySem.W.fnOf "end_all" "Run.end_all" (defArgs bR) (defBody bR) (defScope bR) .none kVRun_end_all dcRun_end_all pmRun_end_all anRun_end_all cdRun_end_all ctRun_end_all),slRun_end_all⟩) (cRun_end_all:PySem.W.codeIn K cdRun_end_all "Run.end_all" = true) (kRun_end_all:PySem.W.keepIn K (.ref fRun_end_all)=true)
  (h_PARTS:PySem.W.nsIn K mainGlobals "PARTS" = some (some (.ref d_PARTS)))
  (ld_PARTS:K.lookup d_PARTS=some ⟨.type "dict", none,.dict #[⟨PyData.keyHash w.params "open", .str "open" k_PARTS_0,.ref a_PARTS_0⟩,⟨PyData.keyHash w.params "do", .str "do" k_PARTS_1,.ref a_PARTS_1⟩,⟨PyData.keyHash w.params "copy", .str "copy" k_PARTS_2,.ref a_PARTS_2⟩,⟨PyData.keyHash w.params "drop", .str "drop" k_PARTS_3,.ref a_PARTS_3⟩,⟨PyData.keyHash w.params "tie", .str "tie" k_PARTS_4,.ref a_PARTS_4⟩,⟨PyData.keyHash w.params "lend", .str "lend" k_PARTS_5,.ref a_PARTS_5⟩,⟨PyData.keyHash w.params "if", .str "if" k_PARTS_6,.ref a_PARTS_6⟩,⟨PyData.keyHash w.params "while", .str "while" k_PARTS_7,.ref a_PARTS_7⟩] n_PARTS,#[]⟩)
  (la_PARTS_0:K.lookup a_PARTS_0=some ⟨.type "tuple", od_PARTS_0,.seq #[.str "name" k_PARTS_0_0] m_PARTS_0,sl_PARTS_0⟩)
  (la_PARTS_1:K.lookup a_PARTS_1=some ⟨.type "tuple", od_PARTS_1,.seq #[.str "word" k_PARTS_1_0,.str "name" k_PARTS_1_1] m_PARTS_1,sl_PARTS_1⟩)
  (la_PARTS_2:K.lookup a_PARTS_2=some ⟨.type "tuple", od_PARTS_2,.seq #[.str "name" k_PARTS_2_0,.str "name" k_PARTS_2_1] m_PARTS_2,sl_PARTS_2⟩)
  (la_PARTS_3:K.lookup a_PARTS_3=some ⟨.type "tuple", od_PARTS_3,.seq #[.str "name" k_PARTS_3_0] m_PARTS_3,sl_PARTS_3⟩)
  (la_PARTS_4:K.lookup a_PARTS_4=some ⟨.type "tuple", od_PARTS_4,.seq #[.str "name" k_PARTS_4_0,.str "name" k_PARTS_4_1] m_PARTS_4,sl_PARTS_4⟩)
  (la_PARTS_5:K.lookup a_PARTS_5=some ⟨.type "tuple", od_PARTS_5,.seq #[.str "name" k_PARTS_5_0,.str "name" k_PARTS_5_1,.str "steps" k_PARTS_5_2] m_PARTS_5,sl_PARTS_5⟩)
  (la_PARTS_6:K.lookup a_PARTS_6=some ⟨.type "tuple", od_PARTS_6,.seq #[.str "bound" k_PARTS_6_0,.str "steps" k_PARTS_6_1,.str "steps" k_PARTS_6_2] m_PARTS_6,sl_PARTS_6⟩)
  (la_PARTS_7:K.lookup a_PARTS_7=some ⟨.type "tuple", od_PARTS_7,.seq #[.str "bound" k_PARTS_7_0,.str "steps" k_PARTS_7_1] m_PARTS_7,sl_PARTS_7⟩)
  (dz_PARTS:(d_PARTS == sysModules)=false)
  (h_CLOSERS:PySem.W.nsIn K mainGlobals "CLOSERS" = some (some (.ref d_CLOSERS)))
  (ld_CLOSERS:K.lookup d_CLOSERS=some ⟨.type "dict", none,.dict #[⟨PyData.keyHash w.params "lend", .str "lend" k_CLOSERS_0,.ref a_CLOSERS_0⟩,⟨PyData.keyHash w.params "if", .str "if" k_CLOSERS_1,.ref a_CLOSERS_1⟩,⟨PyData.keyHash w.params "while", .str "while" k_CLOSERS_2,.ref a_CLOSERS_2⟩] n_CLOSERS,#[]⟩)
  (la_CLOSERS_0:K.lookup a_CLOSERS_0=some ⟨.type "tuple", od_CLOSERS_0,.seq #[.str "back" k_CLOSERS_0_0] m_CLOSERS_0,sl_CLOSERS_0⟩)
  (la_CLOSERS_1:K.lookup a_CLOSERS_1=some ⟨.type "tuple", od_CLOSERS_1,.seq #[.str "else" k_CLOSERS_1_0,.str "fi" k_CLOSERS_1_1] m_CLOSERS_1,sl_CLOSERS_1⟩)
  (la_CLOSERS_2:K.lookup a_CLOSERS_2=some ⟨.type "tuple", od_CLOSERS_2,.seq #[.str "done" k_CLOSERS_2_0] m_CLOSERS_2,sl_CLOSERS_2⟩)
  (dz_CLOSERS:(d_CLOSERS == sysModules)=false) :
  ∃ fd:FuncData,(∀ (s:Shared) (v:Value),BindsTo s fd ⟨[v],[]⟩ [("_law_script", v)])∧∀ base:Heap,K.In base→base.Ns mainGlobals mg→FnOk l.prog w K mg base ik 36 fa fd ["_law_script"] (oH K):=by
 obtain⟨f9,od9,an9,sl9,oc9,kV9,dc9,pm9,cd9,ct9,aa9,l9,c9,k9⟩:=a43
 have e:=hfa.symm.trans (PySem.W.mg_of X G aa9)
 cases e;have D_all_begin_tie:=aX X G a0;have D_broken_or_gone_on:=aX X G a1;have D_do_row:=aX X G a2;have D_row_behind:=aX X G a3;have D_log_of:=aX X G a4;have D_run_code:=aX X G a5;have D_closers_of:=aX X G a6;have D_head_of:=aX X G a7;have D_blocks_of:=aX X G a8;have D_steps_within:=aX X G a9;have D_names_in:=aX X G a10;have D_lines_of:=aX X G a11;have D_names_of:=aX X G a12;have D_line_behind:=aX X G a13;have D_numbered_step:=aX X G a14;have D_numbered_steps:=aX X G a15;have D_lend_lines:=aX X G a16;have D_slots_of:=aX X G a17;have D_simple_row:=aX X G a18;have D_lend_rows:=aX X G a19;have D_if_rows:=aX X G a20;have D_loop_rows:=aX X G a21;have D_while_rows:=aX X G a22;have D_rows_of:=aX X G a23;have D_rows_and_end:=aX X G a24;have D_code_of:=aX X G a25;have D_turned_code:=aX X G a26;have D_do_simple:=aX X G a27;have D_do_lend:=aX X G a28;have D_do_if:=aX X G a29;have D_do_while:=aX X G a30;have D_do_steps:=aX X G a31;have D_run_plain:=aX X G a32;have D_law_cell_at:=aX X G a33;have D_law_names:=aX X G a34;have D_law_bound:=aX X G a35;have D_law_step:=aX X G a36;have D_law_begun:=aX X G a37;have D_law_program:=aX X G a38;have D_law_inputs:=aX X G a39;have D_law_drawn:=aX X G a40;have D_law_whole:=aX X G a41;have D_law_is_log:=aX X G a42;have z_isinstance:mg "isinstance" = none:=PySem.W.mg_none_of X G y_isinstance
 have z_str:mg "str" = none:=PySem.W.mg_none_of X G y_str
 have z_int:mg "int" = none:=PySem.W.mg_none_of X G y_int
 have z_bool:mg "bool" = none:=PySem.W.mg_none_of X G y_bool
 have z_tuple:mg "tuple" = none:=PySem.W.mg_none_of X G y_tuple
 have z_len:mg "len" = none:=PySem.W.mg_none_of X G y_len
 have z_range:mg "range" = none:=PySem.W.mg_none_of X G y_range
 have z_list:mg "list" = none:=PySem.W.mg_none_of X G y_list
 have z_max:mg "max" = none:=PySem.W.mg_none_of X G y_max
 have z_reversed:mg "reversed" = none:=PySem.W.mg_none_of X G y_reversed
 have z_zip:mg "zip" = none:=PySem.W.mg_none_of X G y_zip
 have z_enumerate:mg "enumerate" = none:=PySem.W.mg_none_of X G y_enumerate
 have cl_NumberedStep:Cls K C_NumberedStep:=⟨pg_NumberedStep,hd_NumberedStep,po_NumberedStep,sa_NumberedStep⟩
 have a_kind:Fl K C_NumberedStep "kind" := ⟨cl_NumberedStep,nf_kind⟩
 have a_parts:Fl K C_NumberedStep "parts" := ⟨cl_NumberedStep,nf_parts⟩
 have a_lines:Fl K C_NumberedStep "lines" := ⟨cl_NumberedStep,nf_lines⟩
 have a_blocks:Fl K C_NumberedStep "blocks" := ⟨cl_NumberedStep,nf_blocks⟩
 have D_NumberedStep:MakeAt K mg "NumberedStep" C_NumberedStep "NumberedStep.__init__" aT:=⟨fNumberedStep___init__,_,em (st:=aT) lNumberedStep___init__ cNumberedStep___init__ kNumberedStep___init__,⟨mk_NumberedStep,aNumberedStep___init__,iNumberedStep___init__,kc_NumberedStep⟩,PySem.W.mg_of X G n_NumberedStep⟩
 have cl_Run:Cls K C_Run:=⟨pg_Run,hd_Run,po_Run,sa_Run⟩
 have a_inputs:Fl K C_Run "inputs" := ⟨cl_Run,nf_inputs⟩
 have a_watches:Fl K C_Run "watches" := ⟨cl_Run,nf_watches⟩
 have a_at:Fl K C_Run "at" := ⟨cl_Run,nf_at⟩
 have a_taken:Fl K C_Run "taken" := ⟨cl_Run,nf_taken⟩
 have a_last:Fl K C_Run "last" := ⟨cl_Run,nf_last⟩
 have a_opened:Fl K C_Run "opened" := ⟨cl_Run,nf_opened⟩
 have a_held:Fl K C_Run "held" := ⟨cl_Run,nf_held⟩
 have a_log:Fl K C_Run "log" := ⟨cl_Run,nf_log⟩
 have D_Run:MakeAt K mg "Run" C_Run "Run.__init__" b5:=⟨fRun___init__,_,em (st:=b5) lRun___init__ cRun___init__ kRun___init__,⟨mk_Run,aRun___init__,iRun___init__,kc_Run⟩,PySem.W.mg_of X G n_Run⟩
 have D_Run_come_to:MethAt K C_Run "come_to" "Run.come_to" cD:=⟨⟨fRun_come_to,_,em (st:=cD) lRun_come_to cRun_come_to kRun_come_to,⟨aRun_come_to,iRun_come_to,kRun_come_to⟩⟩,cl_Run⟩
 have D_Run_takes_more:MethAt K C_Run "takes_more" "Run.takes_more" bL:=⟨⟨fRun_takes_more,_,em (st:=bL) lRun_takes_more cRun_takes_more kRun_takes_more,⟨aRun_takes_more,iRun_takes_more,kRun_takes_more⟩⟩,cl_Run⟩
 have D_Run_handle_of:MethAt K C_Run "handle_of" "Run.handle_of" ce:=⟨⟨fRun_handle_of,_,em (st:=ce) lRun_handle_of cRun_handle_of kRun_handle_of,⟨aRun_handle_of,iRun_handle_of,kRun_handle_of⟩⟩,cl_Run⟩
 have D_Run_hold:MethAt K C_Run "hold" "Run.hold" cW:=⟨⟨fRun_hold,_,em (st:=cW) lRun_hold cRun_hold kRun_hold,⟨aRun_hold,iRun_hold,kRun_hold⟩⟩,cl_Run⟩
 have D_Run_deed:MethAt K C_Run "deed" "Run.deed" bQ:=⟨⟨fRun_deed,_,em (st:=bQ) lRun_deed cRun_deed kRun_deed,⟨aRun_deed,iRun_deed,kRun_deed⟩⟩,cl_Run⟩
 have D_Run_new_handle:MethAt K C_Run "new_handle" "Run.new_handle" bv:=⟨⟨fRun_new_handle,_,em (st:=bv) lRun_new_handle cRun_new_handle kRun_new_handle,⟨aRun_new_handle,iRun_new_handle,kRun_new_handle⟩⟩,cl_Run⟩
 have D_Run_tie:MethAt K C_Run "tie" "Run.tie" cI:=⟨⟨fRun_tie,_,em (st:=cI) lRun_tie cRun_tie kRun_tie,⟨aRun_tie,iRun_tie,kRun_tie⟩⟩,cl_Run⟩
 have D_Run_end_all:MethAt K C_Run "end_all" "Run.end_all" bR:=⟨⟨fRun_end_all,_,em (st:=bR) lRun_end_all cRun_end_all kRun_end_all,⟨aRun_end_all,iRun_end_all,kRun_end_all⟩⟩,cl_Run⟩
 have g_PARTS:mg "PARTS" = some (.ref d_PARTS):=PySem.W.mg_of X G h_PARTS
 have m_PARTS:ModD w K d_PARTS [("open", .ref a_PARTS_0),("do", .ref a_PARTS_1),("copy", .ref a_PARTS_2),("drop", .ref a_PARTS_3),("tie", .ref a_PARTS_4),("lend", .ref a_PARTS_5),("if", .ref a_PARTS_6),("while", .ref a_PARTS_7)]:=⟨dz_PARTS,(show (["open", "do", "copy", "drop", "tie", "lend", "if", "while"]:List Str).Nodup from by decide),_,[⟨PyData.keyHash w.params "open", .str "open" k_PARTS_0,.ref a_PARTS_0⟩,⟨PyData.keyHash w.params "do", .str "do" k_PARTS_1,.ref a_PARTS_1⟩,⟨PyData.keyHash w.params "copy", .str "copy" k_PARTS_2,.ref a_PARTS_2⟩,⟨PyData.keyHash w.params "drop", .str "drop" k_PARTS_3,.ref a_PARTS_3⟩,⟨PyData.keyHash w.params "tie", .str "tie" k_PARTS_4,.ref a_PARTS_4⟩,⟨PyData.keyHash w.params "lend", .str "lend" k_PARTS_5,.ref a_PARTS_5⟩,⟨PyData.keyHash w.params "if", .str "if" k_PARTS_6,.ref a_PARTS_6⟩,⟨PyData.keyHash w.params "while", .str "while" k_PARTS_7,.ref a_PARTS_7⟩],n_PARTS,ld_PARTS,⟨rfl,rfl,rfl⟩,rfl,.cons rfl (.cons rfl (.cons rfl (.cons rfl (.cons rfl (.cons rfl (.cons rfl (.cons rfl (.nil))))))))⟩
 have q_PARTS_0:∀ H:Hp,SqT K H a_PARTS_0 [.str "name"]:=fun H=>.inr ⟨_,_,_,la_PARTS_0,rfl,rfl,bo (show 1≤1000000 from by decide),.cons ⟨_,rfl⟩ (.nil)⟩
 have q_PARTS_1:∀ H:Hp,SqT K H a_PARTS_1 [.str "word", .str "name"]:=fun H=>.inr ⟨_,_,_,la_PARTS_1,rfl,rfl,bo (show 2≤1000000 from by decide),.cons ⟨_,rfl⟩ (.cons ⟨_,rfl⟩ (.nil))⟩
 have q_PARTS_2:∀ H:Hp,SqT K H a_PARTS_2 [.str "name", .str "name"]:=fun H=>.inr ⟨_,_,_,la_PARTS_2,rfl,rfl,bo (show 2≤1000000 from by decide),.cons ⟨_,rfl⟩ (.cons ⟨_,rfl⟩ (.nil))⟩
 have q_PARTS_3:∀ H:Hp,SqT K H a_PARTS_3 [.str "name"]:=fun H=>.inr ⟨_,_,_,la_PARTS_3,rfl,rfl,bo (show 1≤1000000 from by decide),.cons ⟨_,rfl⟩ (.nil)⟩
 have q_PARTS_4:∀ H:Hp,SqT K H a_PARTS_4 [.str "name", .str "name"]:=fun H=>.inr ⟨_,_,_,la_PARTS_4,rfl,rfl,bo (show 2≤1000000 from by decide),.cons ⟨_,rfl⟩ (.cons ⟨_,rfl⟩ (.nil))⟩
 have q_PARTS_5:∀ H:Hp,SqT K H a_PARTS_5 [.str "name", .str "name", .str "steps"]:=fun H=>.inr ⟨_,_,_,la_PARTS_5,rfl,rfl,bo (show 3≤1000000 from by decide),.cons ⟨_,rfl⟩ (.cons ⟨_,rfl⟩ (.cons ⟨_,rfl⟩ (.nil)))⟩
 have q_PARTS_6:∀ H:Hp,SqT K H a_PARTS_6 [.str "bound", .str "steps", .str "steps"]:=fun H=>.inr ⟨_,_,_,la_PARTS_6,rfl,rfl,bo (show 3≤1000000 from by decide),.cons ⟨_,rfl⟩ (.cons ⟨_,rfl⟩ (.cons ⟨_,rfl⟩ (.nil)))⟩
 have q_PARTS_7:∀ H:Hp,SqT K H a_PARTS_7 [.str "bound", .str "steps"]:=fun H=>.inr ⟨_,_,_,la_PARTS_7,rfl,rfl,bo (show 2≤1000000 from by decide),.cons ⟨_,rfl⟩ (.cons ⟨_,rfl⟩ (.nil))⟩
 have g_CLOSERS:mg "CLOSERS" = some (.ref d_CLOSERS):=PySem.W.mg_of X G h_CLOSERS
 have m_CLOSERS:ModD w K d_CLOSERS [("lend", .ref a_CLOSERS_0),("if", .ref a_CLOSERS_1),("while", .ref a_CLOSERS_2)]:=⟨dz_CLOSERS,(show (["lend", "if", "while"]:List Str).Nodup from by decide),_,[⟨PyData.keyHash w.params "lend", .str "lend" k_CLOSERS_0,.ref a_CLOSERS_0⟩,⟨PyData.keyHash w.params "if", .str "if" k_CLOSERS_1,.ref a_CLOSERS_1⟩,⟨PyData.keyHash w.params "while", .str "while" k_CLOSERS_2,.ref a_CLOSERS_2⟩],n_CLOSERS,ld_CLOSERS,⟨rfl,rfl,rfl⟩,rfl,.cons rfl (.cons rfl (.cons rfl (.nil)))⟩
 have q_CLOSERS_0:∀ H:Hp,SqT K H a_CLOSERS_0 [.str "back"]:=fun H=>.inr ⟨_,_,_,la_CLOSERS_0,rfl,rfl,bo (show 1≤1000000 from by decide),.cons ⟨_,rfl⟩ (.nil)⟩
 have q_CLOSERS_1:∀ H:Hp,SqT K H a_CLOSERS_1 [.str "else", .str "fi"]:=fun H=>.inr ⟨_,_,_,la_CLOSERS_1,rfl,rfl,bo (show 2≤1000000 from by decide),.cons ⟨_,rfl⟩ (.cons ⟨_,rfl⟩ (.nil))⟩
 have q_CLOSERS_2:∀ H:Hp,SqT K H a_CLOSERS_2 [.str "done"]:=fun H=>.inr ⟨_,_,_,la_CLOSERS_2,rfl,rfl,bo (show 1≤1000000 from by decide),.cons ⟨_,rfl⟩ (.nil)⟩
 have F:=em (st:=bB) l9 c9 k9;refine⟨PySem.W.fnOf "law" "law" (defArgs bB) (defBody bB) (defScope bB) .none kV9 dc9 pm9 an9 cd9 ct9,fun s v=>.of_eq rfl,fun base _ _=>?_⟩
 have c1:=Cr (P:=l.prog) (w:=w) (base:=base) D_law_cell_at z_len;have d1:=vz (P:=l.prog) (w:=w) (base:=base) D_closers_of g_CLOSERS m_CLOSERS q_CLOSERS_0 q_CLOSERS_1 q_CLOSERS_2;have d2:=BH D_head_of z_len d1;have d3:=xE D_blocks_of z_len d2;have d4:=ny D_steps_within d3 10;have d5:=we (P:=l.prog) (w:=w) (base:=base) D_names_in z_zip z_list g_PARTS m_PARTS (yN q_PARTS_0 q_PARTS_1 q_PARTS_2 q_PARTS_3 q_PARTS_4 q_PARTS_5 q_PARTS_6 q_PARTS_7);have d6:=Al (vV D_names_of d5 d4);have d7:=rG D_lines_of z_str z_zip d1 d2 d3 10;have d8:=oP D_lend_lines z_enumerate d7;have d9:=Ac (NO:=NOt) NOt.mono D_slots_of z_enumerate (wC d6 (k:=15) (by decide)) d8
 have k0:=zS (P:=l.prog) (w:=w) (base:=base) D_NumberedStep a_kind a_parts a_lines a_blocks;have b0:=x8 (P:=l.prog) (w:=w) (base:=base) D_line_behind z_len a_lines;have n0:=uw D_numbered_step D_numbered_steps d2 d3 b0 k0 10;have r0:=sJ (P:=l.prog) (w:=w) (base:=base) D_rows_of D_lend_rows D_if_rows D_loop_rows D_while_rows D_simple_row z_len z_tuple a_kind a_parts a_lines a_blocks 10;have r1:=uG (NO:=NOt) (d:=10) (k:=33) NOt.mono D_rows_and_end (by decide) n0 r0 (wC d9 (by decide)) b0 (by decide) (by decide)
 have r2:=yj D_turned_code r1;have r3:=Ci D_code_of r1;have mt:=zx (P:=l.prog) (w:=w) (mg:=mg) (base:=base) D_Run_takes_more z_len a_taken a_inputs a_last;have mh:=xS (P:=l.prog) (w:=w) (mg:=mg) (base:=base) D_Run_handle_of a_held;have mo:=Cg (P:=l.prog) (w:=w) (mg:=mg) (base:=base) D_Run_hold a_held;have bg:=CV (P:=l.prog) (w:=w) (base:=base) D_broken_or_gone_on z_len;have ab:=Es (P:=l.prog) (w:=w) (base:=base) D_all_begin_tie;have md:=Cf D_Run_deed a_log a_last a_watches a_at bg;have mn:=CD D_Run_new_handle a_opened md mo;have mi:=Ef D_Run_tie z_len a_log a_watches ab;have me:=Dv D_Run_end_all z_range a_opened md;have mc:=BV (P:=l.prog) (w:=w) (mg:=mg) (base:=base) D_Run_come_to a_at;have kr:=zE (P:=l.prog) (w:=w) (base:=base) D_Run a_inputs a_watches a_at a_taken a_last a_opened a_held a_log;have dd:=Bn D_do_steps a_kind (fun d=>rQ (d:=d) D_do_simple a_lines a_parts a_kind mn md mh mo mi) (fun d h=>xK D_do_lend a_lines a_parts a_blocks md mh mo h) (fun d h=>BP D_do_if a_parts a_blocks mt h) (fun d h=>vt D_do_while a_parts a_blocks mt h)
 have dn:=dd 10;have rp:=Dj D_run_plain a_log kr me b0 n0 dn;have rc:=BO D_run_code kr (yQ D_log_of a_at a_log mc me (p_ D_row_behind a_at mt (yI D_do_row mn md mh mo mi)));have pg:=vY D_law_program z_len z_int z_reversed (AL D_law_begun z_len z_str (zc (P:=l.prog) (w:=w) (base:=base) D_law_bound)) (CC D_law_step z_len);have dr:=zD D_law_drawn z_len z_max c1 (Ar D_law_names z_range) pg (wI D_law_inputs z_len z_int);have wh:=Fk (P:=l.prog) (w:=w) (base:=base) D_law_whole z_isinstance z_int z_bool;exact Ex F z_list dr rp (zq D_law_is_log z_isinstance z_list z_tuple z_len z_str wh) r3 r2 rc
theorem walk{l:PySem.W.OpenLaw}{q:Program}{loose:List Str}{XP:(Str→Option Value)→Heap→Prop}{YP:World→Heap→Prop}{d:DefRec}{K:Params→PySem.W.Frag}(hn:l.most=some 63)(hdf:d.params.defaults=[])
  (hY:∀ (w:World) (h:Heap),YP w h→(K w.params).In h)
  (F:∀ (w:World) (mg:Str→Option Value) (fa:Addr) (h:Heap),(K w.params).In h→h.Ns mainGlobals mg→mg d.name=some (.ref fa)→
   ∃ fd:FuncData,(∀ (s:Shared) (u:Value),BindsTo s fd ⟨[u],[]⟩ [("_law_script", u)])∧∀ base:Heap,(K w.params).In base→base.Ns mainGlobals mg→FnOk l.prog w (K w.params) mg base ik 36 fa fd ["_law_script"] (oH (K w.params))) :
  PySem.W.WalkO q loose XP YP l.row.toRowW d [] (fun f vs=>PySem.call f vs):=
 L2.walk_of (n:=63) (k:=36) (x := "_law_script") (CX:=fun _=>ik) (sp:=fun w=>oH (K w.params)) hn (by decide) hdf ⟨rfl,by decide,by decide⟩ hY F (fun _ _ a ns hl _ hS=>⟨a,ns,rfl,hS,hl,fun _=>rfl⟩) fun _ _ _ _ _ z=>z
end K38
end
open PySem PySem.W PyProof.Rows
set_option maxRecDepth 100000 in
set_option maxHeartbeats 0 in
theorem PySem.Challenge.cw_usewarden_k38_whole_three_runs_alike_holds : PySem.Challenge.rw_usewarden_k38_whole_three_runs_alike.Holds := by
 w_on
 refine holds_law (by decide +kernel) fun said=>?_
 refine holds_open (q:=K38.qq) (loose:=K38.loo) (Xt:=K38.xt) (XP:=XL K38.qq []) (Yf:=Hook.obs (kHook K38.KK K38.kk K38.kk_eq)) (Ya:=Hook.val (kHook K38.KK K38.kk K38.kk_eq)) (YP:=Hook.says (kHook K38.KK K38.kk K38.kk_eq)) (N:=3067) K38.hl (Hook.of (kHook K38.KK K38.kk K38.kk_eq)) (Hook.keeps (kHook K38.KK K38.kk K38.kk_eq)) (fun s e=>xl_of s (Bool.and_eq_true_iff.mp e).1) XL.keeps (by rfl) (by rfl) (by rfl) (fun s e=>recFacts_of (Bool.and_eq_true_iff.mp e).2) (by rfl) said (by decide +kernel) ⟨rfl,rfl,rfl,rfl,rfl,by decide +kernel⟩ ?hw ?hc
 (case hw=>w_witness2)
 k_fill
 refine K38.walk (l:=PySem.Challenge.rw_usewarden_k38_whole_three_runs_alike) rfl rfl (fun w h Y=>PySem.W.kIn_of Y) ?F
 case F=>
  intro w mg fa h KX G hmg
  refine' K38.all_mk KX G hmg ?a0 ?a1 ?a2 ?a3 ?a4 ?a5 ?a6 ?a7 ?a8 ?a9 ?a10 ?a11 ?a12 ?a13 ?a14 ?a15 ?a16 ?a17 ?a18 ?a19 ?a20 ?a21 ?a22 ?a23 ?a24 ?a25 ?a26 ?a27 ?a28 ?a29 ?a30 ?a31 ?a32 ?a33 ?a34 ?a35 ?a36 ?a37 ?a38 ?a39 ?a40 ?a41 ?a42 ?a43 ?y_isinstance ?y_str ?y_int ?y_bool ?y_tuple ?y_len ?y_range ?y_list ?y_max ?y_reversed ?y_zip ?y_enumerate ?n_NumberedStep ?pg_NumberedStep ?hd_NumberedStep ?po_NumberedStep ?sa_NumberedStep ?mk_NumberedStep ?kc_NumberedStep ?nf_kind ?nf_parts ?nf_lines ?nf_blocks ?aNumberedStep___init__ ?iNumberedStep___init__ ?lNumberedStep___init__ ?cNumberedStep___init__ ?kNumberedStep___init__ ?n_Run ?pg_Run ?hd_Run ?po_Run ?sa_Run ?mk_Run ?kc_Run ?nf_inputs ?nf_watches ?nf_at ?nf_taken ?nf_last ?nf_opened ?nf_held ?nf_log ?aRun___init__ ?iRun___init__ ?lRun___init__ ?cRun___init__ ?kRun___init__ ?aRun_come_to ?iRun_come_to ?lRun_come_to ?cRun_come_to ?kRun_come_to ?aRun_takes_more ?iRun_takes_more ?lRun_takes_more ?cRun_takes_more ?kRun_takes_more ?aRun_handle_of ?iRun_handle_of ?lRun_handle_of ?cRun_handle_of ?kRun_handle_of ?aRun_hold ?iRun_hold ?lRun_hold ?cRun_hold ?kRun_hold ?aRun_deed ?iRun_deed ?lRun_deed ?cRun_deed ?kRun_deed ?aRun_new_handle ?iRun_new_handle ?lRun_new_handle ?cRun_new_handle ?kRun_new_handle ?aRun_tie ?iRun_tie ?lRun_tie ?cRun_tie ?kRun_tie ?aRun_end_all ?iRun_end_all ?lRun_end_all ?cRun_end_all ?kRun_end_all ?h_PARTS ?ld_PARTS ?la_PARTS_0 ?la_PARTS_1 ?la_PARTS_2 ?la_PARTS_3 ?la_PARTS_4 ?la_PARTS_5 ?la_PARTS_6 ?la_PARTS_7 ?dz_PARTS ?h_CLOSERS ?ld_CLOSERS ?la_CLOSERS_0 ?la_CLOSERS_1 ?la_CLOSERS_2 ?dz_CLOSERS
  all_goals first | (refine' K38.dfe_mk ?a ?l ?c ?k; (case a=>k_is); (case l=>k_is); (case c=>k_is); (case k=>k_is)) | k_is | exact⟨_,by k_is⟩ | kernel_rfl | skip
#print axioms PySem.Challenge.cw_usewarden_k38_whole_three_runs_alike_holds
