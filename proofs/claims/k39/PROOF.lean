import PyProof.Rows.All
import Wide.All
import OpenK.AllK
import Wide.FinOn
import Lean
import PyProof.EqAt
import PyProof.EqKinds
import PyProof.TupleCall
import PyProof.SetScanFacts
import PyProof.SetKind
import PyProof.SetRoads
import PyProof.Rows.SetFrom
import PyProof.FactsBase
import PyProof.TableTree
import PyProof.FactsTree
import PyProof.PlainAttrs
import PyProof.FactsAll.set_1
import PyProof.CollectIter
import PyProof.FactsAll.set
import PyProof.ZipIter
import PyProof.EnumIter
import PyProof.TupleIter
import KE.KRevIter
import KE.KDictList
import PyProof.Rows.SumAny
import KE.KIntText
import PyProof.StrLawsTight
import PyProof.StrLawsChain
import PyProof.Rows.SortStr
import PyProof.Rows.StrNews2
import PyProof.StrLawsFirst
import PyProof.AutoSeq1
import KE.KDictOf
import PyProof.DictItems
import PyProof.NeKinds
import KE.KPairComp
import PyProof.FactsAll.tuple_2
import PyProof.FactsAll.tuple_3
import KE.KDictLaws
import PyProof.FactsAll.dict_3
import PyProof.MinMaxWalk
import PyProof.WalkInts
import PySem.Challenge.RW_usewarden_k39_whole_inputs_and_steps_beh
set_option Elab.async false
set_option linter.all false
set_option maxRecDepth 100000
set_option maxHeartbeats 4000000
namespace L2
open PySem PySem.W
section
variable(tb:String→Option Builtin)(p:Program)(w:World)(n0:Nat)(an:Option Value)
def vB:Nat→SharedT→Thread→Option SharedT
 | 0,_,_=>none
 | n+1,s,t=>match through t with
  | true=>some s
  | false=>match stepOk n0 an t,stepT (denote tb) p w s t with
   | true,some x=>vB n x.1 x.2
   | _,_=>none
theorem sv:∀ (n:Nat) (s r:SharedT) (t:Thread),vB tb p w n0 an n s t=some r→topRun tb p w n0 an n s.abs t=some r.abs
 | 0,_,_,_,h=>by cases h
 | n+1,s,r,t,h=>by
  rw[topRun];rw[vB]at h
  cases h1:through t with
  | true=>
   rw[h1]at h
   cases h
   rfl
  | false=>
   rw[h1]at h
   cases h2:stepOk n0 an t with
   | false=>
    rw[h2]at h
    cases h
   | true=>
    cases h3:stepT (denote tb) p w s t with
    | none=>
     rw[h2,h3]at h
     cases h
    | some x=>
     rw[h2,h3]at h
     rw[stepT_spec (s':=x.1) (t':=x.2) h3];exact sv n _ _ _ h
end
noncomputable def F3(P:Params):BT:=((boot_heap P).objs.toList.foldl (fun (x:BT × Nat) o=>(x.1.ins x.2 o,x.2+1)) (.nil,0)).1
noncomputable def Bb(w:World)(os:OsState):SharedT:=⟨F3 w.params,11,(boot_heap w.params).life,#[],boot_drawn,boot_toks,os⟩
theorem w_(w:World)(os:OsState):(Bb w os).abs=⟨boot_heap w.params,#[],boot_drawn,boot_toks,os⟩:=by kernel_rfl
noncomputable def tEnd(p:Program)(w:World)(N:Nat)(os:OsState):Option SharedT:=vB treeTable p w 11 (some (.ref 6)) N (Bb w os) (topStub p)
noncomputable def tOk(p:Program)(w:World)(s:Shared):Bool:=staticsOk (importedModules p.main.body) (boot_heap w.params) s.heap&&namesBound p s.heap&&gensDone s&&laidKept (boot_heap w.params) s.heap
theorem tLeft{p:Program}{w:World}{N:Nat}{α : Type}{F:Shared→α}{a:α}(e:opening p=plainProg p.main.scope.names)(hN:Nat.ble 600 N=true)(f:∀ s,fenceModules? p s=some s)
  (hz:((boot_heap w.params).isNs mainGlobals,(boot_heap w.params).objs.size,(boot_heap w.params).nsMap mainGlobals "__annotations__")=(true,11,some (.ref 6)))
  (h:∀ os,∃ s,tEnd p w N os=some s∧tOk p w s.abs=true∧F s.abs=a):(openEnds treeTable p w N).map F=some a:=by
 obtain⟨⟨h1,gs,d,k,os⟩,e1,e2⟩:=Option.map_eq_some_iff.mp (boot_open e hN f w)
 obtain⟨rfl,rfl,rfl,rfl⟩ : h1=boot_heap w.params∧gs = #[]∧d=boot_drawn∧k=boot_toks:=by simpa using e2
 obtain⟨z1,z2,z3⟩ : _∧_∧_:=by simpa only[Prod.mk.injEq] using hz
 obtain⟨r,r1,r2,r3⟩:=h os
 have t1:=sv _ _ _ _ _ _ _ _ _ r1;rw[w_]at t1
 unfold openEnds;rw[e1];show (topFrom treeTable p w N _).map F=_
 unfold topFrom
 dsimp only
 rw[z1,z2,z3];show ((topRun treeTable p w 11 (some (.ref 6)) N _ _).bind _).map F=_
 rw[t1];show (match tOk p w r.abs with | true=>some r.abs | false=>none).map F=_
 rw[r2];exact congrArg some r3
end L2
namespace L2
open PySem
def inClass(s:Stmt)(j:Nat):Stmt:=match s with
 | .ClassDef _ _ _ body _ _ _ _ _ _ _=>body.getD j (.Pass ⟨0,0,0,0⟩)
 | _=>.Pass ⟨0,0,0,0⟩
def defArgs(s:Stmt):Arguments:=match s with
 | .FunctionDef _ a _ _ _ _ _ _ _ _=>a
 | _=>{ posonlyargs:=[],args:=[],vararg:=none,kwonlyargs:=[],kw_defaults:=[],kwarg:=none,defaults:=[] }
def defBody(s:Stmt):List Stmt:=match s with
 | .FunctionDef _ _ b _ _ _ _ _ _ _=>b
 | _=>[]
def defScope(s:Stmt):Scope:=match s with
 | .FunctionDef _ _ _ _ _ _ sc _ _ _=>sc
 | _=>{ kind:=.function,names:=[],isGenerator:=false,isCoroutine:=false }
end L2
namespace K39
open PySem PySem.W
def top (i:Nat):Stmt:=PySem.Challenge.pw_usewarden_k39_whole_inputs_and_steps_beh.main.body.getD i (.Pass ⟨0,0,0,0⟩)
abbrev tUp(x:Array Value):Obj:=⟨.type "tuple", none,.seq x 0,#[]⟩
abbrev cOd(n:Str)(a b c:Nat)(l g:Int)(p q r s u:Addr)(i:Int)(d:Nat):Obj:=⟨.type "code", none,.fields #[.str n a,.str n b,.str "/claim/cut.py" c,.int l 0,.int g 0,.int 0 0,.int 0 0,.int 3 0,.ref p,.bool true,.int 181 0,.ref q,.none,.ref r,.ref s,.ref u,.int i 0,.int l 0,.str "/claim/cut.py" d],#[]⟩
abbrev fUn(n:Str)(i:Nat)(m:Str)(a:Nat)(c:Addr):Obj:=⟨.type "function", none,.func ⟨n,n,L2.defArgs (top i),.stmts (L2.defBody (top i)),L2.defScope (top i),3,[],.none,.none,.none,.str m a,none,.ref c,.none,0⟩,#[]⟩
noncomputable def KK(P:Params):Frag:=
 (nat_lit 2,⟨.none,none,.dict #[] 0,#[]⟩) ::
 (nat_lit 3,⟨.type "dict", none,.dict #[⟨PyData.keyHash P "__name__", .str "__name__" 165,.str "law_usewarden_k39_whole_inputs_and_steps_beh" 781⟩,⟨PyData.keyHash P "__doc__", .str "__doc__" 166,.none⟩,⟨PyData.keyHash P "__package__", .str "__package__" 167,.none⟩,⟨PyData.keyHash P "__loader__", .str "__loader__" 168,.builtin "__main__.__loader__#opaque"⟩,⟨PyData.keyHash P "__spec__", .str "__spec__" 169,.none⟩,⟨PyData.keyHash P "__annotations__", .str "__annotations__" 170,.ref 6⟩,⟨PyData.keyHash P "__builtins__", .str "__builtins__" 171,.ref 4⟩,⟨PyData.keyHash P "__file__", .str "__file__" 173,.str "/claim/cut.py" 172⟩,⟨PyData.keyHash P "__cached__", .str "__cached__" 174,.none⟩,⟨PyData.keyHash P "UseError", .str "UseError" 206,.ref 24⟩,⟨PyData.keyHash P "Breach", .str "Breach" 239,.ref 44⟩,⟨PyData.keyHash P "PARTS", .str "PARTS" 274,.ref 47⟩,⟨PyData.keyHash P "CLOSERS", .str "CLOSERS" 285,.ref 56⟩,⟨PyData.keyHash P "closers_of", .str "closers_of" 292,.ref 66⟩,⟨PyData.keyHash P "head_of", .str "head_of" 299,.ref 73⟩,⟨PyData.keyHash P "blocks_of", .str "blocks_of" 306,.ref 80⟩,⟨PyData.keyHash P "steps_within", .str "steps_within" 316,.ref 87⟩,⟨PyData.keyHash P "names_in", .str "names_in" 327,.ref 94⟩,⟨PyData.keyHash P "lines_of", .str "lines_of" 333,.ref 99⟩,⟨PyData.keyHash P "names_of", .str "names_of" 340,.ref 106⟩,⟨PyData.keyHash P "NumberedStep", .str "NumberedStep" 376,.ref 123⟩,⟨PyData.keyHash P "line_behind", .str "line_behind" 384,.ref 134⟩,⟨PyData.keyHash P "numbered_step", .str "numbered_step" 396,.ref 141⟩,⟨PyData.keyHash P "numbered_steps", .str "numbered_steps" 406,.ref 148⟩,⟨PyData.keyHash P "sided_text", .str "sided_text" 416,.ref 155⟩,⟨PyData.keyHash P "text_in_row", .str "text_in_row" 425,.ref 162⟩,⟨PyData.keyHash P "row_of", .str "row_of" 431,.ref 167⟩,⟨PyData.keyHash P "all_begin_tie", .str "all_begin_tie" 442,.ref 174⟩,⟨PyData.keyHash P "broken_or_gone_on", .str "broken_or_gone_on" 455,.ref 181⟩,⟨PyData.keyHash P "Run", .str "Run" 580,.ref 261⟩,⟨PyData.keyHash P "do_simple", .str "do_simple" 592,.ref 272⟩,⟨PyData.keyHash P "do_lend", .str "do_lend" 601,.ref 279⟩,⟨PyData.keyHash P "do_if", .str "do_if" 609,.ref 286⟩,⟨PyData.keyHash P "do_while", .str "do_while" 617,.ref 293⟩,⟨PyData.keyHash P "do_steps", .str "do_steps" 626,.ref 300⟩,⟨PyData.keyHash P "run_plain", .str "run_plain" 636,.ref 307⟩,⟨PyData.keyHash P "lend_lines", .str "lend_lines" 644,.ref 312⟩,⟨PyData.keyHash P "slots_of", .str "slots_of" 654,.ref 319⟩,⟨PyData.keyHash P "simple_row", .str "simple_row" 660,.ref 324⟩,⟨PyData.keyHash P "lend_rows", .str "lend_rows" 677,.ref 331⟩,⟨PyData.keyHash P "if_rows", .str "if_rows" 692,.ref 338⟩,⟨PyData.keyHash P "loop_rows", .str "loop_rows" 703,.ref 345⟩,⟨PyData.keyHash P "while_rows", .str "while_rows" 716,.ref 352⟩,⟨PyData.keyHash P "rows_of", .str "rows_of" 729,.ref 359⟩,⟨PyData.keyHash P "rows_and_end", .str "rows_and_end" 738,.ref 366⟩,⟨PyData.keyHash P "code_of", .str "code_of" 745,.ref 373⟩,⟨PyData.keyHash P "do_row", .str "do_row" 756,.ref 380⟩,⟨PyData.keyHash P "row_behind", .str "row_behind" 764,.ref 387⟩,⟨PyData.keyHash P "log_of", .str "log_of" 772,.ref 394⟩,⟨PyData.keyHash P "run_code", .str "run_code" 780,.ref 401⟩,⟨PyData.keyHash P "_law_cell_at", .str "_law_cell_at" 790,.ref 408⟩,⟨PyData.keyHash P "_law_names", .str "_law_names" 796,.ref 413⟩,⟨PyData.keyHash P "_law_bound", .str "_law_bound" 804,.ref 420⟩,⟨PyData.keyHash P "_law_step", .str "_law_step" 816,.ref 427⟩,⟨PyData.keyHash P "_law_begun", .str "_law_begun" 831,.ref 434⟩,⟨PyData.keyHash P "_law_program", .str "_law_program" 837,.ref 439⟩,⟨PyData.keyHash P "_law_inputs", .str "_law_inputs" 843,.ref 444⟩,⟨PyData.keyHash P "_law_drawn", .str "_law_drawn" 854,.ref 451⟩,⟨PyData.keyHash P "_law_whole", .str "_law_whole" 861,.ref 458⟩,⟨PyData.keyHash P "_law_is_log", .str "_law_is_log" 869,.ref 465⟩,⟨PyData.keyHash P "_law_bare", .str "_law_bare" 875,.ref 470⟩,⟨PyData.keyHash P "_law_step_behind", .str "_law_step_behind" 881,.ref 475⟩,⟨PyData.keyHash P "law", .str "law" 887,.ref 480⟩] 63,#[]⟩) ::
 (nat_lit 15,tUp #[.type "ValueError"]) ::
 (nat_lit 22,tUp #[]) ::
 (nat_lit 23,⟨.type "dict", none,.dict #[⟨PyData.keyHash P "__module__", .str "__module__" 196,.str "usewarden.errors" 187⟩,⟨PyData.keyHash P "__firstlineno__", .str "__firstlineno__" 200,.int 2 199⟩,⟨PyData.keyHash P "__static_attributes__", .str "__static_attributes__" 201,.ref 22⟩,⟨PyData.keyHash P "__weakref__", .str "__weakref__" 203,.ref 25⟩,⟨PyData.keyHash P "__doc__", .str "__doc__" 204,.none⟩] 3,#[]⟩) ::
 (nat_lit 24,⟨.type "type", none,.cls ⟨"UseError", [.type "ValueError"],[.ref 24,.type "ValueError", .type "Exception", .type "BaseException", .type "object"],23, "UseError", true,[],[.ref 44],false,none,false⟩,#[some (.ref 15),none,some (.str "UseError" 189),some (.str "UseError" 197),some (.builtin "ValueError.__new__"),some (.bool true)]⟩) ::
 (nat_lit 25,⟨.type "getset_descriptor", none,.fields #[.str "__weakref__" 202,.ref 24,.builtin "ExceptionGroup.__weakref__", .none],#[]⟩) ::
 (nat_lit 28,tUp #[.ref 24]) ::
 (nat_lit 35,tUp #[]) ::
 (nat_lit 37,tUp #[.str "self" 222,.str "rule" 223,.str "line" 224,.str "handles" 225,.str "row" 226,.str "log" 227]) ::
 (nat_lit 38,tUp #[]) ::
 (nat_lit 40,⟨.type "code", none,.fields #[.str "__init__" 219,.str "Breach.__init__" 220,.str "/claim/cut.py" 221,.int 6 0,.int 6 0,.int 0 0,.int 0 0,.int 3 0,.ref 35,.bool true,.int 181 0,.ref 36,.none,.ref 37,.ref 38,.ref 39,.int 228 0,.int 6 0,.str "/claim/cut.py" 229],#[]⟩) ::
 (nat_lit 41,⟨.type "function", none,.func ⟨"__init__", "Breach.__init__", L2.defArgs (L2.inClass (top 2) 0),.stmts (L2.defBody (L2.inClass (top 2) 0)),L2.defScope (L2.inClass (top 2) 0),3,[],.none,.none,.none,.str "usewarden.errors" 187,none,.ref 40,.none,0⟩,#[]⟩) ::
 (nat_lit 42,tUp #[.str "handles" 231,.str "line" 232,.str "log" 233,.str "row" 234,.str "rule" 235]) ::
 (nat_lit 43,⟨.type "dict", none,.dict #[⟨PyData.keyHash P "__module__", .str "__module__" 214,.str "usewarden.errors" 187⟩,⟨PyData.keyHash P "__firstlineno__", .str "__firstlineno__" 218,.int 4 217⟩,⟨PyData.keyHash P "__init__", .str "__init__" 230,.ref 41⟩,⟨PyData.keyHash P "__static_attributes__", .str "__static_attributes__" 236,.ref 42⟩,⟨PyData.keyHash P "__doc__", .str "__doc__" 237,.none⟩] 2,#[]⟩) ::
 (nat_lit 44,⟨.type "type", none,.cls ⟨"Breach", [.ref 24],[.ref 44,.ref 24,.type "ValueError", .type "Exception", .type "BaseException", .type "object"],43, "Breach", true,[],[],false,none,false⟩,#[some (.ref 28),none,some (.str "Breach" 207),some (.str "Breach" 215),some (.builtin "ValueError.__new__"),some (.bool true)]⟩) ::
 (nat_lit 47,⟨.type "dict", none,.dict #[⟨PyData.keyHash P "open", .str "open" 242,.ref 48⟩,⟨PyData.keyHash P "do", .str "do" 244,.ref 49⟩,⟨PyData.keyHash P "copy", .str "copy" 247,.ref 50⟩,⟨PyData.keyHash P "drop", .str "drop" 250,.ref 51⟩,⟨PyData.keyHash P "tie", .str "tie" 252,.ref 52⟩,⟨PyData.keyHash P "lend", .str "lend" 255,.ref 53⟩,⟨PyData.keyHash P "if", .str "if" 259,.ref 54⟩,⟨PyData.keyHash P "while", .str "while" 263,.ref 55⟩] 8,#[]⟩) ::
 (nat_lit 48,tUp #[.str "name" 243]) ::
 (nat_lit 49,tUp #[.str "word" 245,.str "name" 246]) ::
 (nat_lit 50,tUp #[.str "name" 248,.str "name" 249]) ::
 (nat_lit 51,tUp #[.str "name" 251]) ::
 (nat_lit 52,tUp #[.str "name" 253,.str "name" 254]) ::
 (nat_lit 53,tUp #[.str "name" 256,.str "name" 257,.str "steps" 258]) ::
 (nat_lit 54,tUp #[.str "bound" 260,.str "steps" 261,.str "steps" 262]) ::
 (nat_lit 55,tUp #[.str "bound" 264,.str "steps" 265]) ::
 (nat_lit 56,⟨.type "dict", none,.dict #[⟨PyData.keyHash P "lend", .str "lend" 275,.ref 57⟩,⟨PyData.keyHash P "if", .str "if" 277,.ref 58⟩,⟨PyData.keyHash P "while", .str "while" 280,.ref 59⟩] 3,#[]⟩) ::
 (nat_lit 57,tUp #[.str "back" 276]) ::
 (nat_lit 58,tUp #[.str "else" 278,.str "fi" 279]) ::
 (nat_lit 59,tUp #[.str "done" 281]) ::
 (nat_lit 60,tUp #[]) ::
 (nat_lit 62,tUp #[.str "kind" 289]) ::
 (nat_lit 63,tUp #[]) ::
 (nat_lit 65,cOd "closers_of" 286 287 288 16 1 60 61 62 63 64 290 291) ::
 (nat_lit 66,fUn "closers_of" 6 "usewarden.programs" 240 65) ::
 (nat_lit 67,tUp #[]) ::
 (nat_lit 69,tUp #[.str "step" 296]) ::
 (nat_lit 70,tUp #[]) ::
 (nat_lit 72,cOd "head_of" 293 294 295 18 1 67 68 69 70 71 297 298) ::
 (nat_lit 73,fUn "head_of" 7 "usewarden.programs" 240 72) ::
 (nat_lit 74,tUp #[]) ::
 (nat_lit 76,tUp #[.str "step" 303]) ::
 (nat_lit 77,tUp #[]) ::
 (nat_lit 79,cOd "blocks_of" 300 301 302 20 1 74 75 76 77 78 304 305) ::
 (nat_lit 80,fUn "blocks_of" 8 "usewarden.programs" 240 79) ::
 (nat_lit 81,tUp #[]) ::
 (nat_lit 83,tUp #[.str "program" 310,.str "steps" 311,.str "step" 312,.str "block" 313]) ::
 (nat_lit 84,tUp #[]) ::
 (nat_lit 86,cOd "steps_within" 307 308 309 22 1 81 82 83 84 85 314 315) ::
 (nat_lit 87,fUn "steps_within" 9 "usewarden.programs" 240 86) ::
 (nat_lit 88,tUp #[]) ::
 (nat_lit 90,tUp #[.str "steps" 320,.str "names" 321,.str "step" 322,.str "part" 323,.str "kind" 324]) ::
 (nat_lit 91,tUp #[]) ::
 (nat_lit 93,cOd "names_in" 317 318 319 29 1 88 89 90 91 92 325 326) ::
 (nat_lit 94,fUn "names_in" 10 "usewarden.programs" 240 93) ::
 (nat_lit 95,tUp #[]) ::
 (nat_lit 98,⟨.type "code", none,.fields #[.str "lines_of" 328,.str "lines_of" 329,.str "/claim/cut.py" 330,.int 36 0,.int 1 0,.int 0 0,.int 0 0,.int 3 0,.ref 95,.bool true,.int 181 0,.ref 96,.none,.none,.none,.ref 97,.int 331 0,.int 36 0,.str "/claim/cut.py" 332],#[]⟩) ::
 (nat_lit 99,fUn "lines_of" 11 "usewarden.programs" 240 98) ::
 (nat_lit 100,tUp #[]) ::
 (nat_lit 102,tUp #[.str "program" 337]) ::
 (nat_lit 103,tUp #[]) ::
 (nat_lit 105,cOd "names_of" 334 335 336 44 1 100 101 102 103 104 338 339) ::
 (nat_lit 106,fUn "names_of" 12 "usewarden.programs" 240 105) ::
 (nat_lit 114,tUp #[]) ::
 (nat_lit 116,tUp #[.str "self" 358,.str "head" 359,.str "lines" 360,.str "blocks" 361]) ::
 (nat_lit 117,tUp #[]) ::
 (nat_lit 119,⟨.type "code", none,.fields #[.str "__init__" 355,.str "NumberedStep.__init__" 356,.str "/claim/cut.py" 357,.int 49 0,.int 4 0,.int 0 0,.int 0 0,.int 3 0,.ref 114,.bool true,.int 181 0,.ref 115,.none,.ref 116,.ref 117,.ref 118,.int 362 0,.int 49 0,.str "/claim/cut.py" 363],#[]⟩) ::
 (nat_lit 120,⟨.type "function", none,.func ⟨"__init__", "NumberedStep.__init__", L2.defArgs (L2.inClass (top 14) 0),.stmts (L2.defBody (L2.inClass (top 14) 0)),L2.defScope (L2.inClass (top 14) 0),3,[],.none,.none,.none,.str "usewarden.numbered" 341,none,.ref 119,.none,0⟩,#[]⟩) ::
 (nat_lit 121,tUp #[.str "blocks" 365,.str "kind" 366,.str "lines" 367,.str "parts" 368]) ::
 (nat_lit 122,⟨.type "dict", none,.dict #[⟨PyData.keyHash P "__module__", .str "__module__" 350,.str "usewarden.numbered" 341⟩,⟨PyData.keyHash P "__firstlineno__", .str "__firstlineno__" 354,.int 47 353⟩,⟨PyData.keyHash P "__init__", .str "__init__" 364,.ref 120⟩,⟨PyData.keyHash P "__static_attributes__", .str "__static_attributes__" 369,.ref 121⟩,⟨PyData.keyHash P "__dict__", .str "__dict__" 371,.ref 124⟩,⟨PyData.keyHash P "__weakref__", .str "__weakref__" 373,.ref 125⟩,⟨PyData.keyHash P "__doc__", .str "__doc__" 374,.none⟩] 4,#[]⟩) ::
 (nat_lit 123,⟨.type "type", none,.cls ⟨"NumberedStep", [.type "object"],[.ref 123,.type "object"],122, "NumberedStep", true,[],[],false,none,false⟩,#[none,none,some (.str "NumberedStep" 343),some (.str "NumberedStep" 351),some (.builtin "object.__new__"),some (.bool true)]⟩) ::
 (nat_lit 124,⟨.type "getset_descriptor", none,.fields #[.str "__dict__" 370,.ref 123,.builtin "function.__dict__", .builtin "function.__dict__#set"],#[]⟩) ::
 (nat_lit 125,⟨.type "getset_descriptor", none,.fields #[.str "__weakref__" 372,.ref 123,.builtin "ExceptionGroup.__weakref__", .none],#[]⟩) ::
 (nat_lit 128,tUp #[]) ::
 (nat_lit 130,tUp #[.str "steps" 380,.str "line" 381]) ::
 (nat_lit 131,tUp #[]) ::
 (nat_lit 133,cOd "line_behind" 377 378 379 54 2 128 129 130 131 132 382 383) ::
 (nat_lit 134,fUn "line_behind" 15 "usewarden.numbered" 341 133) ::
 (nat_lit 135,tUp #[]) ::
 (nat_lit 137,tUp #[.str "step" 388,.str "line" 389,.str "lines" 390,.str "blocks" 391,.str "block" 392,.str "steps" 393]) ::
 (nat_lit 138,tUp #[]) ::
 (nat_lit 140,cOd "numbered_step" 385 386 387 56 2 135 136 137 138 139 394 395) ::
 (nat_lit 141,fUn "numbered_step" 16 "usewarden.numbered" 341 140) ::
 (nat_lit 142,tUp #[]) ::
 (nat_lit 144,tUp #[.str "steps" 400,.str "line" 401,.str "numbered" 402,.str "step" 403]) ::
 (nat_lit 145,tUp #[]) ::
 (nat_lit 147,cOd "numbered_steps" 397 398 399 64 2 142 143 144 145 146 404 405) ::
 (nat_lit 148,fUn "numbered_steps" 17 "usewarden.numbered" 341 147) ::
 (nat_lit 149,tUp #[]) ::
 (nat_lit 151,tUp #[.str "side" 412,.str "word" 413]) ::
 (nat_lit 152,tUp #[]) ::
 (nat_lit 154,cOd "sided_text" 409 410 411 70 2 149 150 151 152 153 414 415) ::
 (nat_lit 155,fUn "sided_text" 19 "usewarden.watches" 407 154) ::
 (nat_lit 156,tUp #[]) ::
 (nat_lit 158,tUp #[.str "handles" 420,.str "handle" 421,.str "word" 422]) ::
 (nat_lit 159,tUp #[]) ::
 (nat_lit 161,cOd "text_in_row" 417 418 419 72 3 156 157 158 159 160 423 424) ::
 (nat_lit 162,fUn "text_in_row" 20 "usewarden.watches" 407 161) ::
 (nat_lit 163,tUp #[]) ::
 (nat_lit 166,⟨.type "code", none,.fields #[.str "row_of" 426,.str "row_of" 427,.str "/claim/cut.py" 428,.int 74 0,.int 2 0,.int 0 0,.int 0 0,.int 3 0,.ref 163,.bool true,.int 181 0,.ref 164,.none,.none,.none,.ref 165,.int 429 0,.int 74 0,.str "/claim/cut.py" 430],#[]⟩) ::
 (nat_lit 167,fUn "row_of" 21 "usewarden.watches" 407 166) ::
 (nat_lit 168,tUp #[]) ::
 (nat_lit 170,tUp #[.str "watches" 435,.str "one" 436,.str "other" 437,.str "start" 438,.str "watch" 439]) ::
 (nat_lit 171,tUp #[]) ::
 (nat_lit 173,cOd "all_begin_tie" 432 433 434 77 4 168 169 170 171 172 440 441) ::
 (nat_lit 174,fUn "all_begin_tie" 22 "usewarden.watches" 407 173) ::
 (nat_lit 175,tUp #[]) ::
 (nat_lit 177,tUp #[.str "watches" 446,.str "at" 447,.str "handle" 448,.str "word" 449,.str "broken" 450,.str "watch" 451,.str "first" 452]) ::
 (nat_lit 178,tUp #[]) ::
 (nat_lit 180,cOd "broken_or_gone_on" 443 444 445 80 4 175 176 177 178 179 453 454) ::
 (nat_lit 181,fUn "broken_or_gone_on" 23 "usewarden.watches" 407 180) ::
 (nat_lit 189,tUp #[]) ::
 (nat_lit 191,tUp #[.str "self" 473,.str "inputs" 474,.str "watches" 475]) ::
 (nat_lit 192,tUp #[]) ::
 (nat_lit 194,⟨.type "code", none,.fields #[.str "__init__" 470,.str "Run.__init__" 471,.str "/claim/cut.py" 472,.int 95 0,.int 3 0,.int 0 0,.int 0 0,.int 3 0,.ref 189,.bool true,.int 181 0,.ref 190,.none,.ref 191,.ref 192,.ref 193,.int 476 0,.int 95 0,.str "/claim/cut.py" 477],#[]⟩) ::
 (nat_lit 195,⟨.type "function", none,.func ⟨"__init__", "Run.__init__", L2.defArgs (L2.inClass (top 25) 0),.stmts (L2.defBody (L2.inClass (top 25) 0)),L2.defScope (L2.inClass (top 25) 0),3,[],.none,.none,.none,.str "usewarden.runs" 456,none,.ref 194,.none,0⟩,#[]⟩) ::
 (nat_lit 196,tUp #[]) ::
 (nat_lit 198,tUp #[.str "self" 482,.str "at" 483]) ::
 (nat_lit 199,tUp #[]) ::
 (nat_lit 201,⟨.type "code", none,.fields #[.str "come_to" 479,.str "Run.come_to" 480,.str "/claim/cut.py" 481,.int 105 0,.int 2 0,.int 0 0,.int 0 0,.int 3 0,.ref 196,.bool true,.int 181 0,.ref 197,.none,.ref 198,.ref 199,.ref 200,.int 484 0,.int 105 0,.str "/claim/cut.py" 485],#[]⟩) ::
 (nat_lit 202,⟨.type "function", none,.func ⟨"come_to", "Run.come_to", L2.defArgs (L2.inClass (top 25) 1),.stmts (L2.defBody (L2.inClass (top 25) 1)),L2.defScope (L2.inClass (top 25) 1),3,[],.none,.none,.none,.str "usewarden.runs" 456,none,.ref 201,.none,0⟩,#[]⟩) ::
 (nat_lit 203,tUp #[]) ::
 (nat_lit 205,tUp #[.str "self" 490,.str "bound" 491]) ::
 (nat_lit 206,tUp #[]) ::
 (nat_lit 208,⟨.type "code", none,.fields #[.str "takes_more" 487,.str "Run.takes_more" 488,.str "/claim/cut.py" 489,.int 108 0,.int 2 0,.int 0 0,.int 0 0,.int 3 0,.ref 203,.bool true,.int 181 0,.ref 204,.none,.ref 205,.ref 206,.ref 207,.int 492 0,.int 108 0,.str "/claim/cut.py" 493],#[]⟩) ::
 (nat_lit 209,⟨.type "function", none,.func ⟨"takes_more", "Run.takes_more", L2.defArgs (L2.inClass (top 25) 2),.stmts (L2.defBody (L2.inClass (top 25) 2)),L2.defScope (L2.inClass (top 25) 2),3,[],.none,.none,.none,.str "usewarden.runs" 456,none,.ref 208,.none,0⟩,#[]⟩) ::
 (nat_lit 210,tUp #[]) ::
 (nat_lit 212,tUp #[.str "self" 498,.str "holder" 499]) ::
 (nat_lit 213,tUp #[]) ::
 (nat_lit 215,⟨.type "code", none,.fields #[.str "handle_of" 495,.str "Run.handle_of" 496,.str "/claim/cut.py" 497,.int 115 0,.int 2 0,.int 0 0,.int 0 0,.int 3 0,.ref 210,.bool true,.int 181 0,.ref 211,.none,.ref 212,.ref 213,.ref 214,.int 500 0,.int 115 0,.str "/claim/cut.py" 501],#[]⟩) ::
 (nat_lit 216,⟨.type "function", none,.func ⟨"handle_of", "Run.handle_of", L2.defArgs (L2.inClass (top 25) 3),.stmts (L2.defBody (L2.inClass (top 25) 3)),L2.defScope (L2.inClass (top 25) 3),3,[],.none,.none,.none,.str "usewarden.runs" 456,none,.ref 215,.none,0⟩,#[]⟩) ::
 (nat_lit 217,tUp #[]) ::
 (nat_lit 219,tUp #[.str "self" 506,.str "holder" 507,.str "handle" 508]) ::
 (nat_lit 220,tUp #[]) ::
 (nat_lit 222,⟨.type "code", none,.fields #[.str "hold" 503,.str "Run.hold" 504,.str "/claim/cut.py" 505,.int 118 0,.int 3 0,.int 0 0,.int 0 0,.int 3 0,.ref 217,.bool true,.int 181 0,.ref 218,.none,.ref 219,.ref 220,.ref 221,.int 509 0,.int 118 0,.str "/claim/cut.py" 510],#[]⟩) ::
 (nat_lit 223,⟨.type "function", none,.func ⟨"hold", "Run.hold", L2.defArgs (L2.inClass (top 25) 4),.stmts (L2.defBody (L2.inClass (top 25) 4)),L2.defScope (L2.inClass (top 25) 4),3,[],.none,.none,.none,.str "usewarden.runs" 456,none,.ref 222,.none,0⟩,#[]⟩) ::
 (nat_lit 224,tUp #[]) ::
 (nat_lit 226,tUp #[.str "self" 515,.str "line" 516,.str "handle" 517,.str "word" 518,.str "entry" 519,.str "broken" 520]) ::
 (nat_lit 227,tUp #[]) ::
 (nat_lit 229,⟨.type "code", none,.fields #[.str "deed" 512,.str "Run.deed" 513,.str "/claim/cut.py" 514,.int 121 0,.int 4 0,.int 0 0,.int 0 0,.int 3 0,.ref 224,.bool true,.int 181 0,.ref 225,.none,.ref 226,.ref 227,.ref 228,.int 521 0,.int 121 0,.str "/claim/cut.py" 522],#[]⟩) ::
 (nat_lit 230,⟨.type "function", none,.func ⟨"deed", "Run.deed", L2.defArgs (L2.inClass (top 25) 5),.stmts (L2.defBody (L2.inClass (top 25) 5)),L2.defScope (L2.inClass (top 25) 5),3,[],.none,.none,.none,.str "usewarden.runs" 456,none,.ref 229,.none,0⟩,#[]⟩) ::
 (nat_lit 231,tUp #[]) ::
 (nat_lit 233,tUp #[.str "self" 527,.str "entry" 528,.str "broken" 529,.str "name" 530,.str "start" 531,.str "handles" 532]) ::
 (nat_lit 234,tUp #[]) ::
 (nat_lit 236,⟨.type "code", none,.fields #[.str "refuse" 524,.str "Run.refuse" 525,.str "/claim/cut.py" 526,.int 130 0,.int 3 0,.int 0 0,.int 0 0,.int 3 0,.ref 231,.bool true,.int 181 0,.ref 232,.none,.ref 233,.ref 234,.ref 235,.int 533 0,.int 130 0,.str "/claim/cut.py" 534],#[]⟩) ::
 (nat_lit 237,⟨.type "function", none,.func ⟨"refuse", "Run.refuse", L2.defArgs (L2.inClass (top 25) 6),.stmts (L2.defBody (L2.inClass (top 25) 6)),L2.defScope (L2.inClass (top 25) 6),3,[],.none,.none,.none,.str "usewarden.runs" 456,none,.ref 236,.none,0⟩,#[]⟩) ::
 (nat_lit 238,tUp #[]) ::
 (nat_lit 240,tUp #[.str "self" 539,.str "line" 540,.str "holder" 541,.str "handle" 542]) ::
 (nat_lit 241,tUp #[]) ::
 (nat_lit 243,⟨.type "code", none,.fields #[.str "new_handle" 536,.str "Run.new_handle" 537,.str "/claim/cut.py" 538,.int 136 0,.int 3 0,.int 0 0,.int 0 0,.int 3 0,.ref 238,.bool true,.int 181 0,.ref 239,.none,.ref 240,.ref 241,.ref 242,.int 543 0,.int 136 0,.str "/claim/cut.py" 544],#[]⟩) ::
 (nat_lit 244,⟨.type "function", none,.func ⟨"new_handle", "Run.new_handle", L2.defArgs (L2.inClass (top 25) 7),.stmts (L2.defBody (L2.inClass (top 25) 7)),L2.defScope (L2.inClass (top 25) 7),3,[],.none,.none,.none,.str "usewarden.runs" 456,none,.ref 243,.none,0⟩,#[]⟩) ::
 (nat_lit 245,tUp #[]) ::
 (nat_lit 247,tUp #[.str "self" 549,.str "line" 550,.str "one" 551,.str "other" 552]) ::
 (nat_lit 248,tUp #[]) ::
 (nat_lit 250,⟨.type "code", none,.fields #[.str "tie" 546,.str "Run.tie" 547,.str "/claim/cut.py" 548,.int 142 0,.int 4 0,.int 0 0,.int 0 0,.int 3 0,.ref 245,.bool true,.int 181 0,.ref 246,.none,.ref 247,.ref 248,.ref 249,.int 553 0,.int 142 0,.str "/claim/cut.py" 554],#[]⟩) ::
 (nat_lit 251,⟨.type "function", none,.func ⟨"tie", "Run.tie", L2.defArgs (L2.inClass (top 25) 8),.stmts (L2.defBody (L2.inClass (top 25) 8)),L2.defScope (L2.inClass (top 25) 8),3,[],.none,.none,.none,.str "usewarden.runs" 456,none,.ref 250,.none,0⟩,#[]⟩) ::
 (nat_lit 252,tUp #[]) ::
 (nat_lit 254,tUp #[.str "self" 559,.str "line" 560,.str "handle" 561]) ::
 (nat_lit 255,tUp #[]) ::
 (nat_lit 257,⟨.type "code", none,.fields #[.str "end_all" 556,.str "Run.end_all" 557,.str "/claim/cut.py" 558,.int 147 0,.int 2 0,.int 0 0,.int 0 0,.int 3 0,.ref 252,.bool true,.int 181 0,.ref 253,.none,.ref 254,.ref 255,.ref 256,.int 562 0,.int 147 0,.str "/claim/cut.py" 563],#[]⟩) ::
 (nat_lit 258,⟨.type "function", none,.func ⟨"end_all", "Run.end_all", L2.defArgs (L2.inClass (top 25) 9),.stmts (L2.defBody (L2.inClass (top 25) 9)),L2.defScope (L2.inClass (top 25) 9),3,[],.none,.none,.none,.str "usewarden.runs" 456,none,.ref 257,.none,0⟩,#[]⟩) ::
 (nat_lit 259,tUp #[.str "at" 565,.str "held" 566,.str "inputs" 567,.str "last" 568,.str "log" 569,.str "opened" 570,.str "taken" 571,.str "watches" 572]) ::
 (nat_lit 260,⟨.type "dict", none,.dict #[⟨PyData.keyHash P "__module__", .str "__module__" 465,.str "usewarden.runs" 456⟩,⟨PyData.keyHash P "__firstlineno__", .str "__firstlineno__" 469,.int 93 468⟩,⟨PyData.keyHash P "__init__", .str "__init__" 478,.ref 195⟩,⟨PyData.keyHash P "come_to", .str "come_to" 486,.ref 202⟩,⟨PyData.keyHash P "takes_more", .str "takes_more" 494,.ref 209⟩,⟨PyData.keyHash P "handle_of", .str "handle_of" 502,.ref 216⟩,⟨PyData.keyHash P "hold", .str "hold" 511,.ref 223⟩,⟨PyData.keyHash P "deed", .str "deed" 523,.ref 230⟩,⟨PyData.keyHash P "refuse", .str "refuse" 535,.ref 237⟩,⟨PyData.keyHash P "new_handle", .str "new_handle" 545,.ref 244⟩,⟨PyData.keyHash P "tie", .str "tie" 555,.ref 251⟩,⟨PyData.keyHash P "end_all", .str "end_all" 564,.ref 258⟩,⟨PyData.keyHash P "__static_attributes__", .str "__static_attributes__" 573,.ref 259⟩,⟨PyData.keyHash P "__dict__", .str "__dict__" 575,.ref 262⟩,⟨PyData.keyHash P "__weakref__", .str "__weakref__" 577,.ref 263⟩,⟨PyData.keyHash P "__doc__", .str "__doc__" 578,.none⟩] 4,#[]⟩) ::
 (nat_lit 261,⟨.type "type", none,.cls ⟨"Run", [.type "object"],[.ref 261,.type "object"],260, "Run", true,[],[],false,none,false⟩,#[none,none,some (.str "Run" 458),some (.str "Run" 466),some (.builtin "object.__new__"),some (.bool true)]⟩) ::
 (nat_lit 262,⟨.type "getset_descriptor", none,.fields #[.str "__dict__" 574,.ref 261,.builtin "function.__dict__", .builtin "function.__dict__#set"],#[]⟩) ::
 (nat_lit 263,⟨.type "getset_descriptor", none,.fields #[.str "__weakref__" 576,.ref 261,.builtin "ExceptionGroup.__weakref__", .none],#[]⟩) ::
 (nat_lit 266,tUp #[]) ::
 (nat_lit 268,tUp #[.str "run" 586,.str "step" 587,.str "line" 588,.str "parts" 589]) ::
 (nat_lit 269,tUp #[]) ::
 (nat_lit 271,cOd "do_simple" 583 584 585 151 2 266 267 268 269 270 590 591) ::
 (nat_lit 272,fUn "do_simple" 27 "usewarden.plainruns" 581 271) ::
 (nat_lit 273,tUp #[]) ::
 (nat_lit 275,tUp #[.str "run" 596,.str "step" 597,.str "lent" 598]) ::
 (nat_lit 276,tUp #[]) ::
 (nat_lit 278,cOd "do_lend" 593 594 595 164 2 273 274 275 276 277 599 600) ::
 (nat_lit 279,fUn "do_lend" 28 "usewarden.plainruns" 581 278) ::
 (nat_lit 280,tUp #[]) ::
 (nat_lit 282,tUp #[.str "run" 605,.str "step" 606]) ::
 (nat_lit 283,tUp #[]) ::
 (nat_lit 285,cOd "do_if" 602 603 604 171 2 280 281 282 283 284 607 608) ::
 (nat_lit 286,fUn "do_if" 29 "usewarden.plainruns" 581 285) ::
 (nat_lit 287,tUp #[]) ::
 (nat_lit 289,tUp #[.str "run" 613,.str "step" 614]) ::
 (nat_lit 290,tUp #[]) ::
 (nat_lit 292,cOd "do_while" 610 611 612 176 2 287 288 289 290 291 615 616) ::
 (nat_lit 293,fUn "do_while" 30 "usewarden.plainruns" 581 292) ::
 (nat_lit 294,tUp #[]) ::
 (nat_lit 296,tUp #[.str "run" 621,.str "steps" 622,.str "step" 623]) ::
 (nat_lit 297,tUp #[]) ::
 (nat_lit 299,cOd "do_steps" 618 619 620 179 2 294 295 296 297 298 624 625) ::
 (nat_lit 300,fUn "do_steps" 31 "usewarden.plainruns" 581 299) ::
 (nat_lit 301,tUp #[]) ::
 (nat_lit 303,tUp #[.str "program" 630,.str "inputs" 631,.str "steps" 632,.str "run" 633]) ::
 (nat_lit 304,tUp #[]) ::
 (nat_lit 306,cOd "run_plain" 627 628 629 189 2 301 302 303 304 305 634 635) ::
 (nat_lit 307,fUn "run_plain" 32 "usewarden.plainruns" 581 306) ::
 (nat_lit 308,tUp #[]) ::
 (nat_lit 311,⟨.type "code", none,.fields #[.str "lend_lines" 639,.str "lend_lines" 640,.str "/claim/cut.py" 641,.int 196 0,.int 1 0,.int 0 0,.int 0 0,.int 3 0,.ref 308,.bool true,.int 181 0,.ref 309,.none,.none,.none,.ref 310,.int 642 0,.int 196 0,.str "/claim/cut.py" 643],#[]⟩) ::
 (nat_lit 312,fUn "lend_lines" 34 "usewarden.codes" 637 311) ::
 (nat_lit 313,tUp #[]) ::
 (nat_lit 315,tUp #[.str "program" 648,.str "slots" 649,.str "slot" 650,.str "holder" 651]) ::
 (nat_lit 316,tUp #[]) ::
 (nat_lit 318,cOd "slots_of" 645 646 647 198 1 313 314 315 316 317 652 653) ::
 (nat_lit 319,fUn "slots_of" 35 "usewarden.codes" 637 318) ::
 (nat_lit 320,tUp #[]) ::
 (nat_lit 323,⟨.type "code", none,.fields #[.str "simple_row" 655,.str "simple_row" 656,.str "/claim/cut.py" 657,.int 203 0,.int 2 0,.int 0 0,.int 0 0,.int 3 0,.ref 320,.bool true,.int 181 0,.ref 321,.none,.none,.none,.ref 322,.int 658 0,.int 203 0,.str "/claim/cut.py" 659],#[]⟩) ::
 (nat_lit 324,fUn "simple_row" 36 "usewarden.codes" 637 323) ::
 (nat_lit 325,tUp #[]) ::
 (nat_lit 327,tUp #[.str "step" 664,.str "at" 665,.str "slots" 666,.str "turned" 667,.str "line" 668,.str "back" 669,.str "giver" 670,.str "taker" 671,.str "lent" 672,.str "ahead" 673,.str "within" 674]) ::
 (nat_lit 328,tUp #[]) ::
 (nat_lit 330,cOd "lend_rows" 661 662 663 208 4 325 326 327 328 329 675 676) ::
 (nat_lit 331,fUn "lend_rows" 37 "usewarden.codes" 637 330) ::
 (nat_lit 332,tUp #[]) ::
 (nat_lit 334,tUp #[.str "step" 681,.str "at" 682,.str "slots" 683,.str "turned" 684,.str "more" 685,.str "jump" 686,.str "rest" 687,.str "behind" 688,.str "test" 689]) ::
 (nat_lit 335,tUp #[]) ::
 (nat_lit 337,cOd "if_rows" 678 679 680 217 4 332 333 334 335 336 690 691) ::
 (nat_lit 338,fUn "if_rows" 38 "usewarden.codes" 637 337) ::
 (nat_lit 339,tUp #[]) ::
 (nat_lit 341,tUp #[.str "step" 696,.str "at" 697,.str "slots" 698,.str "within" 699,.str "behind" 700]) ::
 (nat_lit 342,tUp #[]) ::
 (nat_lit 344,cOd "loop_rows" 693 694 695 224 3 339 340 341 342 343 701 702) ::
 (nat_lit 345,fUn "loop_rows" 39 "usewarden.codes" 637 344) ::
 (nat_lit 346,tUp #[]) ::
 (nat_lit 348,tUp #[.str "step" 707,.str "at" 708,.str "slots" 709,.str "turned" 710,.str "first" 711,.str "loop" 712,.str "behind" 713]) ::
 (nat_lit 349,tUp #[]) ::
 (nat_lit 351,cOd "while_rows" 704 705 706 228 4 346 347 348 349 350 714 715) ::
 (nat_lit 352,fUn "while_rows" 40 "usewarden.codes" 637 351) ::
 (nat_lit 353,tUp #[]) ::
 (nat_lit 355,tUp #[.str "steps" 720,.str "at" 721,.str "slots" 722,.str "turned" 723,.str "rows" 724,.str "step" 725,.str "place" 726]) ::
 (nat_lit 356,tUp #[]) ::
 (nat_lit 358,cOd "rows_of" 717 718 719 235 4 353 354 355 356 357 727 728) ::
 (nat_lit 359,fUn "rows_of" 41 "usewarden.codes" 637 358) ::
 (nat_lit 360,tUp #[]) ::
 (nat_lit 362,tUp #[.str "program" 733,.str "turned" 734,.str "steps" 735]) ::
 (nat_lit 363,tUp #[]) ::
 (nat_lit 365,cOd "rows_and_end" 730 731 732 248 2 360 361 362 363 364 736 737) ::
 (nat_lit 366,fUn "rows_and_end" 42 "usewarden.codes" 637 365) ::
 (nat_lit 367,tUp #[]) ::
 (nat_lit 369,tUp #[.str "program" 742]) ::
 (nat_lit 370,tUp #[]) ::
 (nat_lit 372,cOd "code_of" 739 740 741 251 1 367 368 369 370 371 743 744) ::
 (nat_lit 373,fUn "code_of" 43 "usewarden.codes" 637 372) ::
 (nat_lit 374,tUp #[]) ::
 (nat_lit 376,tUp #[.str "run" 751,.str "row" 752,.str "line" 753]) ::
 (nat_lit 377,tUp #[]) ::
 (nat_lit 379,cOd "do_row" 748 749 750 254 2 374 375 376 377 378 754 755) ::
 (nat_lit 380,fUn "do_row" 45 "usewarden.coderuns" 746 379) ::
 (nat_lit 381,tUp #[]) ::
 (nat_lit 383,tUp #[.str "run" 760,.str "row" 761]) ::
 (nat_lit 384,tUp #[]) ::
 (nat_lit 386,cOd "row_behind" 757 758 759 266 2 381 382 383 384 385 762 763) ::
 (nat_lit 387,fUn "row_behind" 46 "usewarden.coderuns" 746 386) ::
 (nat_lit 388,tUp #[]) ::
 (nat_lit 390,tUp #[.str "code" 768,.str "run" 769]) ::
 (nat_lit 391,tUp #[]) ::
 (nat_lit 393,cOd "log_of" 765 766 767 273 2 388 389 390 391 392 770 771) ::
 (nat_lit 394,fUn "log_of" 47 "usewarden.coderuns" 746 393) ::
 (nat_lit 395,tUp #[]) ::
 (nat_lit 397,tUp #[.str "code" 776,.str "inputs" 777]) ::
 (nat_lit 398,tUp #[]) ::
 (nat_lit 400,cOd "run_code" 773 774 775 278 2 395 396 397 398 399 778 779) ::
 (nat_lit 401,fUn "run_code" 48 "usewarden.coderuns" 746 400) ::
 (nat_lit 402,tUp #[]) ::
 (nat_lit 404,tUp #[.str "_law_script" 786,.str "_law_k" 787]) ::
 (nat_lit 405,tUp #[]) ::
 (nat_lit 407,cOd "_law_cell_at" 783 784 785 281 2 402 403 404 405 406 788 789) ::
 (nat_lit 408,fUn "_law_cell_at" 50 "law_usewarden_k39_whole_inputs_and_steps_beh" 781 407) ::
 (nat_lit 409,tUp #[]) ::
 (nat_lit 412,⟨.type "code", none,.fields #[.str "_law_names" 791,.str "_law_names" 792,.str "/claim/cut.py" 793,.int 285 0,.int 1 0,.int 0 0,.int 0 0,.int 3 0,.ref 409,.bool true,.int 181 0,.ref 410,.none,.none,.none,.ref 411,.int 794 0,.int 285 0,.str "/claim/cut.py" 795],#[]⟩) ::
 (nat_lit 413,fUn "_law_names" 51 "law_usewarden_k39_whole_inputs_and_steps_beh" 781 412) ::
 (nat_lit 414,tUp #[]) ::
 (nat_lit 416,tUp #[.str "_law_cell" 800,.str "_law_way" 801]) ::
 (nat_lit 417,tUp #[]) ::
 (nat_lit 419,cOd "_law_bound" 797 798 799 300 1 414 415 416 417 418 802 803) ::
 (nat_lit 420,fUn "_law_bound" 52 "law_usewarden_k39_whole_inputs_and_steps_beh" 781 419) ::
 (nat_lit 421,tUp #[]) ::
 (nat_lit 423,tUp #[.str "_law_cell" 808,.str "_law_x" 809,.str "_law_y" 810,.str "_law_names_here" 811,.str "_law_kind" 812,.str "_law_words" 813]) ::
 (nat_lit 424,tUp #[]) ::
 (nat_lit 426,cOd "_law_step" 805 806 807 307 4 421 422 423 424 425 814 815) ::
 (nat_lit 427,fUn "_law_step" 53 "law_usewarden_k39_whole_inputs_and_steps_beh" 781 426) ::
 (nat_lit 428,tUp #[]) ::
 (nat_lit 430,tUp #[.str "_law_here" 820,.str "_law_pile" 821,.str "_law_lines" 822,.str "_law_cell" 823,.str "_law_x" 824,.str "_law_y" 825,.str "_law_inner" 826,.str "_law_bound_here" 827,.str "_law_others" 828]) ::
 (nat_lit 431,tUp #[]) ::
 (nat_lit 433,cOd "_law_begun" 817 818 819 319 6 428 429 430 431 432 829 830) ::
 (nat_lit 434,fUn "_law_begun" 54 "law_usewarden_k39_whole_inputs_and_steps_beh" 781 433) ::
 (nat_lit 435,tUp #[]) ::
 (nat_lit 438,⟨.type "code", none,.fields #[.str "_law_program" 832,.str "_law_program" 833,.str "/claim/cut.py" 834,.int 338 0,.int 2 0,.int 0 0,.int 0 0,.int 3 0,.ref 435,.bool true,.int 181 0,.ref 436,.none,.none,.none,.ref 437,.int 835 0,.int 338 0,.str "/claim/cut.py" 836],#[]⟩) ::
 (nat_lit 439,fUn "_law_program" 55 "law_usewarden_k39_whole_inputs_and_steps_beh" 781 438) ::
 (nat_lit 440,tUp #[]) ::
 (nat_lit 443,⟨.type "code", none,.fields #[.str "_law_inputs" 838,.str "_law_inputs" 839,.str "/claim/cut.py" 840,.int 364 0,.int 2 0,.int 0 0,.int 0 0,.int 3 0,.ref 440,.bool true,.int 181 0,.ref 441,.none,.none,.none,.ref 442,.int 841 0,.int 364 0,.str "/claim/cut.py" 842],#[]⟩) ::
 (nat_lit 444,fUn "_law_inputs" 56 "law_usewarden_k39_whole_inputs_and_steps_beh" 781 443) ::
 (nat_lit 445,tUp #[]) ::
 (nat_lit 447,tUp #[.str "_law_script" 847,.str "_law_names_here" 848,.str "_law_cut" 849,.str "_law_program_here" 850,.str "_law_lines" 851]) ::
 (nat_lit 448,tUp #[]) ::
 (nat_lit 450,cOd "_law_drawn" 844 845 846 373 1 445 446 447 448 449 852 853) ::
 (nat_lit 451,fUn "_law_drawn" 57 "law_usewarden_k39_whole_inputs_and_steps_beh" 781 450) ::
 (nat_lit 452,tUp #[]) ::
 (nat_lit 454,tUp #[.str "_law_found" 858]) ::
 (nat_lit 455,tUp #[]) ::
 (nat_lit 457,cOd "_law_whole" 855 856 857 378 1 452 453 454 455 456 859 860) ::
 (nat_lit 458,fUn "_law_whole" 58 "law_usewarden_k39_whole_inputs_and_steps_beh" 781 457) ::
 (nat_lit 459,tUp #[]) ::
 (nat_lit 461,tUp #[.str "_law_found" 865,.str "_law_entry" 866]) ::
 (nat_lit 462,tUp #[]) ::
 (nat_lit 464,cOd "_law_is_log" 862 863 864 380 1 459 460 461 462 463 867 868) ::
 (nat_lit 465,fUn "_law_is_log" 59 "law_usewarden_k39_whole_inputs_and_steps_beh" 781 464) ::
 (nat_lit 466,tUp #[]) ::
 (nat_lit 469,⟨.type "code", none,.fields #[.str "_law_bare" 870,.str "_law_bare" 871,.str "/claim/cut.py" 872,.int 391 0,.int 1 0,.int 0 0,.int 0 0,.int 3 0,.ref 466,.bool true,.int 181 0,.ref 467,.none,.none,.none,.ref 468,.int 873 0,.int 391 0,.str "/claim/cut.py" 874],#[]⟩) ::
 (nat_lit 470,fUn "_law_bare" 60 "law_usewarden_k39_whole_inputs_and_steps_beh" 781 469) ::
 (nat_lit 471,tUp #[]) ::
 (nat_lit 474,⟨.type "code", none,.fields #[.str "_law_step_behind" 876,.str "_law_step_behind" 877,.str "/claim/cut.py" 878,.int 393 0,.int 4 0,.int 0 0,.int 0 0,.int 3 0,.ref 471,.bool true,.int 181 0,.ref 472,.none,.none,.none,.ref 473,.int 879 0,.int 393 0,.str "/claim/cut.py" 880],#[]⟩) ::
 (nat_lit 475,fUn "_law_step_behind" 61 "law_usewarden_k39_whole_inputs_and_steps_beh" 781 474) ::
 (nat_lit 476,tUp #[]) ::
 (nat_lit 479,⟨.type "code", none,.fields #[.str "law" 882,.str "law" 883,.str "/claim/cut.py" 884,.int 408 0,.int 1 0,.int 0 0,.int 0 0,.int 3 0,.ref 476,.bool true,.int 181 0,.ref 477,.none,.none,.none,.ref 478,.int 885 0,.int 408 0,.str "/claim/cut.py" 886],#[]⟩) ::
 (nat_lit 480,fUn "law" 62 "law_usewarden_k39_whole_inputs_and_steps_beh" 781 479)::[]
def kk:List Addr:=[2,3,15,22,23,24,25,28,35,37,38,40,41,42,43,44,47,48,49,50,51,52,53,54,55,56,57,58,59,60,62,63,65,66,67,69,70,72,73,74,76,77,79,80,81,83,84,86,87,88,90,91,93,94,95,98,99,100,102,103,105,106,114,116,117,119,120,121,122,123,124,125,128,130,131,133,134,135,137,138,140,141,142,144,145,147,148,149,151,152,154,155,156,158,159,161,162,163,166,167,168,170,171,173,174,175,177,178,180,181,189,191,192,194,195,196,198,199,201,202,203,205,206,208,209,210,212,213,215,216,217,219,220,222,223,224,226,227,229,230,231,233,234,236,237,238,240,241,243,244,245,247,248,250,251,252,254,255,257,258,259,260,261,262,263,266,268,269,271,272,273,275,276,278,279,280,282,283,285,286,287,289,290,292,293,294,296,297,299,300,301,303,304,306,307,308,311,312,313,315,316,318,319,320,323,324,325,327,328,330,331,332,334,335,337,338,339,341,342,344,345,346,348,349,351,352,353,355,356,358,359,360,362,363,365,366,367,369,370,372,373,374,376,377,379,380,381,383,384,386,387,388,390,391,393,394,395,397,398,400,401,402,404,405,407,408,409,412,413,414,416,417,419,420,421,423,424,426,427,428,430,431,433,434,435,438,439,440,443,444,445,447,448,450,451,452,454,455,457,458,459,461,462,464,465,466,469,470,471,474,475,476,479,480]
theorem kk_eq:∀ P,kk=(KK P).map (·.1):=fun _=>by kernel_rfl
noncomputable abbrev HH:Hook:=kHook KK kk kk_eq
def qq:Program:=view PySem.Challenge.pw_usewarden_k39_whole_inputs_and_steps_beh [1,2,4,5,6,7,8,9,10,11,12,14,15,16,17,19,20,21,22,23,25,27,28,29,30,31,32,34,35,36,37,38,39,40,41,42,43,45,46,47,48,50,51,52,53,54,55,56,57,58,59,60,61,62]
def loo:List Str:=["PARTS", "CLOSERS"]
noncomputable def xt(s:Shared):Bool:=xlAt qq [] s&&recOk (RowW.records (OpenRow.toRowW (OpenLaw.row PySem.Challenge.rw_usewarden_k39_whole_inputs_and_steps_beh))) s
noncomputable def zP(s:Shared):=openSeen qq loo (importedModules (Program.main PySem.Challenge.pw_usewarden_k39_whole_inputs_and_steps_beh).body) xt true s
noncomputable def tE(w:World)(os:OsState):Option Shared:=(L2.tEnd PySem.Challenge.pw_usewarden_k39_whole_inputs_and_steps_beh w 3075 os).map SharedT.abs
noncomputable def uk(w:World):Prop:=∀ os,(tE w os).map (fun s=>(L2.tOk PySem.Challenge.pw_usewarden_k39_whole_inputs_and_steps_beh w s,Hook.obs HH s))=some (true,Hook.val HH w)
set_option maxRecDepth 1000000 in
theorem GC(w:World):uk (w.withFollow "special-get-raises" false):=by unfold uk; intro os; kernel_rfl
set_option maxRecDepth 1000000 in
theorem Jv(w:World):uk (w.withFollow "special-get-raises" true):=by unfold uk; intro os; kernel_rfl
theorem IC(w:World):uk w:=byRow2 "special-get-raises" (P:=uk) GC Jv w
noncomputable def ul(w:World):Prop:=∀ os,(tE w os).map (fun s=>(zP s).1)=some (openGood qq loo).1
set_option maxRecDepth 1000000 in
theorem GU(w:World):ul (w.withFollow "special-get-raises" false):=by unfold ul; intro os; kernel_rfl
set_option maxRecDepth 1000000 in
theorem HP(w:World):ul (w.withFollow "special-get-raises" true):=by unfold ul; intro os; kernel_rfl
theorem Ke(w:World):ul w:=byRow2 "special-get-raises" (P:=ul) GU HP w
noncomputable def t_(w:World):Prop:=∀ os,(tE w os).map (fun s=>(zP s).2)=some (openGood qq loo).2
set_option maxRecDepth 1000000 in
theorem IG(w:World):t_ (w.withFollow "special-get-raises" false):=by unfold t_; intro os; kernel_rfl
set_option maxRecDepth 1000000 in
theorem JR(w:World):t_ (w.withFollow "special-get-raises" true):=by unfold t_; intro os; kernel_rfl
theorem Hw(w:World):t_ w:=byRow2 "special-get-raises" (P:=t_) IG JR w
theorem hl(w:World):(openEnds treeTable PySem.Challenge.pw_usewarden_k39_whole_inputs_and_steps_beh w 3075).map (fun s=>(zP s,Hook.obs HH s))=some (openGood qq loo,Hook.val HH w):=by
 refine L2.tLeft (by kernel_rfl) (by decide) (fun _=>by kernel_rfl) (by kernel_rfl) fun os=>?_
 obtain⟨s,e,h⟩:=Option.map_eq_some_iff.mp (IC w os)
 have h2:=Ke w os;have h3:=Hw w os;rw[e]at h2 h3
 obtain⟨r,r1,rfl⟩:=Option.map_eq_some_iff.mp e
 exact⟨r,r1,(Prod.mk.inj h).1,congr (congrArg Prod.mk (Prod.ext (Option.some.inj h2) (Option.some.inj h3))) (Prod.mk.inj h).2⟩
end K39
-- CHANGE: your row's module here, as the last of these rows
namespace L2
open PySem PySem.Spec PyProof.Rows
abbrev aK:=Sum Int Str
def kL:aK→Value→Bool
 | .inl k,v=>Value.isInt k v
 | .inr x,v=>Value.isStrOf x v
def HX(w:World):aK→Int
 | .inl k=>hashInt k
 | .inr x=>hashStr w x
theorem dg:∀ {k:aK} {v:Value},kL k v=true→(∃ i t,k=Sum.inl i∧v=Value.int i t)∨(∃ x t,k=Sum.inr x∧v=Value.str x t)
 | .inl i,v,h=>by
  obtain⟨t,e⟩:=Value.isInt_shape (k:=i) (v:=v) h
  exact .inl ⟨i,t,rfl,e⟩
 | .inr x,v,h=>by
  obtain⟨t,e⟩:=Value.isStrOf_shape (x:=x) (v:=v) h
  exact .inr ⟨x,t,rfl,e⟩
theorem wU(i:Int)(t:Tok):kL (.inl i) (.int i t)=true:=by simp[kL,Value.isInt]
theorem yL(x:Str)(t:Tok):kL (.inr x) (.str x t)=true:=by simp[kL,Value.isStrOf]
theorem Dy(a b:Int):decide ((Sum.inl a:aK)=Sum.inl b)=(a == b):=by
 by_cases e:a=b
 ·subst e; simp
 ·have h:¬ (Sum.inl a:aK)=Sum.inl b:=fun q=>e (Sum.inl.inj q)
  rw[decide_eq_false h];exact(beq_eq_false_iff_ne.mpr e).symm
theorem Df(a b:Str):decide ((Sum.inr a:aK)=Sum.inr b)=decide (a=b):=by
 by_cases e:a=b
 ·subst e; simp
 ·have h:¬ (Sum.inr a:aK)=Sum.inr b:=fun q=>e (Sum.inr.inj q)
  rw[decide_eq_false h,decide_eq_false e]
theorem El(a:Int)(b:Str):decide ((Sum.inl a:aK)=Sum.inr b)=false:=decide_eq_false (fun q=>nomatch q)
theorem EG(a:Str)(b:Int):decide ((Sum.inr a:aK)=Sum.inl b)=false:=decide_eq_false (fun q=>nomatch q)
def cN(prog:Program)(w:World):PySem.KeyKind prog w aK where
 is:=kL
 hash:=HX w
 inj:=fun v a b ha hb=>by
  rcases dg ha with ⟨i,t,rfl,rfl⟩ | ⟨x,t,rfl,rfl⟩
  ·rcases dg hb with ⟨j,u,rfl,e⟩ | ⟨y,u,rfl,e⟩
   ·injection e with e1 _; rw[e1]
   ·exact nomatch e
  ·rcases dg hb with ⟨j,u,rfl,e⟩ | ⟨y,u,rfl,e⟩
   ·exact nomatch e
   ·injection e with e1 _; rw[e1]
 byValue:=fun k v h=>by
  rcases dg h with ⟨i,t,rfl,rfl⟩ | ⟨x,t,rfl,rfl⟩ <;> rfl
 pyHash:=fun hv h=>by
  rcases dg hv with ⟨i,t,rfl,rfl⟩ | ⟨x,t,rfl,rfl⟩
  ·exact wpAny_pyHash_int h
  ·exact wpAny_pyHash_str h
 eqBool:=fun hu hv h=>by
  rcases dg hu with ⟨i,t,rfl,rfl⟩ | ⟨x,t,rfl,rfl⟩
  ·rcases dg hv with ⟨j,u,rfl,rfl⟩ | ⟨y,u,rfl,rfl⟩
   ·rw[Dy]at h; exact wpAny_eqBool_int h
   ·rw[El]at h; exact SeqAt.EqAt.int_str i t y u _ _ _ _ h
  ·rcases dg hv with ⟨j,u,rfl,rfl⟩ | ⟨y,u,rfl,rfl⟩
   ·rw[EG]at h; exact SeqAt.EqAt.str_int x t j u _ _ _ _ h
   ·rw[Df]at h; exact wpAny_eqBool_str h
 «strs»:=fun k x t v h=>by
  rcases dg h with ⟨i,u,rfl,e⟩ | ⟨y,u,rfl,e⟩
  ·exact nomatch e
  ·injection e with e1 _
   subst e1
   cases v <;> rfl
theorem sR(prog:Program)(w:World)(i:Int)(t:Tok):(cN prog w).is (.inl i) (.int i t)=true:=wU i t
theorem sY(prog:Program)(w:World)(x:Str)(t:Tok):(cN prog w).is (.inr x) (.str x t)=true:=yL x t
set_option genSizeOf false in
inductive V where
 | non | bl (b:Bool) | int (i:Int) | str (x:Str) | byt (b:Array UInt8) | flt (b:UInt64) | ref (a:Addr) | ty (n:String)
 deriving DecidableEq
def RelV:V→Value→Prop
 | .non,u=>u=Value.none
 | .bl b,u=>u=Value.bool b
 | .int i,u=>∃ t,u=Value.int i t
 | .str x,u=>∃ t,u=Value.str x t
 | .byt b,u=>∃ t,u=Value.bytes b t
 | .flt b,u=>∃ t,u=Value.float b t
 | .ref a,u=>u=Value.ref a
 | .ty n,u=>u=Value.type n
abbrev Vals:List V→List Value→Prop:=Paired RelV
theorem Vals.length{xs:List V}{us:List Value}(r:Vals xs us):xs.length=us.length:=Paired.length r
theorem Vals.get:∀ {xs:List V} {us:List Value} {i:Nat} {x:V},Vals xs us→xs[i]? = some x→∃ u,us[i]? = some u∧RelV x u
 | _,_,_,_,.nil,e=>by simp at e
 | _,_,0,_,.cons r _,e=>by simp at e; subst e; exact⟨_,rfl,r⟩
 | _,_,i+1,x,.cons _ t,e=>by
  obtain⟨u,h1,h2⟩:=Vals.get (i:=i) (x:=x) t (by simpa using e)
  exact⟨u,by simpa using h1,h2⟩
theorem Vals.append:∀ {xs ys:List V} {us ws:List Value},Vals xs us→Vals ys ws→Vals (xs++ys) (us++ws)
 | _,_,_,_,.nil,s=>s
 | _,_,_,_,.cons r t,s=>.cons r (Vals.append t s)
theorem Vals.take:∀ {xs:List V} {us:List Value} (n:Nat),Vals xs us→Vals (xs.take n) (us.take n)
 | _,_,0,_=>.nil
 | _,_,_+1,.nil=>.nil
 | _,_,n+1,.cons r t=>.cons r (Vals.take n t)
theorem Vals.drop:∀ {xs:List V} {us:List Value} (n:Nat),Vals xs us→Vals (xs.drop n) (us.drop n)
 | _,_,0,r=>r
 | _,_,_+1,.nil=>.nil
 | _,_,n+1,.cons _ t=>Vals.drop n t
def RelO:Option V→Option Value→Prop
 | some v,some u=>RelV v u
 | none,none=>True
 | _,_=>False
def KV{κ : Type}:List (κ × V)→List (κ × Value)→Prop:=Paired fun (p:κ × V) (q:κ × Value)=>p.1=q.1∧RelV p.2 q.2
def kV:aK→V
 | .inl i=>.int i
 | .inr x=>.str x
set_option genSizeOf false in
inductive HO where
 /-- a list -/
 | lst (xs:List V)
 /-- a tuple (never changes) -/
 | tup (xs:List V)
 /-- a dict whose keys are ints and texts; one whose keys are tuples of ints and texts (the empty one is both) -/
 | dK (kvs:List (aK × V)) | dT (kvs:List (List aK × V))
 /-- a set of ints: its members, its size -/
 | set (S:Int→Bool) (n:Nat)
 /-- an instance of the class at C, its dict at dx, its attributes -/
 | ins (C dx:Addr) (fs:List (Str × V))
 /-- the dict of the instance at x -/
 | own (x:Addr)
 /-- the dict of an exception -/
 | xd (fs:List (Str × V))
 /-- a bound method, f of x -/
 | met (f x:Addr)
 /-- a range object lo, lo+1, .. below hi -/
 | rng (lo hi:Int)
 /-- a thing that is known to the object (the script; a dict while a loop walks it): read, never written while it is so -/
 | frz (o:Obj) (u:HO)
 /-- a code object's table -/
 | tbl (ps:Array Value)
 /-- any other thing, by what is true of its one object (a def of one's own: SetO a S n := HO.ext fun h => ..) -/
 | ext (φ : Heap→Prop)
abbrev Hp:=Addr→Option HO
def upd(H:Hp)(a:Addr)(o:HO):Hp:=fun b=>if b=a then some o else H b
theorem ah{H:Hp}{a:Addr}{o:HO}:upd H a o a=some o:=by unfold upd; rw[if_pos rfl]
theorem aj{H:Hp}{a b:Addr}{o:HO}(h:b≠a):upd H a o b=H b:=by unfold upd; rw[if_neg h]
theorem b8{H:Hp}{a b:Addr}{o u:HO}(h:H a=some o)(h':H b=some u)(d:o≠u):a≠b:=by
 intro e; subst e; rw[h]at h'; exact d (Option.some.inj h')
theorem az{H:Hp}{a b:Addr}{o:HO}(h:H a=some o)(h':H b=none):a≠b:=by
 intro e; subst e; rw[h]at h'; cases h'
def IsTupN(h:Heap)(a:Addr)(items:Array Value):Prop:=∃ o,h.get? a=some o∧o.cls = .type "tuple" ∧ o.dict=none∧∃ n,o.data = .seq items n
theorem IsTupN.tup{h:Heap}{a:Addr}{items:Array Value}(x:IsTupN h a items):IsTup h a items:=let ⟨o,e,c,_,d⟩:=x; ⟨o,e,c,d⟩
theorem IsTupN.lt{h:Heap}{a:Addr}{items:Array Value}(x:IsTupN h a items):a<h.objs.size:=let ⟨_,e,_⟩:=x; Heap.lt_size e
theorem IsTupN.new(h:Heap)(items:Array Value):IsTupN (h.push { cls:=.type "tuple", data:=.seq items }) h.objs.size items:=⟨_,Heap.get?_push_size _ rfl,rfl,rfl,_,rfl⟩
section
variable(P:Program)(w:World)
def ObjOk(H:Hp)(h:Heap)(a:Addr):HO→Prop
 | .lst xs=>xs.length≤sizeLine∧∃ (its:List Value) (n:Nat),Vals xs its∧h.get? a=some { cls:=.type "list", data:=.seq its.toArray n }
 | .tup xs=>xs.length≤sizeLine∧∃ its:List Value,Vals xs its∧IsTupN h a its.toArray
 | .dK kvs=>kvs.length≤sizeLine∧(a == sysModules)=false∧∃ vs,KV kvs vs∧h.DictOf (cN P w) a vs
 | .dT kvs=>kvs.length≤sizeLine∧(a == sysModules)=false∧∃ xs:List (List aK × Addr × Value),
   Paired (fun (p:List aK × V) (q:List aK × Addr × Value)=>p.1=q.1∧H q.2.1=some (.tup (p.1.map kV))∧RelV p.2 q.2.2) kvs xs∧
   ∃ o es ep,h.get? a=some o∧o.ExactDict∧o.data = .dict es ep∧es.toList=xs.map (entryOfKey (tupleKind (cN P w)))∧(xs.map (·.1)).Nodup
 | .set S n=>h.SetOf (intKind P w) a S n
 | .ins C dx fs=>H dx=some (.own a)∧fs.length≤1000∧dx≠a∧h.get? a=some (PySem.W.instObj C dx)∧
   ∃ mA,h.Ns1 dx mA∧(∀ f,RelO (fs.lookup f) (mA f))∧PySem.Within mA (fs.map (·.1))
 | .own _=>∃ o,h.get? a=some o
 | .xd fs=>∃ mA,h.Ns1 a mA∧∀ f,RelO (fs.lookup f) (mA f)
 | .rng lo hi=>∃ t u v,h.get? a=some { cls:=.type "range", data:=.fields #[.int lo t,.int hi u,.int 1 v] }
 | .frz o u=>h.get? a=some o∧ObjOk H h a u
 | .tbl ps=>h.get? a=some { cls:=.none,data:=.fields ps }
 | .met f x=>h.get? a=some (PySem.W.methodObj (.ref f) (.ref x))
 | .ext φ=>φ h∧(∃ o,h.get? a=some o)∧∀ h1 h2:Heap,φ h1→(∀ o,h1.get? a=some o→h2.get? a=some o)→φ h2
def HOk(H:Hp)(h:Heap):Prop:=∀ a o,H a=some o→ObjOk P w H h a o
end
section
variable{P:Program}{w:World}{H H':Hp}{h h':Heap}{a:Addr}{o:HO}
theorem ObjOk.lt(x:ObjOk P w H h a o):a<h.objs.size:=by
 cases o with
 | lst xs=>obtain⟨_,_,_,_,e⟩:=x; exact Heap.lt_size e
 | tup xs=>obtain⟨_,_,_,p⟩:=x; exact p.lt
 | dK kvs=>obtain⟨_,_,_,_,o,_,_,e,_⟩:=x; exact Heap.lt_size e
 | dT kvs=>obtain⟨_,_,_,_,o,_,_,e,_⟩:=x; exact Heap.lt_size e
 | set S n=>obtain⟨o,_,_,_,e,_⟩:=x; exact Heap.lt_size e
 | ins C dx fs=>obtain⟨_,_,_,e,_⟩:=x; exact Heap.lt_size e
 | own y=>obtain⟨_,e⟩:=x; exact Heap.lt_size e
 | xd fs=>obtain⟨_,⟨_,_,_,e,_⟩,_⟩:=x; exact Heap.lt_size e
 | rng lo hi=>obtain⟨_,_,_,e⟩:=x; exact Heap.lt_size e
 | frz ob u=>obtain⟨e,_⟩:=x; exact Heap.lt_size e
 | tbl ps=>exact Heap.lt_size (show h.get? a=some _ from x)
 | met f y=>exact Heap.lt_size (show h.get? a=some _ from x)
 | ext φ=>obtain⟨_,⟨_,e⟩,_⟩:=x; exact Heap.lt_size e
theorem Paired.mapP{α β : Type}{F G:α→β→Prop}:∀ {l₁:List α} {l₂:List β},Paired F l₁ l₂→(∀ a b,F a b→G a b)→Paired G l₁ l₂
 | _,_,.nil,_=>.nil
 | _,_,.cons r t,f=>.cons (f _ _ r) (Paired.mapP t f)
theorem Paired.imp'{α β : Type}{F G:α→β→Prop}(f:∀ a b,F a b→G a b){l₁:List α}{l₂:List β}(r:Paired F l₁ l₂):Paired G l₁ l₂:=Paired.mapP r f
theorem ObjOk.stay(x:ObjOk P w H h a o)(k:∀ b u,(b=a∨H b=some (.own a))→h.get? b=some u→h'.get? b=some u)
  (ho:∀ b,H b=some (.own a)→H' b=some (.own a)) (ht:∀ b xs,H b=some (.tup xs)→H' b=some (.tup xs)):ObjOk P w H' h' a o:=by
 induction o with
 | lst xs=>obtain⟨z,its,n,r,e⟩:=x; exact⟨z,its,n,r,k _ _ (.inl rfl) e⟩
 | tup xs=>obtain⟨z,its,r,ob,e,c⟩:=x; exact⟨z,its,r,ob,k _ _ (.inl rfl) e,c⟩
 | dK kvs=>obtain⟨z,y,vs,r,ob,es,ep,e,c⟩:=x; exact⟨z,y,vs,r,ob,es,ep,k _ _ (.inl rfl) e,c⟩
 | dT kvs=>
  obtain⟨z,y,xs,r,ob,es,ep,e,c⟩:=x
  exact⟨z,y,xs,Paired.mapP r fun p q z=>⟨z.1,ht _ _ z.2.1,z.2.2⟩,ob,es,ep,k _ _ (.inl rfl) e,c⟩
 | set S n=>obtain⟨ob,es,ep,t,e,c⟩:=x; exact⟨ob,es,ep,t,k _ _ (.inl rfl) e,c⟩
 | ins C dx fs=>
  obtain⟨d,z,ne,e,mA,⟨od,es,ep,e2,c⟩,r⟩:=x
  exact⟨ho _ d,z,ne,k _ _ (.inl rfl) e,mA,⟨od,es,ep,k _ _ (.inr d) e2,c⟩,r⟩
 | own y=>obtain⟨ob,e⟩:=x; exact⟨ob,k _ _ (.inl rfl) e⟩
 | xd fs=>obtain⟨mA,⟨od,es,ep,e,c⟩,r⟩:=x; exact⟨mA,⟨od,es,ep,k _ _ (.inl rfl) e,c⟩,r⟩
 | rng lo hi=>obtain⟨t,u,v,e⟩:=x; exact⟨t,u,v,k _ _ (.inl rfl) e⟩
 | frz ob u ih=>obtain⟨e,q⟩:=x; exact⟨k _ _ (.inl rfl) e,ih q⟩
 | tbl ps=>
  have e:h.get? a=some { cls:=.none,data:=.fields ps }:=x
  show h'.get? a=some { cls:=.none,data:=.fields ps }
  exact k a _ (.inl rfl) e
 | met f y=>
  have e:h.get? a=some (PySem.W.methodObj (.ref f) (.ref y)):=x
  show h'.get? a=some (PySem.W.methodObj (.ref f) (.ref y))
  exact k a _ (.inl rfl) e
 | ext φ=>obtain⟨p,⟨o,e⟩,st⟩:=x; exact⟨st _ _ p fun o q=>k _ _ (.inl rfl) q,⟨o,k _ _ (.inl rfl) e⟩,st⟩
theorem HOk.lt(x:HOk P w H h)(e:H a=some o):a<h.objs.size:=(x a o e).lt
theorem HOk.fresh(x:HOk P w H h)(e:h.objs.size≤a):H a=none:=by
 cases q:H a with
 | none=>rfl
 | some u=>exact absurd (Nat.lt_of_lt_of_le (x.lt q) e) (Nat.lt_irrefl _)
theorem HOk.kept(x:HOk P w H h)(k:∀ b u,h.get? b=some u→h'.get? b=some u):HOk P w H h':=fun a o e=>
 (x a o e).stay (fun b u _ q=>k b u q) (fun _ q=>q) fun _ _ q=>q
theorem HOk.laid(x:HOk P w H h)(k:∀ b u,h.get? b=some u→h'.get? b=some u)(hp:h.objs.size≤a)(new:ObjOk P w (upd H a o) h' a o):HOk P w (upd H a o) h':=fun b u e=>by
 have hn:=x.fresh hp
 by_cases hb:b=a
 ·subst hb; rw[ah]at e; cases e; exact new
 ·rw[aj hb]at e
  exact(x b u e).stay (fun c v _ q=>k c v q) (fun c q=>by rw[aj (az q hn)]; exact q) fun c xs q=>by rw[aj (az q hn)]; exact q
end
def Rd(H:Hp)(a:Addr)(u:HO):Prop:=H a=some u∨∃ o,H a=some (.frz o u)
theorem Rd.ok{P:Program}{w:World}{H:Hp}{h:Heap}{a:Addr}{u:HO}(r:Rd H a u)(x:HOk P w H h):ObjOk P w H h a u:=by
 rcases r with r | ⟨o,r⟩
 ·exact x a u r
 ·obtain⟨_,q⟩:=x a _ r
  exact q
def yC:Option HO→Prop
 | some (.lst _)=>True
 | some (.dK _)=>True
 | some (.dT _)=>True
 | some (.set _ _)=>True
 | some (.ins _ _ _)=>True
 | some (.ext _)=>True
 | _=>False
section
variable{P:Program}{w:World}{H:Hp}{h h':Heap}{x e:Addr}{o':HO}
theorem HOk.write(ok:HOk P w H h)(mu:yC (H x))(he:e=x∨H e=some (.own x))(k:∀ b u,b≠e→h.get? b=some u→h'.get? b=some u)(heo:∃ u,h'.get? e=some u)
  (new:ObjOk P w (upd H x o') h' x o'):HOk P w (upd H x o') h':=fun b u q=>by
 have nown:∀ c y,H c=some (.own y)→c≠x:=fun c y r z=>by subst z; rw[r]at mu; exact mu
 have ntup:∀ c xs,H c=some (.tup xs)→c≠x:=fun c xs r z=>by subst z; rw[r]at mu; exact mu
 by_cases hb:b=x
 ·subst hb; rw[ah]at q; cases q; exact new
 ·rw[aj hb]at q
  by_cases hbe:b=e
  ·have q':H b=some (.own x):=by
    rcases he with z | z
    ·exact absurd (hbe.trans z) hb
    ·rw[hbe]; exact z
   rw[q]at q'; cases q'
   obtain⟨v,hv⟩:=heo
   exact⟨v,by rw[hbe]; exact hv⟩
  ·refine(ok b u q).stay (fun c v hc r=>k c v ?_ r) (fun c r=>by rw[aj (nown c b r)]; exact r) fun c xs r=>by rw[aj (ntup c xs r)]; exact r
   rcases hc with rfl | hc
   ·exact hbe
   ·rintro rfl
    rcases he with z | z
    ·exact nown c b hc z
    ·rw[hc]at z; cases z; exact hb rfl
end
structure Un (fs ex:List Addr) (H H':Hp) (h h':Heap):Prop where
 keep:∀ b o,h.get? b=some o→H b=none→b∉fs→b∉ex→h'.get? b=some o
 slot:∀ b o,h.get? b=some o→H b=none→b∈fs→b∉ex→∃ sl,h'.get? b=some { o with slots:=sl }
 free:∀ b o,h.get? b=some o→H b=none→b∉ex→H' b=none
 there:∀ b o,h.get? b=some o→b∉ex→∃ o',h'.get? b=some o'
 tups:∀ b xs,H b=some (.tup xs)→H' b=some (.tup xs)
 frzs:∀ b o u,H b=some (.frz o u)→H' b=some (.frz o u)
 tbls:∀ b ps,H b=some (.tbl ps)→∃ more,H' b=some (.tbl (ps++more))
section
variable{fs fs' ex ex':List Addr}{H H1 H2:Hp}{h h1 h2 h':Heap}{a x e:Addr}{o:HO}
theorem Un.any(u:Un fs ex H H1 h h1){b:Addr}{ob:Obj}(q:h.get? b=some ob)(n:H b=none)(hx:b∉ex):∃ sl,h1.get? b=some { ob with slots:=sl }:=by
 by_cases hb:b∈fs
 ·exact u.slot b ob q n hb hx
 ·exact⟨ob.slots,u.keep b ob q n hb hx⟩
theorem Un.kept(k:∀ b u,h.get? b=some u→h'.get? b=some u):Un fs ex H H h h':=
 ⟨fun b ob q _ _ _=>k b ob q,fun b ob q _ _ _=>⟨ob.slots,k b ob q⟩,fun _ _ _ n _=>n,fun b ob q _=>⟨ob,k b ob q⟩,fun _ _ q=>q,fun _ _ _ q=>q,fun _ ps q=>⟨#[],by rw[q]; simp⟩⟩
theorem Un.refl:Un fs ex H H h h:=Un.kept fun _ _ q=>q
theorem Un.laid(k:∀ b u,h.get? b=some u→h'.get? b=some u)(hp:h.objs.size≤a)(hn:H a=none):Un fs ex H (upd H a o) h h' where
 keep:=fun b u q _ _ _=>k b u q
 slot:=fun b u q _ _ _=>⟨u.slots,k b u q⟩
 free:=fun b u q n _=>by rw[aj (Nat.ne_of_lt (Nat.lt_of_lt_of_le (Heap.lt_size q) hp))]; exact n
 there:=fun b u q _=>⟨u,k b u q⟩
 tups:=fun b xs q=>by rw[aj (az q hn)]; exact q
 frzs:=fun b u xs q=>by rw[aj (az q hn)]; exact q
 tbls:=fun b ps q=>⟨#[],by rw[aj (az q hn),q]; simp⟩
theorem Un.write(mu:yC (H x))(he:e=x∨H e=some (.own x))(k:∀ b u,b≠e→h.get? b=some u→h'.get? b=some u)(heo:∃ u,h'.get? e=some u):Un fs ex H (upd H x o) h h':=by
 have hx:∀ b,H b=none→b≠x:=fun b n z=>by subst z; rw[n]at mu; exact mu
 have hb:∀ b,H b=none→b≠e:=fun b n z=>by
  subst z;rcases he with r | r
  ·exact hx b n r
  ·rw[n]at r; cases r
 have hm:∀ b u,H b=some u→¬ yC (some u)→b≠x:=fun b u q nm z=>by subst z; rw[q]at mu; exact nm mu
 refine⟨fun b u q n _ _=>k b u (hb b n) q,fun b u q n _ _=>⟨u.slots,k b u (hb b n) q⟩,fun b u q n _=>by rw[aj (hx b n)]; exact n,fun b u q _=>?_,
  fun b xs q=>by rw[aj (hm b _ q fun z=>z)]; exact q,fun b u xs q=>by rw[aj (hm b _ q fun z=>z)]; exact q,fun b ps q=>⟨#[],by rw[aj (hm b _ q fun z=>z),q]; simp⟩⟩
 by_cases hbe:b=e
 ·subst hbe; exact heo
 ·exact⟨u,k b u hbe q⟩
end
def BO(h:Heap)(H:Hp):List Addr:=(List.range h.objs.size).filter fun a=>(H a).isSome
def jA(h:Heap)(H:Hp):Heap:=PySem.W.hideAll h (BO h H)
theorem x3(h:Heap)(H:Hp):(jA h H).objs.size=h.objs.size:=PySem.W.hideAll_size _ _
theorem zy{h:Heap}{H:Hp}{b:Addr}{o:Obj}(e:h.get? b=some o)(n:H b=none):(jA h H).get? b=some o:=
 PySem.W.hideAll_get _ e fun hm=>by
  have q:(H b).isSome=true:=(List.mem_filter.mp hm).2
  rw[n]at q; simp at q
theorem Cu{h:Heap}{H:Hp}{b:Addr}{o:Obj}(e:(jA h H).get? b=some o):h.get? b=some o∧H b=none:=by
 have e':h.get? b=some o:=PySem.W.of_hideAll (BO h H) e
 refine⟨e',?_⟩
 cases q:H b with
 | none=>rfl
 | some x=>
  have hm:b∈BO h H:=List.mem_filter.mpr ⟨List.mem_range.mpr (Heap.lt_size e'),by simp[q]⟩
  have z:(jA h H).get? b=none:=PySem.W.hideAll_none (BO h H) hm
  rw[z]at e; cases e
def BV(g h:Heap)(L:Addr):List (Addr × Obj):=(List.range h.objs.size).filterMap fun a=>if a=L∨(g.get? a).isSome=true then none else (h.get? a).map fun o=>(a,o)
def rest(g h:Heap)(L d:Addr):List (Addr × Obj):=(BV g h L).filter fun p=>decide (p.1≠d)
structure Mod (K:PySem.W.Frag) (mg:Str→Option Value) (base:Heap):Prop where
 kin:K.In base
 glob:base.Ns mainGlobals mg
 blt:∃ mb,base.Ns builtinsNs mb∧∀ x:Str,x ≠ "__name__" → mb x=bootBuiltins x
 nolimit:base.NoLimit
set_option genInjectivity false in
set_option genSizeOf false in
structure Cx where
 prog:Program
 w:World
 K:PySem.W.Frag
 mg:Str→Option Value
 base:Heap
 A:Around
 N:List Str
 s₀ : Shared
 H₀ : Hp
 env:Env
 outer:List Env
 stack:List Env
 ex:List Addr
 fn:Str→Bool
 calm:Bool
 pn:List (Addr × Obj)
 xe:Value→Shared→Prop
def jG(l:List Env):List Addr:=l.filterMap (·.frame)
abbrev Cx.fs (X:Cx):List Addr:=jG X.outer
def am(sc:Scope)(x:Str):Prop:=sc.names.lookup x=some .local∨sc.names.lookup x=some .cell∨sc.names.lookup x=some .free
def aP(sc:Scope)(x:Str):Prop:=sc.names.lookup x=some .local∨sc.names.lookup x=some .cell
def IA(env:Env)(h:Heap)(m:Str→Option Value)(x:Str)(u:Value):Prop:=
 (env.kindOf x=some .local∧m x=some u)∨((env.kindOf x=some .cell∨env.kindOf x=some .free)∧∃ c,env.cells.lookup x=some c∧h.IsCell c (some u))
structure Cx.Ok (X:Cx):Prop where
 mod:Mod X.K X.mg X.base
 kind:X.env.scope.kind = .function
 glob:X.env.globals=mainGlobals
 blt:X.env.builtins=builtinsNs
 above:X.s₀.heap.objs.size≤X.env.locals
 inj:∀ x y c,X.env.cells.lookup x=some c→X.env.cells.lookup y=some c→x=y
 has:∀ x,(X.env.kindOf x=some .cell∨X.env.kindOf x=some .free)→∃ c,X.env.cells.lookup x=some c
 cab:∀ x c,X.fn x=true→X.env.cells.lookup x=some c→X.s₀.heap.objs.size≤c
 hd:X.calm=true→X.A.handled=none
 frames:X.A.frames=some X.stack
 stk:X.stack=X.outer∨(X.stack=X.env::X.outer∧X.env.frame=some X.env.locals)
 exf:∀ b∈X.ex,b≠X.env.locals∧∀ x c,X.env.cells.lookup x=some c→c≠b
 bs:∀ b o,X.base.get? b=some o→X.s₀.heap.get? b=some o∧X.H₀ b=none
 bsz:X.base.objs.size≤X.s₀.heap.objs.size
 noex:∀ b o,X.base.get? b=some o→b∉X.ex
 exfs:∀ b∈X.ex,b∉X.fs
 funs:X.s₀.heap.FunFrames X.base X.outer
 frf:∀ b∈X.fs,X.H₀ b=none
structure Inv (X:Cx) (pins:List (Addr × Obj)) (σ : List (Option V)) (H:Hp) (s:Shared):Prop where
 ok:X.Ok
 os:s.os=X.s₀.os
 bare:AllBare s.gens
 base:Un X.fs X.ex X.H₀ H X.s₀.heap s.heap
 loc:∃ m,s.heap.Ns X.env.locals m∧∀ (i:Nat) (x:Str) (v:V),X.N[i]? = some x→σ[i]? = some (some v)→am X.env.scope x→∃ u,RelV v u∧IA X.env s.heap m x u
 cell:∀ x c,X.env.cells.lookup x=some c→∃ v,s.heap.IsCell c v
 free:H X.env.locals=none
 freeC:∀ x c,X.env.cells.lookup x=some c→H c=none
 pin:∀ p∈X.pn++pins,s.heap.get? p.1=some p.2∧H p.1=none∧p.1≠X.env.locals∧p.1∉X.fs∧∀ v,p.2.data ≠ .cell v
 hok:HOk X.prog X.w H s.heap
 len:σ.length=X.N.length
section
variable{X:Cx}{pins:List (Addr × Obj)}{σ : List (Option V)}{H H':Hp}{s:Shared}{h':Heap}
theorem Cx.Ok.nofr(ok:X.Ok){b:Addr}{o:Obj}(e:X.base.get? b=some o):b∉X.fs:=fun hb=>by
 have:=(ok.funs.mem hb).1
 rw[e]at this; cases this
theorem Inv.bs(I:Inv X pins σ H s):∀ b o,X.base.get? b=some o→s.heap.get? b=some o∧H b=none:=fun b o e=>
 ⟨I.base.keep b o (I.ok.bs b o e).1 (I.ok.bs b o e).2 (I.ok.nofr e) (I.ok.noex b o e),I.base.free b o (I.ok.bs b o e).1 (I.ok.bs b o e).2 (I.ok.noex b o e)⟩
theorem Inv.bk(I:Inv X pins σ H s):∀ b o,X.base.get? b=some o→s.heap.get? b=some o:=fun b o e=>(I.bs b o e).1
theorem Inv.mod(I:Inv X pins σ H s):Mod X.K X.mg X.base:=I.ok.mod
theorem Inv.kIn(I:Inv X pins σ H s):X.K.In s.heap:=I.ok.mod.kin.keeps I.bk
theorem Inv.lt(I:Inv X pins σ H s):X.env.locals<s.heap.objs.size:=let ⟨_,hn,_⟩:=I.loc; hn.lt
theorem Inv.sz(I:Inv X pins σ H s):X.s₀.heap.objs.size≤s.heap.objs.size:=Nat.le_trans I.ok.above (Nat.le_of_lt I.lt)
theorem Inv.nofs(I:Inv X pins σ H s){a:Addr}(h:s.heap.objs.size≤a):a∉X.fs:=fun hb=>by
 obtain⟨_,o,ho,_⟩:=I.ok.funs.mem hb
 exact absurd (Nat.lt_of_lt_of_le (Heap.lt_size ho) (Nat.le_trans I.sz h)) (Nat.lt_irrefl _)
theorem Inv.cne(I:Inv X pins σ H s):∀ x c,X.env.cells.lookup x=some c→c≠X.env.locals:=fun x c e z=>by
 obtain⟨v,o,ho,hd⟩:=I.cell x c e
 obtain⟨m,⟨o',es,ep,ho',hd',_⟩,_⟩:=I.loc
 rw[z,ho']at ho; cases ho; rw[hd']at hd; cases hd
theorem Inv.funs(I:Inv X pins σ H s):s.heap.FunFrames X.base X.outer:=by
 have all:∀ (l:List Env),(∀ b∈jG l,b∈X.fs)→X.s₀.heap.FunFrames X.base l→s.heap.FunFrames X.base l:=by
  intro l
  induction l with
  | nil=>intro _ _; trivial
  | cons env r ih=>
   intro hs hl
   obtain⟨hk,⟨L,o,hf,hn,ho,hd⟩,hr⟩:=hl
   have hL:L∈X.fs:=hs L (by unfold jG; rw[List.filterMap_cons,hf]; exact List.mem_cons_self)
   obtain⟨sl,e⟩:=I.base.slot L o ho (I.ok.frf L hL) hL fun z=>I.ok.exfs L z hL
   exact⟨hk,⟨L,_,hf,hn,e,hd⟩,ih (fun b hb=>hs b (by unfold jG; rw[List.filterMap_cons,hf]; exact List.mem_cons_of_mem _ hb)) hr⟩
 exact all X.outer (fun _ hb=>hb) I.ok.funs
theorem Inv.stack(I:Inv X pins σ H s):s.heap.FunFrames X.base X.stack:=by
 rcases I.ok.stk with e | ⟨e,hf⟩
 ·rw[e]; exact I.funs
 ·rw[e]
  obtain⟨m,hn,_⟩:=I.loc
  refine .cons (by rw[I.ok.kind]; decide) hf hn ?_ I.funs
  exact Heap.get?_none_of_le (Nat.le_trans I.ok.bsz I.ok.above)
theorem Inv.stkSub(I:Inv X pins σ H s):∀ b∈jG X.stack,b∈X.env.locals::X.fs:=fun b hb=>by
 rcases I.ok.stk with e | ⟨e,hf⟩
 ·rw[e]at hb; exact List.mem_cons_of_mem _ hb
 ·rw[e]at hb
  unfold jG at hb;rw[List.filterMap_cons,hf]at hb
  exact hb
theorem Inv.stkFree(I:Inv X pins σ H s):∀ b∈jG X.stack,H b=none:=fun b hb=>by
 rcases List.mem_cons.mp (I.stkSub b hb) with e | hb
 ·rw[e]; exact I.free
 ·obtain⟨_,o,ho,_⟩:=I.ok.funs.mem hb
  exact I.base.free b o ho (I.ok.frf b hb) fun z=>I.ok.exfs b z hb
theorem Inv.step{g':Array GenState}{t':Nat}{d':Drawn}{ch:List Addr}(I:Inv X pins σ H s)
  (hch:∀ b∈ch,(b∈X.ex∨X.s₀.heap.objs.size≤b)∧b≠X.env.locals∧(∀ x c,X.env.cells.lookup x=some c→c≠b)∧∀ p∈X.pn++pins,p.1≠b)
  (keep:∀ b o,b≠X.env.locals→b∉X.fs→b∉ch→s.heap.get? b=some o→H b=none→h'.get? b=some o)
  (slot:∀ b o,b≠X.env.locals→b∈X.fs→b∉ch→s.heap.get? b=some o→H b=none→∃ sl,h'.get? b=some { o with slots:=sl }) (free:∀ b o,b∉ch→s.heap.get? b=some o→H b=none→H' b=none)
  (there:∀ b o,b∉ch→s.heap.get? b=some o→∃ o',h'.get? b=some o')
  (tups:∀ b xs,H b=some (.tup xs)→H' b=some (.tup xs)) (frzs:∀ b o u,H b=some (.frz o u)→H' b=some (.frz o u)) (tbls:∀ b ps,H b=some (.tbl ps)→∃ more,H' b=some (.tbl (ps++more)))
  (ns:∀ m,s.heap.Ns X.env.locals m→h'.Ns X.env.locals m) (hok:HOk X.prog X.w H' h') (hg:AllBare g') :
  Inv X pins σ H' { s with heap:=h',gens:=g',drawn:=d',toks:=t' }:=by
 have neL:∀ b o,X.s₀.heap.get? b=some o→b≠X.env.locals:=fun b o e=>Nat.ne_of_lt (Nat.lt_of_lt_of_le (Heap.lt_size e) I.ok.above)
 have neC:∀ b o,X.s₀.heap.get? b=some o→b∉X.ex→b∉ch:=fun b o e hx hb=>by
  rcases(hch b hb).1 with z | z
  ·exact hx z
  ·exact absurd (Nat.lt_of_lt_of_le (Heap.lt_size e) z) (Nat.lt_irrefl _)
 have cellK:∀ x c,X.env.cells.lookup x=some c→∀ v,s.heap.IsCell c v→h'.IsCell c v:=fun x c e v ⟨o,ho,hd⟩=>by
  have nch:c∉ch:=fun z=>(hch c z).2.2.1 x c e rfl
  by_cases hc:c∈X.fs
  ·obtain⟨sl,q⟩:=slot c o (I.cne x c e) hc nch ho (I.freeC x c e)
   exact⟨_,q,hd⟩
  ·exact⟨o,keep c o (I.cne x c e) hc nch ho (I.freeC x c e),hd⟩
 refine⟨I.ok,I.os,hg,⟨fun b o e n hb hx=>?_,fun b o e n hb hx=>?_,fun b o e n hx=>?_,fun b o e hx=>?_,fun b xs e=>tups b xs (I.base.tups b xs e),fun b o xs e=>frzs b o xs (I.base.frzs b o xs e),fun b ps e=>?_⟩,?_,fun x c e=>?_,?_,fun x c e=>?_,fun p hp=>?_,hok,I.len⟩
 ·exact keep b o (neL b o e) hb (neC b o e hx) (I.base.keep b o e n hb hx) (I.base.free b o e n hx)
 ·obtain⟨sl,e1⟩:=I.base.slot b o e n hb hx
  obtain⟨sl',e2⟩:=slot b _ (neL b o e) hb (neC b o e hx) e1 (I.base.free b o e n hx)
  exact⟨sl',e2⟩
 ·obtain⟨o',e1⟩:=I.base.there b o e hx
  exact free b o' (neC b o e hx) e1 (I.base.free b o e n hx)
 ·obtain⟨o',e1⟩:=I.base.there b o e hx
  exact there b o' (neC b o e hx) e1
 ·obtain⟨m1,e1⟩:=I.base.tbls b ps e
  obtain⟨m2,e2⟩:=tbls b _ e1
  exact⟨m1++m2,by rw[e2,Array.append_assoc]⟩
 ·obtain⟨m,hn,hl⟩:=I.loc
  refine⟨m,ns m hn,fun i x v e1 e2 e3=>?_⟩
  obtain⟨u,r,l⟩:=hl i x v e1 e2 e3
  refine⟨u,r,?_⟩
  rcases l with l | ⟨k,c,e,z⟩
  ·exact .inl l
  ·exact .inr ⟨k,c,e,cellK x c e _ z⟩
 ·obtain⟨v,z⟩:=I.cell x c e
  exact⟨v,cellK x c e v z⟩
 ·obtain⟨m,⟨o,_,_,ho,_⟩,_⟩:=I.loc
  exact free _ o (fun z=>(hch _ z).2.1 rfl) ho I.free
 ·obtain⟨v,o,ho,hd⟩:=I.cell x c e
  exact free c o (fun z=>(hch c z).2.2.1 x c e rfl) ho (I.freeC x c e)
 ·obtain⟨e,n,ne,nf,d⟩:=I.pin p hp
  have nch:p.1∉ch:=fun z=>(hch p.1 z).2.2.2 p hp rfl
  exact⟨keep p.1 p.2 ne nf nch e n,free p.1 p.2 nch e n,ne,nf,d⟩
theorem Inv.un{t':Nat}(I:Inv X pins σ H s)(u:Un X.fs [] H H' s.heap h')(hok:HOk X.prog X.w H' h'):Inv X pins σ H' { s with heap:=h',toks:=t' }:=by
 obtain⟨m,⟨o,es,ep,ho,r⟩,_⟩:=id I.loc
 obtain⟨sl,hL⟩:=u.any ho I.free (by simp)
 exact I.step (g':=s.gens) (d':=s.drawn) (ch:=[]) (fun _ z=>nomatch z) (fun b o _ hb _ e n=>u.keep b o e n hb (by simp)) (fun b o _ hb _ e n=>u.slot b o e n hb (by simp)) (fun b o _ e n=>u.free b o e n (by simp)) (fun b o _ e=>u.there b o e (by simp)) u.tups u.frzs u.tbls (fun m' hm=>by
  obtain⟨o',es',ep',ho',r'⟩:=hm
  rw[ho]at ho'; cases ho'
  exact⟨_,es',ep',hL,r'⟩) hok I.bare
theorem Inv.call{g':Array GenState}{t':Nat}{d':Drawn}{ch:List Addr}(I:Inv X pins σ H s)(u:Un (jG X.stack) ch H H' s.heap h')(hok:HOk X.prog X.w H' h')(hg:AllBare g')
  (hch:∀ b∈ch,(b∈X.ex∨X.s₀.heap.objs.size≤b)∧b≠X.env.locals∧(∀ x c,X.env.cells.lookup x=some c→c≠b)∧∀ p∈X.pn++pins,p.1≠b) :
  Inv X pins σ H' { s with heap:=h',gens:=g',drawn:=d',toks:=t' }:=by
 obtain⟨m,⟨o,es,ep,ho,r⟩,_⟩:=id I.loc
 obtain⟨sl,hL⟩:=u.any ho I.free fun z=>(hch _ z).2.1 rfl
 exact I.step (ch:=ch) hch (fun b o hL hb hc e n=>u.keep b o e n (fun z=>(List.mem_cons.mp (I.stkSub b z)).elim hL hb) hc) (fun b o _ _ hc e n=>u.any e n hc) (fun b o hc e n=>u.free b o e n hc) (fun b o hc e=>u.there b o e hc) u.tups u.frzs u.tbls (fun m' hm=>by
  obtain⟨o',es',ep',ho',r'⟩:=hm
  rw[ho]at ho'; cases ho'
  exact⟨_,es',ep',hL,r'⟩) hok hg
theorem Inv.turned{t':Nat}{it:Addr}(I:Inv X pins σ H s)(k:∀ b o,b≠it→s.heap.get? b=some o→h'.get? b=some o)(hn:H it=none)(hL:it≠X.env.locals)
  (h1:it∈X.ex∨X.s₀.heap.objs.size≤it) (h2:∀ x c,X.env.cells.lookup x=some c→c≠it) (h3:∀ p∈X.pn++pins,p.1≠it):Inv X pins σ H { s with heap:=h',toks:=t' }:=by
 have nit:∀ b u,H b=some u→b≠it:=fun b u e z=>by rw[z,hn]at e; cases e
 refine I.step (g':=s.gens) (d':=s.drawn) (ch:=[it]) (fun b hb=>?_) (fun b o _ _ hc e _=>k b o (fun z=>hc (by simp[z])) e) (fun b o _ _ hc e _=>⟨o.slots,k b o (fun z=>hc (by simp[z])) e⟩) (fun _ _ _ _ n=>n)
  (fun b o hc e=>⟨o,k b o (fun z=>hc (by simp[z])) e⟩) (fun _ _ e=>e) (fun _ _ _ e=>e) (fun b ps e=>⟨#[],by rw[e]; simp⟩) (fun m hm=>?_) (fun b u e=>?_) I.bare
 ·have e:b=it:=by simpa using hb
  subst e;exact⟨h1,hL,h2,h3⟩
 ·obtain⟨o,es,ep,ho,r⟩:=hm
  exact⟨o,es,ep,k _ o (Ne.symm hL) ho,r⟩
 ·refine(I.hok b u e).stay (fun c v hc q=>k c v ?_ q) (fun _ q=>q) fun _ _ q=>q
  rcases hc with z | z
  ·rw[z]; exact nit b u e
  ·exact nit c _ z
theorem Inv.tok(I:Inv X pins σ H s)(t:Nat):Inv X pins σ H { s with toks:=t }:=I.un (h':=s.heap) (t':=t) Un.refl I.hok
theorem Inv.kept{t':Nat}(I:Inv X pins σ H s)(k:∀ b u,s.heap.get? b=some u→h'.get? b=some u):Inv X pins σ H { s with heap:=h',toks:=t' }:=I.un (Un.kept k) (I.hok.kept k)
theorem Inv.laid{a:Addr}{o:HO}{t':Nat}(I:Inv X pins σ H s)(k:∀ b u,s.heap.get? b=some u→h'.get? b=some u)(hp:s.heap.objs.size≤a)(new:ObjOk X.prog X.w (upd H a o) h' a o) :
  Inv X pins σ (upd H a o) { s with heap:=h',toks:=t' }:=I.un (Un.laid k hp (I.hok.fresh hp)) (I.hok.laid k hp new)
theorem Inv.write{x e:Addr}{o:HO}{t':Nat}(I:Inv X pins σ H s)(mu:yC (H x))(he:e=x∨H e=some (.own x))(k:∀ b u,b≠e→s.heap.get? b=some u→h'.get? b=some u)(heo:∃ u,h'.get? e=some u)
  (new:ObjOk X.prog X.w (upd H x o) h' x o):Inv X pins σ (upd H x o) { s with heap:=h',toks:=t' }:=I.un (Un.write mu he k heo) (I.hok.write mu he k heo new)
theorem Inv.weak{σ':List (Option V)}(I:Inv X pins σ H s)(hl:σ'.length=σ.length)(w:∀ (i:Nat) v,σ'[i]? = some (some v)→σ[i]? = some (some v)):Inv X pins σ' H s:=
 ⟨I.ok,I.os,I.bare,I.base,let ⟨m,hn,hl'⟩:=I.loc; ⟨m,hn,fun i x v e1 e2 e3=>hl' i x v e1 (w i v e2) e3⟩,I.cell,I.free,I.freeC,I.pin,I.hok,hl.trans I.len⟩
theorem Inv.pins_of{pins':List (Addr × Obj)}(I:Inv X pins σ H s)(h:∀ p∈pins',s.heap.get? p.1=some p.2∧H p.1=none∧p.1≠X.env.locals∧p.1∉X.fs∧∀ v,p.2.data ≠ .cell v):Inv X pins' σ H s:=
 ⟨I.ok,I.os,I.bare,I.base,I.loc,I.cell,I.free,I.freeC,fun p hp=>(List.mem_append.mp hp).elim (fun z=>I.pin p (List.mem_append_left _ z)) (h p),I.hok,I.len⟩
theorem rS{N:List Str}(hN:N.Nodup){i j:Nat}{x:Str}(a:N[i]? = some x)(b:N[j]? = some x):i=j:=by
 obtain⟨h1,e1⟩:=List.getElem?_eq_some_iff.mp a
 obtain⟨h2,e2⟩:=List.getElem?_eq_some_iff.mp b
 exact(List.getElem_inj hN).mp (e1.trans e2.symm)
theorem nV{M:Model}{A:Around}{E:Value→Shared→Prop}{i:Nat}{x:Str}{v:V}{u:Value}{Q:Unit→Shared→Prop}(I:Inv X pins σ H s)(hN:X.N.Nodup)(hi:X.N[i]? = some x)(hx:aP X.env.scope x)(r:RelV v u)
  (h:∀ s',Inv X pins (σ.set i (some v)) H s'→(∃ a,Heap.SameBut a s.heap s'.heap∧(a=X.env.locals∨X.env.cells.lookup x=some a))→Q () s') (hf:X.fn x=true∨X.env.scope.names.lookup x=some .local:=by first | exact .inl rfl | exact .inr rfl | assumption):wpAny M A (storeName X.env x u) Q E s:=by
 obtain⟨m,hn,hl⟩:=id I.loc
 have hcls:(X.env.scope.kind == .class||(X.env.scope.kind == .module&&X.env.locals != X.env.globals))=false:=by rw[I.ok.kind]; rfl
 have hiσ : i<σ.length:=by rw[I.len]; exact(List.getElem?_eq_some_iff.mp hi).1
 have cne:=I.cne
 have tracked:∀ {a:Addr} {h':Heap},(∃ o,s.heap.get? a=some o∧H a=none)→Heap.SameBut a s.heap h'→HOk X.prog X.w H h':=fun {a h'} ha hs b ob e=>by
  obtain⟨_,_,hfree⟩:=ha
  refine(I.hok b ob e).stay (fun c w' hc q=>(hs.2 c ?_).trans q) (fun _ q=>q) fun _ _ q=>q
  rintro rfl
  rcases hc with rfl | hc
  ·rw[hfree]at e; cases e
  ·rw[hfree]at hc; cases hc
 rcases hx with hk | hk
 ·refine wpAny_storeName_local hk hn (fun h' hn' hs=>?_) hcls
  obtain⟨oL,_,_,hoL,_⟩:=id hn
  refine h _ ⟨I.ok,I.os,I.bare,⟨fun b o e n hb hx=>?_,fun b o e n hb hx=>?_,I.base.free,fun b o e hx=>?_,I.base.tups,I.base.frzs,I.base.tbls⟩,⟨_,hn',fun j y v' e1 e2 e3=>?_⟩,fun y c e=>?_,I.free,I.freeC,fun p hp=>?_,tracked ⟨oL,hoL,I.free⟩ hs,by simpa using I.len⟩ ⟨_,hs,.inl rfl⟩
  ·exact(hs.2 b (Nat.ne_of_lt (Nat.lt_of_lt_of_le (Heap.lt_size e) I.ok.above))).trans (I.base.keep b o e n hb hx)
  ·obtain⟨sl,e1⟩:=I.base.slot b o e n hb hx
   exact⟨sl,(hs.2 b (Nat.ne_of_lt (Nat.lt_of_lt_of_le (Heap.lt_size e) I.ok.above))).trans e1⟩
  ·obtain⟨o',e1⟩:=I.base.there b o e hx
   exact⟨o',(hs.2 b (Nat.ne_of_lt (Nat.lt_of_lt_of_le (Heap.lt_size e) I.ok.above))).trans e1⟩
  ·by_cases hj:j=i
   ·subst hj
    rw[hi]at e1; cases e1
    rw[List.getElem?_set_self hiσ]at e2
    cases e2;exact⟨u,r,.inl ⟨hk,by simp⟩⟩
   ·rw[List.getElem?_set_ne (Ne.symm hj)]at e2
    obtain⟨u',r',q⟩:=hl j y v' e1 e2 e3
    refine⟨u',r',?_⟩
    rcases q with ⟨k,e⟩ | ⟨k,c,e,z⟩
    ·refine .inl ⟨k,?_⟩
     have:y≠x:=fun e=>hj (rS hN e1 (e ▸ hi))
     simp[this,e]
    ·exact .inr ⟨k,c,e,z.sameBut hs (cne y c e)⟩
  ·obtain⟨w',z⟩:=I.cell y c e
   exact⟨w',z.sameBut hs (cne y c e)⟩
  ·obtain⟨e,n,ne,nf,d⟩:=I.pin p hp
   exact⟨(hs.2 p.1 ne).trans e,n,ne,nf,d⟩
 ·have hfn:X.fn x=true:=by
   rcases hf with z | z
   ·exact z
   ·rw[z]at hk; cases hk
  obtain⟨c,hc⟩:=I.ok.has x (.inl hk)
  obtain⟨w',z⟩:=I.cell x c hc
  refine wpAny_storeName_cell I.ok.kind hk hc z (fun h' hc' hs=>?_)
  obtain⟨oc,hoc,hocd⟩:=id z
  refine h { s with heap:=h' } ⟨I.ok,I.os,I.bare,⟨fun b o e n hb hx=>?_,fun b o e n hb hx=>?_,I.base.free,fun b o e hx=>?_,I.base.tups,I.base.frzs,I.base.tbls⟩,⟨m,hn.sameBut hs (Ne.symm (cne x c hc)),fun j y v' e1 e2 e3=>?_⟩,fun y c' e=>?_,I.free,I.freeC,fun p hp=>?_,tracked ⟨oc,hoc,I.freeC x c hc⟩ hs,by simpa using I.len⟩ ⟨c,hs,.inr hc⟩
  ·exact(hs.2 b (Nat.ne_of_lt (Nat.lt_of_lt_of_le (Heap.lt_size e) (I.ok.cab x c hfn hc)))).trans (I.base.keep b o e n hb hx)
  ·obtain⟨sl,e1⟩:=I.base.slot b o e n hb hx
   exact⟨sl,(hs.2 b (Nat.ne_of_lt (Nat.lt_of_lt_of_le (Heap.lt_size e) (I.ok.cab x c hfn hc)))).trans e1⟩
  ·obtain⟨o',e1⟩:=I.base.there b o e hx
   exact⟨o',(hs.2 b (Nat.ne_of_lt (Nat.lt_of_lt_of_le (Heap.lt_size e) (I.ok.cab x c hfn hc)))).trans e1⟩
  ·by_cases hj:j=i
   ·subst hj
    rw[hi]at e1; cases e1
    rw[List.getElem?_set_self hiσ]at e2
    cases e2;exact⟨u,r,.inr ⟨.inl hk,c,hc,hc'⟩⟩
   ·rw[List.getElem?_set_ne (Ne.symm hj)]at e2
    obtain⟨u',r',q⟩:=hl j y v' e1 e2 e3
    refine⟨u',r',?_⟩
    rcases q with q | ⟨k,c',e,z'⟩
    ·exact .inl q
    ·refine .inr ⟨k,c',e,z'.sameBut hs ?_⟩
     rintro rfl
     exact hj (rS hN e1 (I.ok.inj _ _ _ e hc ▸ hi))
  ·by_cases hcc:c'=c
   ·subst hcc; exact⟨_,hc'⟩
   ·obtain⟨w2,z2⟩:=I.cell y c' e
    exact⟨w2,z2.sameBut hs hcc⟩
  ·obtain⟨e,n,ne,nf,d⟩:=I.pin p hp
   refine⟨(hs.2 p.1 ?_).trans e,n,ne,nf,d⟩
   intro q
   rw[q,hoc]at e
   have q':oc=p.2:=Option.some.inj e
   exact d w' (by rw[← q']; exact hocd)
theorem su{M:Model}{A:Around}{E:Value→Shared→Prop}{i:Nat}{x:Str}{v:V}{u:Value}{Q:Unit→Shared→Prop}(I:Inv X pins σ H s)(hN:X.N.Nodup)(hi:X.N[i]? = some x)(hx:aP X.env.scope x)(r:RelV v u)
  (h:∀ s',Inv X pins (σ.set i (some v)) H s'→Q () s') (hf:X.fn x=true∨X.env.scope.names.lookup x=some .local:=by first | exact .inl rfl | exact .inr rfl | assumption):wpAny M A (storeName X.env x u) Q E s:=
 nV I hN hi hx r (fun s' I' _=>h s' I') hf
theorem Inv.call'{s':Shared}{ch:List Addr}(I:Inv X pins σ H s)(ho:s'.os=s.os)(u:Un (jG X.stack) ch H H' s.heap s'.heap)(hok:HOk X.prog X.w H' s'.heap)(hg:AllBare s'.gens)
  (hch:∀ b∈ch,(b∈X.ex∨X.s₀.heap.objs.size≤b)∧b≠X.env.locals∧(∀ x c,X.env.cells.lookup x=some c→c≠b)∧∀ p∈X.pn++pins,p.1≠b):Inv X pins σ H' s':=by
 obtain⟨h',g',d',t',o'⟩:=s'
 have e:o'=s.os:=ho
 subst e;exact I.call (g':=g') (t':=t') (d':=d') u hok hg hch
end
abbrev XK:=Value→Option Addr→Hp→Prop
abbrev St:=List (Option V)
abbrev VK:=V→Hp→Prop
abbrev TE:=St→Hp→VK→Prop
abbrev TT:=St→Hp→(Bool→Hp→Prop)→Prop
abbrev TA:=St→Hp→(List V→Hp→Prop)→Prop
set_option genInjectivity false in
set_option genSizeOf false in
structure dR where
 nx:St→Hp→Prop
 rt:VK
 bk:St→Hp→Prop:=fun _ _=>False
 ct:St→Hp→Prop:=fun _ _=>False
abbrev TS:=dR→St→Hp→Prop
def EP(X:Cx)(pins:List (Addr × Obj))(σ : St)(Q:VK)(u:Value)(s':Shared):Prop:=∃ v H',Inv X pins σ H' s'∧RelV v u∧Q v H'
def TP(X:Cx)(pins:List (Addr × Obj))(σ : St)(Q:Bool→Hp→Prop)(b:Bool)(s':Shared):Prop:=∃ H',Inv X pins σ H' s'∧Q b H'
def AP(X:Cx)(pins:List (Addr × Obj))(σ : St)(Q:List V→Hp→Prop)(us:List Value)(s':Shared):Prop:=∃ vs H',Inv X pins σ H' s'∧Vals vs us∧Q vs H'
def SP(X:Cx)(pins:List (Addr × Obj))(D:dR)(f:Flow)(s':Shared):Prop:=
 match f with
 | .next=>∃ σ' H',Inv X pins σ' H' s'∧D.nx σ' H'
 | .brk=>∃ σ' H',Inv X pins σ' H' s'∧D.bk σ' H'
 | .cont=>∃ σ' H',Inv X pins σ' H' s'∧D.ct σ' H'
 | .ret u=>∃ v σ' H',Inv X pins σ' H' s'∧RelV v u∧D.rt v H'
def PE(X:Cx)(e:Expr)(t:TE):Prop:=
 ∀ (pins:List (Addr × Obj)) (s:Shared) (σ : St) (H:Hp) (Q:VK),Inv X pins σ H s→t σ H Q→wpAny (model X.prog X.w) X.A (eval e X.env) (EP X pins σ Q) X.xe s
def PT(X:Cx)(e:Expr)(t:TT):Prop:=
 ∀ (pins:List (Addr × Obj)) (s:Shared) (σ : St) (H:Hp) (Q:Bool→Hp→Prop),Inv X pins σ H s→t σ H Q→wpAny (model X.prog X.w) X.A (isTrue e X.env (eval e X.env)) (TP X pins σ Q) X.xe s
def PW(X:Cx)(e:Expr)(t:TT):Prop:=
 ∀ (whole:Sem Value) (pins:List (Addr × Obj)) (s:Shared) (σ : St) (H:Hp) (Q:Bool→Hp→Prop),Inv X pins σ H s→t σ H Q→wpAny (model X.prog X.w) X.A (isTrue e X.env whole) (TP X pins σ Q) X.xe s
theorem PW.pt{X:Cx}{e:Expr}{t:TT}(h:PW X e t):PT X e t:=h _
def PA(X:Cx)(es:List Expr)(t:TA):Prop:=
 ∀ (pos:Pos) (pins:List (Addr × Obj)) (s:Shared) (σ : St) (H:Hp) (Q:List V→Hp→Prop),Inv X pins σ H s→t σ H Q→wpAny (model X.prog X.w) X.A (spliced (backTo pos (starEach es X.env))) (AP X pins σ Q) X.xe s
def PS(X:Cx)(st:Stmt)(t:TS):Prop:=
 ∀ (pins:List (Addr × Obj)) (s:Shared) (σ : St) (H:Hp) (D:dR),Inv X pins σ H s→t D σ H→wpAny (model X.prog X.w) X.A (exec st X.env) (SP X pins D) X.xe s
def PSs(X:Cx)(st:List Stmt)(t:TS):Prop:=
 ∀ (pins:List (Addr × Obj)) (s:Shared) (σ : St) (H:Hp) (D:dR),Inv X pins σ H s→t D σ H→wpAny (model X.prog X.w) X.A (execs st X.env) (SP X pins D) X.xe s
theorem bf{α : Type}{t:Sem α}{Q Q':α→Shared→Prop}{M:Model}{A:Around}{E:Value→Shared→Prop}{s:Shared}(h:wpAny M A t Q E s)(hQ:∀ a s,Q a s→Q' a s):wpAny M A t Q' E s:=wpAny_mono h hQ fun _ _ x=>x
section
variable{X:Cx}
def Av(i:Nat):TE:=fun σ H Q=>∃ v,σ[i]? = some (some v)∧Q v H
def tC(v:V):TE:=fun _ H Q=>Q v H
theorem Du{i:Nat}{x:Str}{pos:Pos}(hN:X.N[i]? = some x)(hv:am X.env.scope x)(hd:(x == ("__debug__" : Str))=false:=by decide) (hcd:(x == ("__classdict__" : Str))=false:=by decide):PE X (.Name x pos) (Av i):=by
 intro pins s σ H Q I h
 obtain⟨v,e,h⟩:=h
 obtain⟨m,hn,hl⟩:=I.loc
 obtain⟨u,r,l⟩:=hl i x v hN e hv
 have fin:EP X pins σ Q u s:=⟨v,H,I,r,h⟩
 rcases l with ⟨hk,hm⟩ | ⟨hk,c,hc,hcell⟩
 ·exact wpAny_Name (wpAny_loadName_local I.ok.kind hk hn hm fin) hd
 ·rcases hk with hk | hk
  ·exact wpAny_Name (wpAny_loadName_cell I.ok.kind hk hc hcell fin) hd
  ·exact wpAny_Name (wpAny_loadName_free I.ok.kind hk hc hcell fin hcd) hd
theorem ae{i j pos}:PE X (.Constant (.int i) j pos) (tC (.int i)):=fun _ _ _ H _ I h=>wpAny_Constant_int ⟨.int i,H,I.tok _,⟨_,rfl⟩,h⟩
theorem fg{b j pos}:PE X (.Constant (.bool b) j pos) (tC (.bl b)):=fun _ _ _ H _ I h=>Constant_bool ⟨.bl b,H,I,rfl,h⟩
theorem gG{j pos}:PE X (.Constant .none j pos) (tC .non):=fun _ _ _ H _ I h=>Constant_none ⟨.non,H,I,rfl,h⟩
theorem aw{x j pos}:PE X (.Constant (.str x) j pos) (tC (.str x)):=fun _ _ _ H _ I h=>Calls.Constant_str ⟨.str x,H,I.tok _,⟨_,rfl⟩,h⟩
def Gl(X:Cx)(x:Str):Prop:=X.env.kindOf x=some .globalImplicit
theorem vSs{s:Stmt}{x:Str}(h:(L2.defScope s).names.lookup x=some .local):am (L2.defScope s) x:=Or.inl h
theorem vLl{s:Stmt}{x:Str}(h:(L2.defScope s).names.lookup x=some .local):aP (L2.defScope s) x:=Or.inl h
theorem vGg{s:Stmt}{x:Str}(h:(L2.defScope s).names.lookup x=some .globalImplicit):(L2.defScope s).names.lookup x=some .globalImplicit:=h
theorem mV{E:Value→Shared→Prop}{pins:List (Addr × Obj)}{s:Shared}{σ : St}{H:Hp}{x:Str}{u:Value}{pos:Pos}{Q:Value→Shared→Prop}(I:Inv X pins σ H s)(hg:Gl X x)(hm:X.mg x=some u)(h:Q u s)
  (hd:(x == ("__debug__" : Str))=false:=by decide):wpAny (model X.prog X.w) X.A (eval (.Name x pos) X.env) Q E s:=
 Calls.Name_function_global I.ok.kind hg (Calls.loadGlobal_global (by rw[I.ok.glob]; exact I.mod.glob.keeps I.bk) hm h) hd
theorem ig{E:Value→Shared→Prop}{pins:List (Addr × Obj)}{s:Shared}{σ : St}{H:Hp}{x:Str}{u:Value}{pos:Pos}{Q:Value→Shared→Prop}(I:Inv X pins σ H s)(hg:Gl X x)(hm:X.mg x=none)(hv:bootBuiltins x=some u)(h:Q u s)
  (hn:x ≠ "__name__" := by decide) (hd:(x == ("__debug__" : Str))=false:=by decide):wpAny (model X.prog X.w) X.A (eval (.Name x pos) X.env) Q E s:=by
 obtain⟨mb,h1,h2⟩:=I.mod.blt
 exact Calls.Name_function_global I.ok.kind hg (Calls.loadGlobal_builtin (by rw[I.ok.glob]; exact I.mod.glob.keeps I.bk) hm (by rw[I.ok.blt]; exact h1.keeps I.bk) ((h2 x hn).trans hv) h) hd
theorem CD{x:Str}{v:V}{u:Value}{pos:Pos}(hg:Gl X x)(hm:X.mg x=some u)(r:RelV v u)(hd:(x == ("__debug__" : Str))=false:=by decide):PE X (.Name x pos) (tC v):=
 fun _ _ _ H _ I h=>mV I hg hm ⟨v,H,I,r,h⟩ hd
theorem C2{x:Str}{v:V}{u:Value}{pos:Pos}(hg:Gl X x)(hm:X.mg x=none)(hv:bootBuiltins x=some u)(r:RelV v u)(hn:x ≠ "__name__" := by decide) (hd:(x == ("__debug__" : Str))=false:=by decide):PE X (.Name x pos) (tC v):=
 fun _ _ _ H _ I h=>ig I hg hm hv ⟨v,H,I,r,h⟩ hn hd
variable{a b:Expr}{ta tb:TE}{pos:Pos}
def tB(t:TE):TT:=fun σ H Q=>t σ H fun x H1=>∃ c,x = .bl c∧Q c H1
theorem dC{e:Expr}{t:TE}(h:PE X e t)(he:∀ whole,isTrue e X.env whole=(do let v ← whole; standAt e.pos; holding [v] (truthy v)):=by intro _; rfl):PT X e (tB t):=by
 intro pins s σ H Q I hw
 refine isTrue_plain (bf (h pins s σ H _ I hw) fun v s1 ⟨x,H1,I1,r1,q1⟩=>?_) (he _)
 obtain⟨d,rfl,q⟩:=q1
 cases r1;exact wpAny_truthy_bool ⟨H1,I1,q⟩
variable{tA tB':TT}{rest:List Expr}
def DB(t u:TT):TT:=fun σ H Q=>t σ H fun c H1=>if c=true then u σ H1 Q else Q false H1
def Gp(t u:TT):TT:=fun σ H Q=>t σ H fun c H1=>if c=true then Q true H1 else u σ H1 Q
def FD(t:TT):TT:=fun σ H Q=>t σ H fun c H1=>Q (!c) H1
theorem gW(ha:PT X a tA):PW X (.BoolOp .And [a] pos) tA:=by
 intro wh pins s σ H Q I h
 refine isTrue_and (bf (ha pins s σ H Q I h) fun c s1 e=>?_)
 cases c with
 | true=>exact isTrue_and_nil e
 | false=>exact e
theorem g_(ha:PT X a tA):PW X (.BoolOp .Or [a] pos) tA:=by
 intro wh pins s σ H Q I h
 refine isTrue_or (bf (ha pins s σ H Q I h) fun c s1 e=>?_)
 cases c with
 | false=>exact isTrue_or_nil e
 | true=>exact e
theorem gh(ha:PT X a tA)(hb:PW X (.BoolOp .And (b::rest) pos) tB'):PW X (.BoolOp .And (a::b::rest) pos) (DB tA tB'):=by
 intro wh pins s σ H Q I h
 refine isTrue_and (bf (ha pins s σ H _ I h) fun c s1 ⟨H1,I1,q1⟩=>?_)
 cases c with
 | true=>exact hb wh pins s1 σ H1 Q I1 q1
 | false=>exact⟨H1,I1,q1⟩
theorem gS(ha:PT X a tA)(hb:PW X (.BoolOp .Or (b::rest) pos) tB'):PW X (.BoolOp .Or (a::b::rest) pos) (Gp tA tB'):=by
 intro wh pins s σ H Q I h
 refine isTrue_or (bf (ha pins s σ H _ I h) fun c s1 ⟨H1,I1,q1⟩=>?_)
 cases c with
 | true=>exact⟨H1,I1,q1⟩
 | false=>exact hb wh pins s1 σ H1 Q I1 q1
theorem fm(ha:PT X a tA):PT X (.UnaryOp .Not a pos) (FD tA):=by
 intro pins s σ H Q I h
 exact isTrue_not (ha pins s σ H (fun c H1=>Q (!c) H1) I h)
def BQ(ta tb:TE):TE:=fun σ H Q=>ta σ H fun x H1=>∃ c,x = .bl c∧if c=true then tb σ H1 Q else Q (.bl false) H1
def Bc(ta:TE):TE:=fun σ H Q=>ta σ H fun x H1=>∃ c,x = .bl c∧Q (.bl (!c)) H1
theorem EJ{op}{t:TE}(h:PE X a t):PE X (.BoolOp op [a] pos) t:=fun pins s σ H Q I hw=>BoolOp_one (h pins s σ H Q I hw)
theorem Fu(ha:PE X a ta)(hb:PE X (.BoolOp .And (b::rest) pos) tb):PE X (.BoolOp .And (a::b::rest) pos) (BQ ta tb):=by
 intro pins s σ H Q I h
 refine BoolOp_and (bf (ha pins s σ H _ I h) fun v s1 ⟨x,H1,I1,r1,q1⟩=>?_)
 obtain⟨c,rfl,q1⟩:=q1
 cases r1;refine wpAny_truthy_bool ?_
 cases c with
 | true=>exact hb pins s1 σ H1 Q I1 q1
 | false=>exact⟨.bl false,H1,I1,rfl,q1⟩
theorem En(ha:PE X a ta):PE X (.UnaryOp .Not a pos) (Bc ta):=by
 intro pins s σ H Q I h
 refine UnaryOp_ (bf (ha pins s σ H _ I h) fun v s1 ⟨x,H1,I1,r1,q1⟩=>?_)
 obtain⟨c,rfl,q1⟩:=q1
 cases r1;exact not_of (wpAny_truthy_bool ⟨.bl (!c),H1,I1,rfl,q1⟩)
def Gf(t:TT)(ta tb:TE):TE:=fun σ H Q=>t σ H fun c H1=>if c=true then ta σ H1 Q else tb σ H1 Q
theorem qB{c:Expr}(hc:PT X c tA)(ha:PE X a ta)(hb:PE X b tb):PE X (.IfExp c a b pos) (Gf tA ta tb):=by
 intro pins s σ H Q I h
 refine wpAny_IfExp (bf (hc pins s σ H _ I h) fun d s1 ⟨H1,I1,q1⟩=>?_)
 cases d with
 | true=>exact ha pins s1 σ H1 Q I1 q1
 | false=>exact hb pins s1 σ H1 Q I1 q1
end
def SqL(K:PySem.W.Frag)(H:Hp)(a:Addr)(xs:List V):Prop:=
 Rd H a (.lst xs)∨
  ∃ (o:Obj) (its:Array Value) (n:Nat),K.lookup a=some o∧o.cls = .type "list" ∧ o.dict=none∧o.data = .seq its n∧its.size≤sizeLine∧Vals xs its.toList
def SqT(K:PySem.W.Frag)(H:Hp)(a:Addr)(xs:List V):Prop:=
 Rd H a (.tup xs)∨
  ∃ (o:Obj) (its:Array Value) (n:Nat),K.lookup a=some o∧o.cls = .type "tuple" ∧ o.data = .seq its n∧its.size≤sizeLine∧Vals xs its.toList
def IH:Value→Option V
 | .none=>some .non
 | .bool b=>some (.bl b)
 | .int i _=>some (.int i)
 | .str x _=>some (.str x)
 | .bytes b _=>some (.byt b)
 | .float b _=>some (.flt b)
 | .ref a=>some (.ref a)
 | .type n=>some (.ty n)
 | _=>none
theorem RelV.abs{x:V}{u:Value}(r:RelV x u):IH u=some x:=by
 cases x with
 | non=>cases r; rfl
 | bl _=>cases r; rfl
 | int _=>obtain⟨t,rfl⟩:=r; rfl
 | str _=>obtain⟨t,rfl⟩:=r; rfl
 | byt _=>obtain⟨t,rfl⟩:=r; rfl
 | flt _=>obtain⟨t,rfl⟩:=r; rfl
 | ref _=>cases r; rfl
 | ty _=>cases r; rfl
theorem RelV.inj{x y:V}{u:Value}(r:RelV x u)(q:RelV y u):x=y:=Option.some.inj (r.abs.symm.trans q.abs)
theorem Vals.inj:∀ {xs ys:List V} {us:List Value},Vals xs us→Vals ys us→xs=ys
 | _,_,_,.nil,.nil=>rfl
 | _,_,_,.cons r t,.cons r' t'=>by rw[r.inj r',Vals.inj t t']
section
variable{X:Cx}{pins:List (Addr × Obj)}{σ : St}{H:Hp}{s:Shared}{a:Addr}{xs ys:List V}
theorem SqL.of{K:PySem.W.Frag}(h:H a=some (.lst xs)):SqL K H a xs:=.inl (.inl h)
theorem SqT.of{K:PySem.W.Frag}(h:H a=some (.tup xs)):SqT K H a xs:=.inl (.inl h)
theorem Inv.list(I:Inv X pins σ H s)(h:SqL X.K H a xs):∃ its:List Value,Vals xs its∧PlainL s.heap a its.toArray∧xs.length≤sizeLine:=by
 rcases h with h | ⟨o,its,n,hk,hc,hd,hs,hz,r⟩
 ·obtain⟨z,its,n,r,e⟩:=h.ok I.hok
  exact⟨its,r,⟨_,n,e,rfl,rfl,rfl⟩,z⟩
 ·refine⟨its.toList,r,⟨o,n,I.kIn a o hk,hc,hd,by simpa using hs⟩,?_⟩
  have e:=r.length;simp only[Array.length_toList]at e
  omega
theorem Inv.tuple(I:Inv X pins σ H s)(h:SqT X.K H a xs):∃ its:List Value,Vals xs its∧IsTup s.heap a its.toArray∧xs.length≤sizeLine:=by
 rcases h with h | ⟨o,its,n,hk,hc,hs,hz,r⟩
 ·obtain⟨z,its,r,p⟩:=h.ok I.hok
  exact⟨its,r,p.tup,z⟩
 ·refine⟨its.toList,r,⟨o,I.kIn a o hk,hc,n,by simpa using hs⟩,?_⟩
  have e:=r.length;simp only[Array.length_toList]at e
  omega
theorem Inv.list_inj(I:Inv X pins σ H s)(h:SqL X.K H a xs)(h':SqL X.K H a ys):xs=ys:=by
 obtain⟨its,r,⟨o,n,e,_,_,d⟩,_⟩:=I.list h
 obtain⟨its',r',⟨o',n',e',_,_,d'⟩,_⟩:=I.list h'
 rw[e]at e'; cases e'
 rw[d]at d'
 injection d' with d1 _
 have:its=its':=by simpa using congrArg Array.toList d1
 subst this;exact r.inj r'
theorem Inv.tuple_inj(I:Inv X pins σ H s)(h:SqT X.K H a xs)(h':SqT X.K H a ys):xs=ys:=by
 obtain⟨its,r,⟨o,e,_,n,d⟩,_⟩:=I.tuple h
 obtain⟨its',r',⟨o',e',_,n',d'⟩,_⟩:=I.tuple h'
 rw[e]at e'; cases e'
 rw[d]at d'
 injection d' with d1 _
 have:its=its':=by simpa using congrArg Array.toList d1
 subst this;exact r.inj r'
end
abbrev Cx.wish (X:Cx) (E:Value→Shared→Prop):Cx:={ X with xe:=E }
abbrev Cx.nox (X:Cx):Cx:=X.wish fun _ _=>False
theorem Cx.Ok.wish{X:Cx}(ok:X.Ok)(E:Value→Shared→Prop):(X.wish E).Ok:=
 ⟨ok.mod,ok.kind,ok.glob,ok.blt,ok.above,ok.inj,ok.has,ok.cab,ok.hd,ok.frames,ok.stk,ok.exf,ok.bs,ok.bsz,ok.noex,ok.exfs,ok.funs,ok.frf⟩
theorem Cx.Ok.unwish{X:Cx}{E:Value→Shared→Prop}(ok:(X.wish E).Ok):X.Ok:=
 ⟨ok.mod,ok.kind,ok.glob,ok.blt,ok.above,ok.inj,ok.has,ok.cab,ok.hd,ok.frames,ok.stk,ok.exf,ok.bs,ok.bsz,ok.noex,ok.exfs,ok.funs,ok.frf⟩
section
variable{X:Cx}{pins:List (Addr × Obj)}{σ : St}{H:Hp}{s:Shared}{E:Value→Shared→Prop}
theorem Inv.wish(I:Inv X pins σ H s)(E:Value→Shared→Prop):Inv (X.wish E) pins σ H s:=⟨I.ok.wish E,I.os,I.bare,I.base,I.loc,I.cell,I.free,I.freeC,I.pin,I.hok,I.len⟩
theorem Inv.unwish(I:Inv (X.wish E) pins σ H s):Inv X pins σ H s:=⟨I.ok.unwish,I.os,I.bare,I.base,I.loc,I.cell,I.free,I.freeC,I.pin,I.hok,I.len⟩
theorem SP.unwish{D:dR}{f:Flow}{s':Shared}(h:SP (X.wish E) pins D f s'):SP X pins D f s':=by
 cases f with
 | next=>obtain⟨σ',H',I,q⟩:=h; exact⟨σ',H',I.unwish,q⟩
 | brk=>obtain⟨σ',H',I,q⟩:=h; exact⟨σ',H',I.unwish,q⟩
 | cont=>obtain⟨σ',H',I,q⟩:=h; exact⟨σ',H',I.unwish,q⟩
 | ret u=>obtain⟨v,σ',H',I,r,q⟩:=h; exact⟨v,σ',H',I.unwish,r,q⟩
theorem PSs.nox{st:List Stmt}{t:TS}(h:PSs X.nox st t):PSs X st t:=fun pins s σ H D I hw=>
 wpAny_mono (h pins s σ H D (I.wish _) hw) (fun _ _ q=>q.unwish) fun _ _ z=>False.elim z
end
section
variable{X:Cx}{st:Stmt}{rest:List Stmt}{t u:TS}{e:Expr}{te:TE}{pos:Pos}
def Bf:TS:=fun D σ H=>D.nx σ H
def A2(t u:TS):TS:=fun D σ H=>t { D with nx:=u D } σ H
theorem bu:PSs X [] Bf:=fun _ _ σ H _ I h=>wpAny_execs_nil ⟨σ,H,I,h⟩
theorem af(h1:PS X st t)(h2:PSs X rest u):PSs X (st::rest) (A2 t u):=by
 intro pins s σ H D I h
 refine wpAny_execs_cons (bf (h1 pins s σ H { D with nx:=u D } I h) fun f s1 q=>?_)
 cases f with
 | next=>
  obtain⟨σ',H',I',q⟩:=q
  exact h2 pins s1 σ' H' D I' q
 | ret v=>exact q
 | brk=>exact q
 | cont=>exact q
theorem ak(h1:PS X st t):PSs X [st] t:=by
 intro pins s σ H D I h
 refine wpAny_execs_cons (bf (h1 pins s σ H D I h) fun f s1 q=>?_)
 cases f with
 | next=>exact wpAny_execs_nil q
 | ret v=>exact q
 | brk=>exact q
 | cont=>exact q
theorem Inv.quiet{pins:List (Addr × Obj)}{σ : St}{H:Hp}{s:Shared}(I:Inv X pins σ H s):interactive X.env=false:=by simp[interactive,I.ok.kind]
def BK(te:TE):TS:=fun D σ H=>te σ H fun _ H1=>D.nx σ H1
theorem aD(he:PE X e te)(hs:swapsWith e none pos.line X.env=pure false:=by rfl):PS X (.Expr e pos) (BK te):=by
 intro pins s σ H D I h
 exact wpAny_Expr_any (bf (he pins s σ H _ I h) fun v s1 ⟨x,H1,I1,r1,q1⟩=>⟨σ,H1,I1,q1⟩) I.quiet hs
def FC(te:TE):TS:=fun D σ H=>te σ H D.rt
theorem aG(he:PE X e te):PS X (.Return (some e) pos) (FC te):=by
 intro pins s σ H D I h
 exact wpAny_Return_some (bf (he pins s σ H _ I h) fun v s1 ⟨x,H1,I1,r1,q1⟩=>⟨x,σ,H1,I1,r1,q1⟩)
def BF:TS:=fun D _ H=>D.rt .non H
theorem CF:PS X (.Return none pos) BF:=fun _ _ σ H _ I h=>wpAny_Return_none ⟨.non,σ,H,I,rfl,h⟩
def Ex(c:TT)(t u:TS):TS:=fun D σ H=>c σ H fun b H1=>if b=true then t D σ H1 else u D σ H1
theorem bd{c:Expr}{a b:List Stmt}{tc:TT}(hc:PT X c tc)(ha:PSs X a t)(hb:PSs X b u):PS X (.If c a b pos) (Ex tc t u):=by
 intro pins s σ H D I h
 refine wpAny_If (bf (hc pins s σ H _ I h) fun d s1 ⟨H1,I1,q1⟩=>?_)
 cases d with
 | true=>exact ha pins s1 σ H1 D I1 q1
 | false=>exact hb pins s1 σ H1 D I1 q1
def yJ:TS:=fun _ _ _=>False
theorem lN:PS X st yJ:=fun _ _ _ _ _ _ h=>h.elim
theorem ke{sts:List Stmt}:PSs X sts yJ:=fun _ _ _ _ _ _ h=>h.elim
end
abbrev TG:=V→St→Hp→(St→Hp→Prop)→Prop
abbrev ik:=List V→St→Hp→(St→Hp→Prop)→Prop
def PG(X:Cx)(target:Expr)(t:TG):Prop:=
 ∀ (pins:List (Addr × Obj)) (s:Shared) (σ : St) (H:Hp) (v:V) (u:Value) (Q:St→Hp→Prop),Inv X pins σ H s→RelV v u→t v σ H Q→
  wpAny (model X.prog X.w) X.A (assign target X.env u) (fun _ s'=>∃ σ' H',Inv X pins σ' H' s'∧Q σ' H') X.xe s
def PGs(X:Cx)(ts:List Expr)(t:ik):Prop:=
 ∀ (pins:List (Addr × Obj)) (s:Shared) (σ : St) (H:Hp) (vs:List V) (us:List Value) (Q:St→Hp→Prop),Inv X pins σ H s→Vals vs us→t vs σ H Q→
  wpAny (model X.prog X.w) X.A (assignInOrder ((assignEach ts X.env).map (·.2)) us) (fun _ s'=>∃ σ' H',Inv X pins σ' H' s'∧Q σ' H') X.xe s
abbrev rZ:=V→V→V→Hp→(Hp→Prop)→Prop
def PSet(X:Cx)(t:rZ):Prop:=
 ∀ (pins:List (Addr × Obj)) (s:Shared) (σ : St) (H:Hp) (o i v:V) (ov iv u:Value) (Q:Hp→Prop),Inv X pins σ H s→RelV o ov→RelV i iv→RelV v u→t o i v H Q→
  wpAny (model X.prog X.w) X.A (setItem ov iv u) (fun _ s'=>∃ H',Inv X pins σ H' s'∧Q H') X.xe s
section
variable{X:Cx}{pos:Pos}
def iF(i:Nat):TG:=fun v σ H Q=>Q (σ.set i (some v)) H
theorem Cp{i:Nat}{x:Str}(hN:X.N.Nodup)(hi:X.N[i]? = some x)(hx:aP X.env.scope x)(hf:X.fn x=true∨X.env.scope.names.lookup x=some .local:=by first | exact .inl rfl | exact .inr rfl | assumption):PG X (.Name x pos) (iF i):=by
 intro pins s σ H v u Q I r h
 exact wpAny_assign_Name (su I hN hi hx r (fun s' I'=>⟨_,H,I',h⟩) hf)
def v7:ik:=fun vs σ H Q=>vs=[]∧Q σ H
def pB(t:TG)(u:ik):ik:=fun vs σ H Q=>∃ v r,vs=v::r∧t v σ H fun σ' H'=>u r σ' H' Q
theorem fU:PGs X [] v7:=by
 intro pins s σ H vs us Q I r h
 obtain⟨e,h⟩:=h
 subst e
 cases r;exact assignInOrder_nil ⟨σ,H,I,h⟩
theorem cz{e:Expr}{es:List Expr}{t:TG}{u:ik}(h1:PG X e t)(h2:PGs X es u)
  (hs:(assignEach (e::es) X.env).map (·.2)=assign e X.env::(assignEach es X.env).map (·.2):=by rfl):PGs X (e::es) (pB t u):=by
 intro pins s σ H vs us Q I r h
 obtain⟨v,vr,e1,h⟩:=h
 subst e1
 cases r with
 | cons r rr=>
  rw[hs];refine assignInOrder_cons (bf (h1 pins s σ H _ _ _ I r h) fun _ s1 ⟨σ1,H1,I1,q1⟩=>?_)
  exact h2 pins s1 σ1 H1 _ _ Q I1 rr q1
def vW(K:PySem.W.Frag)(n:Nat)(t:ik):TG:=fun v σ H Q=>∃ a xs,v = .ref a∧SqT K H a xs∧xs.length=n∧t xs σ H Q
theorem C7{es:List Expr}{k:Nat}{t:ik}{n:Nat}(hc:X.calm=true)(h:PGs X es t)
  (hn:(assignEach es X.env).length=n:=by rfl) (hst:(assignEach es X.env).findIdx? (·.1)=none:=by rfl):PG X (.Tuple es k pos) (vW X.K n t):=by
 intro pins s σ H v u Q I r hw
 obtain⟨a,xs,e1,hq,hl,hw⟩:=hw
 subst e1
 cases r;obtain⟨its,rv,ht,hz⟩:=I.tuple hq
 refine assign_Tuple_tuple (I.ok.hd hc) ht (by simp[hn,← hl,rv.length]) hst fun h' hx=>?_
 have I1:Inv X pins σ H { s with heap:=h' }:=I.kept (t':=s.toks) fun b o e=>hx b o (Nat.ne_of_lt (Heap.lt_size e)) e
 exact h pins _ σ H xs _ Q I1 (by simpa using rv) hw
def EK(to ti:TE)(t:rZ):TG:=fun v σ H Q=>to σ H fun o H1=>ti σ H1 fun i H2=>t o i v H2 fun H3=>Q σ H3
theorem qM{o i:Expr}{to ti:TE}{t:rZ}(ho:PE X o to)(hi:PE X i ti)(hs:PSet X t)
  (ha:∀ v,assign (.Subscript o i pos) X.env v=(do
   let ov ← holding [v] (eval o X.env)
   let iv ← holding [v,ov] (eval i X.env)
   standAt pos
   holding [v,ov,iv] (setItem ov iv v)
   release [v,ov,iv] []):=by intro _; rfl):PG X (.Subscript o i pos) (EK to ti t):=by
 intro pins s σ H v u Q I r h
 rw[ha];refine wpAny_bind (wpAny_holding (bf (ho pins s σ H _ I h) fun ov s1 ⟨x,H1,I1,r1,q1⟩=>?_))
 refine wpAny_bind (wpAny_holding (bf (hi pins s1 σ H1 _ I1 q1) fun iv s2 ⟨y,H2,I2,r2,q2⟩=>?_))
 refine wpAny_bind (wpAny_standAt (wpAny_bind (wpAny_holding (bf (hs pins s2 σ H2 x y v ov iv u _ I2 r1 r2 r q2) fun _ s3 ⟨H3,I3,q3⟩=>?_))))
 exact wpAny_release ⟨σ,H3,I3,q3⟩
def pK(te:TE)(g:TG):TS:=fun D σ H=>te σ H fun x H1=>g x σ H1 D.nx
theorem iV{tg e:Expr}{te:TE}{g:TG}(he:PE X e te)(hg:PG X tg g)(hs:swapsWithSole [tg] e pos.line X.env=pure false:=by rfl)(hw:swappedStores [tg] e X.env=pure none:=by rfl)
  (h1:(assignEach [tg] X.env).map (·.2)=[assign tg X.env]:=by rfl):PS X (.Assign [tg] e pos) (pK te g):=by
 intro pins s σ H D I h
 refine wpAny_Assign_stores (bf (he pins s σ H _ I h) fun v s1 ⟨x,H1,I1,r1,q1⟩=>?_) hs hw
 rw[h1];exact bf (hg pins s1 σ H1 x v _ I1 r1 q1) fun _ s2 q=>q
theorem E2{i:Nat}{x:Str}{e:Expr}{te:TE}{pos':Pos}(hN:X.N.Nodup)(hi:X.N[i]? = some x)(hx:aP X.env.scope x)(he:PE X e te)(hs:swapsWith e (some (.Name x pos')) pos.line X.env=pure false:=by rfl)(hf:X.fn x=true∨X.env.scope.names.lookup x=some .local:=by first | exact .inl rfl | exact .inr rfl | assumption) :
  PS X (.Assign [.Name x pos'] e pos) (pK te (iF i)):=by
 intro pins s σ H D I h
 refine wpAny_Assign_Name (bf (he pins s σ H _ I h) fun v s1 ⟨y,H1,I1,r1,q1⟩=>?_) hs
 exact su I1 hN hi hx r1 (fun s2 I2=>⟨_,H1,I2,q1⟩) hf
end
section
variable{X:Cx}{pos:Pos}
def E7(c:TT)(tb:TS):TS:=fun D σ H=>∃ W:Nat→St→Hp→Prop,(∃ m,W m σ H)∧∀ m σ H,W m σ H→
 c σ H fun b H1=>if b=true then ∃ N:St→Hp→Prop,(∀ σ' H',N σ' H'→∃ m',m'<m∧W m' σ' H')∧tb { D with nx:=N,ct:=N,bk:=D.nx } σ H1 else D.nx σ H1
theorem rz{c:Expr}{body:List Stmt}{tc:TT}{tb:TS}(hp:PassesOwn (model X.prog X.w) X.A X.env X.xe)(hc:PT X c tc)(hb:PSs X body tb):PS X (.While c body [] pos) (E7 tc tb):=by
 intro pins s σ H D I h
 obtain⟨W,⟨m0,w0⟩,turn⟩:=h
 refine wpAny_While (codeAny_whileLoop (fun n s'=>∃ σ' H',Inv X pins σ' H' s'∧W n σ' H') ?_ m0 ⟨σ,H,I,w0⟩)
 rintro n s1 ⟨σ1,H1,I1,w1⟩
 refine wpAny_passesOwn hp (bf (hc pins s1 σ1 H1 _ I1 (turn n σ1 H1 w1)) fun b s2 ⟨H2,I2,q2⟩=>?_)
 cases b with
 | true=>
  obtain⟨N,hN,q2⟩:=q2
  rw[if_pos rfl];refine wpAny_passesOwn hp (bf (hb pins s2 σ1 H2 _ I2 q2) fun f s3 q3=>?_)
  cases f with
  | next=>
   obtain⟨σ3,H3,I3,n3⟩:=q3
   obtain⟨m',hm,w3⟩:=hN σ3 H3 n3
   exact⟨m',hm,σ3,H3,I3,w3⟩
  | cont=>
   obtain⟨σ3,H3,I3,n3⟩:=q3
   obtain⟨m',hm,w3⟩:=hN σ3 H3 n3
   exact⟨m',hm,σ3,H3,I3,w3⟩
  | brk=>exact q3
  | ret v=>exact q3
 | false=>
  rw[if_neg Bool.false_ne_true];exact wpAny_execs_nil ⟨σ1,H2,I2,q2⟩
end
set_option genInjectivity false in
set_option genSizeOf false in
structure It where
 go:Nat→Hp→Prop
 yld:Nat→Hp→V→Hp→Prop
 stop:Nat→Hp→Prop
def ie(X:Cx)(pins:List (Addr × Obj))(H:Hp)(b:Addr):Prop:=
 H b=none∧b≠X.env.locals∧b∉X.fs∧(b∈X.ex∨X.s₀.heap.objs.size≤b)∧(∀ x c,X.env.cells.lookup x=some c→c≠b)∧∀ p∈X.pn++pins,p.1≠b
theorem Inv.fpOk{X:Cx}{pins:List (Addr × Obj)}{σ : St}{H H':Hp}{s:Shared}{b:Addr}(I:Inv X pins σ H s)(hb:s.heap.objs.size≤b)(hn:H' b=none):ie X pins H' b:=by
 refine⟨hn,Nat.ne_of_gt (Nat.lt_of_lt_of_le I.lt hb),I.nofs hb,.inr (Nat.le_trans I.sz hb),fun x c e z=>?_,fun p hp z=>?_⟩
 ·obtain⟨v,q⟩:=I.cell x c e
  exact absurd (Nat.lt_of_lt_of_le q.lt (by rw[z]; exact hb)) (Nat.lt_irrefl _)
 ·exact absurd (Nat.lt_of_lt_of_le (Heap.lt_size (I.pin p hp).1) (by rw[z]; exact hb)) (Nat.lt_irrefl _)
structure jP (P:Program) (w:World) (K:PySem.W.Frag) (tg:Expr) (J:It) (fp:List Addr) (it:Addr) (tn:Nat→Heap→Prop):Prop where
 mem:it∈fp
 obj:∀ i h,tn i h→∀ b∈fp,∃ o,h.get? b=some o∧∀ v,o.data ≠ .cell v
 keep:∀ i h h',tn i h→(∀ b∈fp,∀ o,h.get? b=some o→h'.get? b=some o)→tn i h'
 item:∀ (X:Cx),X.prog=P→X.w=w→X.K=K→X.calm=true→∀ (i:Nat) (pins:List (Addr × Obj)) (s:Shared) (σ : St) (H:Hp) (E:Value→Shared→Prop),Inv X pins σ H s→(∀ b∈fp,ie X pins H b)→tn i s.heap→J.go i H→
  wpAny (model P w) X.A (pyNext (.ref it)) (fun r s1=>∃ u,r=some u∧
   wpAny (model P w) X.A (letOwnedTupleGo tg (.ref it) u) (fun _ s2=>∃ x H',Inv X pins σ H' s2∧RelV x u∧J.yld i H x H'∧tn (i+1) s2.heap∧∀ b∈fp,H' b=none) E s1) E s
 done:∀ (X:Cx),X.prog=P→X.w=w→X.K=K→X.calm=true→∀ (i:Nat) (pins:List (Addr × Obj)) (s:Shared) (σ : St) (H:Hp) (E:Value→Shared→Prop),Inv X pins σ H s→(∀ b∈fp,ie X pins H b)→tn i s.heap→J.stop i H→
  wpAny (model P w) X.A (pyNext (.ref it)) (fun r s1=>r=none∧Inv X pins σ H s1) E s
 self:∀ (A:Around) (i:Nat) (s:Shared) (Q:Value→Shared→Prop) (E:Value→Shared→Prop),tn i s.heap→Q (.ref it) s→wpAny (model P w) A (pyIter (.ref it)) Q E s
abbrev TI:=St→Hp→(It→Hp→Prop)→Prop
def Gb(X:Cx)(pins:List (Addr × Obj))(σ : St)(tg:Expr)(R:It→Hp→Prop)(itv:Value)(s2:Shared):Prop:=
 ∃ (it:Addr) (fp:List Addr) (tn:Nat→Heap→Prop) (J:It) (H':Hp),itv = .ref it∧Inv X pins σ H' s2∧jP X.prog X.w X.K tg J fp it tn∧tn 0 s2.heap∧(∀ b∈fp,ie X pins H' b)∧R J H'
def PI(X:Cx)(tg iter:Expr)(wi:TI):Prop:=
 ∀ (pins:List (Addr × Obj)) (s:Shared) (σ : St) (H:Hp) (R:It→Hp→Prop),Inv X pins σ H s→wi σ H R→
  wpAny (model X.prog X.w) X.A (eval iter X.env) (fun v s1=>wpAny (model X.prog X.w) X.A (pyIter v) (Gb X pins σ tg R) X.xe s1) X.xe s
theorem pA{M:Model}{A:Around}{E:Value→Shared→Prop}{s:Shared}{tg:Expr}{it:Addr}{u:Value}{o:Obj}{n:String}{vs:Array Value}{Q:Unit→Shared→Prop}(ho:s.heap.get? it=some o)(hc:o.cls = .type n)(hd:o.data = .fields vs)
    (hn:["enumerate", "zip", "dict_itemiterator", "dict_reverseitemiterator", "odict_iterator", "itertools.zip_longest", "itertools.pairwise"].contains n=false) (hQ:Q () s):wpAny M A (letOwnedTupleGo tg (.ref it) u) Q E s:=by
  unfold letOwnedTupleGo
  cases tg <;> first
    | exact wpAny_pure hQ
    | (cases u <;> first
        | exact wpAny_pure hQ
        | (refine wpAny_bind (wpAny_load ho ?_)
           rw[hc,hd];show wpAny M A (if (["enumerate", "zip", "dict_itemiterator", "dict_reverseitemiterator", "odict_iterator", "itertools.zip_longest", "itertools.pairwise"].contains n&&vs[0]? == some (rawInt _))=true then _ else _) Q E s
           rw[if_neg (by intro h; rw[hn,Bool.false_and]at h; cases h)]
           exact wpAny_pure hQ))
def ma(K:PySem.W.Frag)(a:Addr):It:=
 ⟨fun i H=>∃ xs x,SqL K H a xs∧xs[i]? = some x,fun i H x H'=>H'=H∧∀ xs,SqL K H a xs→xs[i]? = some x,fun i H=>∃ xs,SqL K H a xs∧xs.length≤i⟩
def xP(K:PySem.W.Frag)(a:Addr):It:=
 ⟨fun i H=>∃ xs x,SqT K H a xs∧xs[i]? = some x,fun i H x H'=>H'=H∧∀ xs,SqT K H a xs→xs[i]? = some x,fun i H=>∃ xs,SqT K H a xs∧xs.length≤i⟩
def kS(lo:Int)(n:Nat):It:=⟨fun i _=>i<n,fun i H x H'=>H'=H∧x = .int (lo+i),fun i _=>n≤i⟩
theorem wL{P:Program}{w:World}{K:PySem.W.Frag}{tg:Expr}(a it:Addr):jP P w K tg (ma K a) [it] it (fun i h=>h.IsListIter it a i) where
 mem:=by simp
 obj:=fun i h st b hb=>by
  have e:b=it:=by simpa using hb
  subst e;obtain⟨o,e,c,d⟩:=st
  exact⟨o,e,fun v z=>by rw[d]at z; cases z⟩
 keep:=fun i h h' st k=>st.at fun o e=>k it (by simp) o e
 item:=by
  intro X hP hw hK hc i pins s σ H E I hf st hg
  subst hP hw hK;obtain⟨xs,x,hq,hx⟩:=hg
  obtain⟨its,rv,p,hz⟩:=I.list hq
  obtain⟨u,hu,ru⟩:=rv.get hx
  obtain⟨f0,f1,f2,f3,f4,f5⟩:=hf it (by simp)
  refine wpAny_pyNext_list_item st p.isList (x:=u) (by simpa using hu) fun h' st' sb=>?_
  have I1:Inv X pins σ H { s with heap:=h' }:=I.turned (t':=s.toks) (fun b o hb e=>(sb.2 b hb).trans e) f0 f1 f3 f4 f5
  obtain⟨o,e,c,d⟩:=id st'
  exact⟨u,rfl,pA (s:={ s with heap:=h' }) e c d (by decide) ⟨x,H,I1,ru,⟨rfl,fun ys hy=>by rw[I.list_inj hy hq]; exact hx⟩,st',fun b hb=>(hf b hb).1⟩⟩
 done:=by
  intro X hP hw hK hc i pins s σ H E I hf st hg
  subst hP hw hK;obtain⟨xs,hq,hx⟩:=hg
  obtain⟨its,rv,p,hz⟩:=I.list hq
  obtain⟨f0,f1,f2,f3,f4,f5⟩:=hf it (by simp)
  have hl:=rv.length;exact wpAny_pyNext_list_end (I.ok.hd hc) st p.isList (by simp; omega) fun h' eb=>⟨rfl,I.turned (t':=s.toks) (fun b o hb e=>eb b o hb e) f0 f1 f3 f4 f5⟩
 self:=fun _ _ _ _ _ st h=>wpAny_pyIter_listiter st h
theorem wn{P:Program}{w:World}{K:PySem.W.Frag}{tg:Expr}(a it:Addr):jP P w K tg (xP K a) [it] it (fun i h=>h.IsTupleIter it a i) where
 mem:=by simp
 obj:=fun i h st b hb=>by
  have e:b=it:=by simpa using hb
  subst e;obtain⟨o,e,c,d⟩:=st
  exact⟨o,e,fun v z=>by rw[d]at z; cases z⟩
 keep:=fun i h h' st k=>st.at fun o e=>k it (by simp) o e
 item:=by
  intro X hP hw hK hc i pins s σ H E I hf st hg
  subst hP hw hK;obtain⟨xs,x,hq,hx⟩:=hg
  obtain⟨its,rv,p,hz⟩:=I.tuple hq
  obtain⟨u,hu,ru⟩:=rv.get hx
  obtain⟨f0,f1,f2,f3,f4,f5⟩:=hf it (by simp)
  refine wpAny_pyNext_tuple_item st (show s.heap.IsTuple a its.toArray from p) (x:=u) (by simpa using hu) fun h' st' sb=>?_
  have I1:Inv X pins σ H { s with heap:=h' }:=I.turned (t':=s.toks) (fun b o hb e=>(sb.2 b hb).trans e) f0 f1 f3 f4 f5
  obtain⟨o,e,c,d⟩:=id st'
  exact⟨u,rfl,pA (s:={ s with heap:=h' }) e c d (by decide) ⟨x,H,I1,ru,⟨rfl,fun ys hy=>by rw[I.tuple_inj hy hq]; exact hx⟩,st',fun b hb=>(hf b hb).1⟩⟩
 done:=by
  intro X hP hw hK hc i pins s σ H E I hf st hg
  subst hP hw hK;obtain⟨xs,hq,hx⟩:=hg
  obtain⟨its,rv,p,hz⟩:=I.tuple hq
  obtain⟨f0,f1,f2,f3,f4,f5⟩:=hf it (by simp)
  have hl:=rv.length;exact wpAny_pyNext_tuple_end (I.ok.hd hc) st (show s.heap.IsTuple a its.toArray from p) (by simp; omega) fun h' eb=>⟨rfl,I.turned (t':=s.toks) (fun b o hb e=>eb b o hb e) f0 f1 f3 f4 f5⟩
 self:=fun _ _ _ _ _ st h=>wpAny_pyIter_tupleiter st h
theorem vv{P:Program}{w:World}{K:PySem.W.Frag}{tg:Expr}(it:Addr)(lo:Int)(n:Nat):jP P w K tg (kS lo n) [it] it (fun i h=>IsRangeIter h it (lo+(i:Nat) * 1) ((n:Int) - (i:Nat)) 1) where
 mem:=by simp
 obj:=fun i h st b hb=>by
  have e:b=it:=by simpa using hb
  subst e
  exact⟨_,st,fun v z=>by
   have z':Data.fields _=Data.cell v:=z
   cases z'⟩
 keep:=fun i h h' st k=>k it (by simp) _ st
 item:=by
  intro X hP hw hK hc i pins s σ H E I hf st hg
  subst hP hw hK;obtain⟨f0,f1,f2,f3,f4,f5⟩:=hf it (by simp)
  have W:=Walks.range (prog:=X.prog) (w:=X.w) (I.ok.hd hc) it lo 1 n;refine W.item i s _ _ hg st fun v h' tk hv st' kk=>?_
  obtain⟨t,rfl⟩:=hv
  have I1:Inv X pins σ H { s with heap:=h',toks:=tk }:=I.turned (fun b o hb e=>kk b o (by simpa using hb) e) f0 f1 f3 f4 f5
  refine⟨_,rfl,pA (s:={ s with heap:=h',toks:=tk }) (n := "range_iterator") st' rfl rfl (by decide) ⟨.int (lo+i),H,I1,⟨t,?_⟩,⟨rfl,rfl⟩,st',fun b hb=>(hf b hb).1⟩⟩
  rw[Int.mul_one]
 done:=by
  intro X hP hw hK hc i pins s σ H E I hf st hg
  subst hP hw hK;obtain⟨f0,f1,f2,f3,f4,f5⟩:=hf it (by simp)
  exact wpAny_pyNext_range_end (I.ok.hd hc) st (by have:n≤i:=hg; omega) fun h' eb=>⟨rfl,I.turned (t':=s.toks) (fun b o hb e=>eb b o hb e) f0 f1 f3 f4 f5⟩
 self:=fun _ _ _ _ _ st h=>wpAny_pyIter_rangeiter st h
section
variable{X:Cx}{tg:Expr}
def vF(K:PySem.W.Frag)(tl:TE):TI:=fun σ H R=>tl σ H fun x H1=>∃ a,x = .ref a∧(∃ xs,SqL K H1 a xs)∧R (ma K a) H1
def zi(K:PySem.W.Frag)(tl:TE):TI:=fun σ H R=>tl σ H fun x H1=>∃ a,x = .ref a∧(∃ xs,SqT K H1 a xs)∧R (xP K a) H1
theorem Cc{l:Expr}{tl:TE}(hl:PE X l tl):PI X tg l (vF X.K tl):=by
 intro pins s σ H R I h
 refine bf (hl pins s σ H _ I h) fun v s1 ⟨x,H1,I1,r1,q1⟩=>?_
 obtain⟨a,e,⟨xs,hq⟩,q⟩:=q1
 subst e
 cases r1;obtain⟨its,rv,p,hz⟩:=I1.list hq
 refine wpAny_pyIter_list p.isList ?_
 refine⟨s1.heap.objs.size,[s1.heap.objs.size],_,_,H1,rfl,I1.kept (t':=s1.toks) fun b o e=>Heap.get?_push_of_some _ e,wL a _,⟨_,Heap.get?_push_size _ rfl,rfl,rfl⟩,fun b hb=>?_,q⟩
 have e:b=s1.heap.objs.size:=by simpa using hb
 subst e;exact I1.fpOk (Nat.le_refl _) (I1.hok.fresh (Nat.le_refl _))
theorem DQ{l:Expr}{tl:TE}(hl:PE X l tl):PI X tg l (zi X.K tl):=by
 intro pins s σ H R I h
 refine bf (hl pins s σ H _ I h) fun v s1 ⟨x,H1,I1,r1,q1⟩=>?_
 obtain⟨a,e,⟨xs,hq⟩,q⟩:=q1
 subst e
 cases r1;obtain⟨its,rv,p,hz⟩:=I1.tuple hq
 refine wpAny_pyIter_tuple (show s1.heap.IsTuple a its.toArray from p) ?_
 refine⟨s1.heap.objs.size,[s1.heap.objs.size],_,_,H1,rfl,I1.kept (t':=s1.toks) fun b o e=>Heap.get?_push_of_some _ e,wn a _,⟨_,Heap.get?_push_size _ rfl,rfl,rfl⟩,fun b hb=>?_,q⟩
 have e:b=s1.heap.objs.size:=by simpa using hb
 subst e;exact I1.fpOk (Nat.le_refl _) (I1.hok.fresh (Nat.le_refl _))
theorem AZ{pins:List (Addr × Obj)}{σ : St}{H:Hp}{s:Shared}{R:It→Hp→Prop}{E:Value→Shared→Prop}{lo hi:Int}{t u v:Tok}{tk:Nat}(I:Inv X pins σ H s)(h1:-(2 ^ 62)≤lo)(h2:lo<2 ^ 62)(h3:-(2 ^ 62)≤hi)(h4:hi<2 ^ 62)
  (q:R (kS lo (hi - lo).toNat) H):wpAny (model X.prog X.w) X.A (pyIter (.ref s.heap.objs.size)) (Gb X pins σ tg R) E { s with heap:=s.heap.push { cls:=.type "range", data:=.fields #[.int lo t,.int hi u,.int 1 v] },toks:=tk }:=by
 refine wpAny_pyIter_range (IsRange.new ..) (small_one h1 h2 h3 h4) ?_
 have I1:Inv X pins σ H { s with heap:=s.heap.push { cls:=.type "range", data:=.fields #[.int lo t,.int hi u,.int 1 v] },toks:=tk }:=I.kept fun b o e=>Heap.get?_push_of_some _ e
 refine⟨(s.heap.push { cls:=.type "range", data:=.fields #[.int lo t,.int hi u,.int 1 v] }).objs.size,[(s.heap.push { cls:=.type "range", data:=.fields #[.int lo t,.int hi u,.int 1 v] }).objs.size],_,_,H,rfl,
  I1.kept (t':=tk) fun b o e=>Heap.get?_push_of_some _ e,vv _ lo (hi - lo).toNat,?_,fun b hb=>?_,q⟩
 ·have e1:lo+((0:Nat):Int) * 1=lo:=by simp
  have e2:(((hi - lo).toNat:Nat):Int) - ((0:Nat):Int)=Builtin.Range.rangeSize lo hi 1:=by rw[rangeSize_one]; split <;> omega
  show IsRangeIter _ _ (lo+((0:Nat):Int) * 1) ((((hi - lo).toNat:Nat):Int) - ((0:Nat):Int)) 1
  rw[e1,e2];exact Heap.get?_push_size _ rfl
 ·have e:b=(s.heap.push { cls:=.type "range", data:=.fields #[.int lo t,.int hi u,.int 1 v] }).objs.size:=by simpa using hb
  subst e;exact I1.fpOk (Nat.le_refl _) (I1.hok.fresh (Nat.le_refl _))
def Bv(ta:TA):TI:=fun σ H R=>ta σ H fun vs H1=>∃ j:Int,vs=[.int j]∧-(2 ^ 62)≤j∧j<2 ^ 62∧R (kS 0 j.toNat) H1
theorem gM{a:Expr}{ta:TA}{p pos:Pos}(hg:Gl X "range") (hm:X.mg "range" = none) (ha:PA X [a] ta) (hs:starEach [a] X.env=[(false,eval a X.env)]:=by rfl):PI X tg (.Call (.Name "range" p) [a] [] pos) (Bv ta):=by
 intro pins s σ H R I h
 refine Call_ (ig I hg hm boot_range (PyProof.Rows.callWith_type1 (bf (ha pos pins s σ H _ I h) fun us s1 ⟨vs,H1,I1,r1,q1⟩=>?_) hs rfl))
 obtain⟨j,e,q1,q2,q⟩:=q1
 subst e
 cases r1 with
 | cons r rr=>
  cases rr;obtain⟨t,rfl⟩:=r
  exact call_range_1 (AZ I1 (by omega) (by omega) q1 q2 (by simpa using q))
def EW(wi:TI)(g:TG)(tb:TS):TS:=fun D σ H=>wi σ H fun J H1=>∃ W:Nat→Nat→St→Hp→Prop,(∃ m,W 0 m σ H1)∧∀ i m σ H,W i m σ H→
 (J.stop i H∧D.nx σ H)∨(J.go i H∧∃ N:St→Hp→Prop,(∀ σ' H',N σ' H'→∃ m',m'<m∧W (i+1) m' σ' H')∧∀ x H',J.yld i H x H'→g x σ H' fun σ2 H2=>tb { D with nx:=N,ct:=N,bk:=D.nx } σ2 H2)
def kn(fp:List Addr)(h:Heap):List (Addr × Obj):=fp.filterMap fun b=>(h.get? b).map fun o=>(b,o)
theorem gR{fp:List Addr}{h:Heap}{b:Addr}{o:Obj}(hb:b∈fp)(e:h.get? b=some o):(b,o)∈kn fp h:=List.mem_filterMap.mpr ⟨b,hb,by rw[e]; rfl⟩
theorem xc{fp:List Addr}{h:Heap}{p:Addr × Obj}(hp:p∈kn fp h):p.1∈fp∧h.get? p.1=some p.2:=by
 obtain⟨b,hb,e⟩:=List.mem_filterMap.mp hp
 cases q:h.get? b with
 | none=>rw[q]at e; cases e
 | some o=>
  rw[q]at e
  have e':(b,o)=p:=Option.some.inj e
  subst e';exact⟨hb,q⟩
theorem Inv.pinned{pins:List (Addr × Obj)}{σ : St}{H:Hp}{s:Shared}{fp:List Addr}(I:Inv X pins σ H s)(hf:∀ b∈fp,ie X pins H b)(ho:∀ b∈fp,∃ o,s.heap.get? b=some o∧∀ v,o.data ≠ .cell v):Inv X (pins++kn fp s.heap) σ H s:=
 I.pins_of fun p hp=>(List.mem_append.mp hp).elim (fun z=>I.pin p (List.mem_append_right _ z)) fun z=>by
  obtain⟨hb,e⟩:=xc z
  obtain⟨f0,f1,f2,_⟩:=hf p.1 hb
  obtain⟨o,e',d⟩:=ho p.1 hb
  rw[e]at e'; cases e'
  exact⟨e,f0,f1,f2,d⟩
theorem Inv.unpinned{pins pl:List (Addr × Obj)}{σ : St}{H:Hp}{s:Shared}(I:Inv X (pins++pl) σ H s):Inv X pins σ H s:=I.pins_of fun p hp=>I.pin p (List.mem_append_right _ (List.mem_append_left _ hp))
theorem cE{iter:Expr}{body:List Stmt}{wi:TI}{g:TG}{tb:TS}{pos:Pos}(hp:PassesOwn (model X.prog X.w) X.A X.env X.xe)(hc:X.calm=true)(hi:PI X tg iter wi)(hg:PG X tg g)(hb:PSs X body tb)
  (hs:∀ x,foldedSetIterable iter X.env x=pure x:=by intro _; rfl):PS X (.For tg iter body [] pos) (EW wi g tb):=by
 intro pins s σ H D I h
 refine wpAny_For (bf (hi pins s σ H _ I h) fun v s1 h1=>bf h1 fun itv s2 h2=>?_) hs
 obtain⟨it,fp,tn,J,H2,e,I2,T,st2,f2,W,⟨m0,w0⟩,turn⟩:=h2
 subst e
 -- what stays true of the iterator's objects through the loop
 have stat:∀ {H':Hp},(∀ b∈fp,H' b=none)→∀ b∈fp,ie X pins H' b:=fun hn b hb=>⟨hn b hb,(f2 b hb).2⟩
 refine codeAny_forLoop_any (fun n s'=>∃ i σ' H',Inv X pins σ' H' s'∧tn i s'.heap∧(∀ b∈fp,H' b=none)∧W i n σ' H') ?_ m0 ⟨0,σ,H2,I2,st2,fun b hb=>(f2 b hb).1,w0⟩
 rintro n s3 ⟨i,σ3,H3,I3,st3,fr3,w3⟩
 rcases turn i n σ3 H3 w3 with ⟨stop,qn⟩ | ⟨go,N,hN,step⟩
 ·refine wpAny_passesOwn hp (bf (T.done X rfl rfl rfl hc i pins s3 σ3 H3 X.xe I3 (stat fr3) st3 stop) fun r s4 ⟨hr,I4⟩=>?_)
  subst hr;exact wpAny_execs_nil ⟨σ3,H3,I4,qn⟩
 ·refine wpAny_passesOwn hp (bf (T.item X rfl rfl rfl hc i pins s3 σ3 H3 X.xe I3 (stat fr3) st3 go) fun r s4 ⟨u,hr,h4⟩=>?_)
  subst hr;refine wpAny_passesOwn hp (bf h4 fun _ s5 ⟨x,H5,I5,r5,y5,st5,fr5⟩=>?_)
  have I5':=I5.pinned (stat fr5) (T.obj _ _ st5);refine wpAny_passesOwn hp (bf (hg _ s5 σ3 H5 x u _ I5' r5 (step x H5 y5)) fun _ s6 ⟨σ6,H6,I6,q6⟩=>?_)
  refine wpAny_passesOwn hp (bf (hb _ s6 σ6 H6 _ I6 q6) fun f s7 q7=>?_)
  have again:∀ {σ7:St} {H7:Hp},Inv X (pins++kn fp s5.heap) σ7 H7 s7→N σ7 H7→∃ m,m<n∧∃ i σ' H',Inv X pins σ' H' s7∧tn i s7.heap∧(∀ b∈fp,H' b=none)∧W i m σ' H':=fun {σ7 H7} I7 n7=>by
   obtain⟨m',hm,w7⟩:=hN σ7 H7 n7
   refine⟨m',hm,i+1,σ7,H7,I7.unpinned,T.keep _ _ _ st5 fun b hb o e=>(I7.pin (b,o) (List.mem_append_right _ (List.mem_append_right _ (gR hb e)))).1,fun b hb=>?_,w7⟩
   obtain⟨o,e,d⟩:=T.obj _ _ st5 b hb
   exact(I7.pin (b,o) (List.mem_append_right _ (List.mem_append_right _ (gR hb e)))).2.1
  cases f with
  | next=>obtain⟨σ7,H7,I7,n7⟩:=q7; exact again I7 n7
  | cont=>obtain⟨σ7,H7,I7,n7⟩:=q7; exact again I7 n7
  | brk=>obtain⟨σ7,H7,I7,q7⟩:=q7; exact⟨σ7,H7,I7.unpinned,q7⟩
  | ret v=>obtain⟨x7,σ7,H7,I7,r7,q7⟩:=q7; exact⟨x7,σ7,H7,I7.unpinned,r7,q7⟩
end
theorem AA{K:PySem.W.Frag}{a:Addr}{xs:List V}{g:TG}{tb:TS}{D:dR}{σ : St}{H:Hp}(Pv:Nat→St→Hp→Prop)(h0:Pv 0 σ H)(hl:∀ i σ H,i≤xs.length→Pv i σ H→SqL K H a xs)
  (hs:∀ i x σ H,xs[i]? = some x→Pv i σ H→g x σ H fun σ2 H2=>tb { D with nx:=Pv (i+1),ct:=Pv (i+1),bk:=D.nx } σ2 H2) (hd:∀ σ H,Pv xs.length σ H→D.nx σ H) :
  ∃ W:Nat→Nat→St→Hp→Prop,(∃ m,W 0 m σ H)∧∀ i m σ H,W i m σ H→
   ((ma K a).stop i H∧D.nx σ H)∨((ma K a).go i H∧∃ N:St→Hp→Prop,(∀ σ' H',N σ' H'→∃ m',m'<m∧W (i+1) m' σ' H')∧∀ x H',(ma K a).yld i H x H'→g x σ H' fun σ2 H2=>tb { D with nx:=N,ct:=N,bk:=D.nx } σ2 H2):=by
 refine⟨fun i m σ H=>m=xs.length - i∧i≤xs.length∧Pv i σ H,⟨xs.length,by simp,Nat.zero_le _,h0⟩,?_⟩
 rintro i m σ H ⟨rfl,hi,p⟩
 have q:=hl i σ H hi p
 by_cases hlt:i<xs.length
 ·refine .inr ⟨⟨xs,xs[i],q,by simp[hlt]⟩,Pv (i+1),fun σ' H' p'=>⟨xs.length - (i+1),by omega,rfl,hlt,p'⟩,fun x H' y=>?_⟩
  obtain⟨e,y⟩:=y
  subst e;exact hs i x σ _ (y xs q) p
 ·have e:i=xs.length:=by omega
  subst e;exact .inl ⟨⟨xs,q,Nat.le_refl _⟩,hd σ H p⟩
theorem yr{lo:Int}{n:Nat}{g:TG}{tb:TS}{D:dR}{σ : St}{H:Hp}(Pv:Nat→St→Hp→Prop)(h0:Pv 0 σ H)
  (hs:∀ i σ H,i<n→Pv i σ H→g (.int (lo+i)) σ H fun σ2 H2=>tb { D with nx:=Pv (i+1),ct:=Pv (i+1),bk:=D.nx } σ2 H2) (hd:∀ σ H,Pv n σ H→D.nx σ H) :
  ∃ W:Nat→Nat→St→Hp→Prop,(∃ m,W 0 m σ H)∧∀ i m σ H,W i m σ H→
   ((kS lo n).stop i H∧D.nx σ H)∨((kS lo n).go i H∧∃ N:St→Hp→Prop,(∀ σ' H',N σ' H'→∃ m',m'<m∧W (i+1) m' σ' H')∧∀ x H',(kS lo n).yld i H x H'→g x σ H' fun σ2 H2=>tb { D with nx:=N,ct:=N,bk:=D.nx } σ2 H2):=by
 refine⟨fun i m σ H=>m=n - i∧i≤n∧Pv i σ H,⟨n,by simp,Nat.zero_le _,h0⟩,?_⟩
 rintro i m σ H ⟨rfl,hi,p⟩
 by_cases hlt:i<n
 ·refine .inr ⟨hlt,Pv (i+1),fun σ' H' p'=>⟨n - (i+1),by omega,rfl,hlt,p'⟩,fun x H' y=>?_⟩
  obtain⟨e,y⟩:=y
  subst e y;exact hs i σ _ hlt p
 ·have e:i=n:=by omega
  subst e;exact .inl ⟨Nat.le_refl _,hd σ H p⟩
abbrev R2:=V→V→Hp→VK→Prop
def OpR(X:Cx)(f:Value→Value→Sem Value)(r:R2):Prop:=
 ∀ (pins:List (Addr × Obj)) (s:Shared) (σ : St) (H:Hp) (x y:V) (v u:Value) (Q:VK),Inv X pins σ H s→RelV x v→RelV y u→r x y H Q→
  wpAny (model X.prog X.w) X.A (f v u) (EP X pins σ Q) X.xe s
def UnR(X:Cx)(f:Value→Sem Value)(r:V→Hp→VK→Prop):Prop:=
 ∀ (pins:List (Addr × Obj)) (s:Shared) (σ : St) (H:Hp) (x:V) (v:Value) (Q:VK),Inv X pins σ H s→RelV x v→r x H Q→
  wpAny (model X.prog X.w) X.A (f v) (EP X pins σ Q) X.xe s
def CallR(X:Cx)(f:Value)(r:List V→Hp→VK→Prop):Prop:=
 ∀ (pins:List (Addr × Obj)) (s:Shared) (σ : St) (H:Hp) (xs:List V) (us:List Value) (Q:VK),Inv X pins σ H s→Vals xs us→r xs H Q→
  wpAny (model X.prog X.w) X.A (call f us) (EP X pins σ Q) X.xe s
def xG(r:R2)(ta tb:TE):TE:=fun σ H Q=>ta σ H fun x H1=>tb σ H1 fun y H2=>r x y H2 Q
def Gj(r:V→Hp→VK→Prop)(ta:TE):TE:=fun σ H Q=>ta σ H fun x H1=>r x H1 Q
def rI(C:Int→Int→Prop)(g:Int→Int→V):R2:=fun x y H Q=>∃ i j,x = .int i∧y = .int j∧C i j∧Q (g i j) H
def oP(g:Int→Int→V):R2:=fun x y H Q=>∃ i j,x = .int i∧y = .int j∧Q (g i j) H
def rU(g:Int→V):V→Hp→VK→Prop:=fun x H Q=>∃ i,x = .int i∧Q (g i) H
section
variable{X:Cx}{a b c:Expr}{ta tb tc:TE}{pos:Pos}
theorem AF(ha:PE X a ta)(hb:PE X b tb){pins:List (Addr × Obj)}{s:Shared}{σ : St}{H:Hp}{R:V→V→Hp→Prop}(I:Inv X pins σ H s)
  (h:ta σ H fun x H1=>tb σ H1 fun y H2=>R x y H2) {Q:Value→Shared→Prop} {f:Value→Value→Sem Value}
  (hf:∀ v u s2 x y H2,Inv X pins σ H2 s2→RelV x v→RelV y u→R x y H2→wpAny (model X.prog X.w) X.A (f v u) Q X.xe s2) :
  wpAny (model X.prog X.w) X.A (eval a X.env) (fun v s₁=>wpAny (model X.prog X.w) X.A (eval b X.env) (fun u s₂=>wpAny (model X.prog X.w) X.A (f v u) Q X.xe s₂) X.xe s₁) X.xe s:=by
 refine bf (ha pins s σ H _ I h) fun v s1 ⟨x,H1,I1,r1,q1⟩=>?_
 refine bf (hb pins s1 σ H1 _ I1 q1) fun u s2 ⟨y,H2,I2,r2,q2⟩=>?_
 exact hf v u s2 x y H2 I2 r1 r2 q2
theorem ap{op:Operator}{r:R2}(ho:OpR X (binaryOp op) r)(ha:PE X a ta)(hb:PE X b tb):PE X (.BinOp a op b pos) (xG r ta tb):=by
 intro pins s σ H Q I h
 exact wpAny_BinOp (AF ha hb I h fun v u s2 x y H2 I2 rx ry q=>ho pins s2 σ H2 x y v u Q I2 rx ry q)
theorem ku{op:UnaryOp}{r:V→Hp→VK→Prop}(ho:UnR X (unaryOp op) r)(ha:PE X a ta):PE X (.UnaryOp op a pos) (Gj r ta):=by
 intro pins s σ H Q I h
 exact UnaryOp_ (bf (ha pins s σ H _ I h) fun v s1 ⟨x,H1,I1,r1,q1⟩=>ho pins s1 σ H1 x v Q I1 r1 q1)
theorem Bk{f:Value→Value→Sem Value}{C:Int→Int→Prop}{g:Int→Int→Int}
  (rule:∀ (i j:Int) (t u:Tok) (s:Shared) (Q:Value→Shared→Prop) (E:Value→Shared→Prop),C i j→Q (.int (g i j) s.toks) { s with toks:=s.toks+1 }→wpAny (model X.prog X.w) X.A (f (.int i t) (.int j u)) Q E s) :
  OpR X f (rI C fun i j=>.int (g i j)):=by
 intro pins s σ H x y v u Q I rx ry h
 obtain⟨i,j,rfl,rfl,hc,q⟩:=h
 obtain⟨t,rfl⟩:=rx
 obtain⟨t',rfl⟩:=ry
 exact rule i j t t' s _ _ hc ⟨.int (g i j),H,I.tok _,⟨_,rfl⟩,q⟩
theorem DG{f:Value→Value→Sem Value}{g:Int→Int→Int}
  (rule:∀ (i j:Int) (t u:Tok) (s:Shared) (Q:Value→Shared→Prop) (E:Value→Shared→Prop),Q (.int (g i j) s.toks) { s with toks:=s.toks+1 }→wpAny (model X.prog X.w) X.A (f (.int i t) (.int j u)) Q E s) :
  OpR X f (oP fun i j=>.int (g i j)):=by
 intro pins s σ H x y v u Q I rx ry h
 obtain⟨i,j,rfl,rfl,q⟩:=h
 obtain⟨t,rfl⟩:=rx
 obtain⟨t',rfl⟩:=ry
 exact rule i j t t' s _ _ ⟨.int (g i j),H,I.tok _,⟨_,rfl⟩,q⟩
theorem zQ{f:Value→Value→Sem Value}{g:Int→Int→Bool}
  (rule:∀ (i j:Int) (t u:Tok) (s:Shared) (Q:Value→Shared→Prop) (E:Value→Shared→Prop),Q (.bool (g i j)) s→wpAny (model X.prog X.w) X.A (f (.int i t) (.int j u)) Q E s) :
  OpR X f (oP fun i j=>.bl (g i j)):=by
 intro pins s σ H x y v u Q I rx ry h
 obtain⟨i,j,rfl,rfl,q⟩:=h
 obtain⟨t,rfl⟩:=rx
 obtain⟨t',rfl⟩:=ry
 exact rule i j t t' s _ _ ⟨.bl (g i j),H,I,rfl,q⟩
def Iz(i j:Int):Prop:=0<j∧j<1073741824
def Jn(i j:Int):Prop:=0≤j∧j≤1000000∧i.natAbs<2 ^ 64
def CMul(i j:Int):Prop:=(-(2 ^ 64)<i∧i<2 ^ 64)∨(-(2 ^ 64)<j∧j<2 ^ 64)
theorem CMul.ok{i j:Int}(h:CMul i j):IntMulOk i j:=by
 rcases h with ⟨h1,h2⟩ | ⟨h1,h2⟩
 ·exact .of_left (intBits_le_64 h1 h2)
 ·exact .of_right (intBits_le_64 h1 h2)
theorem D_:OpR X (binaryOp .Add) (oP fun i j=>.int (i+j)):=DG fun _ _ _ _ _ _ _ q=>add_int q
theorem eJ:OpR X (binaryOp .Sub) (oP fun i j=>.int (i - j)):=DG fun _ _ _ _ _ _ _ q=>sub_int q
theorem E8:OpR X (binaryOp .Mult) (rI CMul fun i j=>.int (i * j)):=Bk fun _ _ _ _ _ _ _ hc q=>mul_int q hc.ok
theorem fV:OpR X (binaryOp .FloorDiv) (rI Iz fun i j=>.int (i / j)):=Bk fun i j _ _ _ _ _ hc q=>by
 have h1:(0:Int)<j:=hc.1
 have h2:j<1073741824:=hc.2
 exact floordiv_int (by omega) (by rw[Int.fdiv_eq_ediv_of_nonneg i (by omega)]; exact q) (.inl (PyProof.noPylong_small (by omega)))
theorem bI:OpR X (binaryOp .Mod) (rI (fun _ j=>0<j) fun i j=>.int (i % j)):=Bk fun i j _ _ _ _ _ hc q=>by
 have h1:(0:Int)<j:=hc
 exact mod_int' (by omega) (by rw[Int.fmod_eq_emod_of_nonneg i (by omega)]; exact q)
theorem mJ:OpR X (binaryOp .Pow) (rI Jn fun i j=>.int (i ^ j.toNat)):=Bk fun _ _ _ _ _ _ _ hc q=>pow_int_small hc.1 hc.2.1 hc.2.2 q
theorem LG{f:Value→Sem Value}{g:Int→Int}
  (rule:∀ (i:Int) (t:Tok) (s:Shared) (Q:Value→Shared→Prop) (E:Value→Shared→Prop),Q (.int (g i) s.toks) { s with toks:=s.toks+1 }→wpAny (model X.prog X.w) X.A (f (.int i t)) Q E s) :
  UnR X f (rU fun i=>.int (g i)):=by
 intro pins s σ H x v Q I rx h
 obtain⟨i,rfl,q⟩:=h
 obtain⟨t,rfl⟩:=rx
 exact rule i t s _ _ ⟨.int (g i),H,I.tok _,⟨_,rfl⟩,q⟩
theorem i8:UnR X (unaryOp .USub) (rU fun i=>.int (-i)):=LG fun _ _ _ _ _ q=>neg_int q
end
def nh:V→V→Bool
 | .non,.non=>true | .non,.int _=>true | .int _,.non=>true | .non,.bl _=>true | .bl _,.non=>true | .non,.str _=>true | .str _,.non=>true
 | .int _,.int _=>true | .bl _,.bl _=>true | .str _,.str _=>true | .byt _,.byt _=>true
 | .int _,.str _=>true | .str _,.int _=>true | .bl _,.str _=>true | .str _,.bl _=>true
 | _,_=>false
def Ga:R2:=fun x y H Q=>nh x y=true∧Q (.bl (decide (x=y))) H
def Ge:R2:=fun x y H Q=>nh x y=true∧Q (.bl (!decide (x=y))) H
theorem tU{i j:Int}:decide (V.int i=V.int j)=(i == j):=by
 rw[Bool.eq_iff_iff];simp
theorem yc{i j:Bool}:decide (V.bl i=V.bl j)=(i == j):=by
 rw[Bool.eq_iff_iff];simp
theorem uI{i j:Str}:decide (V.str i=V.str j)=(i == j):=by
 rw[Bool.eq_iff_iff];simp
theorem uo{i j:Array UInt8}:decide (V.byt i=V.byt j)=(i.toList == j.toList):=by
 rw[Bool.eq_iff_iff]
 cases i
 cases j;simp
section
variable{X:Cx}{a b c:Expr}{ta tb tc:TE}{pos:Pos}
theorem bx{pins:List (Addr × Obj)}{σ : St}{H:Hp}{s:Shared}{Q:VK}{k k':Bool}(I:Inv X pins σ H s)(q:Q (.bl k) H)(e:k=k'):EP X pins σ Q (.bool k') s:=by
 subst e;exact⟨.bl k,H,I,rfl,q⟩
theorem FO:OpR X (compareOp .Eq) Ga:=by
 intro pins s σ H x y v u Q I rx ry h
 obtain⟨hs,q⟩:=h
 cases x with
 | non=>
  cases rx
  cases y with
  | non=>cases ry; exact PySem.EqNone.eq_none_none (bx I q (by simp))
  | bl j=>cases ry; exact PySem.EqNone.eq_none_bool (bx I q (by simp))
  | int j=>obtain⟨t',rfl⟩:=ry; exact PySem.EqNone.eq_none_int (bx I q (by simp))
  | str j=>obtain⟨t',rfl⟩:=ry; exact PySem.EqNone.eq_none_str (bx I q (by simp))
  | _=>exact absurd (show false=true from hs) Bool.false_ne_true
 | bl i=>
  cases rx
  cases y with
  | non=>cases ry; exact PySem.EqNone.eq_bool_none (bx I q (by simp))
  | bl j=>cases ry; exact eq_bool (bx I q yc)
  | str j=>obtain⟨t',rfl⟩:=ry; exact PySem.EqMixed.eq_bool_str (bx I q (by simp))
  | _=>exact absurd (show false=true from hs) Bool.false_ne_true
 | int i=>
  obtain⟨t,rfl⟩:=rx
  cases y with
  | non=>cases ry; exact PySem.EqNone.eq_int_none (bx I q (by simp))
  | int j=>obtain⟨t',rfl⟩:=ry; exact eq_int (bx I q tU)
  | str j=>obtain⟨t',rfl⟩:=ry; exact PySem.EqMixed.eq_int_str (bx I q (by simp))
  | _=>exact absurd (show false=true from hs) Bool.false_ne_true
 | str i=>
  obtain⟨t,rfl⟩:=rx
  cases y with
  | non=>cases ry; exact PySem.EqNone.eq_str_none (bx I q (by simp))
  | bl j=>cases ry; exact PySem.EqMixed.eq_str_bool (bx I q (by simp))
  | int j=>obtain⟨t',rfl⟩:=ry; exact PySem.EqMixed.eq_str_int (bx I q (by simp))
  | str j=>obtain⟨t',rfl⟩:=ry; exact eq_str (bx I q uI)
  | _=>exact absurd (show false=true from hs) Bool.false_ne_true
 | byt i=>
  obtain⟨t,rfl⟩:=rx
  cases y with
  | byt j=>obtain⟨t',rfl⟩:=ry; exact PySem.W.eq_bytes (bx I q uo)
  | _=>exact absurd (show false=true from hs) Bool.false_ne_true
 | _=>cases y <;> exact absurd (show false=true from hs) Bool.false_ne_true
theorem F1:OpR X (compareOp .NotEq) Ge:=by
 intro pins s σ H x y v u Q I rx ry h
 obtain⟨hs,q⟩:=h
 cases x with
 | non=>
  cases rx
  cases y with
  | non=>cases ry; exact PySem.EqNone.ne_none_none (bx I q (by simp))
  | bl j=>cases ry; exact PySem.EqNone.ne_none_bool (bx I q (by simp))
  | int j=>obtain⟨t',rfl⟩:=ry; exact PySem.EqNone.ne_none_int (bx I q (by simp))
  | str j=>obtain⟨t',rfl⟩:=ry; exact PySem.EqNone.ne_none_str (bx I q (by simp))
  | _=>exact absurd (show false=true from hs) Bool.false_ne_true
 | bl i=>
  cases rx
  cases y with
  | non=>cases ry; exact PySem.EqNone.ne_bool_none (bx I q (by simp))
  | bl j=>cases ry; exact ne_bool (bx I q (congrArg not yc))
  | str j=>obtain⟨t',rfl⟩:=ry; exact PySem.EqMixed.ne_bool_str (bx I q (by simp))
  | _=>exact absurd (show false=true from hs) Bool.false_ne_true
 | int i=>
  obtain⟨t,rfl⟩:=rx
  cases y with
  | non=>cases ry; exact PySem.EqNone.ne_int_none (bx I q (by simp))
  | int j=>obtain⟨t',rfl⟩:=ry; exact ne_int (bx I q (congrArg not tU))
  | str j=>obtain⟨t',rfl⟩:=ry; exact PySem.EqMixed.ne_int_str (bx I q (by simp))
  | _=>exact absurd (show false=true from hs) Bool.false_ne_true
 | str i=>
  obtain⟨t,rfl⟩:=rx
  cases y with
  | non=>cases ry; exact PySem.EqNone.ne_str_none (bx I q (by simp))
  | bl j=>cases ry; exact PySem.EqMixed.ne_str_bool (bx I q (by simp))
  | int j=>obtain⟨t',rfl⟩:=ry; exact PySem.EqMixed.ne_str_int (bx I q (by simp))
  | str j=>obtain⟨t',rfl⟩:=ry; exact ne_str (bx I q (congrArg not uI))
  | _=>exact absurd (show false=true from hs) Bool.false_ne_true
 | byt i=>
  obtain⟨t,rfl⟩:=rx
  cases y with
  | byt j=>obtain⟨t',rfl⟩:=ry; exact PySem.W.ne_bytes (bx I q (congrArg not uo))
  | _=>exact absurd (show false=true from hs) Bool.false_ne_true
 | _=>cases y <;> exact absurd (show false=true from hs) Bool.false_ne_true
theorem FH:OpR X (compareOp .Lt) (oP fun i j=>.bl (decide (i<j))):=zQ fun _ _ _ _ _ _ _ q=>lt_int q
theorem Bp:OpR X (compareOp .LtE) (oP fun i j=>.bl (decide (i≤j))):=zQ fun _ _ _ _ _ _ _ q=>le_int q
theorem jx:OpR X (compareOp .Gt) (oP fun i j=>.bl (decide (j<i))):=zQ fun _ _ _ _ _ _ _ q=>gt_int q
theorem w5:OpR X (compareOp .Lt) (fun x y H Q=>∃ i j,x = .str i∧y = .str j∧Q (.bl (decide (i.cps.toList<j.cps.toList))) H):=by
 intro pins s σ H x y v u Q I rx ry h
 obtain⟨i,j,rfl,rfl,q⟩:=h
 obtain⟨t,rfl⟩:=rx
 obtain⟨t',rfl⟩:=ry
 exact lt_str (bx I q rfl)
theorem wQ:OpR X (compareOp .In) (fun x y H Q=>∃ i j,x = .str i∧y = .str j∧Q (.bl (!(Builtin.Str.occurrences j i 0 j.length 1).isEmpty)) H):=by
 intro pins s σ H x y v u Q I rx ry h
 obtain⟨i,j,rfl,rfl,q⟩:=h
 obtain⟨t,rfl⟩:=rx
 obtain⟨t',rfl⟩:=ry
 exact in_str (bx I q rfl)
theorem Eh:OpR X (compareOp .Is) (fun x y H Q=>y = .non∧Q (.bl (decide (x = .non))) H):=by
 intro pins s σ H x y v u Q I rx ry h
 obtain⟨rfl,q⟩:=h
 cases ry;refine is_none_gen (bx I q ?_)
 cases x <;> first
  | (cases rx; rfl)
  | (obtain⟨t,rfl⟩:=rx; rfl)
theorem CJ:OpR X (compareOp .IsNot) (fun x y H Q=>y = .non∧Q (.bl (!decide (x = .non))) H):=by
 intro pins s σ H x y v u Q I rx ry h
 obtain⟨rfl,q⟩:=h
 cases ry;refine isnot_none_gen (bx I q ?_)
 cases x <;> first
  | (cases rx; rfl)
  | (obtain⟨t,rfl⟩:=rx; rfl)
theorem qQ:OpR X (compareOp .NotIn) (fun x y H Q=>∃ i j,x = .str i∧y = .str j∧Q (.bl (!(!(Builtin.Str.occurrences j i 0 j.length 1).isEmpty))) H):=by
 intro pins s σ H x y v u Q I rx ry h
 obtain⟨i,j,rfl,rfl,q⟩:=h
 obtain⟨t,rfl⟩:=rx
 obtain⟨t',rfl⟩:=ry
 exact notIn_str (bx I q rfl)
theorem aL(b:Expr){op:CmpOp}(h:op ≠ .In:=by decide)(h2:op ≠ .NotIn:=by decide):behindInMarks op b=false:=by
 have e1:(op == CmpOp.In)=false:=by cases op <;> first | rfl | exact absurd rfl h
 have e2:(op == CmpOp.NotIn)=false:=by cases op <;> first | rfl | exact absurd rfl h2
 cases b <;> simp[behindInMarks,e1,e2]
theorem kE{op:CmpOp}{r:R2}(ho:OpR X (compareOp op) r)(ha:PE X a ta)(hb:PE X b tb)(hm:behindInMarks op b=false):PE X (.Compare a [op] [b] pos) (xG r ta tb):=by
 intro pins s σ H Q I h
 exact wpAny_Compare1 (AF ha hb I h fun v u s2 x y H2 I2 rx ry q=>ho pins s2 σ H2 x y v u Q I2 rx ry q) hm
def vk(t:TE):TT:=fun σ H Q=>t σ H fun x H'=>∃ k,x = .bl k∧Q k H'
theorem aF{op:CmpOp}{r:R2}(ho:OpR X (compareOp op) r)(ha:PE X a ta)(hb:PE X b tb)(hm:behindInMarks op b=false):PT X (.Compare a [op] [b] pos) (vk (xG r ta tb)):=by
 intro pins s σ H Q I h
 refine wpAny_isTrue_Compare1 (bf (ha pins s σ H _ I h) fun v s1 ⟨x,H1,I1,r1,q1⟩=>bf (hb pins s1 σ H1 _ I1 q1) fun u s2 ⟨y,H2,I2,r2,q2⟩=>
  bf (ho pins s2 σ H2 x y v u _ I2 r1 r2 q2) fun c s3 ⟨z,H3,I3,r3,k,e,q3⟩=>?_) hm
 subst e
 cases r3;exact wpAny_truthy_bool ⟨H3,I3,q3⟩
def yw(r r':R2)(ta tb tc:TE):TE:=fun σ H Q=>ta σ H fun x H1=>tb σ H1 fun y H2=>r x y H2 fun z H3=>∃ k,z = .bl k∧
 (if k=true then tc σ H3 fun w' H4=>r' y w' H4 Q else Q (.bl false) H3)
theorem zv{op op':CmpOp}{r r':R2}(ho:OpR X (compareOp op) r)(ho':OpR X (compareOp op') r')(ha:PE X a ta)(hb:PE X b tb)(hc:PE X c tc)
  (hm:lastMarks [op,op'] [b,c]=false:=by with_unfolding_all rfl):PT X (.Compare a [op,op'] [b,c] pos) (vk (yw r r' ta tb tc)):=by
 intro pins s σ H Q I h
 refine isTrue_chain (bf (ha pins s σ H _ I h) fun v s1 ⟨x,H1,I1,r1,q1⟩=>test_link (bf (hb pins s1 σ H1 _ I1 q1) fun u s2 ⟨y,H2,I2,r2,q2⟩=>
  bf (ho pins s2 σ H2 x y v u _ I2 r1 r2 q2) fun d s3 ⟨z,H3,I3,r3,k,e,q3⟩=>?_)) hm
 subst e
 cases r3;refine wpAny_truthy_bool ?_
 cases k with
 | false=>
  obtain⟨k',e',q'⟩:=q3
  cases e';exact ite_ff ⟨H3,I3,q'⟩
 | true=>
  refine ite_tt (test_last (bf (hc pins s3 σ H3 _ I3 q3) fun w' s4 ⟨z',H4,I4,r4,q4⟩=>bf (ho' pins s4 σ H4 y z' u w' _ I4 r2 r4 q4) fun d' s5 ⟨z2,H5,I5,r5,k2,e2,q5⟩=>?_))
  subst e2
  cases r5;exact wpAny_truthy_bool ⟨H5,I5,q5⟩
theorem j9:(sizeLine:Nat)<2 ^ 63:=by rw[sizeLine_eq]; decide
theorem wm:OpR X (binaryOp .Add) (fun x y H Q=>∃ i j,x = .str i∧y = .str j∧i.length+j.length≤sizeLine∧Q (.str (i++j)) H):=by
 intro pins s σ H x y v u Q I rx ry h
 obtain⟨i,j,rfl,rfl,hz,q⟩:=h
 obtain⟨t,rfl⟩:=rx
 obtain⟨t',rfl⟩:=ry
 exact add_str (fun t' tk=>⟨.str (i++j),H,I.tok _,⟨_,rfl⟩,q⟩) hz
theorem dW{x:V}{us:List Value}(r:Vals [x] us):∃ u,us=[u]∧RelV x u:=by
 cases r with
 | cons r1 r2=>cases r2; exact⟨_,rfl,r1⟩
theorem pC{x y:V}{us:List Value}(r:Vals [x,y] us):∃ u w',us=[u,w']∧RelV x u∧RelV y w':=by
 cases r with
 | cons r1 r2=>
  cases r2 with
  | cons r3 r4=>cases r4; exact⟨_,_,rfl,r1,r3⟩
theorem yh(hc:X.calm=true):CallR X (.builtin "max") (fun xs H Q=>∃ i j,xs=[.int i,.int j]∧Q (.int (if j>i then j else i)) H):=by
 intro pins s σ H xs us Q I r h
 obtain⟨i,j,rfl,q⟩:=h
 obtain⟨u,w',rfl,⟨t,rfl⟩,⟨t',rfl⟩⟩:=pC r
 refine max_two_ints (I.ok.hd hc) fun h' tk k=>⟨_,H,I.kept k,?_,q⟩
 by_cases hj:j>i
 ·rw[if_pos hj,if_pos hj]; exact⟨_,rfl⟩
 ·rw[if_neg hj,if_neg hj]; exact⟨_,rfl⟩
theorem ym:CallR X (.type "int") (fun xs H Q=>(∃ i,xs=[.int i]∧Q (.int i) H)∨∃ k,xs=[.bl k]∧Q (.int (if k then 1 else 0)) H):=by
 intro pins s σ H xs us Q I r h
 rcases h with ⟨i,rfl,q⟩ | ⟨k,rfl,q⟩
 ·obtain⟨u,rfl,t,rfl⟩:=dW r
  exact call_int_int ⟨.int i,H,I,⟨_,rfl⟩,q⟩
 ·obtain⟨u,rfl,r1⟩:=dW r
  cases r1;exact call_int_bool ⟨.int (if k then 1 else 0),H,I.tok _,⟨_,rfl⟩,q⟩
theorem j8:CallR X (.type "str") (fun xs H Q=>∃ i,xs=[.int i]∧i.natAbs.log2<1920∧Q (.str (toString i)) H):=by
 intro pins s σ H xs us Q I r h
 obtain⟨i,rfl,hz,q⟩:=h
 obtain⟨u,rfl,t,rfl⟩:=dW r
 exact PySem.P.str_of_int hz ⟨.str _,H,I.tok _,⟨_,rfl⟩,q⟩
end
structure ObjM (h:Heap) (x dx C:Addr) (mA:Str→Option Value):Prop where
 obj:h.get? x=some (PySem.W.instObj C dx)
 ns:h.Ns1 dx mA
 ne:dx≠x
theorem wH{h:Heap}{dx:Addr}{mA:Str→Option Value}(n:h.Ns1 dx mA):∃ od,h.get? dx=some od∧∀ name,PySem.W.lookIn name od=some (mA name):=by
 obtain⟨o,es,ep,ho,hd,hk,_,hm⟩:=n
 refine⟨o,ho,fun name=>?_⟩
 have e:=hm name;unfold nsFind findBy at e;rw[← Array.find?_toList]at e
 unfold PySem.W.lookIn;rw[hd]
 dsimp only
 split
 ·rename_i y q
  rw[q]at e
  exact congrArg some e
 ·rename_i q
  rw[q]at e
  have a:es.toList.any (·.refKey)=false:=by
   rw[List.any_eq_false];intro y hy
   obtain⟨z,t,hkey⟩:=hk y (Array.mem_toList_iff.mp hy)
   simp[DictEntry.refKey,hkey]
  have a':¬ es.toList.any (·.refKey)=true:=by rw[a]; exact Bool.false_ne_true
  rw[if_neg a'];exact congrArg some e
theorem ObjM.look{h:Heap}{x dx C:Addr}{mA:Str→Option Value}(I:ObjM h x dx C mA):∃ od,PySem.W.InstAt h x (PySem.W.instObj C dx) C (some od)∧∀ name,PySem.W.lookIn name od=some (mA name):=
 let ⟨od,ho,hl⟩:=wH I.ns
 ⟨od,⟨I.obj,rfl,rfl,ho⟩,hl⟩
section
variable{prog:Program}{w:World}{A:Around}{E:Value→Shared→Prop}{s:Shared}{K:PySem.W.Frag}{x dx C f:Addr}{mA:Str→Option Value}{name:Str}{v:Value}
theorem CC{expr:Bool}{Q:Value→Shared→Prop}(X:K.In s.heap)(I:ObjM s.heap x dx C mA)(hg:PySem.W.plainGet K C name=true)(hh:PySem.W.hasDictIn K C=true)
  (ha:PySem.W.findIn K (.ref C) name=some none) (hv:mA name=some v) (hv':PySem.W.handedIn v=true) (h:Q v { s with toks:=s.toks+1 }) :
  wpAny (model prog w) A (getAttr (.ref x) name expr) Q E s:=by
 obtain⟨od,J,hl⟩:=I.look
 exact PySem.W.get_value X J (PySem.W.plainGet_of hg).1 (PySem.W.findObj_own hh ha rfl (by rw[hl,hv])) hv' h
theorem zA{pl:Sem Bool}{Q:Value × List Value→Shared→Prop}(X:K.In s.heap)(I:ObjM s.heap x dx C mA)(hg:PySem.W.plainGet K C name=true)
  (hf:PySem.W.findIn K (.ref C) name=some (some (.ref f))) (ht:PySem.W.isFn K (.ref f)=true) (hv:mA name=none) (h:Q (.ref f,[.ref x]) s) :
  wpAny (model prog w) A (getMethod (.ref x) name pl) Q E s:=by
 obtain⟨od,J,hl⟩:=I.look
 exact PySem.W.method_fn X J (PySem.W.plainGet_of hg).1 (PySem.W.plainGet_of hg).2 hf (beq_iff_eq.mp ht) (by show (PySem.W.lookIn name od).map (·.isSome)=some false; rw[hl,hv]; rfl) h
theorem CV{ns:List Str}{Q:Unit→Shared→Prop}(X:K.In s.heap)(I:ObjM s.heap x dx C mA)
  (hs:PySem.W.findIn K (.ref C) "__setattr__" = some (some (.builtin "object.__setattr__"))) (hp:PySem.W.plainOver K C=true) (ht:PySem.W.takerIn K C name=some none) (hh:PySem.W.hasDictIn K C=true)
  (hw:PySem.Within mA ns) (hsz:ns.length≤sizeLine)
  (h:∀ h',ObjM h' x dx C (fun y=>if y=name then some v else mA y)→Heap.SameBut dx s.heap h'→Q () { s with heap:=h',toks:=s.toks+2 }) :
  wpAny (model prog w) A (setAttr (.ref x) name v) Q E s:=by
 obtain⟨od,J,hl⟩:=I.look
 refine PySem.W.set_plain X J hs (PySem.W.osa_open (s:={ s with toks:=s.toks+1 }) (r:=none) X J hp ht fun b=>?_)
 obtain⟨cd,hc,hd'⟩:=PySem.W.any_some hh
 have hx:s.heap.get? x=some ⟨.ref C,some dx,.plain,#[]⟩:=I.obj
 refine wpAny_bind (wpAny_pure (wpAny_bind (wpAny_bind (wpAny_loadPart hx (wpAny_bind (PySem.W.Looks.here (s:={ s with toks:=s.toks+1 }) (PySem.W.looks_clsIn X hc) ?_))))))
 rw[hd'];refine wpAny_pure (a:=some dx) (wpAny_bind (wpAny_pure (wpAny_bind ?_)))
 refine wpAny_nsSet1 (s:={ s with toks:=s.toks+1 }) I.ns fun h' hn2 hs2=>?_
 obtain⟨oD,esD,epD,hoD,hdD,hcD⟩:=hn2.count (PySem.Within.cons name v hw)
 refine wpAny_bind (wpAny_lookBehind hoD (by rw[hdD]; exact pastItsLine_dict (Nat.le_trans hcD (by rw[List.length_cons]; omega))) ?_)
 exact wpAny_pure (h _ ⟨(hs2.2 _ (Ne.symm I.ne)).trans I.obj,hn2,I.ne⟩ hs2)
theorem zB{R:Result→Shared→Prop}{vs:List Value}{kw:List (Str × Value)}(X:K.In s.heap)(hm:PySem.W.makesIn K C=true)
  (hi:PySem.W.findIn K (.ref C) "__init__" = some (some (.ref f))) (hf:PySem.W.typeIn K (.ref f)=some (.type "function"))
  (h:codeAny (model prog w) (A.under (.builtin "type.__call__" ⟨.ref C::vs,kw⟩)) (.call (.ref f) ⟨.ref (s.heap.objs.size+1)::vs,kw⟩) (PySem.W.InitBack (s.heap.objs.size+1) R)
   { s with heap:=(s.heap.push PySem.W.emptyDict).push (PySem.W.instObj C s.heap.objs.size) }) :
  codeAny (model prog w) A (.call (.ref C) ⟨vs,kw⟩) R s:=by
 obtain⟨hh,g,d,t,os⟩:=s
 exact PySem.W.make_core (PySem.W.makes_of X hm) (PySem.W.looks_findIn X hi) (fun self=>PySem.W.bind_fn X self hf) (.inl rfl) h
end
def cQ(f:Str)(v:V):List (Str × V)→List (Str × V)
 | []=>[(f,v)]
 | (g,x)::r=>if g=f then (g,v)::r else (g,x)::cQ f v r
theorem lv(f g:Str)(v:V):∀ fs:List (Str × V),(cQ f v fs).lookup g=if g=f then some v else fs.lookup g
 | []=>by
  show List.lookup g [(f,v)]=_
  by_cases h:g=f
  ·have hb:(g == f)=true:=beq_iff_eq.mpr h
   simp only[List.lookup,hb,if_pos h]
  ·have hb:(g == f)=false:=beq_eq_false_iff_ne.mpr h
   simp only[List.lookup,hb,if_neg h]
 | (k,x)::r=>by
  have ih:=lv f g v r;rw[show cQ f v ((k,x)::r)=(if k=f then (k,v)::r else (k,x)::cQ f v r) from rfl]
  by_cases hk:k=f
  ·rw[if_pos hk]
   by_cases h:g=k
   ·have hb:(g == k)=true:=beq_iff_eq.mpr h
    simp only[List.lookup,hb,if_pos (h.trans hk)]
   ·have hb:(g == k)=false:=beq_eq_false_iff_ne.mpr h
    simp only[List.lookup,hb,if_neg (fun e:g=f=>h (e.trans hk.symm))]
  ·rw[if_neg hk]
   by_cases h:g=k
   ·have hb:(g == k)=true:=beq_iff_eq.mpr h
    simp only[List.lookup,hb,if_neg (fun e:g=f=>hk (h.symm.trans e))]
   ·have hb:(g == k)=false:=beq_eq_false_iff_ne.mpr h
    simp only[List.lookup,hb]
    exact ih
theorem jZ(f:Str)(v:V):∀ fs:List (Str × V),f∈(cQ f v fs).map (·.1)∧∀ g,g∈fs.map (·.1)→g∈(cQ f v fs).map (·.1)
 | []=>⟨by simp[cQ],fun g h=>by simp at h⟩
 | (k,x)::r=>by
  obtain⟨i1,i2⟩:=jZ f v r
  rw[show cQ f v ((k,x)::r)=(if k=f then (k,v)::r else (k,x)::cQ f v r) from rfl]
  by_cases hk:k=f
  ·rw[if_pos hk]
   subst hk;exact⟨by simp,fun g h=>by simpa using h⟩
  ·rw[if_neg hk]
   refine⟨?_,fun g h=>?_⟩
   ·rw[List.map_cons]
    exact List.mem_cons_of_mem _ i1
   ·rw[List.map_cons]at h ⊢
    rcases List.mem_cons.mp h with e | e
    ·exact List.mem_cons.mpr (.inl e)
    ·exact List.mem_cons_of_mem _ (i2 g e)
theorem lh(f:Str)(v:V):∀ fs:List (Str × V),(cQ f v fs).length≤fs.length+1
 | []=>by simp[cQ]
 | (k,x)::r=>by
  have ih:=lh f v r;rw[show cQ f v ((k,x)::r)=(if k=f then (k,v)::r else (k,x)::cQ f v r) from rfl]
  by_cases hk:k=f
  ·rw[if_pos hk,List.length_cons,List.length_cons]; omega
  ·rw[if_neg hk,List.length_cons,List.length_cons]; omega
theorem RelO.some_of{v:V}{o:Option Value}(r:RelO (some v) o):∃ u,o=some u∧RelV v u:=by
 cases o with
 | none=>exact(show False from r).elim
 | some u=>exact⟨u,rfl,r⟩
theorem RelO.none_of{o:Option Value}(r:RelO none o):o=none:=by
 cases o with
 | none=>rfl
 | some u=>exact(show False from r).elim
theorem wK{v:V}{u:Value}(r:RelV v u):PySem.W.handedIn u=true:=by
 cases v with
 | non=>cases (show u=Value.none from r); rfl
 | bl b=>cases (show u=Value.bool b from r); rfl
 | int i=>obtain⟨t,e⟩:=(show ∃ t,u=Value.int i t from r); cases e; rfl
 | str x=>obtain⟨t,e⟩:=(show ∃ t,u=Value.str x t from r); cases e; rfl
 | byt b=>obtain⟨t,e⟩:=(show ∃ t,u=Value.bytes b t from r); cases e; rfl
 | flt b=>obtain⟨t,e⟩:=(show ∃ t,u=Value.float b t from r); cases e; rfl
 | ref a=>cases (show u=Value.ref a from r); rfl
 | ty n=>cases (show u=Value.type n from r); rfl
section
variable{P:Program}{w:World}{H H':Hp}{h h':Heap}{a C dx:Addr}{fs fs':List (Str × V)}
theorem kO(hok:HOk P w H h)(e:H a=some (.ins C dx fs)):∃ mA,ObjM h a dx C mA∧(∀ f,RelO (fs.lookup f) (mA f))∧PySem.Within mA (fs.map (·.1))∧fs.length≤1000∧H dx=some (.own a):=by
 obtain⟨d,z,ne,ob,mA,n,r,q⟩:=(show ObjOk P w H h a (.ins C dx fs) from hok a _ e)
 exact⟨mA,⟨ob,n,ne⟩,r,q,z,d⟩
end
structure Cls (K:PySem.W.Frag) (C:Addr):Prop where
 pg:PySem.W.plainGet K C Str.empty=true
 hd:PySem.W.hasDictIn K C=true
 po:PySem.W.plainOver K C=true
 sa:PySem.W.findIn K (.ref C) "__setattr__" = some (some (.builtin "object.__setattr__"))
theorem Cls.get{K:PySem.W.Frag}{C:Addr}(c:Cls K C)(f:Str):PySem.W.plainGet K C f=true:=c.pg
def NoAttr(K:PySem.W.Frag)(C:Addr)(f:Str):Prop:=PySem.W.findIn K (.ref C) f=some none
theorem NoAttr.taker{K:PySem.W.Frag}{C:Addr}{f:Str}(n:NoAttr K C f):PySem.W.takerIn K C f=some none:=by
 unfold PySem.W.takerIn;rw[show PySem.W.findIn K (.ref C) f=some none from n]
 rfl
structure Ad (K:PySem.W.Frag) (C:Addr) (m:Str) (f:Addr):Prop where
 at_:PySem.W.findIn K (.ref C) m=some (some (.ref f))
 fn:PySem.W.isFn K (.ref f)=true
 kp:PySem.W.keepIn K (.ref f)=true
section
variable{X:Cx}{pins:List (Addr × Obj)}{σ : St}{H:Hp}{s:Shared}{a C dx:Addr}{fs:List (Str × V)}{f:Str}{v:V}{A:Around}{E:Value→Shared→Prop}
theorem vU{b:Bool}{Q:Value→Shared→Prop}(I:Inv X pins σ H s)(e:H a=some (.ins C dx fs))(c:Cls X.K C)(n:NoAttr X.K C f)(l:fs.lookup f=some v)
  (h:∀ u s',Inv X pins σ H s'→RelV v u→Q u s'):wpAny (model X.prog X.w) A (getAttr (.ref a) f b) Q E s:=by
 obtain⟨mA,O,r,_,_,_⟩:=kO I.hok e
 obtain⟨u,hu,ru⟩:=RelO.some_of (v:=v) (o:=mA f) (by rw[← l]; exact r f)
 exact CC I.kIn O (c.get f) c.hd n hu (wK ru) (h u _ (I.tok _) ru)
theorem vT{m:Str}{g:Addr}{pl:Sem Bool}{Q:Value × List Value→Shared→Prop}(I:Inv X pins σ H s)(e:H a=some (.ins C dx fs))(c:Cls X.K C)(k:Ad X.K C m g)(l:fs.lookup m=none)
  (h:Q (.ref g,[.ref a]) s):wpAny (model X.prog X.w) A (getMethod (.ref a) m pl) Q E s:=by
 obtain⟨mA,O,r,_,_,_⟩:=kO I.hok e
 have hn:mA m=none:=RelO.none_of (by rw[← l]; exact r m)
 exact zA I.kIn O (c.get m) k.at_ k.fn hn h
theorem vE{y:V}{u:Value}{Q:Unit→Shared→Prop}(I:Inv X pins σ H s)(e:H a=some (.ins C dx fs))(c:Cls X.K C)(n:NoAttr X.K C f)(hl:fs.length<1000)(ry:RelV y u)
  (h:∀ s',Inv X pins σ (upd H a (.ins C dx (cQ f y fs))) s'→Q () s'):wpAny (model X.prog X.w) A (setAttr (.ref a) f u) Q E s:=by
 obtain⟨mA,O,r,wi,_,ho⟩:=kO I.hok e
 have hz:(fs.map (·.1)).length≤sizeLine:=by rw[List.length_map,sizeLine_eq]; omega
 refine CV I.kIn O c.sa c.po n.taker c.hd wi hz fun h' O' sb=>h _ ?_
 have hd:∃ o,h'.get? dx=some o:=let ⟨o,_,_,e',_⟩:=O'.ns; ⟨o,e'⟩
 refine I.write (x:=a) (e:=dx) (by rw[e]; exact True.intro) (.inr ho) (fun b q hb z=>(sb.2 b hb).trans z) hd ?_
 refine⟨by rw[aj O.ne]; exact ho,?_,O.ne,O'.obj,_,O'.ns,fun g=>?_,fun g hg=>?_⟩
 ·have:=lh f y fs; omega
 ·show RelO ((cQ f y fs).lookup g) (if g=f then some u else mA g)
  rw[lv]
  by_cases q:g=f
  ·rw[if_pos q,if_pos q]; exact ry
  ·rw[if_neg q,if_neg q]; exact r g
 ·by_cases q:g=f
  ·rw[q]; exact(jZ f y fs).1
  ·refine(jZ f y fs).2 g (wi g fun z=>hg ?_)
   show (if g=f then some u else mA g)=none
   rw[if_neg q]; exact z
theorem Inv.made(I:Inv X pins σ H s):Inv X pins σ (upd (upd H s.heap.objs.size (.own (s.heap.objs.size+1))) (s.heap.objs.size+1) (.ins C s.heap.objs.size []))
  { s with heap:=(s.heap.push PySem.W.emptyDict).push (PySem.W.instObj C s.heap.objs.size) }:=by
 have e1:(s.heap.push PySem.W.emptyDict).get? s.heap.objs.size=some PySem.W.emptyDict:=Heap.get?_push_size s.heap rfl
 have e2:((s.heap.push PySem.W.emptyDict).push (PySem.W.instObj C s.heap.objs.size)).get? (s.heap.objs.size+1)=some (PySem.W.instObj C s.heap.objs.size):=by
  have:=Heap.get?_push_size (s.heap.push PySem.W.emptyDict) (o:=PySem.W.instObj C s.heap.objs.size) rfl
  rwa [Heap.size_push]at this
 have e3:(s.heap.push PySem.W.emptyDict).Ns s.heap.objs.size (fun _=>none):=⟨PySem.W.emptyDict,#[],_,e1,rfl,(fun e he=>absurd he (by simp)),fun _=>rfl⟩
 have I1:=I.laid (a:=s.heap.objs.size) (o:=.own (s.heap.objs.size+1)) (h':=s.heap.push PySem.W.emptyDict) (t':=s.toks) (fun b u q=>Heap.get?_push_of_some _ q) (Nat.le_refl _) ⟨_,e1⟩
 refine I1.laid (a:=s.heap.objs.size+1) (o:=.ins C s.heap.objs.size []) (t':=s.toks) (fun b u q=>Heap.get?_push_of_some _ q) (Nat.le_of_eq (Heap.size_push _ _)) ?_
 have ne:s.heap.objs.size≠s.heap.objs.size+1:=Nat.ne_of_lt (Nat.lt_succ_self _)
 refine⟨by rw[aj ne,ah],Nat.zero_le _,ne,e2,fun _=>none,(Heap.Ns1.of_empty e3).at fun o q=>Heap.get?_push_of_some _ q,fun _=>True.intro,fun y hy=>absurd rfl hy⟩
theorem Cd{prog:Program}{w:World}{env:Env}{e:Expr}{f:Str}{pos:Pos}{s:Shared}{Q:Value→Shared→Prop}(hb:attributeBase e f env (eval e env)=eval e env)
  (h:wpAny (model prog w) A (eval e env) (fun o s₁=>wpAny (model prog w) A (getAttr o f true) Q E s₁) E s):wpAny (model prog w) A (eval (.Attribute e f pos) env) Q E s:=
 Attribute_any_ h (by rw[arm_eval_Attribute,hb])
end
section
variable{X:Cx}{pins:List (Addr × Obj)}{σ : St}{H:Hp}{s:Shared}{A:Around}{E:Value→Shared→Prop}{Q:Value→Shared→Prop}{c:Value}{b:Bool}
inductive gw (K:PySem.W.Frag) (H:Hp):V→Value→Prop where
 | non:gw K H .non (.type "NoneType")
 | bl (x:Bool):gw K H (.bl x) (.type "bool")
 | int (i:Int):gw K H (.int i) (.type "int")
 | str (x:Str):gw K H (.str x) (.type "str")
 | flt (x:UInt64):gw K H (.flt x) (.type "float")
 | lst {a:Addr} {xs:List V} (e:H a=some (.lst xs)):gw K H (.ref a) (.type "list")
 | frz {a:Addr} {o:Obj} {xs:List V} (e:H a=some (.frz o (.lst xs))):gw K H (.ref a) (.type "list")
 | tup {a:Addr} {xs:List V} (e:H a=some (.tup xs)):gw K H (.ref a) (.type "tuple")
 | dK {a:Addr} {kvs:List (aK × V)} (e:H a=some (.dK kvs)):gw K H (.ref a) (.type "dict")
 | dT {a:Addr} {kvs:List (List aK × V)} (e:H a=some (.dT kvs)):gw K H (.ref a) (.type "dict")
 | ins {a C dx:Addr} {fs:List (Str × V)} (e:H a=some (.ins C dx fs)) (cl:Cls K C) (ha:PySem.W.findIn K (.ref C) "__class__" = some (some (.builtin "object.__class__")))
   (hn:PySem.W.specialIn K (.builtin "object.__class__") "__get__" = some (some (.builtin "getset_descriptor.__get__"))) (htk:PySem.W.takesIn K (.builtin "object.__class__")=some true)
   (hm:PySem.W.mroIn K C (.type "object")=some true):gw K H (.ref a) (.ref C)
theorem xI{x:V}{u t:Value}(I:Inv X pins σ H s)(rx:RelV x u)(ty:gw X.K H x t)(e:PySem.W.kitOne X.K t c=some b)(h:∀ tk,Q (.bool b) { s with toks:=tk }) :
  wpAny (model X.prog X.w) A (call (.builtin "isinstance") [u,c]) Q E s:=by
 cases ty with
 | non=>cases (show u=Value.none from rx); exact PySem.W.kia_one PySem.W.kitx_none I.kIn True.intro e (fun z=>nomatch z) h
 | bl y=>cases (show u=Value.bool y from rx); exact PySem.W.kia_one PySem.W.kitx_bool I.kIn True.intro e (fun z=>nomatch z) h
 | int i=>obtain⟨t,q⟩:=(show ∃ t,u=Value.int i t from rx); cases q; exact PySem.W.kia_one PySem.W.kitx_int I.kIn True.intro e (fun z=>nomatch z) h
 | str y=>obtain⟨t,q⟩:=(show ∃ t,u=Value.str y t from rx); cases q; exact PySem.W.kia_one PySem.W.kitx_str I.kIn True.intro e (fun z=>nomatch z) h
 | flt y=>obtain⟨t,q⟩:=(show ∃ t,u=Value.float y t from rx); cases q; exact PySem.W.kia_one PySem.W.kitx_float I.kIn True.intro e (fun z=>nomatch z) h
 | @lst a xs ea=>
  cases (show u=Value.ref a from rx)
  obtain⟨_,_,n,_,h1⟩:=(show ObjOk X.prog X.w H s.heap a (.lst xs) from I.hok a _ ea)
  exact PySem.W.kia_one PySem.W.kitx_list I.kIn ⟨_,h1,rfl⟩ e (fun z=>nomatch z) h
 | @frz a ob xs ea=>
  cases (show u=Value.ref a from rx)
  obtain⟨_,_,_,n,_,h1⟩:=(show ObjOk X.prog X.w H s.heap a (.frz ob (.lst xs)) from I.hok a _ ea)
  exact PySem.W.kia_one PySem.W.kitx_list I.kIn ⟨_,h1,rfl⟩ e (fun z=>nomatch z) h
 | @tup a xs ea=>
  cases (show u=Value.ref a from rx)
  obtain⟨_,_,_,p⟩:=(show ObjOk X.prog X.w H s.heap a (.tup xs) from I.hok a _ ea)
  obtain⟨o,h1,h2,_⟩:=p
  exact PySem.W.kia_one PySem.W.kitx_tuple I.kIn ⟨o,h1,h2⟩ e (fun z=>nomatch z) h
 | @dK a kvs ea=>
  cases (show u=Value.ref a from rx)
  obtain⟨_,_,vs,_,p⟩:=(show ObjOk X.prog X.w H s.heap a (.dK kvs) from I.hok a _ ea)
  obtain⟨o,es,ep,h1,h2,_⟩:=p
  exact PySem.W.kia_one PySem.W.kitx_dict I.kIn ⟨o,h1,h2.1⟩ e (fun z=>nomatch z) h
 | @dT a kvs ea=>
  cases (show u=Value.ref a from rx)
  obtain⟨_,_,xs,_,o,es,ep,h1,h2,_⟩:=(show ObjOk X.prog X.w H s.heap a (.dT kvs) from I.hok a _ ea)
  exact PySem.W.kia_one PySem.W.kitx_dict I.kIn ⟨o,h1,h2.1⟩ e (fun z=>nomatch z) h
 | @ins a C dx fs ea cl ha hn htk hm=>
  cases (show u=Value.ref a from rx)
  obtain⟨mA,O,_⟩:=kO I.hok ea
  obtain⟨od,J,_⟩:=O.look
  exact PySem.W.kia_one (PySem.W.kitx_own (cl.get _) cl.hd ha hn htk hm) I.kIn J e (fun z=>nomatch z) h
end
structure Room (k:Nat) (A:Around):Prop where
 hd:A.handled=none
 dp:A.depth+3 * k+5<recursionLimit
 un:A.units+16 * k+200<cLine
theorem Room.mono{j k:Nat}{A:Around}(r:Room k A)(h:j≤k):Room j A:=⟨r.hd,by have:=r.dp; omega,by have:=r.un; omega⟩
theorem Room.deeper{k:Nat}{A:Around}(r:Room (k+1) A)(env:Env):Room k (A.deeper env):=
 ⟨r.hd,by have:=r.dp; show A.depth+1+3 * k+5<_; omega,by have:=r.un; show A.units+3+16 * k+200<_; omega⟩
theorem vo{A:Around}{C:Addr}{us:List Value}{kw:List (Str × Value)}:(A.under (.builtin "type.__call__" ⟨.ref C::us,kw⟩)).depth=A.depth+1:=by
 first | rfl | simp[Around.under,Code.weight,Code.isCreation,Code.isGuard,Code.isCaller,Code.frames,Code.isFrame,guardIds]
theorem vX{A:Around}{C:Addr}{us:List Value}{kw:List (Str × Value)}:(A.under (.builtin "type.__call__" ⟨.ref C::us,kw⟩)).units=A.units+1:=by
 first | rfl | simp[Around.under,Code.cUnits,Code.frames,Code.isFrame]
theorem Room.make{k:Nat}{A:Around}(r:Room (k+1) A)(C:Addr)(us:List Value)(kw:List (Str × Value)):Room k (A.under (.builtin "type.__call__" ⟨.ref C::us,kw⟩)):=
 ⟨r.hd,by have:=r.dp; rw[vo]; omega,by have:=r.un; rw[vX]; omega⟩
theorem Room.depth{k:Nat}{A:Around}(r:Room k A):A.depth<recursionLimit:=by have:=r.dp; omega
theorem Room.units{k:Nat}{A:Around}(r:Room k A):A.units+64<cLine:=by have:=r.un; omega
def Eb:TA:=fun _ H Q=>Q [] H
def Bd(ta:TE)(tr:TA):TA:=fun σ H Q=>ta σ H fun x H1=>tr σ H1 fun xs H2=>Q (x::xs) H2
section
variable{X:Cx}{e:Expr}{es:List Expr}{te:TE}{t:TA}{pos:Pos}
theorem ac:PA X [] Eb:=fun _ _ _ _ H Q I h=>Calls.spliced_nil ⟨[],H,I,.nil,h⟩
theorem aa(ha:PE X e te)(hr:PA X es t)(hs:starEach (e::es) X.env=(false,eval e X.env)::starEach es X.env:=by rfl):PA X (e::es) (Bd te t):=by
 intro pos pins s σ H Q I h
 rw[hs];show wpAny _ _ (spliced ((false,eval e X.env)::backTo pos (starEach es X.env))) _ _ s
 refine Calls.spliced_cons (bf (ha pins s σ H _ I h) fun u s1 ⟨x,H1,I1,r1,q1⟩=>?_)
 exact bf (hr pos pins s1 σ H1 _ I1 q1) fun us s2 ⟨xs,H2,I2,r2,q2⟩=>⟨x::xs,H2,I2,.cons r1 r2,q2⟩
def Ft(t:TA):TE:=fun σ H Q=>t σ H fun xs H1=>xs.length≤sizeLine∧∀ p,H1 p=none→Q (.ref p) (upd H1 p (.tup xs))
def E3(t:TA):TE:=fun σ H Q=>t σ H fun xs H1=>xs.length≤sizeLine∧∀ p,H1 p=none→Q (.ref p) (upd H1 p (.lst xs))
theorem bB{x1}(h:PA X es t):PE X (.Tuple es x1 pos) (Ft t):=by
 intro pins s σ H Q I hq
 refine wpAny_Tuple_spliced (bf (h pos pins s σ H _ I hq) fun us s1 ⟨xs,H1,I1,r,z,q⟩=>⟨by rw[← r.length]; exact z,?_⟩)
 have hf:H1 s1.heap.objs.size=none:=I1.hok.fresh (Nat.le_refl _)
 refine⟨.ref s1.heap.objs.size,upd H1 s1.heap.objs.size (.tup xs),I1.laid (t':=s1.toks) (fun b u e=>Heap.get?_push_of_some _ e) (Nat.le_refl _) ?_,rfl,q _ hf⟩
 exact⟨z,us,r,⟨_,Heap.get?_push_size _ rfl,rfl,rfl,_,rfl⟩⟩
theorem bA(h:PA X es t):PE X (.List es pos) (E3 t):=by
 intro pins s σ H Q I hq
 refine wpAny_List_spliced (bf (h pos pins s σ H _ I hq) fun us s1 ⟨xs,H1,I1,r,z,q⟩=>⟨by rw[← r.length]; exact z,?_⟩)
 have hf:H1 s1.heap.objs.size=none:=I1.hok.fresh (Nat.le_refl _)
 refine⟨.ref s1.heap.objs.size,upd H1 s1.heap.objs.size (.lst xs),I1.laid (t':=s1.toks) (fun b u e=>Heap.get?_push_of_some _ e) (Nat.le_refl _) ?_,rfl,q _ hf⟩
 exact⟨z,us,0,r,Heap.get?_push_size _ rfl⟩
end
abbrev Sp:=List V→Hp→VK→XK→Prop
abbrev iU:=List Env→Hp→Shared→XK→Value→Shared→Prop
structure Env0 (P:Program) (w:World) (K:PySem.W.Frag) (mg:Str→Option Value) (base:Heap) (A:Around) (outer:List Env) (s:Shared) (H:Hp):Prop where
 frames:A.frames=some outer
 mod:Mod K mg base
 bs:∀ b o,base.get? b=some o→s.heap.get? b=some o∧H b=none
 bsz:base.objs.size≤s.heap.objs.size
 funs:s.heap.FunFrames base outer
 frf:∀ b∈jG outer,H b=none
 hok:HOk P w H s.heap
 bare:AllBare s.gens
def CE(outer:List Env)(P:Program)(w:World)(H:Hp)(s:Shared)(Q:VK)(u:Value)(s':Shared):Prop:=
 ∃ v H',s'.os=s.os∧AllBare s'.gens∧Un (jG outer) [] H H' s.heap s'.heap∧HOk P w H' s'.heap∧RelV v u∧Q v H'
def CR(CX:iU)(outer:List Env)(P:Program)(w:World)(H:Hp)(s:Shared)(Q:VK)(E:XK)(r:Result)(s':Shared):Prop:=
 match r with
 | .ok (.ret u)=>CE outer P w H s Q u s'
 | .ok _=>False
 | .error e=>CX outer H s E e s'
structure FnOk (P:Program) (w:World) (K:PySem.W.Frag) (mg:Str→Option Value) (base:Heap) (CX:iU) (k:Nat) (f:Addr) (fd:FuncData) (ps:List Str) (sp:Sp):Prop where
 len:∀ vs H Q E,sp vs H Q E→vs.length=ps.length
 run:∀ (A:Around) (outer:List Env) (s:Shared) (H:Hp) (args:Args) (us:List Value) (vs:List V) (Q:VK) (E:XK),Room k A→Env0 P w K mg base A outer s H→BindsTo s fd args (ps.zip us)→Vals vs us→sp vs H Q E→
  codeAny (model P w) A (.call (.ref f) args) (CR CX outer P w H s Q E) s
theorem FnOk.mono{P:Program}{w:World}{K:PySem.W.Frag}{mg:Str→Option Value}{base:Heap}{CX:iU}{j k:Nat}{f:Addr}{fd:FuncData}{ps:List Str}{sp:Sp}(F:FnOk P w K mg base CX j f fd ps sp)(h:j≤k) :
  FnOk P w K mg base CX k f fd ps sp:=⟨F.len,fun A outer s H args us vs Q E hr=>F.run A outer s H args us vs Q E (hr.mono h)⟩
theorem FnOk.imp{P:Program}{w:World}{K:PySem.W.Frag}{mg:Str→Option Value}{base:Heap}{CX:iU}{k:Nat}{f:Addr}{fd:FuncData}{ps:List Str}{sp sp':Sp}(F:FnOk P w K mg base CX k f fd ps sp)
  (h:∀ vs H Q E,sp' vs H Q E→sp vs H Q E):FnOk P w K mg base CX k f fd ps sp':=
 ⟨fun vs H Q E q=>F.len vs H Q E (h _ _ _ _ q),fun A outer s H args us vs Q E hr he hb hv hs=>F.run A outer s H args us vs Q E hr he hb hv (h _ _ _ _ hs)⟩
theorem Env0.make{P:Program}{w:World}{K:PySem.W.Frag}{mg:Str→Option Value}{base:Heap}{A:Around}{outer:List Env}{s:Shared}{H:Hp}(e:Env0 P w K mg base A outer s H)(C:Addr)(us:List Value)(kw:List (Str × Value)) :
  Env0 P w K mg base (A.under (.builtin "type.__call__" ⟨.ref C::us,kw⟩)) outer s H:=⟨by first | exact e.frames | (simpa [Around.under,Code.envs,Code.isFrame,pushEnvs] using e.frames),e.mod,e.bs,e.bsz,e.funs,e.frf,e.hok,e.bare⟩
section
variable{X:Cx}{pins:List (Addr × Obj)}{σ : St}{H:Hp}{s s':Shared}
theorem Inv.env0(I:Inv X pins σ H s):Env0 X.prog X.w X.K X.mg X.base X.A X.stack s H:=
 ⟨I.ok.frames,I.ok.mod,I.bs,Nat.le_trans I.ok.bsz I.sz,I.stack,I.stkFree,I.hok,I.bare⟩
theorem Inv.after{Q:VK}{u:Value}(I:Inv X pins σ H s)(h:CE X.stack X.prog X.w H s Q u s'):EP X pins σ Q u s':=by
 obtain⟨v,H',os,bare,un,hok,r,q⟩:=h
 obtain⟨hh,g,d,t,os'⟩:=s'
 obtain rfl:os'=s.os:=os
 exact⟨v,H',I.call (h':=hh) (g':=g) (d':=d) (t':=t) (ch:=[]) un hok bare (fun b z=>absurd z (by simp)),r,q⟩
end
def vD(sp:Sp)(dvs:List V)(E:XK)(t:TA):TE:=fun σ H Q=>t σ H fun vs H1=>sp (vs++dvs) H1 Q E
def Binds(K:PySem.W.Frag)(fd:FuncData)(ps:List Str)(ds:List Value):Prop:=
 ∀ (s:Shared) (us:List Value),K.In s.heap→(us++ds).length=ps.length→BindsTo s fd ⟨us,[]⟩ (ps.zip (us++ds))
theorem Binds.all{K:PySem.W.Frag}{fd:FuncData}{ps:List Str}(h:∀ us:List Value,us.length=ps.length→bindArgs fd ⟨us,[]⟩=pure (ps.zip us)):Binds K fd ps []:=fun s us _ hl=>by
 rw[List.append_nil]at hl ⊢
 exact .of_eq (h us hl)
def lX(CX:iU)(X:Cx)(E:XK):Prop:=∀ (pins:List (Addr × Obj)) (σ : St) (H:Hp) (s:Shared) (e:Value) (s':Shared),Inv X pins σ H s→CX X.stack H s E e s'→X.xe e s'
section
variable{X:Cx}{CX:iU}{k:Nat}{f C:Addr}{fd:FuncData}{ps:List Str}{sp:Sp}{dvs:List V}{ds:List Value}{E:XK}{x m:Str}{p pos apos:Pos}{e o:Expr}{es:List Expr}{ta:TE}{t:TA}
theorem xQ{pins:List (Addr × Obj)}{σ : St}{H:Hp}{s:Shared}{Q:VK}{us:List Value}{vs:List V}(F:FnOk X.prog X.w X.K X.mg X.base CX k f fd ps sp)(hr:Room k X.A)(hb:Binds X.K fd ps ds)(hd:Vals dvs ds)(hx:lX CX X E)
  (I:Inv X pins σ H s) (r:Vals vs us) (h:sp (vs++dvs) H Q E):wpAny (model X.prog X.w) X.A (call (.ref f) us) (EP X pins σ Q) X.xe s:=by
 have r2:Vals (vs++dvs) (us++ds):=r.append hd
 have hl:(us++ds).length=ps.length:=by rw[← r2.length]; exact F.len _ _ _ _ h
 refine wpAny_call (codeAny_mono (F.run X.A X.stack s H ⟨us,[]⟩ (us++ds) (vs++dvs) Q E hr I.env0 (hb s us I.kIn hl) r2 h) fun r s' hq=>?_)
 cases r with
 | error e=>exact hx pins σ H s e s' I hq
 | ok fl=>
  cases fl with
  | ret u=>exact I.after hq
  | next=>exact False.elim hq
  | brk=>exact False.elim hq
  | cont=>exact False.elim hq
theorem Ca(F:FnOk X.prog X.w X.K X.mg X.base CX k f fd ps sp)(hr:Room k X.A)(hg:Gl X x)(hm:X.mg x=some (.ref f))(hk:PySem.W.keepIn X.K (.ref f)=true)(hb:Binds X.K fd ps ds)(hd:Vals dvs ds)(hx:lX CX X E)
  (ha:PA X (e::es) t) (hdb:(x == ("__debug__" : Str))=false:=by decide) (he:starEach (e::es) X.env=(false,eval e X.env)::starEach es X.env:=by rfl) (hpl:(backTo pos (starEach es X.env)).any (·.1)=false:=by rfl) :
  PE X (.Call (.Name x p) (e::es) [] pos) (vD sp dvs E t):=by
 intro pins s σ H Q I h
 refine wpAny_Call_Name_kw (mV I hg hm ?_ hdb)
 refine PySem.W.callWith_K (h₀:=X.base) I.ok.mod.kin hk (bf (ha pos pins s σ H _ I h) fun us s1 ⟨vs,H1,I1,r,q⟩=>⟨I1.kIn,?_⟩) he hpl
 exact xQ F hr hb hd hx I1 r q
structure Mk (K:PySem.W.Frag) (C f:Addr):Prop where
 makes:PySem.W.makesIn K C=true
 init:PySem.W.findIn K (.ref C) "__init__" = some (some (.ref f))
 fn:PySem.W.isFn K (.ref f)=true
 kp:PySem.W.keepIn K (.ref C)=true
theorem A4{pins:List (Addr × Obj)}{σ : St}{H:Hp}{s:Shared}{Q:VK}{us:List Value}{vs:List V}(M:Mk X.K C f)(F:FnOk X.prog X.w X.K X.mg X.base CX k f fd ps sp)(hr:Room (k+1) X.A)(hb:Binds X.K fd ps ds)(hd:Vals dvs ds)
  (hx:lX CX X E) (I:Inv X pins σ H s) (r:Vals vs us)
  (h:∀ x dx,H x=none→H dx=none→dx≠x→sp (.ref x::(vs++dvs)) (upd (upd H dx (.own x)) x (.ins C dx [])) (fun v H2=>v = .non∧Q (.ref x) H2) E) :
  wpAny (model X.prog X.w) X.A (call (.ref C) us) (EP X pins σ Q) X.xe s:=by
 have hq:=h (s.heap.objs.size+1) s.heap.objs.size (I.hok.fresh (Nat.le_succ _)) (I.hok.fresh (Nat.le_refl _)) (Nat.ne_of_lt (Nat.lt_succ_self _));have I2:=Inv.made (C:=C) I;have r2:Vals (V.ref (s.heap.objs.size+1)::(vs++dvs)) (Value.ref (s.heap.objs.size+1)::(us++ds)):=.cons rfl (r.append hd)
 have hl:(Value.ref (s.heap.objs.size+1)::us++ds).length=ps.length:=by
  have e:=r2.length;rw[F.len _ _ _ _ hq]at e
  exact e.symm
 refine wpAny_call (zB (f:=f) I.kIn M.makes M.init (beq_iff_eq.mp M.fn) (codeAny_mono (F.run _ X.stack _ _ ⟨Value.ref (s.heap.objs.size+1)::us,[]⟩ (Value.ref (s.heap.objs.size+1)::(us++ds)) _ _ E (hr.make C us [])
  (I2.env0.make C us []) (hb _ (Value.ref (s.heap.objs.size+1)::us) I2.kIn hl) r2 hq) fun r s' hq'=>?_))
 cases r with
 | error e=>exact hx pins σ _ _ e s' I2 hq'
 | ok fl=>
  cases fl with
  | ret u=>
   obtain⟨v,H',I3,rv,ev,q3⟩:=I2.after hq'
   subst ev;exact⟨rv,⟨V.ref (s.heap.objs.size+1),H',I3,rfl,q3⟩⟩
  | next=>exact False.elim hq'
  | brk=>exact False.elim hq'
  | cont=>exact False.elim hq'
end
structure aE (N P:List Str) (sc:Scope):Prop where
 kind:sc.kind = .function
 co:sc.isCoroutine=false
 gen:sc.isGenerator=false
 nd:N.Nodup
 pre:N.take P.length=P
 par:∀ x∈P,sc.names.lookup x=some .local∨sc.names.lookup x=some .cell
 nofree:∀ y∈sc.names,y.2 ≠ .free
theorem mKk{N P:List Str}{s:Stmt}(h1:(L2.defScope s).kind = .function:=by rfl)(h2:(L2.defScope s).isCoroutine=false:=by rfl)(h3:(L2.defScope s).isGenerator=false:=by rfl)(h4:N.Nodup:=by decide +kernel)(h5:N.take P.length=P:=by rfl)(h6:∀ x∈P,(L2.defScope s).names.lookup x=some .local∨(L2.defScope s).names.lookup x=some .cell:=by decide +kernel)(h7:∀ y∈(L2.defScope s).names,y.2 ≠ .free:=by decide +kernel):aE N P (L2.defScope s):=⟨h1,h2,h3,h4,h5,h6,h7⟩
theorem oQ{kindOf:Str→Option NameKind}{x:Str}:∀ {binds:List (Str × Value)} {m:Str→Option Value},(∀ v,(x,v)∉binds)→bindL kindOf binds m x=m x
 | [],_,_=>rfl
 | (n,v)::r,m,h=>by
  unfold bindL;rw[oQ fun w hw=>h w (List.mem_cons_of_mem _ hw)]
  split
  ·have:x≠n:=by rintro rfl; exact h v List.mem_cons_self
   simp[this]
  ·rfl
theorem nQ{kindOf:Str→Option NameKind}{x:Str}:∀ {binds:List (Str × Value)} {m:Str→Option Value},(∀ v,(x,v)∉binds)→bindC kindOf binds m x=m x
 | [],_,_=>rfl
 | (n,v)::r,m,h=>by
  unfold bindC;rw[nQ fun w hw=>h w (List.mem_cons_of_mem _ hw)]
  split
  ·rfl
  ·have:x≠n:=by rintro rfl; exact h v List.mem_cons_self
   simp[this]
theorem oV{kindOf:Str→Option NameKind}{x:Str}{v:Value}:∀ {P:List Str} {vs:List Value} {i:Nat} {m:Str→Option Value},P.Nodup→P[i]? = some x→vs[i]? = some v→kindOf x=some .local→
  bindL kindOf (P.zip vs) m x=some v
 | [],_,_,_,_,h,_,_=>by simp at h
 | _::_,[],_,_,_,_,h,_=>by simp at h
 | p::P,w::vs,0,m,nd,h1,h2,hk=>by
  simp at h1 h2; subst h1; subst h2
  show bindL kindOf ((p,w)::P.zip vs) m p=_
  unfold bindL;rw[oQ fun v hv=>(List.nodup_cons.mp nd).1 (List.of_mem_zip hv).1,if_pos hk]
  simp
 | p::P,w::vs,i+1,m,nd,h1,h2,hk=>by
  show bindL kindOf ((p,w)::P.zip vs) m x=_
  unfold bindL;exact oV (i:=i) (List.nodup_cons.mp nd).2 (by simpa using h1) (by simpa using h2) hk
theorem nW{kindOf:Str→Option NameKind}{x:Str}{v:Value}:∀ {P:List Str} {vs:List Value} {i:Nat} {m:Str→Option Value},P.Nodup→P[i]? = some x→vs[i]? = some v→kindOf x≠some .local→
  bindC kindOf (P.zip vs) m x=some v
 | [],_,_,_,_,h,_,_=>by simp at h
 | _::_,[],_,_,_,_,h,_=>by simp at h
 | p::P,w::vs,0,m,nd,h1,h2,hk=>by
  simp at h1 h2; subst h1; subst h2
  show bindC kindOf ((p,w)::P.zip vs) m p=_
  unfold bindC;rw[nQ fun v hv=>(List.nodup_cons.mp nd).1 (List.of_mem_zip hv).1,if_neg hk]
  simp
 | p::P,w::vs,i+1,m,nd,h1,h2,hk=>by
  show bindC kindOf ((p,w)::P.zip vs) m x=_
  unfold bindC;exact nW (i:=i) (List.nodup_cons.mp nd).2 (by simpa using h1) (by simpa using h2) hk
def start(N:List Str)(vs:List V):St:=vs.map some++List.replicate (N.length - vs.length) none
def jy(CX:iU)(P:Program)(w:World)(K:PySem.W.Frag)(mg:Str→Option Value)(base:Heap)(N:List Str)(qual:Str)(scope:Scope)(f:Addr)(cd:Value)(A:Around)(outer:List Env)(s:Shared)(H:Hp)(E:XK):Cx where
 prog:=P
 w:=w
 K:=K
 mg:=mg
 base:=base
 A:=A.deeper (envOfC qual scope s.heap.objs.size f cd)
 N:=N
 s₀:=s
 H₀:=H
 env:=envOfC qual scope s.heap.objs.size f cd
 outer:=outer
 stack:=envOfC qual scope s.heap.objs.size f cd::outer
 ex:=[]
 calm:=true
 fn:=fun _=>true
 pn:=[]
 xe:=fun e s'=>wpAny (model P w) (A.deeper (envOfC qual scope s.heap.objs.size f cd)) (leaving (envOfC qual scope s.heap.objs.size f cd) e) (fun _ s''=>CX outer H s E e s'') (fun e' s''=>CX outer H s E e' s'') s'
theorem p_{sc:Scope}{n:Nat}{x:Str}(h:sc.names.lookup x=some .cell):∃ c,(cellsFrom n sc.names []).lookup x=some c:=by
 have q:=PySem.W.cellsFrom_some sc.names n [] (.inl h);exact Option.isSome_iff_exists.mp q
theorem x9{CX:iU}{P:Program}{w:World}{K:PySem.W.Frag}{mg:Str→Option Value}{base:Heap}{N ps:List Str}{qual:Str}{scope:Scope}{f:Addr}{cd:Value}{A:Around}{outer:List Env}{s s1:Shared}{H:Hp}{E:XK}{us:List Value}{vs:List V}
  (S:aE N ps scope) (hd:A.handled=none) (e0:Env0 P w K mg base A outer s H) (hl:vs.length=ps.length) (r:Vals vs us)
  (x:InCallC s s.heap.objs.size (bindL (envOfC qual scope s.heap.objs.size f cd).kindOf (ps.zip us) fun _=>none) (cellsFrom (s.heap.objs.size+1) scope.names []) (bindC (envOfC qual scope s.heap.objs.size f cd).kindOf (ps.zip us) fun _=>none) s1) :
  Inv (jy CX P w K mg base N qual scope f cd A outer s H E) [] (start N vs) H s1:=by
 have hpl:ps.length≤N.length:=by have:=congrArg List.length S.pre; rw[List.length_take]at this; omega
 obtain⟨h1,tk,rfl,hk⟩:=x.done
 have noA:∀ b:Addr,b∉(jy CX P w K mg base N qual scope f cd A outer s H E).ex:=fun b z=>absurd (show b∈([]:List Addr) from z) (by simp)
 refine⟨⟨e0.mod,S.kind,rfl,rfl,Nat.le_refl _,fun y z c h1 h2=>?_,fun y hy=>?_,fun y c _ h=>?_,fun _=>hd,Around.frames_deeper e0.frames,.inr ⟨rfl,rfl⟩,fun b z=>absurd z (noA b),e0.bs,e0.bsz,fun b _ _=>noA b,fun b z=>absurd z (noA b),e0.funs,e0.frf⟩,
  rfl,e0.bare,Un.kept hk,⟨_,x.toInCall.ns,fun i y v h1 h2 h3=>?_⟩,fun y c h=>⟨_,x.cell y c h⟩,e0.hok.fresh (Nat.le_refl _),fun y c h=>?_,fun p hp=>absurd (show p∈([]:List (Addr × Obj)) from hp) (by simp),e0.hok.kept hk,?_⟩
 ·exact name_of_addr x.apart (PySem.mem_of_lookup h1) (PySem.mem_of_lookup h2)
 ·have hy:scope.names.lookup y=some .cell∨scope.names.lookup y=some .free:=hy
  rcases hy with hy | hy
  ·exact p_ hy
  ·exact absurd rfl (S.nofree _ (PySem.mem_of_lookup hy))
 ·exact Nat.le_of_lt (x.above y c (PySem.mem_of_lookup h))
 ·have hi:i<vs.length:=by
   unfold start at h2
   by_cases hi:i<vs.length
   ·exact hi
   ·rw[List.getElem?_append_right (by simpa using hi)]at h2
    rw[List.getElem?_replicate]at h2
    split at h2 <;> cases h2
  have ha:vs[i]? = some v:=by
   unfold start at h2;rw[List.getElem?_append_left (by simpa using hi),List.getElem?_map]at h2
   cases e:vs[i]? with
   | none=>rw[e]at h2; cases h2
   | some a=>rw[e]at h2; cases h2; rfl
  obtain⟨u,hu,rv⟩:=r.get ha
  have hp:ps[i]? = some y:=by
   rw[← S.pre,List.getElem?_take_of_lt (by omega)]; exact h1
  have ndP:ps.Nodup:=by rw[← S.pre]; exact S.nd.sublist (List.take_sublist _ _)
  refine⟨u,rv,?_⟩
  rcases S.par y (List.mem_of_getElem? hp) with k | k
  ·exact .inl ⟨k,oV ndP hp hu k⟩
  ·obtain⟨c,e⟩:=p_ (n:=s.heap.objs.size+1) k
   refine .inr ⟨.inl k,c,e,?_⟩
   have q:=x.cell y c e;rw[nW ndP hp hu (by show scope.names.lookup y≠_; rw[k]; decide)]at q
   exact q
 ·exact e0.hok.fresh (Nat.le_of_lt (x.above y c (PySem.mem_of_lookup h)))
 ·unfold start
  show _=N.length
  rw[List.length_append,List.length_map,List.length_replicate];omega
theorem F8{CX:iU}{P:Program}{w:World}{K:PySem.W.Frag}{mg:Str→Option Value}{base:Heap}{k:Nat}{f:Addr}{name qual:Str}{params:Arguments}{body:List Stmt}{scope:Scope}{dV kV doc pm cdv ct oc:Value}{an od:Option Addr}
  {osl:Array (Option Value)} {N ps:List Str} {sp:Sp} (lk:K.lookup f=some ⟨oc,od,.func (PySem.W.fnOf name qual params body scope dV kV doc pm an cdv ct),osl⟩) (hcd:PySem.W.codeIn K cdv qual=true) (S:aE N ps scope)
  (len:∀ vs H Q E,sp vs H Q E→vs.length=ps.length)
  (hbody:∀ (A:Around) (outer:List Env) (s:Shared) (H:Hp) (vs:List V) (Q:VK) (E:XK),Room k (A.deeper (envOfC qual scope s.heap.objs.size f cdv))→sp vs H Q E→
   ∃ t,PSs (jy CX P w K mg base N qual scope f cdv A outer s H E) body t∧t { nx:=fun _ H'=>Q .non H',rt:=Q } (start N vs) H) :
  FnOk P w K mg base CX (k+1) f (PySem.W.fnOf name qual params body scope dV kV doc pm an cdv ct) ps sp:=by
 refine⟨len,fun A outer s H args us vs Q E hr e0 hb r hsp=>?_⟩
 have hl:=len _ _ _ _ hsp;have KX:K.In s.heap:=e0.mod.kin.keeps fun b o e=>(e0.bs b o e).1
 have lim:s.heap.NoLimit:=e0.mod.nolimit.keeps fun b o e=>(e0.bs b o e).1
 have hkind:∀ y∈ps.zip us,scope.names.lookup y.1=some .local∨(scope.names.lookup y.1=some .cell∧((cellsFrom (s.heap.objs.size+1) scope.names []).lookup y.1).isSome=true):=fun ⟨n,v⟩ hy=>by
  rcases S.par n (List.of_mem_zip hy).1 with q | q
  ·exact .inl q
  ·exact .inr ⟨q,PySem.W.cellsFrom_some _ _ _ (.inl q)⟩
 refine codeAny_call_function hr.depth (KX _ _ lk) rfl S.co S.gen rfl (PySem.W.codeRec_of KX hcd) (hb _ _ _ _ ?_)
 refine wpAny_newFunctionEnv_cells S.kind hkind fun env he s1 x=>?_
 subst he;refine⟨lim.keeps x.toInCall.keep,codeAny_func ?_⟩
 obtain⟨t,ht,hq⟩:=hbody A outer s H vs Q E (hr.deeper _) hsp
 have I:Inv (jy CX P w K mg base N qual scope f cdv A outer s H E) [] (start N vs) H s1:=x9 S hr.hd e0 hl r x
 refine wpAny_mono (ht [] s1 (start N vs) H _ I hq) (fun fl s' hs=>?_) fun e s' hs=>hs
 have fin:∀ {σ':St} {H':Hp} {v:V} {u:Value},Inv (jy CX P w K mg base N qual scope f cdv A outer s H E) [] σ' H' s'→RelV v u→Q v H'→CE outer P w H s Q u s':=
  fun {σ' H' v u} J rv q=>⟨v,H',J.os,J.bare,J.base,J.hok,rv,q⟩
 cases fl with
 | ret u=>
  obtain⟨v,σ',H',J,rv,q⟩:=hs
  exact fin J rv q
 | next=>
  obtain⟨σ',H',J,q⟩:=hs
  exact fin (v:=V.non) (u:=Value.none) J rfl q
 | brk=>
  obtain⟨_,_,_,q⟩:=hs
  exact False.elim q
 | cont=>
  obtain⟨_,_,_,q⟩:=hs
  exact False.elim q
section
variable{X:Cx}{x:Str}{p pos:Pos}{e:Expr}{es:List Expr}{t:TA}{id T:String}{r:List V→Hp→VK→Prop}
def x2(r:List V→Hp→VK→Prop)(t:TA):TE:=fun σ H Q=>t σ H fun vs H1=>r vs H1 Q
theorem yP(hc:CallR X (.builtin id) r)(hg:Gl X x)(hm:X.mg x=none)(hv:bootBuiltins x=some (.builtin id))(ha:PA X (e::es) t)(hn:x ≠ "__name__" := by decide) (hdb:(x == ("__debug__" : Str))=false:=by decide)
  (he:starEach (e::es) X.env=(false,eval e X.env)::starEach es X.env:=by rfl) (hpl:(backTo pos (starEach es X.env)).any (·.1)=false:=by rfl):PE X (.Call (.Name x p) (e::es) [] pos) (x2 r t):=by
 intro pins s σ H Q I h
 refine wpAny_Call_Name_kw (ig I hg hm hv ?_ hn hdb)
 exact PyProof.Rows.callWith_builtin1 (bf (ha pos pins s σ H _ I h) fun us s1 ⟨vs,H1,I1,r1,q1⟩=>hc pins s1 σ H1 vs us Q I1 r1 q1) he hpl
theorem xj(hc:CallR X (.type T) r)(hg:Gl X x)(hm:X.mg x=none)(hv:bootBuiltins x=some (.type T))(ha:PA X (e::es) t)(hn:x ≠ "__name__" := by decide) (hdb:(x == ("__debug__" : Str))=false:=by decide)
  (he:starEach (e::es) X.env=(false,eval e X.env)::starEach es X.env:=by rfl) (hpl:(backTo pos (starEach es X.env)).any (·.1)=false:=by rfl):PE X (.Call (.Name x p) (e::es) [] pos) (x2 r t):=by
 intro pins s σ H Q I h
 refine wpAny_Call_Name_kw (ig I hg hm hv ?_ hn hdb)
 exact PyProof.Rows.callWith_type1 (bf (ha pos pins s σ H _ I h) fun us s1 ⟨vs,H1,I1,r1,q1⟩=>hc pins s1 σ H1 vs us Q I1 r1 q1) he hpl
end
end L2
namespace HT
open PySem PyProof.Rows
theorem rcLt_int(A:Around)(s:Shared)(a:Int)(t:Tok)(c:Int)(u:Tok)(prog:Program)(w:World)(E:Value→Shared→Prop)(Q:Value→Shared→Prop)(h:Q (.bool (decide (a<c))) s) :
  wpAny (model prog w) A (richCompare .Lt (.int a t) (.int c u)) Q E s:=
 (PyProof.Rows.lt_int h:wpAny (model prog w) A (compareOp .Lt (.int a t) (.int c u)) Q E s)
section
variable{prog:Program}{w:World}{A:Around}{E:Value→Shared→Prop}{s:Shared}
theorem cat_tup{t b:Addr}{vs ws:List Value}{Q:Value→Shared→Prop}(ht:IsTup s.heap t vs.toArray)(hb:IsTup s.heap b ws.toArray)(hv:vs≠[])
  (h1:ws=[]→Q (.ref t) s) (h2:ws≠[]→Q (.ref s.heap.objs.size) { s with heap:=s.heap.push { cls:=.type "tuple", data:=.seq (vs++ws).toArray } })
  (hsz:vs.length+ws.length≤sizeLine):wpAny (model prog w) A (binaryOp .Add (.ref t) (.ref b)) Q E s:=by
 obtain⟨⟨cls,dd,data,sl⟩,ho,hc,n,hd⟩:=id ht
 obtain⟨⟨cls2,dd2,data2,sl2⟩,ho2,hc2,n2,hd2⟩:=id hb
 simp only at hc hd hc2 hd2
 subst hc hd hc2 hd2;have e:vs.toArray++ws.toArray=(vs++ws).toArray:=by simp
 by_cases hw:ws=[]
 ·exact concat_meets ⟨_,ho,rfl⟩ ⟨_,ho2,rfl⟩ noFill_tuple_add seq_tuple_add PySem.F.slot_tuple_add PySem.F.entry_tuple_add (PySem.F.args_tuple_add_2 _ _)
   (tuple_addW1 t b vs.toArray ws.toArray n n2 dd dd2 sl sl2 (by simpa using hv) (by simp[hw])) ⟨ho,ho2,h1 hw⟩
 ·refine concat_meets ⟨_,ho,rfl⟩ ⟨_,ho2,rfl⟩ noFill_tuple_add seq_tuple_add PySem.F.slot_tuple_add PySem.F.entry_tuple_add (PySem.F.args_tuple_add_2 _ _)
   (tuple_addW2 t b vs.toArray ws.toArray n n2 dd dd2 sl sl2 (by simpa using hv) (by simpa using hw) (by rw[List.size_toArray,List.size_toArray]; exact hsz)) ⟨ho,ho2,?_⟩
  rw[e];exact h2 hw
def sIx(n d:Nat):Option Int→Nat
 | none=>d
 | some v=>if v<0 then (v+(n:Int)).toNat else min v.toNat n
theorem sIx_none(n d:Nat):sIx n d none=d:=rfl
theorem sIx_nat(n d k:Nat):sIx n d (some (k:Int))=min k n:=by
 show (if (k:Int)<0 then ((k:Int)+(n:Int)).toNat else min (k:Int).toNat n)=min k n
 rw[if_neg (by omega),Int.toNat_natCast]
theorem sIx_le(n d:Nat)(hd:d≤n)(o:Option Int):sIx n d o≤n:=by
 cases o with
 | none=>exact hd
 | some v=>
  show (if v<0 then (v+(n:Int)).toNat else min v.toNat n)≤n
  by_cases hv:v<0
  ·rw[if_pos hv]; omega
  ·rw[if_neg hv]; exact Nat.min_le_right _ _
theorem tf(v:Int)(n d:Nat):(if v<0 then max (v+(n:Int)) 0 else min v (n:Int))=((sIx n d (some v):Nat):Int):=by
 show (if v<0 then max (v+(n:Int)) 0 else min v (n:Int))=(((if v<0 then (v+(n:Int)).toNat else min v.toNat n):Nat):Int)
 by_cases hv:v<0
 ·simp only[if_pos hv]; omega
 ·simp only[if_neg hv]; omega
theorem v4(lo hi:Option Int)(n:Nat):Builtin.Slice.sliceAdjust lo hi 1 (n:Int)=(((sIx n 0 lo:Nat):Int),((sIx n n hi:Nat):Int)):=by
 have h1:¬ ((1:Int)<0):=by omega
 unfold Builtin.Slice.sliceAdjust;simp only[h1,if_false]
 refine Prod.ext ?_ ?_
 ·cases lo with
  | none=>rfl
  | some v=>exact tf v n 0
 ·cases hi with
  | none=>rfl
  | some v=>exact tf v n n
theorem vC(i j:Nat):Builtin.Slice.slicePlaces (i:Int) (j:Int) 1=j - i:=by
 unfold Builtin.Slice.slicePlaces;have h1:(1:Int)>0:=by omega
 simp only[h1,if_true,Int.ediv_one]
 split <;> omega
theorem ml{v:Value}{o:Option Int}{Q:Option Int→Shared→Prop}(p:IsPart v o)(h:Q o s):wpAny (model prog w) A (Builtin.Slice.slicePartIndex v) Q E s:=by
 cases p with
 | none=>exact slicePart_none h
 | int i t=>exact slicePart_int h
theorem sliceApplied_gen{sl:Addr}{vl vu:Value}{lo hi:Option Int}{n:Nat}{Q:Int × Int × Nat→Shared→Prop}(hs:s.heap.IsSliceOf sl vl vu .none)(pl:IsPart vl lo)(pu:IsPart vu hi)
  (h:Q (((sIx n 0 lo:Nat):Int),1,sIx n n hi - sIx n 0 lo) s):wpAny (model prog w) A (Builtin.Slice.sliceApplied (.ref sl) (pure (n:Int))) Q E s:=by
 obtain⟨os,hos,hcs,hds⟩:=id hs
 unfold Builtin.Slice.sliceApplied Builtin.Slice.sliceFields;refine wpAny_bind (wpAny_bind (wpAny_field hos hds (x:=vl) rfl (wpAny_bind (wpAny_field hos hds (x:=vu) rfl (wpAny_bind (wpAny_field hos hds (x:=.none) rfl (wpAny_pure ?_)))))))
 refine wpAny_bind (slicePart_none ?_)
 show wpAny _ _ (if ((1:Int) == 0)=true then _ else _) _ _ s
 rw[if_neg (by decide)]
 refine wpAny_bind (ml pl (wpAny_bind (ml pu (wpAny_bind (wpAny_pure ?_)))))
 show wpAny _ _ (match Builtin.Slice.sliceAdjust lo hi 1 (n:Int) with | (lo,hi)=>pure (lo,(1:Int),Builtin.Slice.slicePlaces lo hi 1)) _ _ s
 rw[v4 lo hi n];show wpAny _ _ (pure (((sIx n 0 lo:Nat):Int),(1:Int),Builtin.Slice.slicePlaces ((sIx n 0 lo:Nat):Int) ((sIx n n hi:Nat):Int) 1)) _ _ s
 rw[vC];exact wpAny_pure h
theorem Aq(xs:Array Value)(i k:Nat):((List.range k).filterMap fun (m:Nat)=>xs[((i:Int)+(m:Int) * 1).toNat]?).toArray=((xs.toList.drop i).take k).toArray:=by
 have e:(fun (m:Nat)=>xs[((i:Int)+(m:Int) * 1).toNat]?)=fun m=>xs[i+m]?:=by
  funext m
  have:((i:Int)+(m:Int) * 1).toNat=i+m:=by omega
  rw[this]
 rw[e];have:=pick_run xs i k
 rw[List.filterMap_map]at this
 have e2:((fun x=>xs[x]?) ∘ fun x=>i+x)=fun m=>xs[i+m]?:=rfl
 rw[e2]at this
 rw[this]
theorem getItem_tuple_cut{t sl:Addr}{items:Array Value}{vl vu:Value}{lo hi:Option Int}{Q:Value→Shared→Prop}(ht:IsTup s.heap t items)(hs:s.heap.IsSliceOf sl vl vu .none)(pl:IsPart vl lo)(pu:IsPart vu hi)
  (hw:¬ (sIx items.size 0 lo=0∧sIx items.size items.size hi=items.size))
  (h:Q (.ref s.heap.objs.size) { s with heap:=s.heap.push { cls:=.type "tuple", data:=.seq ((items.toList.drop (sIx items.size 0 lo)).take (sIx items.size items.size hi - sIx items.size 0 lo)).toArray } })
  (hsz:items.size≤sizeLine):wpAny (model prog w) A (getItem (.ref t) (.ref sl)) Q E s:=by
 have htake:sizeOk (.seq ((items.toList.drop (sIx items.size 0 lo)).take (sIx items.size items.size hi - sIx items.size 0 lo)).toArray):=by
  show ((items.toList.drop (sIx items.size 0 lo)).take (sIx items.size items.size hi - sIx items.size 0 lo)).toArray.size≤sizeLine
  rw[List.size_toArray,List.length_take,List.length_drop,Array.length_toList];omega
 have hj:sIx items.size items.size hi≤items.size:=sIx_le _ _ (Nat.le_refl _) hi
 obtain⟨os,hos,hcs,hds⟩:=id hs
 have hTs:s.TypeIs (.ref sl) "slice" := ⟨os,hos,hcs⟩
 unfold getItem
 try with_reducible refine wpAny_holding ?_
 first | refine wpAny_bind (wpAny_pure ?_) | skip
 refine wpAny_bind (wpAny_sequenceKey ht.typeIs (by decide) ?_)
 refine wpAny_bind (wpAny_callSpecial?_slot (name:=Str.ofString "__getitem__") ht.typeIs PyProof.Rows.slot_tuple_getitem
  (wpAny_call_entry PyProof.Rows.slot_tuple_getitem ht.typeIs entry_tuple_getitem ?_ (args_tuple_getitem _ _)))
 show wpAny _ _ (Builtin.Tuple.tupleItemsOf (.ref t) >>= _) _ _ s
 refine wpAny_bind (tupleItemsOf_ ht ?_)
 refine wpAny_bind (wpAny_typeOf hTs ?_)
 rw[if_pos (by decide)]
 refine wpAny_bind (sliceApplied_gen hs pl pu ?_)
 have hno:¬ ((((sIx items.size 0 lo:Nat):Int) == 0&&(1:Int) == 1&&(sIx items.size items.size hi - sIx items.size 0 lo) == items.size)=true):=by
  intro q
  rw[Bool.and_eq_true,Bool.and_eq_true]at q
  have q1:((sIx items.size 0 lo:Nat):Int)=0:=eq_of_beq q.1.1
  have q2:sIx items.size items.size hi - sIx items.size 0 lo=items.size:=eq_of_beq q.2
  exact hw ⟨by omega,by omega⟩
 show wpAny _ _ (if (((sIx items.size 0 lo:Nat):Int) == 0&&(1:Int) == 1&&(sIx items.size items.size hi - sIx items.size 0 lo) == items.size)=true then _ else _) _ _ s
 rw[if_neg hno,Aq]
 first
  | exact wpAny_bind (m:=Builtin.Tuple.tupleExact _) (wpAny_newObj_type (wpAny_pure ⟨_,rfl,wpAny_pure h⟩) htake)
  | exact wpAny_bind (m:=Builtin.Tuple.tupleExact _) (wpAny_newObj_type (wpAny_bind (wpAny_pure (wpAny_pure ⟨_,rfl,wpAny_pure h⟩))) htake)
  | exact wpAny_bind (wpAny_bind (m:=Builtin.Tuple.tupleExact _) (wpAny_newObj_type (wpAny_pure (wpAny_pure ⟨_,rfl,wpAny_pure h⟩)) htake))
  | exact wpAny_bind (wpAny_bind (m:=Builtin.Tuple.tupleExact _) (wpAny_newObj_type (wpAny_pure ⟨_,rfl,wpAny_pure h⟩) htake))
end
end HT
namespace L2
open PySem PySem.Spec PyProof.Rows
abbrev TO:=St→Hp→(Option Int→Hp→Prop)→Prop
def PO(X:Cx)(e:Option Expr)(t:TO):Prop:=
 ∀ (pins:List (Addr × Obj)) (s:Shared) (σ : St) (H:Hp) (Q:Option Int→Hp→Prop),Inv X pins σ H s→t σ H Q→
  wpAny (model X.prog X.w) X.A (evalPart e X.env) (fun u s'=>∃ o H',Inv X pins σ H' s'∧IsPart u o∧Q o H') X.xe s
def tQ:TO:=fun _ H Q=>Q none H
def Bs(t:TE):TO:=fun σ H Q=>t σ H fun x H1=>∃ i,x = .int i∧Q (some i) H1
section
variable{X:Cx}{e:Expr}{te:TE}{lo hi:Option Expr}{tl th:TO}{pos p2:Pos}
theorem cB:PO X none tQ:=by
 intro pins s σ H Q I h
 rw[evalPart_none];exact wpAny_pure ⟨none,H,I,.none,h⟩
theorem b4(h:PE X e te):PO X (some e) (Bs te):=by
 intro pins s σ H Q I hw
 rw[evalPart_some];refine bf (h pins s σ H _ I hw) fun u s1 ⟨x,H1,I1,r1,q1⟩=>?_
 obtain⟨i,rfl,q⟩:=q1
 obtain⟨t,rfl⟩:=r1
 exact⟨some i,H1,I1,.int i t,q⟩
def SlR(X:Cx)(r:V→Option Int→Option Int→Hp→VK→Prop):Prop:=
 ∀ (pins:List (Addr × Obj)) (s:Shared) (σ : St) (H:Hp) (x:V) (v vl vu:Value) (lo hi:Option Int) (sl:Addr) (Q:VK),Inv X pins σ H s→RelV x v→s.heap.IsSliceOf sl vl vu .none→IsPart vl lo→IsPart vu hi→r x lo hi H Q→
  ∃ T id,typeLookup (.type T) "__getitem__" = pure (some (.builtin id))∧s.TypeIs v T∧wpAny (model X.prog X.w) X.A (getItem v (.ref sl)) (EP X pins σ Q) X.xe s
def Gc(r:V→Option Int→Option Int→Hp→VK→Prop)(te:TE)(tl th:TO):TE:=fun σ H Q=>te σ H fun x H1=>tl σ H1 fun l H2=>th σ H2 fun u H3=>r x l u H3 Q
theorem bS{r:V→Option Int→Option Int→Hp→VK→Prop}(hr:SlR X r)(he:PE X e te)(hl:PO X lo tl)(hu:PO X hi th):PE X (.Subscript e (.Slice lo hi none p2) pos) (Gc r te tl th):=by
 intro pins s σ H Q I h
 refine Subscript_ (bf (he pins s σ H _ I h) fun v s1 ⟨x,H1,I1,r1,q1⟩=>?_)
 refine wpAny_Slice (bf (hl pins s1 σ H1 _ I1 q1) fun vl s2 ⟨l,H2,I2,pl,q2⟩=>bf (hu pins s2 σ H2 _ I2 q2) fun vu s3 ⟨u,H3,I3,pu,q3⟩=>?_)
 rw[evalPart_none];refine wpAny_pure ?_
 have I4:Inv X pins σ H3 { s3 with heap:=s3.heap.push { cls:=.type "slice", data:=.fields #[vl,vu,.none] } }:=I3.kept (t':=s3.toks) fun b ob q=>Heap.get?_push_of_some _ q
 obtain⟨T,id,hT,ht,hg⟩:=hr pins { s3 with heap:=s3.heap.push { cls:=.type "slice", data:=.fields #[vl,vu,.none] } } σ H3 x v vl vu l u s3.heap.objs.size Q I4 r1 (Heap.IsSliceOf.new ..) pl pu q3
 show wpAny (model X.prog X.w) X.A (subscriptTail e (.Slice lo hi none p2) v (.ref s3.heap.objs.size)) (EP X pins σ Q) X.xe { s3 with heap:=s3.heap.push { cls:=.type "slice", data:=.fields #[vl,vu,.none] } }
 exact tail_any (ops:=[.ref s3.heap.objs.size,v]) ht hT hg (by with_unfolding_all rfl)
def dY(xs:List V)(lo hi:Option Int):List V:=(xs.drop (HT.sIx xs.length 0 lo)).take (HT.sIx xs.length xs.length hi - HT.sIx xs.length 0 lo)
theorem k_(xs:List V)(lo hi:Option Int):(dY xs lo hi).length≤xs.length:=by
 unfold dY;rw[List.length_take,List.length_drop];omega
def IQ(K:PySem.W.Frag):V→Option Int→Option Int→Hp→VK→Prop:=fun x lo hi H Q=>∃ a xs,x = .ref a∧SqT K H a xs∧
 ¬ (HT.sIx xs.length 0 lo=0∧HT.sIx xs.length xs.length hi=xs.length)∧∀ p,H p=none→Q (.ref p) (upd H p (.tup (dY xs lo hi)))
theorem E1:SlR X (IQ X.K):=by
 intro pins s σ H x v vl vu lo hi sl Q I rx hs pl pu h
 obtain⟨a,xs,rfl,hx,hw,q⟩:=h
 cases rx;obtain⟨its,r,ht,hz⟩:=I.tuple hx
 have hlen:its.toArray.size=xs.length:=by rw[List.size_toArray]; exact r.length.symm
 refine⟨"tuple", _,PyProof.Rows.slot_tuple_getitem.lookup,ht.typeIs,?_⟩
 refine HT.getItem_tuple_cut ht hs pl pu (by rw[hlen]; exact hw) ?_ (by rw[hlen]; exact hz)
 rw[hlen];refine⟨.ref s.heap.objs.size,_,I.laid (t':=s.toks) (o:=.tup (dY xs lo hi)) (fun b ob q=>Heap.get?_push_of_some _ q) (Nat.le_refl _) ?_,rfl,q _ (I.hok.fresh (Nat.le_refl _))⟩
 exact⟨Nat.le_trans (k_ xs lo hi) hz,_,(r.drop (HT.sIx xs.length 0 lo)).take (HT.sIx xs.length xs.length hi - HT.sIx xs.length 0 lo),IsTupN.new _ _⟩
def v6(K:PySem.W.Frag):R2:=fun x y H Q=>∃ a b xs ys,x = .ref a∧y = .ref b∧SqT K H a xs∧SqT K H b ys∧xs≠[]∧xs.length+ys.length≤sizeLine∧
 (ys=[]→Q (.ref a) H)∧(ys≠[]→∀ p,H p=none→Q (.ref p) (upd H p (.tup (xs++ys))))
theorem Vals.nil_iff{xs:List V}{us:List Value}(r:Vals xs us):us=[] ↔ xs=[]:=by
 cases r with
 | nil=>simp
 | cons _ _=>simp
theorem Cy:OpR X (binaryOp .Add) (v6 X.K):=by
 intro pins s σ H x y v u Q I rx ry h
 obtain⟨a,b,xs,ys,rfl,rfl,ha,hb,hx,hz,q1,q2⟩:=h
 cases rx
 cases ry;obtain⟨its,r1,p1,_⟩:=I.tuple ha
 obtain⟨its2,r2,p2,_⟩:=I.tuple hb
 refine HT.cat_tup p1 p2 (fun z=>hx (r1.nil_iff.mp z)) (fun z=>⟨.ref a,H,I,rfl,q1 (r2.nil_iff.mp z)⟩) (fun z=>?_) (by rw[← r1.length,← r2.length]; exact hz)
 refine⟨.ref s.heap.objs.size,_,I.laid (t':=s.toks) (o:=.tup (xs++ys)) (fun b ob q=>Heap.get?_push_of_some _ q) (Nat.le_refl _) ?_,rfl,q2 (fun w=>z (r2.nil_iff.mpr w)) _ (I.hok.fresh (Nat.le_refl _))⟩
 exact⟨by rw[List.length_append]; exact hz,_,r1.append r2,IsTupN.new _ _⟩
end
def kW(n:Nat)(i:Int):Option Nat:=if 0≤i then (if i<n then some i.toNat else none) else if -(n:Int)≤i then some (i+n).toNat else none
def eP{α : Type}(xs:List α)(i:Int):Option α:=(kW xs.length i).bind fun j=>xs[j]?
theorem B_{n:Nat}{i:Int}{j:Nat}(h:kW n i=some j):seqIndex? i n=some j∧j<n∧-(n:Int)≤i∧i<n:=by
 unfold kW at h
 by_cases h0:0≤i
 ·rw[if_pos h0]at h
  by_cases h1:i<n
  ·rw[if_pos h1]at h
   have e:i.toNat=j:=Option.some.inj h
   exact⟨by rw[seqIndex_of h0 h1,e],by omega,by omega,h1⟩
  ·rw[if_neg h1]at h; cases h
 ·rw[if_neg h0]at h
  by_cases h1:-(n:Int)≤i
  ·rw[if_pos h1]at h
   have e:(i+n).toNat=j:=Option.some.inj h
   exact⟨by rw[seqIndex_neg (by omega) h1,e],by omega,h1,by omega⟩
  ·rw[if_neg h1]at h; cases h
theorem nB{α : Type}{xs:List α}{i:Int}{v:α}(h:eP xs i=some v):∃ j,seqIndex? i xs.length=some j∧xs[j]? = some v∧j<xs.length∧-(xs.length:Int)≤i∧i<xs.length:=by
 unfold eP at h
 cases e:kW xs.length i with
 | none=>rw[e]at h; cases h
 | some j=>
  rw[e]at h
  obtain⟨h1,h2,h3,h4⟩:=B_ e
  exact⟨j,h1,h,h2,h3,h4⟩
theorem aT{α : Type}{xs:List α}{j:Nat}{v:α}(h:xs[j]? = some v):eP xs (j:Int)=some v:=by
 have hj:j<xs.length:=(List.getElem?_eq_some_iff.mp h).1
 have e:kW xs.length (j:Int)=some j:=by
  unfold kW;rw[if_pos (by omega),if_pos (by omega)]; simp
 unfold eP; rw[e]; exact h
def B5(b:Expr):Prop:=∀ o i,subscripted b false o i=operate [o,i] (getItem o i)
def IxR(X:Cx)(r:R2):Prop:=
 ∀ (value slice:Expr) (pins:List (Addr × Obj)) (s:Shared) (σ : St) (H:Hp) (x y:V) (v u:Value) (Q:VK),Inv X pins σ H s→RelV x v→RelV y u→r x y H Q→
  subscripted slice false v u=operate [v,u] (getItem v u)→wpAny (model X.prog X.w) X.A (subscriptTail value slice v u) (EP X pins σ Q) X.xe s
def MtR(X:Cx)(id:String)(r:V→List V→Hp→VK→Prop):Prop:=
 ∀ (pins:List (Addr × Obj)) (s:Shared) (σ : St) (H:Hp) (x:V) (xs:List V) (v:Value) (us:List Value) (Q:VK),Inv X pins σ H s→RelV x v→Vals xs us→r x xs H Q→
  wpAny (model X.prog X.w) X.A (call (.builtin id) (v::us)) (EP X pins σ Q) X.xe s
section
variable{X:Cx}{a b:Expr}{ta tb:TE}{pos:Pos}
theorem IxR.or{r r':R2}(h:IxR X r)(h':IxR X r'):IxR X (fun x y H Q=>r x y H Q∨r' x y H Q):=by
 intro value slice pins s σ H x y v u Q I rx ry q hs
 rcases q with q | q
 ·exact h value slice pins s σ H x y v u Q I rx ry q hs
 ·exact h' value slice pins s σ H x y v u Q I rx ry q hs
theorem av{r:R2}(hr:IxR X r)(ha:PE X a ta)(hb:PE X b tb)(hs:B5 b):PE X (.Subscript a b pos) (xG r ta tb):=by
 intro pins s σ H Q I h
 exact Subscript_ (AF ha hb I h fun v u s2 x y H2 I2 rx ry q=>hr a b pins s2 σ H2 x y v u Q I2 rx ry q (hs _ _))
def D3(K:PySem.W.Frag):R2:=fun x y H Q=>∃ p xs i v,x = .ref p∧y = .int i∧SqL K H p xs∧eP xs i=some v∧Q v H
def Fe(K:PySem.W.Frag):R2:=fun x y H Q=>∃ p xs i v,x = .ref p∧y = .int i∧SqT K H p xs∧eP xs i=some v∧Q v H
def DJ:R2:=fun x y H Q=>∃ z i c,x = .str z∧y = .int i∧z.length≤sizeLine∧eP z.cps.toList i=some c∧Q (.str ⟨#[c]⟩) H
theorem ix_list:IxR X (D3 X.K):=by
 intro value slice pins s σ H x y v u Q I rx ry h hs
 obtain⟨p,xs,i,z,rfl,rfl,hq,he,q⟩:=h
 cases rx;obtain⟨t,rfl⟩:=ry
 obtain⟨its,r,pl,hz⟩:=I.list hq
 obtain⟨j,h1,h2,h3,h4,h5⟩:=nB he
 obtain⟨w,ew,rw'⟩:=r.get h2
 have hl:=r.length;have hn:=j9;have fin:EP X pins σ Q w s:=⟨z,H,I,rw',q⟩
 by_cases h0:0≤i
 ·have hj:i.toNat=j:=by
   rw[seqIndex_of h0 h5]at h1
   exact Option.some.inj h1
  exact item_listR pl.isList h0 (by omega) (by rw[hj]; simpa using ew) fin hs
 ·have hj:(i+(its.toArray.size:Int)).toNat=j:=by
   rw[seqIndex_neg (by omega) h4]at h1
   rw[List.size_toArray,← hl];exact Option.some.inj h1
  exact subscriptTail_builtinR (x:=w) pl.isList.typeIs slot_list_getitem.lookup
   (wpAny_getItem_list_neg (Q:=fun r s'=>r=w∧EP X pins σ Q r s') pl.isList (by omega) (by rw[List.size_toArray] <;> omega) (by omega) (by rw[hj]; simpa using ew) ⟨rfl,fin⟩) hs
theorem ix_tup:IxR X (Fe X.K):=by
 intro value slice pins s σ H x y v u Q I rx ry h hs
 obtain⟨p,xs,i,z,rfl,rfl,hq,he,q⟩:=h
 cases rx;obtain⟨t,rfl⟩:=ry
 obtain⟨its,r,pl,hz⟩:=I.tuple hq
 obtain⟨j,h1,h2,h3,h4,h5⟩:=nB he
 obtain⟨w,ew,rw'⟩:=r.get h2
 have hl:=r.length;have hn:=j9;have fin:EP X pins σ Q w s:=⟨z,H,I,rw',q⟩
 exact subscriptTail_builtinR (x:=w) pl.typeIs slot_tuple_getitem.lookup
  (getItem_tuple (j:=j) (Q:=fun r s'=>r=w∧EP X pins σ Q r s') pl (by omega) (by omega) (by rw[List.size_toArray,← hl]; exact h1) (by simpa using ew) ⟨rfl,fin⟩) hs
theorem EC:IxR X DJ:=by
 intro value slice pins s σ H x y v u Q I rx ry h hs
 obtain⟨z,i,c,rfl,rfl,hz,he,q⟩:=h
 obtain⟨t,rfl⟩:=rx
 obtain⟨t',rfl⟩:=ry
 obtain⟨j,h1,h2,h3,h4,h5⟩:=nB he
 have hl:z.cps.toList.length=z.length:=by simp[Str.length]
 rw[hl]at h1 h4 h5
 have hn:=j9
 exact tail_any (typeIs_str s z t) slot_str_getitem.lookup (getItem_str (c:=c) (by
  have e1:decide (i < -(2 ^ 63:Int))=false:=decide_eq_false (by omega)
  have e2:decide (i≥2 ^ 63)=false:=decide_eq_false (by omega)
  rw[e1,e2,Bool.or_false]) (by rw[h1]; simpa using h2) ⟨.str ⟨#[c]⟩,H,I.tok _,⟨_,rfl⟩,q⟩) hs
def L9(K:PySem.W.Frag):R2:=fun x y H Q=>D3 K x y H Q∨Fe K x y H Q∨DJ x y H Q
theorem EM:IxR X (L9 X.K):=ix_list.or (ix_tup.or EC)
theorem jY(lo hi:Option Int)(n:Nat):(sliceBounds lo hi none n).1=((HT.sIx n 0 lo:Nat):Int)∧(sliceBounds lo hi none n).2.1=((HT.sIx n n hi:Nat):Int)∧(sliceBounds lo hi none n).2.2=1:=by
 refine⟨?_,?_,rfl⟩
 ·cases lo with
  | none=>simp[sliceBounds,HT.sIx]
  | some i=>
   simp only[sliceBounds,HT.sIx,Option.getD_none,show (1:Int)>0 by decide,if_true]
   by_cases h:i<0
   ·simp only[h,if_true] <;> omega
   ·simp only[h,if_false] <;> omega
 ·cases hi with
  | none=>simp[sliceBounds,HT.sIx]
  | some i=>
   simp only[sliceBounds,HT.sIx,Option.getD_none,show (1:Int)>0 by decide,if_true]
   by_cases h:i<0
   ·simp only[h,if_true] <;> omega
   ·simp only[h,if_false] <;> omega
theorem ph(its:List Value)(lo hi:Option Int):slicePick its.toArray lo hi none=((its.drop (HT.sIx its.length 0 lo)).take (HT.sIx its.length its.length hi - HT.sIx its.length 0 lo)).toArray:=by
 obtain⟨h1,h2,h3⟩:=jY lo hi its.toArray.size
 unfold slicePick;rw[h1,h2,h3];simp only[sliceRange_one,pick_run,List.size_toArray] <;> rfl
def AV(K:PySem.W.Frag):V→Option Int→Option Int→Hp→VK→Prop:=fun x lo hi H Q=>∃ a xs,x = .ref a∧SqL K H a xs∧∀ p,H p=none→Q (.ref p) (upd H p (.lst (dY xs lo hi)))
theorem CQ:SlR X (AV X.K):=by
 intro pins s σ H x v vl vu lo hi sl Q I rx hs pl pu h
 obtain⟨a,xs,rfl,hx,q⟩:=h
 cases rx;obtain⟨its,r,ht,hz⟩:=I.list hx
 have hlen:=r.length;refine⟨"list", _,slot_list_getitem.lookup,ht.isList.typeIs,?_⟩
 refine wpAny_getItem_list_slice ht.isList hs pl pu .none (by simp) ?_ (by rw[List.size_toArray] <;> omega)
 rw[ph,← hlen];refine⟨.ref s.heap.objs.size,_,I.laid (t':=s.toks) (o:=.lst (dY xs lo hi)) (fun b ob q=>Heap.get?_push_of_some _ q) (Nat.le_refl _) ?_,rfl,q _ (I.hok.fresh (Nat.le_refl _))⟩
 exact⟨Nat.le_trans (k_ xs lo hi) hz,_,0,(r.drop (HT.sIx xs.length 0 lo)).take (HT.sIx xs.length xs.length hi - HT.sIx xs.length 0 lo),Heap.get?_push_size _ rfl⟩
def b7:V→Bool
 | .non=>true
 | .bl _=>true
 | .int _=>true
 | .str _=>true
 | _=>false
def fH:V→V→Bool
 | .non,.non=>true
 | .bl a,.bl b=>a == b
 | .bl a,.int b=>(if a then 1 else 0) == b
 | .int a,.bl b=>a == (if b then 1 else 0)
 | .int a,.int b=>a == b
 | .str a,.str b=>a == b
 | _,_=>false
theorem mr{A:Around}{s:Shared}{y x:V}{u v:Value}(ry:RelV y u)(rx:RelV x v)(fy:b7 y=true)(fx:b7 x=true):SeqAt.EqAt A s u v (fH y x):=by
 cases y with
 | non=>
  cases ry
  cases x with
  | non=>cases rx; exact SeqAt.EqAt.same _
  | bl b=>cases rx; exact SeqAt.EqAt.none_bool b
  | int b=>obtain⟨t,rfl⟩:=rx; exact SeqAt.EqAt.none_int b t
  | str b=>obtain⟨t,rfl⟩:=rx; exact SeqAt.EqAt.none_str b t
  | _=>exact absurd (show false=true from fx) Bool.false_ne_true
 | bl a=>
  cases ry
  cases x with
  | non=>cases rx; exact SeqAt.EqAt.bool_none a
  | bl b=>cases rx; exact SeqAt.EqAt.bool_bool a b
  | int b=>obtain⟨t,rfl⟩:=rx; exact SeqAt.EqAt.bool_int a b t
  | str b=>obtain⟨t,rfl⟩:=rx; exact SeqAt.EqAt.bool_str a b t
  | _=>exact absurd (show false=true from fx) Bool.false_ne_true
 | int a=>
  obtain⟨t',rfl⟩:=ry
  cases x with
  | non=>cases rx; exact SeqAt.EqAt.int_none a t'
  | bl b=>cases rx; exact SeqAt.EqAt.int_bool a t' b
  | int b=>obtain⟨t,rfl⟩:=rx; exact SeqAt.EqAt.int_int a t' b t
  | str b=>obtain⟨t,rfl⟩:=rx; exact SeqAt.EqAt.int_str a t' b t
  | _=>exact absurd (show false=true from fx) Bool.false_ne_true
 | str a=>
  obtain⟨t',rfl⟩:=ry
  cases x with
  | non=>cases rx; exact SeqAt.EqAt.str_none a t'
  | bl b=>cases rx; exact SeqAt.EqAt.str_bool a t' b
  | int b=>obtain⟨t,rfl⟩:=rx; exact SeqAt.EqAt.str_int a t' b t
  | str b=>obtain⟨t,rfl⟩:=rx; exact SeqAt.EqAt.str_str a t' b t
  | _=>exact absurd (show false=true from fx) Bool.false_ne_true
 | _=>exact absurd (show false=true from fy) Bool.false_ne_true
def h_(x:V)(u:Value):Bool:=match u with
 | .none=>fH .non x
 | .bool b=>fH (.bl b) x
 | .int i _=>fH (.int i) x
 | .str z _=>fH (.str z) x
 | _=>false
theorem w6{x y:V}{u:Value}(r:RelV y u)(f:b7 y=true):h_ x u=fH y x:=by
 cases y with
 | non=>cases r; rfl
 | bl b=>cases r; rfl
 | int i=>obtain⟨t,rfl⟩:=r; rfl
 | str z=>obtain⟨t,rfl⟩:=r; rfl
 | _=>exact absurd (show false=true from f) Bool.false_ne_true
theorem i7{x:V}:∀ {xs:List V} {us:List Value},Vals xs us→xs.all b7=true→us.any (h_ x)=xs.any fun y=>fH y x
 | _,_,.nil,_=>rfl
 | y::xs,u::us,.cons r t,f=>by
  rw[List.all_cons,Bool.and_eq_true]at f
  rw[List.any_cons,List.any_cons,w6 r f.1,i7 t f.2]
theorem iy{A:Around}{s:Shared}{x:V}{v:Value}(rx:RelV x v)(fx:b7 x=true):∀ {xs:List V} {us:List Value},Vals xs us→xs.all b7=true→∀ u∈us,SeqAt.EqAt A s u v (h_ x u)
 | _,_,.nil,_=>fun u hu=>by cases hu
 | y::xs,u::us,.cons r t,f=>fun u' hu=>by
  rw[List.all_cons,Bool.and_eq_true]at f
  rcases List.mem_cons.mp hu with rfl | hu
  ·rw[w6 r f.1]; exact mr r rx f.1 fx
  ·exact iy rx fx t f.2 u' hu
def iK(x:V)(xs:List V):Bool:=xs.any fun y=>fH y x
def Gn(K:PySem.W.Frag)(neg:Bool):R2:=fun x y H Q=>∃ p xs,y = .ref p∧(SqL K H p xs∨SqT K H p xs)∧b7 x=true∧xs.all b7=true∧Q (.bl (if neg then !iK x xs else iK x xs)) H
theorem xo:OpR X (compareOp .In) (Gn X.K false):=by
 intro pins s σ H x y v u Q I rx ry h
 obtain⟨p,xs,rfl,hq,fx,fs,q⟩:=h
 cases ry;rcases hq with hq | hq
 ·obtain⟨its,r,pl,hz⟩:=I.list hq
  refine SeqAt.in_listAt (h_ x) pl.isList (fun w hw=>iy rx fx r fs w (by simpa using hw)) ⟨.bl _,H,I,rfl,?_⟩
  rw[show its.toArray.any (h_ x)=its.any (h_ x) by simp,i7 r fs]
  exact q
 ·obtain⟨its,r,pl,hz⟩:=I.tuple hq
  refine SeqAt.in_tupleAt (h_ x) pl (fun w hw=>iy rx fx r fs w (by simpa using hw)) ⟨.bl _,H,I,rfl,?_⟩
  rw[show its.toArray.any (h_ x)=its.any (h_ x) by simp,i7 r fs]
  exact q
theorem qK:OpR X (compareOp .NotIn) (Gn X.K true):=by
 intro pins s σ H x y v u Q I rx ry h
 obtain⟨p,xs,rfl,hq,fx,fs,q⟩:=h
 cases ry;rcases hq with hq | hq
 ·obtain⟨its,r,pl,hz⟩:=I.list hq
  refine SeqAt.notIn_listAt (h_ x) pl.isList (fun w hw=>iy rx fx r fs w (by simpa using hw)) ⟨.bl _,H,I,rfl,?_⟩
  rw[show its.toArray.any (h_ x)=its.any (h_ x) by simp,i7 r fs]
  exact q
 ·obtain⟨its,r,pl,hz⟩:=I.tuple hq
  refine SeqAt.notIn_tupleAt (h_ x) pl (fun w hw=>iy rx fx r fs w (by simpa using hw)) ⟨.bl _,H,I,rfl,?_⟩
  rw[show its.toArray.any (h_ x)=its.any (h_ x) by simp,i7 r fs]
  exact q
theorem qy:CallR X (.builtin "len") (fun xs H Q=>∃ p ys,xs=[.ref p]∧(SqL X.K H p ys∨SqT X.K H p ys)∧Q (.int ys.length) H):=by
 intro pins s σ H xs us Q I r h
 obtain⟨p,ys,rfl,hq,q⟩:=h
 obtain⟨u,rfl,rx⟩:=dW r
 cases rx;have hn:=j9;rcases hq with hq | hq
 ·obtain⟨its,r',pl,hz⟩:=I.list hq
  have hlen:=r'.length;exact Calls.call_len_list pl.isList (by simp only[List.size_toArray] <;> omega) ⟨.int ys.length,H,I.tok _,⟨s.toks+1,by rw[List.size_toArray,hlen]⟩,q⟩
 ·obtain⟨its,r',pl,hz⟩:=I.tuple hq
  have hlen:=r'.length;exact len_tuple pl (by simp only[List.size_toArray] <;> omega) ⟨.int ys.length,H,I.tok _,⟨s.toks+1,by rw[List.size_toArray,hlen]⟩,q⟩
theorem rn:CallR X (.builtin "len") (fun xs H Q=>∃ z,xs=[.str z]∧z.length≤sizeLine∧Q (.int z.length) H):=by
 intro pins s σ H xs us Q I r h
 obtain⟨z,rfl,hz,q⟩:=h
 obtain⟨u,rfl,t,rfl⟩:=dW r
 have hn:=j9;exact len_str (by omega) ⟨.int z.length,H,I.tok _,⟨_,rfl⟩,q⟩
theorem oY:CallR X (.type "tuple") (fun xs H Q=>∃ p ys,xs=[.ref p]∧((SqL X.K H p ys∧∀ l,H l=none→Q (.ref l) (upd H l (.tup ys)))∨(SqT X.K H p ys∧Q (.ref p) H))):=by
 intro pins s σ H xs us Q I r h
 obtain⟨p,ys,rfl,h⟩:=h
 obtain⟨u,rfl,rx⟩:=dW r
 cases rx;rcases h with ⟨hq,q⟩ | ⟨hq,q⟩
 ·obtain⟨its,r',pl,hz⟩:=I.list hq
  have hlen:=r'.length;refine call_tuple_list pl.isList (fun h' kp=>?_) (by simp only[List.size_toArray] <;> omega)
  have I1:Inv X pins σ H { s with heap:=h' }:=I.kept (t':=s.toks) kp
  have I2:Inv X pins σ (upd H h'.objs.size (.tup ys)) { s with heap:=h'.push { cls:=.type "tuple", data:=.seq its.toArray } }:=
   I1.laid (t':=s.toks) (fun b o e=>Heap.get?_push_of_some _ e) (Nat.le_refl _) (show ObjOk X.prog X.w _ _ _ (.tup ys) from ⟨hz,its,r',IsTupN.new _ _⟩)
  exact⟨.ref h'.objs.size,_,I2,rfl,q _ (I1.hok.fresh (Nat.le_refl _))⟩
 ·obtain⟨its,r',pl,hz⟩:=I.tuple hq
  exact call_tuple_same pl ⟨.ref p,H,I,rfl,q⟩
def qP(K:PySem.W.Frag)(T:String)(x:V)(H:Hp):Prop:=match x with
 | .str _=>T = "str"
 | .int _=>T = "int"
 | .ref p=>(T = "list" ∧ ∃ xs,SqL K H p xs)∨(T = "tuple" ∧ ∃ o,K.lookup p=some o∧o.cls = .type "tuple" ∧ o.dict=none)∨
   (T = "dict" ∧ ((∃ kvs,H p=some (.dK kvs))∨∃ kvs,H p=some (.dT kvs)))∨(T = "set" ∧ ∃ S n,H p=some (.set S n))
 | _=>False
theorem yn{pins:List (Addr × Obj)}{σ : St}{H:Hp}{s:Shared}{T:String}{x:V}{v:Value}(I:Inv X pins σ H s)(r:RelV x v)(ty:qP X.K T x H) :
  s.TypeIs v T∧∀ a,v = .ref a→∃ ob,s.heap.get? a=some ob∧ob.dict=none:=by
 cases x with
 | str z=>
  obtain⟨t,rfl⟩:=r
  cases (show T = "str" from ty)
  exact⟨typeIs_str s z t,fun _ e=>nomatch e⟩
 | int i=>
  obtain⟨t,rfl⟩:=r
  cases (show T = "int" from ty)
  exact⟨typeIs_int s i t,fun _ e=>nomatch e⟩
 | ref p=>
  cases r;rcases ty with ⟨rfl,xs,hq⟩ | ⟨rfl,o,hk,hc,hd⟩ | ⟨rfl,hk⟩ | ⟨rfl,S,n,hk⟩
  ·obtain⟨its,_,pl,_⟩:=I.list hq
   refine⟨pl.isList.typeIs,fun a e=>?_⟩
   cases e;obtain⟨o,n,e,c,hd,_⟩:=pl
   exact⟨o,e,hd⟩
  ·refine⟨⟨o,I.kIn p o hk,hc⟩,fun a e=>?_⟩
   cases e;exact⟨o,I.kIn _ o hk,hd⟩
  ·have z:∃ o,s.heap.get? p=some o∧o.ExactDict:=by
    rcases hk with ⟨kvs,hk⟩ | ⟨kvs,hk⟩
    ·obtain⟨_,_,_,_,o,_,_,e,ex,_⟩:=I.hok p _ hk
     exact⟨o,e,ex⟩
    ·obtain⟨_,_,_,_,o,_,_,e,ex,_⟩:=I.hok p _ hk
     exact⟨o,e,ex⟩
   obtain⟨o,e,ex⟩:=z
   refine⟨⟨o,e,ex.1⟩,fun a e2=>?_⟩
   cases e2;exact⟨o,e,ex.2.1⟩
  ·obtain⟨o,_,_,_,e,ex,_⟩:=I.hok p _ hk
   refine⟨⟨o,e,ex.1⟩,fun a e2=>?_⟩
   cases e2;exact⟨o,e,ex.2.1⟩
 | _=>exact False.elim ty
def A0(K:PySem.W.Frag)(T:String)(r:V→List V→Hp→VK→Prop)(to:TE):TE:=fun σ H Q=>to σ H fun x H1=>qP K T x H1∧r x [] H1 Q
def EA(K:PySem.W.Frag)(T:String)(r:V→List V→Hp→VK→Prop)(to:TE)(t:TA):TE:=fun σ H Q=>to σ H fun x H1=>qP K T x H1∧t σ H1 fun xs H2=>r x xs H2 Q
variable{o e:Expr}{es:List Expr}{to:TE}{t:TA}{name:Str}{apos cpos:Pos}{T id:String}{r:V→List V→Hp→VK→Prop}
theorem D1(pa:PlainAttrs T)(slot:Slot T name id)(hty:typeOf (.builtin id)=pure (.type "method_descriptor")) (hm:MtR X id r) (ho:PE X o to)
  (hbase:attributeBase o name X.env (eval o X.env)=eval o X.env:=by rfl) (hline:(apos.endLine == cpos.line)=true:=by rfl):PE X (.Call (.Attribute o name apos) [] [] cpos) (A0 X.K T r to):=by
 intro pins s σ H Q I h
 refine wpAny_Call_method0_late hbase hline (bf (ho pins s σ H _ I h) fun v s1 ⟨x,H1,I1,r1,ty,q1⟩=>?_)
 obtain⟨h1,h2⟩:=yn I1 r1 ty
 exact⟨T,id,pa,slot,hty,h1,h2,Calls.callWith_builtin rfl (PySem.evalArgs_none (hm pins s1 σ H1 x [] v [] Q I1 r1 .nil q1))⟩
theorem F7(pa:PlainAttrs T)(slot:Slot T name id)(hty:typeOf (.builtin id)=pure (.type "method_descriptor")) (hm:MtR X id r) (ho:PE X o to) (ha:PA X (e::es) t)
  (hbase:attributeBase o name X.env (eval o X.env)=eval o X.env:=by rfl)
  (hfew:((backTo cpos (starEach (e::es) X.env)).all (fun x=>!x.1)&&(backToKw cpos (keywordEach [] X.env)).all (fun x=>x.1.isSome)
   && decide ((e::es).length+([]:List Keyword).length+(if ([]:List Keyword).isEmpty then 0 else 1)<30))=true:=by rfl)
  (hline:(apos.endLine == cpos.line)=true:=by rfl) (hs:starEach (e::es) X.env=(false,eval e X.env)::starEach es X.env:=by rfl) (hplain:(backTo cpos (starEach es X.env)).any (·.1)=false:=by rfl) :
  PE X (.Call (.Attribute o name apos) (e::es) [] cpos) (EA X.K T r to t):=by
 intro pins s σ H Q I h
 refine wpAny_Call_method_late hbase hfew hline rfl (bf (ho pins s σ H _ I h) fun v s1 ⟨x,H1,I1,r1,ty,q1⟩=>?_)
 obtain⟨h1,h2⟩:=yn I1 r1 ty
 refine⟨T,id,pa,slot,hty,h1,h2,?_⟩
 have hA:=ha cpos pins s1 σ H1 _ I1 q1;rw[hs]at hA ⊢
 refine Calls.callWith_builtin (by show (false||(backTo cpos (starEach es X.env)).any (·.1))=false; rw[hplain] <;> rfl) (Calls.evalArgs_plain ?_)
 exact bf hA fun us s2 ⟨vs,H2,I2,r2,q2⟩=>hm pins s2 σ H2 x vs v us Q I2 r1 r2 q2
/- xs.append(e), list.index on a module's tuple .. are MtR facts of 06m -/
end
def DM(X:Cx)(id:String)(r:V→List V→Hp→VK→Prop):Prop:=
 ∀ (pins:List (Addr × Obj)) (s:Shared) (σ : St) (H:Hp) (x:V) (xs:List V) (v:Value) (us:List Value) (Q:VK),Inv X pins σ H s→RelV x v→Vals xs us→r x xs H Q→
  wpAny (model X.prog X.w) X.A (call (.builtin id) (v::us)) (EP X pins σ Q) X.xe s
theorem Vals.one:∀ {x:V} {us:List Value},Vals [x] us→∃ u,us=[u]∧RelV x u
 | _,_,.cons r .nil=>⟨_,rfl,r⟩
theorem Vals.zero:∀ {us:List Value},Vals [] us→us=[]
 | _,.nil=>rfl
theorem Vals.dropLast{xs:List V}{us:List Value}(h:Vals xs us):Vals xs.dropLast us.dropLast:=by
 induction h with
 | nil=>exact .nil
 | cons r t ih=>
  cases t with
  | nil=>exact .nil
  | cons q t'=>exact .cons r ih
theorem uW{α : Type}(l:List α):l.eraseIdx (l.length - 1)=l.dropLast:=by
 induction l with
 | nil=>rfl
 | cons a r ih=>
  cases r with
  | nil=>rfl
  | cons b r=>
   have e:(a::b::r).length - 1=((b::r).length - 1)+1:=by
    have h1:(a::b::r).length=r.length+2:=rfl
    have h2:(b::r).length=r.length+1:=rfl
    omega
   rw[e,List.eraseIdx_cons_succ,ih]
   all_goals rfl
section
variable{X:Cx}{pins:List (Addr × Obj)}{σ : St}{H:Hp}{s:Shared}{l b:Addr}{xs ys zs:List V}
theorem Inv.lset{its its':List Value}{n:Nat}{f:Array Value→Array Value}{t':Nat}(I:Inv X pins σ H s)(hH:H l=some (.lst xs))
  (e:s.heap.get? l=some { cls:=.type "list", data:=.seq its.toArray n }) (hf:f its.toArray=its'.toArray) (hv:Vals ys its') (hz:ys.length≤sizeLine) :
  Inv X pins σ (upd H l (.lst ys)) { s with heap:=s.heap.update l (Obj.mapSeq f),toks:=t' }:=by
 have q:=PySem.IsL.update e f;rw[hf]at q
 refine I.write (x:=l) (e:=l) (by rw[hH]; exact trivial) (.inl rfl) (fun b' u hb hu=>(Heap.get?_update_other s.heap (Obj.mapSeq f) (Ne.symm hb)).trans hu) ⟨_,q⟩ ?_
 exact⟨hz,its',_,hv,q⟩
theorem Inv.lnew{its:List Value}{t':Nat}(I:Inv X pins σ H s)(hv:Vals ys its)(hz:ys.length≤sizeLine) :
  Inv X pins σ (upd H s.heap.objs.size (.lst ys)) { s with heap:=s.heap.push { cls:=.type "list", data:=.seq its.toArray },toks:=t' }:=
 I.laid (fun _ _ q=>Heap.get?_push_of_some _ q) (Nat.le_refl _) ⟨hz,its,0,hv,Heap.get?_push_size _ rfl⟩
theorem Inv.fresh(I:Inv X pins σ H s):H s.heap.objs.size=none:=I.hok.fresh (Nat.le_refl _)
theorem Inv.lstM(I:Inv X pins σ H s)(hH:H l=some (.lst xs)):xs.length≤sizeLine∧∃ (its:List Value) (n:Nat),Vals xs its∧xs.length=its.length∧s.heap.get? l=some { cls:=.type "list", data:=.seq its.toArray n }:=by
 obtain⟨z,its,n,r,e⟩:=I.hok l _ hH
 exact⟨z,its,n,r,r.length,e⟩
theorem Ab{n:Nat}(h:n≤sizeLine):Builtin.List.listTooLong n=false:=by
 unfold Builtin.List.listTooLong;exact decide_eq_false (by omega)
end
section
variable{X:Cx}
def mO:V→List V→Hp→VK→Prop:=fun x vs H Q=>∃ l xs y,x = .ref l∧vs=[y]∧H l=some (.lst xs)∧xs.length<sizeLine∧Q .non (upd H l (.lst (xs++[y])))
theorem nU:DM X "list.append" mO:=by
 intro pins s σ H x vs v us Q I rx rv h
 obtain⟨l,xs,y,rfl,rfl,hH,hz,q⟩:=h
 cases rx;obtain⟨u,rfl,ru⟩:=rv.one
 obtain⟨z,its,n,r,hl,e⟩:=I.lstM hH
 refine call_meets F.slot_list_append ⟨_,e,rfl⟩ F.entry_list_append (F.args_list_append_2 _ _) (PySem.list_append l its.toArray n u (by rw[List.size_toArray]; omega)) ⟨e,?_⟩
 refine⟨.non,_,I.lset (its':=its++[u]) hH e (by simp) (r.append (.cons ru .nil)) ?_,rfl,q⟩
 rw[List.length_append,List.length_singleton];omega
def mQ:V→List V→Hp→VK→Prop:=fun x vs H Q=>∃ l b xs zs,x = .ref l∧vs=[.ref b]∧H l=some (.lst xs)∧H b=some (.lst zs)∧xs.length+zs.length≤sizeLine∧Q .non (upd H l (.lst (xs++zs)))
theorem xb:DM X "list.extend" mQ:=by
 intro pins s σ H x vs v us Q I rx rv h
 obtain⟨l,b,xs,zs,rfl,rfl,hH,hB,hz,q⟩:=h
 cases rx;obtain⟨u,rfl,ru⟩:=rv.one
 cases ru;obtain⟨z,its,n,r,hl,e⟩:=I.lstM hH
 obtain⟨z2,its2,n2,r2,hl2,e2⟩:=I.lstM hB
 have hsz:its.toArray.size+its2.toArray.size≤sizeLine:=by rw[List.size_toArray,List.size_toArray]; omega
 have hlong:¬ (!its.toArray.isEmpty&&Builtin.List.listTooLong (its.toArray.size+its2.toArray.size))=true:=by
  rw[Ab hsz,Bool.and_false];exact Bool.false_ne_true
 refine call_meets F.slot_list_extend ⟨_,e,rfl⟩ F.entry_list_extend (F.args_list_extend_2 _ _)
  (AutoSeq1.list_extend_list_list_0 l its.toArray n b its2.toArray n2 hlong (by rw[List.size_toArray]; omega) (by omega)) ⟨e,e2,?_⟩
 refine⟨.non,_,I.lset (its':=its++its2) hH e (by simp) (r.append r2) ?_,rfl,q⟩
 rw[List.length_append];omega
def zk:V→List V→Hp→VK→Prop:=fun x vs H Q=>∃ l xs y,x = .ref l∧vs=[]∧H l=some (.lst xs)∧xs[xs.length - 1]? = some y∧Q y (upd H l (.lst xs.dropLast))
theorem Fj:DM X "list.pop" zk:=by
 intro pins s σ H x vs v us Q I rx rv h
 obtain⟨l,xs,y,rfl,rfl,hH,hy,q⟩:=h
 cases rx;have hus:=rv.zero;subst hus;obtain⟨z,its,n,r,hl,e⟩:=I.lstM hH
 obtain⟨u,hu,ru⟩:=r.get hy
 have hy':its.toArray[its.toArray.size - 1]? = some u:=by
  show its.toArray[its.length - 1]? = some u
  rw[← Array.getElem?_toList,← hl];exact hu
 refine call_meets F.slot_list_pop ⟨_,e,rfl⟩ F.entry_list_pop (F.args_list_pop_1 _) (MeetsSeq.list_pop_last l its.toArray n u hy' (by rw[List.size_toArray]; omega)) ⟨e,?_⟩
 refine⟨y,_,I.lset (its':=its.dropLast) hH e ?_ r.dropLast ?_,ru,q⟩
 ·show its.toArray.eraseIdxIfInBounds (its.toArray.size - 1)=its.dropLast.toArray
  rw[List.size_toArray,List.eraseIdxIfInBounds_toArray,uW]
 ·rw[List.length_dropLast]
  omega
def HL:R2:=fun x y H Q=>∃ l b xs zs,x = .ref l∧y = .ref b∧H l=some (.lst xs)∧H b=some (.lst zs)∧xs.length+zs.length≤sizeLine∧∀ p,H p=none→Q (.ref p) (upd H p (.lst (xs++zs)))
theorem DD:OpR X (binaryOp .Add) HL:=by
 intro pins s σ H x y v u Q I rx ry h
 obtain⟨l,b,xs,zs,rfl,rfl,hH,hB,hz,q⟩:=h
 cases rx
 cases ry;obtain⟨z,its,n,r,hl,e⟩:=I.lstM hH
 obtain⟨z2,its2,n2,r2,hl2,e2⟩:=I.lstM hB
 refine PySem.P.add_list e e2 ?_ (by rw[List.size_toArray,List.size_toArray]; omega)
 have ea:its.toArray++its2.toArray=(its++its2).toArray:=by simp
 rw[ea];exact⟨.ref _,_,I.lnew (t':=s.toks) (r.append r2) (by rw[List.length_append]; omega),rfl,q _ I.fresh⟩
end
section
variable{κ : Type}[DecidableEq κ]
def bY(kvs:List (κ × V))(k:κ):Option V:=(kvs.find? fun kv=>decide (kv.1=k)).map (·.2)
def cS(kvs:List (κ × V))(k:κ)(v:V):List (κ × V):=
 if (kvs.any fun kv=>decide (kv.1=k))=true then kvs.map (fun kv=>if kv.1=k then (kv.1,v) else kv) else kvs++[(k,v)]
theorem dA{p:κ × V}{r:List (κ × V)}{k:κ}(e:p.1=k):bY (p::r) k=some p.2:=by simp[bY,List.find?_cons,e]
theorem dw{p:κ × V}{r:List (κ × V)}{k:κ}(e:¬ p.1=k):bY (p::r) k=bY r k:=by simp[bY,List.find?_cons,e]
theorem ju(k:κ):∀ kvs:List (κ × V),(kvs.any fun kv=>decide (kv.1=k))=(bY kvs k).isSome
 | []=>rfl
 | p::r=>by
  rw[List.any_cons]
  by_cases e:p.1=k
  ·simp only[dA e,decide_eq_true e,Bool.true_or,Option.isSome_some]
  ·rw[dw e,decide_eq_false e,Bool.false_or]; exact ju k r
theorem qN(k j:κ)(y:V):∀ kvs:List (κ × V),bY (kvs.map fun kv=>if kv.1=k then (kv.1,y) else kv) j=(bY kvs j).map fun x=>if j=k then y else x
 | []=>rfl
 | p::r=>by
  have ih:=qN k j y r;rw[List.map_cons]
  by_cases h:p.1=k
  ·rw[if_pos h]
   by_cases e:p.1=j
   ·rw[dA (p:=(p.1,y)) e,dA e,Option.map_some,if_pos (e.symm.trans h)]
   ·rw[dw (p:=(p.1,y)) e,dw e,ih]
  ·rw[if_neg h]
   by_cases e:p.1=j
   ·rw[dA (p:=p) e,dA e,Option.map_some,if_neg (fun z=>h (e.trans z))]
   ·rw[dw (p:=p) e,dw e,ih]
theorem oT(k j:κ)(y:V):∀ kvs:List (κ × V),bY kvs k=none→bY (kvs++[(k,y)]) j=if j=k then some y else bY kvs j
 | [],_=>by
  by_cases e:k=j
  ·rw[if_pos e.symm]; exact dA (p:=(k,y)) e
  ·rw[if_neg (fun z=>e z.symm)]; exact dw (p:=(k,y)) e
 | p::r,hn=>by
  rw[List.cons_append];have hk:¬ p.1=k:=fun z=>by rw[dA z]at hn; cases hn
  rw[dw hk]at hn
  have ih:=oT k j y r hn
  by_cases e:p.1=j
  ·rw[dA e,dA e,if_neg (fun z=>hk (e.trans z))]
  ·rw[dw e,dw e,ih]
theorem iD(kvs:List (κ × V))(k j:κ)(y:V):bY (cS kvs k y) j=if j=k then some y else bY kvs j:=by
 unfold cS
 by_cases a:(kvs.any fun kv=>decide (kv.1=k))=true
 ·rw[if_pos a,qN]
  rw[ju]at a
  by_cases e:j=k
  ·obtain⟨x,hx⟩:=Option.isSome_iff_exists.mp a
   rw[if_pos e,e,hx,Option.map_some,if_pos rfl]
  ·rw[if_neg e]
   cases bY kvs j with
   | none=>rfl
   | some x=>rw[Option.map_some,if_neg e]
 ·rw[if_neg a]
  refine oT k j y kvs ?_
  rw[ju]at a
  cases q:bY kvs k with
  | none=>rfl
  | some x=>rw[q]at a; exact(a rfl).elim
theorem iO(kvs:List (κ × V))(k:κ)(v:V):(cS kvs k v).length≤kvs.length+1:=by
 unfold cS;split
 ·rw[List.length_map]; omega
 ·rw[List.length_append,List.length_cons,List.length_nil]; omega
theorem RelO.isSome_eq{o:Option V}{u:Option Value}(r:RelO o u):o.isSome=u.isSome:=by
 cases o with
 | none=>cases u with
  | none=>rfl
  | some _=>exact(show False from r).elim
 | some _=>cases u with
  | none=>exact(show False from r).elim
  | some _=>rfl
theorem RelO.getD{o:Option V}{u:Option Value}{d:V}{d':Value}(r:RelO o u)(rd:RelV d d'):RelV (o.getD d) (u.getD d'):=by
 cases o with
 | none=>cases u with
  | none=>exact rd
  | some _=>exact(show False from r).elim
 | some _=>cases u with
  | none=>exact(show False from r).elim
  | some _=>exact r
theorem KV.val{kvs:List (κ × V)}{vs:List (κ × Value)}(r:KV kvs vs)(k:κ):RelO (bY kvs k) (valueAt vs k):=by
 unfold KV at r
 induction r with
 | nil=>exact True.intro
 | @cons p q ps qs h t ih=>
  obtain⟨h1,h2⟩:=h
  by_cases e:p.1=k
  ·have e':q.1=k:=h1.symm.trans e
   have b:valueAt (q::qs) k=some q.2:=by simp[valueAt,List.find?_cons,e']
   rw[dA e,b]; exact h2
  ·have e':¬ q.1=k:=fun z=>e (h1.trans z)
   have b:valueAt (q::qs) k=valueAt qs k:=by simp[valueAt,List.find?_cons,e']
   rw[dw e,b]; exact ih
theorem KV.any{kvs:List (κ × V)}{vs:List (κ × Value)}(r:KV kvs vs)(k:κ):(kvs.any fun kv=>decide (kv.1=k))=vs.any fun kv=>decide (kv.1=k):=by
 unfold KV at r
 induction r with
 | nil=>rfl
 | cons h t ih=>rw[List.any_cons,List.any_cons,ih,h.1]
theorem KV.repl{kvs:List (κ × V)}{vs:List (κ × Value)}(r:KV kvs vs)(k:κ){y:V}{u:Value}(ry:RelV y u) :
  KV (kvs.map fun kv=>if kv.1=k then (kv.1,y) else kv) (vs.map fun kv=>if kv.1=k then (kv.1,u) else kv):=by
 unfold KV at r ⊢
 induction r with
 | nil=>exact .nil
 | @cons p q ps qs h t ih=>
  rw[List.map_cons,List.map_cons];refine .cons ?_ ih
  obtain⟨h1,h2⟩:=h
  by_cases e:p.1=k
  ·rw[if_pos e,if_pos (h1.symm.trans e)]; exact⟨h1,ry⟩
  ·rw[if_neg e,if_neg (fun z=>e (h1.trans z))]; exact⟨h1,h2⟩
theorem KV.put{kvs:List (κ × V)}{vs:List (κ × Value)}(r:KV kvs vs)(k:κ){y:V}{u:Value}(ry:RelV y u):KV (cS kvs k y) (stored vs k u):=by
 unfold cS stored;rw[r.any k]
 by_cases e:(vs.any fun kv=>decide (kv.1=k))=true
 ·rw[if_pos e,if_pos e]; exact r.repl k ry
 ·rw[if_neg e,if_neg e]; exact Paired.snoc r ⟨rfl,ry⟩
theorem KV.length{kvs:List (κ × V)}{vs:List (κ × Value)}(r:KV kvs vs):kvs.length=vs.length:=Paired.length r
end
theorem pz{P:Program}{w:World}{k:aK}{u:Value}(r:RelV (kV k) u):(cN P w).is k u=true:=by
 cases k with
 | inl i=>obtain⟨t,e⟩:=(show ∃ t,u=Value.int i t from r); subst e; exact sR P w i t
 | inr x=>obtain⟨t,e⟩:=(show ∃ t,u=Value.str x t from r); subst e; exact sY P w x t
theorem oo{P:Program}{w:World}:∀ {ks:List aK} {us:List Value},Vals (ks.map kV) us→ItemsAre (cN P w) ks us
 | [],_,r=>by rw[List.map_nil]at r; cases r; exact .nil
 | k::ks,_,r=>by
  rw[List.map_cons]at r
  cases r with
  | cons h t=>exact .cons (pz h) (oo t)
abbrev KT (H:Hp):List (List aK × V)→List (List aK × Addr × Value)→Prop:=Paired fun p q=>p.1=q.1∧H q.2.1=some (.tup (p.1.map kV))∧RelV p.2 q.2.2
theorem KT.val{H:Hp}{kvs:List (List aK × V)}{xs:List (List aK × Addr × Value)}(r:KT H kvs xs)(k:List aK):RelO (bY kvs k) ((atKey xs k).map (·.2)):=by
 induction r with
 | nil=>exact True.intro
 | @cons p q ps qs h t ih=>
  obtain⟨h1,_,h2⟩:=h
  by_cases e:p.1=k
  ·have e':q.1=k:=h1.symm.trans e
   have b:atKey (q::qs) k=some q.2:=by simp[atKey,List.find?_cons,e']
   rw[dA e,b]; exact h2
  ·have e':¬ q.1=k:=fun z=>e (h1.trans z)
   have b:atKey (q::qs) k=atKey qs k:=by simp[atKey,List.find?_cons,e']
   rw[dw e,b]; exact ih
theorem KT.repl{H:Hp}{kvs:List (List aK × V)}{xs:List (List aK × Addr × Value)}(r:KT H kvs xs)(k:List aK){y:V}{u:Value}(ry:RelV y u) :
  KT H (kvs.map fun kv=>if kv.1=k then (kv.1,y) else kv) (xs.map (putAt k u)):=by
 induction r with
 | nil=>exact .nil
 | @cons p q ps qs h t ih=>
  rw[List.map_cons,List.map_cons];refine .cons ?_ ih
  obtain⟨h1,h2,h3⟩:=h
  unfold putAt
  by_cases e:p.1=k
  ·rw[if_pos e,if_pos (h1.symm.trans e)]; exact⟨h1,h2,ry⟩
  ·rw[if_neg e,if_neg (fun z=>e (h1.trans z))]; exact⟨h1,h2,h3⟩
theorem KT.put{H:Hp}{kvs:List (List aK × V)}{xs:List (List aK × Addr × Value)}(r:KT H kvs xs)(k:List aK){b:Addr}{y:V}{u:Value}(hb:H b=some (.tup (k.map kV)))(ry:RelV y u) :
  KT H (cS kvs k y) (storedH xs k b u):=by
 have e:(kvs.any fun kv=>decide (kv.1=k))=(atKey xs k).isSome:=by
  rw[ju,(r.val k).isSome_eq,Option.isSome_map]
 unfold cS storedH;rw[e]
 by_cases q:(atKey xs k).isSome=true
 ·rw[if_pos q,if_pos q]; exact r.repl k ry
 ·rw[if_neg q,if_neg q]; exact Paired.snoc r ⟨rfl,hb,ry⟩
theorem KT.keeps{H H':Hp}{kvs:List (List aK × V)}{xs:List (List aK × Addr × Value)}(r:KT H kvs xs)(ht:∀ b ys,H b=some (.tup ys)→H' b=some (.tup ys)):KT H' kvs xs:=
 Paired.mapP r fun _ _ z=>⟨z.1,ht _ _ z.2.1,z.2.2⟩
section
variable{P:Program}{w:World}{H:Hp}{h:Heap}{a:Addr}
theorem Bt{u:HO}(ok:HOk P w H h)(e:Rd H a u):ObjOk P w H h a u:=e.ok ok
theorem lU{kvs:List (aK × V)}(ok:HOk P w H h)(e:Rd H a (.dK kvs)):kvs.length≤sizeLine∧(a == sysModules)=false∧∃ vs,KV kvs vs∧h.DictOf (cN P w) a vs:=
 show ObjOk P w H h a (.dK kvs) from Bt ok e
theorem FW{kvs:List (aK × V)}(ok:HOk P w H h)(e:H a=some (.dK kvs)):kvs.length≤sizeLine∧(a == sysModules)=false∧∃ vs,KV kvs vs∧h.DictOf (cN P w) a vs:=lU ok (.inl e)
theorem rk{ks:List aK}(ok:HOk P w H h)(e:H a=some (.tup (ks.map kV))):(tupleKind (cN P w)).is h ks a:=by
 obtain⟨_,its,r,o,h1,h2,_,n,h3⟩:=(show ObjOk P w H h a (.tup (ks.map kV)) from ok a _ e)
 exact⟨o,its.toArray,n,h1,h2,h3,by simpa using oo r⟩
theorem vH{kvs:List (List aK × V)}(ok:HOk P w H h)(e:Rd H a (.dT kvs)):kvs.length≤sizeLine∧(a == sysModules)=false∧
  ∃ xs,KT H kvs xs∧h.DictOfH (tupleKind (cN P w)) a xs:=by
 obtain⟨z,y,xs,r,o,es,ep,h1,h2,h3,h4,h5⟩:=(show ObjOk P w H h a (.dT kvs) from Bt ok e)
 refine⟨z,y,xs,r,o,es,ep,h1,h2,h3,h4,fun x hx=>?_,h5⟩
 have all:∀ {l:List (List aK × V)} {m:List (List aK × Addr × Value)},KT H l m→∀ x∈m,(tupleKind (cN P w)).is h x.1 x.2.1:=by
  intro l m q
  induction q with
  | nil=>intro x hx; exact nomatch hx
  | @cons p q ps qs hq t ih=>
   intro x hx
   rcases List.mem_cons.mp hx with e | hx
   ·subst e
    exact rk ok (by rw[← hq.1]; exact hq.2.1)
   ·exact ih x hx
 exact all r x hx
theorem FI{kvs:List (List aK × V)}(ok:HOk P w H h)(e:H a=some (.dT kvs)):kvs.length≤sizeLine∧(a == sysModules)=false∧
  ∃ xs,KT H kvs xs∧h.DictOfH (tupleKind (cN P w)) a xs:=vH ok (.inl e)
end
def DGet(H:Hp)(a:Addr)(y:V)(r:Option V):Prop:=
 (∃ kvs k,Rd H a (.dK kvs)∧y=kV k∧r=bY kvs k)∨∃ kvs k b,Rd H a (.dT kvs)∧y = .ref b∧H b=some (.tup (k.map kV))∧r=bY kvs k
def DPut(H:Hp)(a:Addr)(y v:V)(H':Hp):Prop:=
 (∃ kvs k,H a=some (.dK kvs)∧y=kV k∧kvs.length<sizeLine∧H'=upd H a (.dK (cS kvs k v)))∨
 ∃ kvs k b,H a=some (.dT kvs)∧y = .ref b∧H b=some (.tup (k.map kV))∧kvs.length<sizeLine∧H'=upd H a (.dT (cS kvs k v))
theorem DGet.k{H:Hp}{a:Addr}{kvs:List (aK × V)}{k:aK}(e:H a=some (.dK kvs)):DGet H a (kV k) (bY kvs k):=.inl ⟨kvs,k,.inl e,rfl,rfl⟩
theorem DPut.k{H:Hp}{a:Addr}{kvs:List (aK × V)}{k:aK}{v:V}(e:H a=some (.dK kvs))(hl:kvs.length<sizeLine):DPut H a (kV k) v (upd H a (.dK (cS kvs k v))):=.inl ⟨kvs,k,e,rfl,hl,rfl⟩
section
variable{X:Cx}{pins:List (Addr × Obj)}{σ : St}{H:Hp}{s:Shared}{a:Addr}{y v:V}{u r:Value}{o:Option V}{A:Around}{E:Value→Shared→Prop}
theorem Inv.big(I:Inv X pins σ H s):sysModules<s.heap.objs.size:=by
 have h:mainGlobals<s.heap.objs.size:=(I.mod.glob.keeps I.bk).lt
 exact Nat.lt_trans (by decide) h
theorem tz{h':Heap}{t':Nat}{ob:HO}(I:Inv X pins σ H s)(mu:yC (H a))(hs:Heap.SameBut a s.heap h')(he:∃ q,h'.get? a=some q)(new:ObjOk X.prog X.w (upd H a ob) h' a ob) :
  Inv X pins σ (upd H a ob) { s with heap:=h',toks:=t' }:=
 I.write (x:=a) (e:=a) mu (.inl rfl) (fun b q hb z=>(hs.2 b hb).trans z) he new
theorem EY{P:Program}{w:World}{H':Hp}{h':Heap}{kvs:List (aK × V)}{vs:List (aK × Value)}(z:kvs.length≤sizeLine)(hd:(a == sysModules)=false)(rel:KV kvs vs)(dd:h'.DictOf (cN P w) a vs) :
  ObjOk P w H' h' a (.dK kvs):=⟨z,hd,vs,rel,dd⟩
theorem xp{H':Hp}{Q:Unit→Shared→Prop}(hu:A.units+1<cLine)(I:Inv X pins σ H s)(g:DPut H a y v H')(ry:RelV y u)(rv:RelV v r)(h:∀ s',Inv X pins σ H' s'→Q () s') :
  wpAny (model X.prog X.w) A (setItem (.ref a) u r) Q E s:=by
 rcases g with ⟨kvs,k,e,ey,l,eH⟩ | ⟨kvs,k,b,e,ey,eb,l,eH⟩
 ·subst ey eH
  obtain⟨z,hd,vs,rel,dd⟩:=FW I.hok e
  have hz:vs.length≤sizeLine:=by rw[← rel.length]; exact z
  have hl:(cS kvs k v).length≤sizeLine:=by have:=iO kvs k v; omega
  refine wpAny_setItem_pairs (hsz:=hz) (pz ry) dd fun h' dd' hs=>h _ ?_
  have he:∃ q,h'.get? a=some q:=let ⟨q,_,_,hq,_⟩:=dd'; ⟨q,hq⟩
  exact tz I (by rw[e]; exact True.intro) hs he (EY hl hd (rel.put k rv) dd')
 ·subst ey eH
  cases (show u=Value.ref b from ry)
  obtain⟨z,hd,xs,rel,dd⟩:=FI I.hok e
  have hz:xs.length≤sizeLine:=by rw[← Paired.length rel]; exact z
  have hl:(cS kvs k v).length≤sizeLine:=by have:=iO kvs k v; omega
  refine wpAny_setItem_heap (hsz:=hz) (tupleKind_room_in1 hu) (rk I.hok eb) dd fun h' dd' hs=>h _ ?_
  obtain⟨q,es,ep,hq,h2,h3,h4,_,h5⟩:=dd'
  refine tz I (by rw[e]; exact True.intro) hs ⟨q,hq⟩ ⟨hl,hd,_,(rel.put k eb rv).keeps fun c ys ec=>?_,q,es,ep,hq,h2,h3,h4,h5⟩
  rw[aj (b8 ec e (fun z=>nomatch z))]
  exact ec
end
theorem AS{P:Program}{w:World}{H:Hp}(h:Heap)(hb:sysModules<h.objs.size):ObjOk P w H (h.push { cls:=.type "dict", data:=.dict #[] }) h.objs.size (.dK []):=
 ⟨Nat.zero_le _,beq_eq_false_iff_ne.mpr (Ne.symm (Nat.ne_of_lt hb)),[],.nil,Heap.DictOf.new h⟩
def EV:TE:=fun _ H Q=>∀ p,H p=none→Q (.ref p) (upd H p (.dK []))
section
variable{X:Cx}{pos:Pos}
theorem ly:PE X (.Dict [] [] pos) EV:=fun pins s σ H Q I h=>
 wpAny_Dict_empty ⟨.ref s.heap.objs.size,_,I.laid (a:=s.heap.objs.size) (o:=.dK []) (t':=s.toks) (fun _ _ q=>Heap.get?_push_of_some _ q) (Nat.le_refl _) (AS s.heap I.big),rfl,h _ (I.hok.fresh (Nat.le_refl _))⟩
end
def ko:List (TE × TE)→St→Hp→(List (V × V)→Hp→Prop)→Prop
 | [],_,H,Q=>Q [] H
 | (tk,tv)::r,σ,H,Q=>tk σ H fun x H1=>tv σ H1 fun y H2=>ko r σ H2 fun ps H3=>Q ((x,y)::ps) H3
abbrev VV:List (V × V)→List (Value × Value)→Prop:=Paired fun p q=>RelV p.1 q.1∧RelV p.2 q.2
def PPs(X:Cx)(pos:Pos)(keys:List (Option Expr))(values:List Expr)(trs:List (TE × TE)):Prop:=
 ∀ (pins:List (Addr × Obj)) (s:Shared) (σ : St) (H:Hp) (Q:List (V × V)→Hp→Prop),Inv X pins σ H s→ko trs σ H Q→
  wpAny (model X.prog X.w) X.A (evalPairs (pairTrees keys values X.env pos)) (fun vs s'=>∃ ps H',Inv X pins σ H' s'∧VV ps vs∧Q ps H') X.xe s
structure M1 (X:Cx) (o:Expr) (m:Str) (apos:Pos) (e:Expr) (cpos:Pos):Prop where
 base:attributeBase o m X.env (eval o X.env)=eval o X.env
 few:((backTo cpos (starEach [e] X.env)).all (fun x=>!x.1)&&(backToKw cpos (keywordEach [] X.env)).all (fun x=>x.1.isSome)
  && decide (([e]:List Expr).length+([]:List Keyword).length+(if ([]:List Keyword).isEmpty then 0 else 1)<30))=true
 line:(apos.endLine == cpos.line)=true
 trees:backTo cpos (starEach [e] X.env)=[(false,eval e X.env)]
def Bu(H:Hp)(a:Addr):Prop:=(∃ kvs,Rd H a (.dK kvs))∨∃ kvs,Rd H a (.dT kvs)
theorem FA{X:Cx}{pins:List (Addr × Obj)}{σ : St}{H:Hp}{s:Shared}{a:Addr}(I:Inv X pins σ H s)(d:Bu H a) :
  s.TypeIs (.ref a) "dict" ∧ (∀ b,Value.ref a = .ref b→∃ ob,s.heap.get? b=some ob∧ob.dict=none)∧(a == sysModules)=false:=by
 rcases d with ⟨kvs,e⟩ | ⟨kvs,e⟩
 ·obtain⟨_,hd,vs,_,dd⟩:=lU I.hok e
  refine⟨dd.typeIs,fun b q=>?_,hd⟩
  cases q;obtain⟨ob,_,_,h1,h2,_⟩:=dd
  exact⟨ob,h1,h2.2.1⟩
 ·obtain⟨_,hd,xs,_,dd⟩:=vH I.hok e
  refine⟨dd.typeIs,fun b q=>?_,hd⟩
  cases q;obtain⟨ob,_,_,h1,h2,_⟩:=dd
  exact⟨ob,h1,h2.2.1⟩
section
variable{X:Cx}{pins:List (Addr × Obj)}{σ : St}{H:Hp}{s:Shared}{a:Addr}{y d:V}{u r:Value}{o:Option V}{A:Around}{E:Value→Shared→Prop}
theorem C_{Q:Value→Shared→Prop}(hu:A.units+1<cLine)(I:Inv X pins σ H s)(g:DGet H a y o)(ry:RelV y u)(h:∀ w' s',Inv X pins σ H s'→RelV (o.getD .non) w'→Q w' s') :
  wpAny (model X.prog X.w) A (call (.builtin "dict.get") [.ref a,u]) Q E s:=by
 rcases g with ⟨kvs,k,e,ey,l⟩ | ⟨kvs,k,b,e,ey,eb,l⟩
 ·subst ey
  obtain⟨z,hd,vs,rel,dd⟩:=lU I.hok e
  refine call_meetsIn PySem.F.slot_dict_get dd.typeIs PySem.F.entry_dict_get (PySem.F.args_dict_get_2 _ _) (meets_dict_get (cN X.prog X.w) a (pz ry) hd) ⟨_,dd.mapOf,h _ _ (I.tok _) ?_⟩
  rw[l];exact(rel.val k).getD rfl
 ·subst ey
  cases (show u=Value.ref b from ry)
  obtain⟨z,hd,xs,rel,dd⟩:=vH I.hok e
  refine call_meetsIn PySem.F.slot_dict_get dd.typeIs PySem.F.entry_dict_get (PySem.F.args_dict_get_2 _ _) (meetsH_dict_get (tupleKind (cN X.prog X.w)) a b hd) ⟨tupleKind_room_in1 hu,k,xs,rk I.hok eb,dd,h _ _ (I.tok _) ?_⟩
  rw[l];exact(rel.val k).getD rfl
end
def yi(td ty:TE):TE:=fun σ H Q=>td σ H fun x H1=>∃ a,x = .ref a∧Bu H1 a∧ty σ H1 fun y H2=>∃ o,DGet H2 a y o∧Q (o.getD .non) H2
section
variable{X:Cx}{o e f:Expr}{apos cpos:Pos}{td ty tx:TE}
theorem AB(hu:X.A.units+1<cLine)(ho:PE X o td)(he:PE X e ty)(m:M1 X o "get" apos e cpos):PE X (.Call (.Attribute o "get" apos) [e] [] cpos) (yi td ty):=by
 intro pins s σ H Q I h
 refine wpAny_Call_method m.base m.few m.line PySem.F.plainAttrs_dict PySem.F.slot_dict_get PySem.F.type_dict_get (bf (ho pins s σ H _ I h) fun u s1 ⟨x,H1,I1,rx,a,ex,d,q1⟩=>?_)
 subst ex;obtain rfl:u=Value.ref a:=rx
 obtain⟨t1,t2,_⟩:=FA I1 d
 refine⟨t1,t2,?_⟩
 rw[m.trees];refine Calls.callWith_builtin rfl (Calls.evalArgs_plain (Calls.spliced_cons (bf (he pins s1 σ H1 _ I1 q1) fun iv s2 ⟨y,H2,I2,ry,ov,g,q2⟩=>Calls.spliced_nil ?_)))
 exact C_ hu I2 g ry fun w' s3 I3 rw'=>⟨_,H2,I3,rw',q2⟩
end
end L2
namespace Att
open PySem PySem.W PySem.Calls PyProof.Rows
theorem mB{P:Params}{h:Heap}:∀ (ns:List Int) (vs:List Value),WellAll P h vs (ns.map WData.int)→IntsAre vs ns:=by
 intro ns
 induction ns with
 | nil=>
  intro vs w
  rw[List.map_nil]at w
  cases w;exact .nil
 | cons n ns ih=>
  intro vs w
  rw[List.map_cons]at w
  cases w with
  | cons a b=>
   cases a;exact .cons _ _ (ih _ b)
theorem xU{l:OpenLaw}{n:Nat}(hn:l.most=some n){P:Params}{h:Heap}{args:List WData}{vals:List Value}
  (hpre:l.row.toRowW.claim.pre args=true) (hwl:WellAll P h vals args) :
  ∃ a vs ns,vals=[Value.ref a]∧args=[WData.list (ns.map WData.int)]∧h.get? a=some { cls:=.type "list", data:=.seq vs.toArray }∧IntsAre vs ns∧ns.length≤n:=by
 have hsh:WShape.hasAll [] args [.list .int]=true:=(pre_splitW hpre).1
 have hc:l.pre.holds [] { args:=args }=true:=(pre_splitW hpre).2
 obtain⟨d,r,rfl,h1,h2⟩:=hasAllW_cons hsh
 obtain rfl:=hasAllW_nil h2
 obtain⟨xs,rfl,h3⟩:=hasW_list h1
 obtain⟨ns,rfl⟩:=items_int h3
 have hlen:ns.length≤n:=by
  unfold OpenLaw.pre at hc
  have h4:(WTm.not (.lt (.lit (.int (n:Int))) (.len (.arg 0)))).holds [] { args:=[.list (ns.map .int)] }=true:=by
   have h4:=(holds_andW hc).1;rw[hn]at h4
   exact h4
  have h5:=condW_of h4 (w_not (w_lt w_lit (w_len_list (w_arg rfl))));rw[List.length_map]at h5
  refine Nat.le_of_not_lt fun q=>?_
  have q':(n:Int)<((ns.length:Nat):Int):=by omega
  first
   | (rw[decide_eq_true q']at h5; exact absurd h5 (by decide))
   | (simp at h5; omega)
 cases hwl with
 | cons w1 w2=>
  cases w2
  cases w1 with
  | list ho hall=>exact⟨_,_,ns,rfl,rfl,ho,mB ns _ hall,hlen⟩
theorem xC(l:OpenLaw)(args:List WData):l.row.toRowW.claim.post args (.bool true) args=true:=
 postW_of (r:=l.row.toRowW) (X:=(true == true))
  (show WShape.has [] (.bool true) .bool=true by first | rfl | decide | simp[WShape.has,WShape.arms,WShape.armsAll])
  (show (WTm.eq .res (.lit (.bool true))).value [] { args:=args,res:=some (.bool true),after:=args }=some (.bool (true == true)) from w_eq_bool (w_res rfl) w_lit) rfl
theorem attach_call{l:OpenLaw}{n:Nat}{q:Program}{loose:List Str}{XP:(Str→Option Value)→Heap→Prop}{YP:World→Heap→Prop}{d:DefRec}
  (hn:l.most=some n) (hdf:d.params.defaults=[])
  (call:∀ (w:World) (s₀ s₁:Shared) (mg mb:Str→Option Value) (fa:Addr) (o:Obj) (pm cd doc:Value) (a:Addr) (vs:List Value) (ns:List Int),
   Ground q loose [] XP w s₀ mg mb s₁.heap→YP w s₁.heap→
   s₁.heap.get? fa=some o→o.data = .func (docDef d.name d.params d.body d.scope pm cd doc)→s₁.heap.CodeRec cd d.name→mg d.name=some (.ref fa)→
   s₁.heap.get? a=some { cls:=.type "list", data:=.seq vs.toArray }→IntsAre vs ns→ns.length≤n→s₁.gens = #[]→
   codeAny (model l.prog w) callerA (.call (.ref fa) ⟨[.ref a],[]⟩) (fun r s'=>r = .ok (.ret (.bool true))∧OldK s₁.heap s'.heap∧s'.os=s₁.os∧AllBare s'.gens) s₁) :
  WalkO q loose XP YP l.row.toRowW d [] (fun f vs=>PySem.call f vs):=by
 intro w s₀ s₁ mg mb G Y fa o pm cd doc dV kV ho hd hcd hD hmg hg args vals as hpre hlay hrd hwl hlo
 obtain rfl:dV = .none:=Dflts.none hD hdf
 obtain rfl:kV = .none:=Dflts.noKw hD
 obtain⟨a,vs,ns,rfl,rfl,hobj,hints,hlen⟩:=xU hn hpre hwl
 refine enter_call (codeAny_mono (call w s₀ s₁ mg mb fa o pm cd doc a vs ns G Y ho (fd_plain hd) hcd hmg hobj hints hlen hg) fun r s' hq=>?_)
 obtain⟨rfl,h2,h3,h4⟩:=hq
 exact⟨.inl ⟨.bool true,.bool true,[],rfl,fun _=>rfl,.bool true,xC l _,fun _=>⟨List.Pairwise.nil,fun _ hm=>(nomatch hm)⟩⟩,h2,h3,h4⟩
end Att
namespace L2
open PySem PySem.Spec PyProof.Rows
theorem oj:∀ {vs:List Value} {ns:List Int},IntsAre vs ns→Vals (ns.map V.int) vs
 | _,_,.nil=>.nil
 | _,_,.cons n t h=>.cons ⟨t,rfl⟩ (oj h)
def zH(H:Hp):Prop:=∀ b,H b=none∨∃ o xs,H b=some (.frz o (.lst xs))
theorem zG{P:Program}{w:World}{K:PySem.W.Frag}{mg mb:Str→Option Value}{CX:iU}{k:Nat}{fa a:Addr}{fd:FuncData}{x:Str}{sp:Sp}{s₁:Shared}{vs:List Value}{ns:List Int}
  (KX:K.In s₁.heap) (hns:s₁.heap.Ns mainGlobals mg) (hb:s₁.heap.Ns builtinsNs mb) (hbb:∀ x:Str,x ≠ "__name__" → mb x=bootBuiltins x) (hlim:s₁.heap.NoLimit) (hg:s₁.gens = #[])
  (ha:s₁.heap.get? a=some { cls:=.type "list", data:=.seq vs.toArray }) (hi:IntsAre vs ns) (hl:ns.length≤sizeLine) (hr:Room k callerA)
  (F:∀ base:Heap,K.In base→base.Ns mainGlobals mg→FnOk P w K mg base CX k fa fd [x] sp) (hbind:∀ (s:Shared) (u:Value),BindsTo s fd ⟨[u],[]⟩ [(x,u)])
  (hsp:∀ H:Hp,zH H→SqL K H a (ns.map V.int)→sp [.ref a] H (fun v _=>v = .bl true) fun _ _ _=>False)
  (hCX:∀ H e s',CX [] H s₁ (fun _ _ _=>False) e s'→False) :
  codeAny (model P w) callerA (.call (.ref fa) ⟨[.ref a],[]⟩) (fun r s'=>r = .ok (.ret (.bool true))∧OldK s₁.heap s'.heap∧s'.os=s₁.os∧AllBare s'.gens) s₁:=by
 have rv:=oj hi;have lenV:=hi.length
 -- from an abstract heap in which nothing but the script may be tracked
 have core:∀ H:Hp,zH H→SqL K H a (ns.map V.int)→HOk P w H s₁.heap→(∀ b,H b≠none→b=a)→(H a≠none→K.lookup a=none)→
   codeAny (model P w) callerA (.call (.ref fa) ⟨[.ref a],[]⟩) (fun r s'=>r = .ok (.ret (.bool true))∧OldK s₁.heap s'.heap∧s'.os=s₁.os∧AllBare s'.gens) s₁:=by
  intro H hO hS hok hA hK
  have base_of:∀ {b:Addr} {o:Obj},s₁.heap.get? b=some o→H b=none→(jA s₁.heap H).get? b=some o:=fun e n=>zy e n
  have noA:∀ {b:Addr} {o:Obj} {es:Array DictEntry} {ep:Nat},s₁.heap.get? b=some o→o.data = .dict es ep→H b=none:=fun {b o es ep} e d=>by
   cases q:H b with
   | none=>rfl
   | some u=>
    have e':b=a:=hA b (by rw[q]; simp)
    subst e';rw[ha]at e; cases e
    have d':Data.seq vs.toArray _=Data.dict es ep:=d
    cases d'
  have nsK:∀ {b:Addr} {m:Str→Option Value},s₁.heap.Ns b m→(jA s₁.heap H).Ns b m:=fun {b m} ⟨o,es,ep,e,d,r⟩=>⟨o,es,ep,base_of e (noA e d),d,r⟩
  have hKb:K.In (jA s₁.heap H):=fun b o e=>base_of (KX b o e) (by
   cases q:H b with
   | none=>rfl
   | some u=>
    have e':b=a:=hA b (by rw[q]; simp)
    subst e';rw[hK (by rw[q]; simp)]at e; cases e)
  have hM:Mod K mg (jA s₁.heap H):=⟨hKb,nsK hns,⟨mb,nsK hb,hbb⟩,let ⟨mc,h1,h2⟩:=hlim; ⟨mc,nsK h1,h2⟩⟩
  have e0:Env0 P w K mg (jA s₁.heap H) callerA [] s₁ H:=⟨rfl,hM,fun b o e=>Cu e,Nat.le_of_eq (x3 _ _),trivial,fun b hb=>absurd (show b∈([]:List Addr) from hb) (by simp),hok,.of_eq hg⟩
  refine codeAny_mono ((F _ hKb (nsK hns)).run callerA [] s₁ H ⟨[.ref a],[]⟩ [.ref a] [.ref a] _ _ hr e0 (hbind s₁ (.ref a)) (.cons rfl .nil) (hsp H hO hS)) fun r s' h=>?_
  cases r with
  | error e=>exact(hCX H e s' h).elim
  | ok fl=>
   cases fl with
   | next=>exact False.elim h
   | brk=>exact False.elim h
   | cont=>exact False.elim h
   | ret u=>
    obtain⟨v,H',os,bare,un,hok',r',q⟩:=h
    have q':v = .bl true:=q
    subst q';obtain rfl:u=Value.bool true:=r'
    refine⟨rfl,OldK.of_keep fun b o e=>?_,os,bare⟩
    cases q:H b with
    | none=>exact un.keep b o e q (by intro z; exact absurd (show b∈([]:List Addr) from z) (by simp)) (by simp)
    | some u=>
     rcases hO b with z | ⟨ob,xs,z⟩
     ·rw[q]at z; cases z
     ·have z2:=un.frzs b ob _ z
      obtain⟨e1,_⟩:=hok b _ z
      obtain⟨e2,_⟩:=hok' b _ z2
      rw[e]at e1; cases e1
      exact e2
 cases hk:K.lookup a with
 | some o=>
  -- the script is one of the module's own objects
  have e:=KX a o hk;rw[ha]at e
  cases e;refine core (fun _=>none) (fun _=>.inl rfl) (.inr ⟨_,vs.toArray,_,hk,rfl,rfl,rfl,by rw[List.size_toArray,lenV]; exact hl,by simpa using rv⟩) (fun b u z=>by have z':(none:Option HO)=some u:=z; cases z') (fun b z=>absurd rfl z) fun z=>absurd rfl z
 | none=>
  refine core (fun b=>if b=a then some (.frz { cls:=.type "list", data:=.seq vs.toArray } (.lst (ns.map V.int))) else none) (fun b=>?_) (.inl (.inr ⟨{ cls:=.type "list", data:=.seq vs.toArray },if_pos rfl⟩)) (fun b u z=>?_) (fun b z=>?_) fun _=>hk
  ·by_cases hb:b=a
   ·exact .inr ⟨_,_,if_pos hb⟩
   ·exact .inl (if_neg hb)
  ·by_cases hb:b=a
   ·have z':=(if_pos hb).symm.trans z
    cases z';subst hb;exact⟨ha,by rw[List.length_map]; exact hl,vs,_,rv,ha⟩
   ·have z':=(if_neg hb).symm.trans z
    cases z'
  ·by_cases hb:b=a
   ·exact hb
   ·exact absurd (if_neg hb) z
abbrev KOf {K:PySem.W.Frag} {h:Heap} (_:K.In h):PySem.W.Frag:=K
theorem walk_of{l:PySem.W.OpenLaw}{n k:Nat}{q:Program}{loose:List Str}{XP:(Str→Option Value)→Heap→Prop}{YP:World→Heap→Prop}{d:DefRec}{K:Params→PySem.W.Frag}{CX:World→iU}{sp:World→Sp}{x:Str}
  (hn:l.most=some n) (hn2:n≤sizeLine) (hdf:d.params.defaults=[]) (hr:Room k callerA)
  (hY:∀ (w:World) (h:Heap),YP w h→(K w.params).In h)
  (F:∀ (w:World) (mg:Str→Option Value) (fa:Addr) (h:Heap),(K w.params).In h→h.Ns mainGlobals mg→mg d.name=some (.ref fa)→
   ∃ fd:FuncData,(∀ (s:Shared) (u:Value),BindsTo s fd ⟨[u],[]⟩ [(x,u)])∧
    ∀ base:Heap,(K w.params).In base→base.Ns mainGlobals mg→FnOk l.prog w (K w.params) mg base (CX w) k fa fd [x] (sp w))
  (hsp:∀ (w:World) (H:Hp) (a:Addr) (ns:List Int),ns.length≤n→zH H→SqL (K w.params) H a (ns.map V.int)→sp w [.ref a] H (fun v _=>v = .bl true) fun _ _ _=>False)
  (hCX:∀ (w:World) (H:Hp) (s:Shared) (e:Value) (s':Shared),CX w [] H s (fun _ _ _=>False) e s'→False) :
  PySem.W.WalkO q loose XP YP l.row.toRowW d [] (fun f vs=>PySem.call f vs):=by
 refine Att.attach_call hn hdf fun w s₀ s₁ mg mb fa o pm cd doc a vs ns G Y ho hd hcd hmg hobj hints hlen hg=>?_
 have KX:=hY w _ Y;obtain⟨fd,hb,hF⟩:=F w mg fa _ KX G.T.g hmg
 exact zG KX G.T.g G.T.b G.T.builtins G.T.nolimit hg hobj hints (Nat.le_trans hlen hn2) hr hF hb (fun H hO hS=>hsp w H a ns hlen hO hS) fun H e s'=>hCX w H s₁ e s'
end L2
/- THE LAST THEOREM (shape; LID, My.* are yours):
   My.Adr: a structure of the addresses that your layer names (classes,functions); My.Txt K t: a structure (Prop) of the equations over K;
   My.txt_mk:{K} {implicit addresses ..} (e1:nsIn K mainGlobals "law" = some (some (.ref f))) (e2:K.lookup f=some ⟨oc,od,.func (fnOf "law" "law" params body scope dV kV doc pm an cdv ct),sl⟩) (e3:codeIn K cdv "law" = true) .. : ∃ t,My.Txt K t
set_option maxRecDepth 100000 in
set_option maxHeartbeats 0 in
theorem PySem.Challenge.cw_LID_holds : PySem.Challenge.rw_LID.Holds := by
 w_on; o_law; k_head; (case hw=>w_witness2)
 k_fill
 refine L2.walk_of (l:=PySem.Challenge.rw_LID) (n:=63) (k:=40) (x := "script") (CX:=fun w=>..) (sp:=fun _=>My.sp_law) rfl (by decide) rfl ⟨rfl,by decide,by decide⟩ (fun w h Y=>PySem.W.kIn_of Y) ?F ?S ?C
 case F=>
  intro w mg fa h KX G hmg
  have T:∃ t,My.Txt (L2.KOf KX) t:=by
   dsimp only[L2.KOf]                          -- K must stand as «<heap const> w.params» for k_is
   refine' My.txt_mk ?e1 ?e2 ?e3 ..
   (case e1=>PySem.W.k_is)                    -- in the order: a name -> its address -> its object -> its parts
   (case e2=>PySem.W.k_is)
   ..
  obtain⟨t,T⟩:=T
  have e0:=hmg.symm.trans (PySem.W.mg_of KX G T.law)
  cases e0                                       -- fa is the law's own address
  exact⟨_,fun s u=>.of_eq rfl,fun base kb nb=>My.law_fn T kb nb⟩     -- if «.of_eq rfl» comes too early: refine' ⟨_,?b,fun base kb nb=>My.law_fn T kb nb⟩; exact fun s u=>.of_eq rfl
 case S=>exact fun w H a ns hl hO hS=>..
 case C=>exact ..
(the tactic k_is has no namespace: write k_is) -/
namespace L2
open PySem PySem.Spec PyProof.Rows
abbrev iZ:iU:=fun _ _ _ _ _ _=>False
abbrev E0:XK:=fun _ _ _=>False
theorem vZ{X:Cx}:lX iZ X E0:=fun _ _ _ _ _ _ _ h=>h.elim
structure Fun (K:PySem.W.Frag) (x qual:Str) (st:Stmt) (f:Addr) (fd:FuncData):Prop where
 ex:∃ (oc:Value) (od:Option Addr) (kV doc pm:Value) (an:Option Addr) (cdv ct:Value) (osl:Array (Option Value)),
  fd=PySem.W.fnOf x qual (defArgs st) (defBody st) (defScope st) .none kV doc pm an cdv ct∧K.lookup f=some ⟨oc,od,.func fd,osl⟩∧PySem.W.codeIn K cdv qual=true
 kp:PySem.W.keepIn K (.ref f)=true
section
variable{P:Program}{w:World}{K:PySem.W.Frag}{mg:Str→Option Value}{base:Heap}
theorem Fun.ok{x qual:Str}{st:Stmt}{f:Addr}{fd:FuncData}{N ps:List Str}{k:Nat}{sp:Sp}(F:Fun K x qual st f fd)(S:aE N ps (defScope st))(len:∀ vs H Q E,sp vs H Q E→vs.length=ps.length)
  (hbody:∀ (cdv:Value) (A:Around) (outer:List Env) (s:Shared) (H:Hp) (vs:List V) (Q:VK) (E:XK),Room k (A.deeper (envOfC qual (defScope st) s.heap.objs.size f cdv))→sp vs H Q E→
   ∃ t,PSs (jy iZ P w K mg base N qual (defScope st) f cdv A outer s H E).nox (defBody st) t∧t { nx:=fun _ H'=>Q .non H',rt:=Q } (start N vs) H):FnOk P w K mg base iZ (k+1) f fd ps sp:=by
 obtain⟨oc,od,kV,doc,pm,an,cdv,ct,osl,rfl,lk,hcd⟩:=F.ex
 refine F8 lk hcd S len fun A outer s H vs Q E hr hsp=>?_
 obtain⟨t,h,q⟩:=hbody cdv A outer s H vs Q E hr hsp
 exact⟨t,h.nox,q⟩
theorem Fun.binds{x qual:Str}{st:Stmt}{f:Addr}{fd:FuncData}{ps:List Str}(F:Fun K x qual st f fd)
  (h:∀ (kV doc pm:Value) (an:Option Addr) (cdv ct:Value) (us:List Value),us.length=ps.length→bindArgs (PySem.W.fnOf x qual (defArgs st) (defBody st) (defScope st) .none kV doc pm an cdv ct) ⟨us,[]⟩=pure (ps.zip us)):Binds K fd ps []:=by
 obtain⟨oc,od,kV,doc,pm,an,cdv,ct,osl,rfl,lk,hcd⟩:=F.ex
 exact .all (h kV doc pm an cdv ct)
theorem eI{x qual:Str}{st:Stmt}{f:Addr}{oc:Value}{od an:Option Addr}{osl:Array (Option Value)}{kV doc pm cdv ct:Value}(l:K.lookup f=some ⟨oc,od,.func (PySem.W.fnOf x qual (defArgs st) (defBody st) (defScope st) .none kV doc pm an cdv ct),osl⟩)
  (c:PySem.W.codeIn K cdv qual=true) (k:PySem.W.keepIn K (.ref f)=true):Fun K x qual st f (PySem.W.fnOf x qual (defArgs st) (defBody st) (defScope st) .none kV doc pm an cdv ct):=⟨⟨oc,od,kV,doc,pm,an,cdv,ct,osl,rfl,l,c⟩,k⟩
end
theorem FT{A:Around}{k:Nat}(hr:Room k A):A.units+1<cLine:=Nat.lt_of_le_of_lt (Nat.add_le_add_left (by decide:1≤64) _) hr.units
section
variable{X:Cx}
theorem pv(i:Nat){x:Str}{pos:Pos}(hN:X.N[i]? = some x:=by rfl)(hv:am X.env.scope x:=by first | exact vSs (by decide +kernel) | exact Or.inl rfl)(hd:(x == ("__debug__" : Str))=false:=by decide)
  (hcd:(x == ("__classdict__" : Str))=false:=by decide):PE X (.Name x pos) (Av i):=Du hN hv hd hcd
end
theorem aJ{c A B:Prop}[Decidable c](h1:c→A)(h2:¬ c→B):if c then A else B:=by
 by_cases h:c
 ·rw[if_pos h]
  exact h1 h
 ·rw[if_neg h]
  exact h2 h
def Same(H H':Hp):Prop:=∀ b o,H b=some o→H' b=some o
theorem Same.refl(H:Hp):Same H H:=fun _ _ h=>h
theorem Same.trans{H H1 H2:Hp}(a:Same H H1)(b:Same H1 H2):Same H H2:=fun c o h=>b c o (a c o h)
theorem Same.free{H H':Hp}(e:Same H H'){l:Addr}(h:H' l=Option.none):H l=Option.none:=by
 cases q:H l with
 | none=>rfl
 | some o=>
  rw[e l o q]at h
  cases h
theorem Same.seq{K:PySem.W.Frag}{H H':Hp}{a:Addr}{xs:List V}(e:Same H H')(h:SqL K H a xs):SqL K H' a xs:=by
 rcases h with (h | ⟨o,h⟩) | h
 ·exact .inl (.inl (e _ _ h))
 ·exact .inl (.inr ⟨o,e _ _ h⟩)
 ·exact .inr h
def eL(cells:List (Str × Addr)):List (Str × NameKind)→List (Str × Addr)→List (Str × Addr)
 | [],acc=>acc
 | (n,k)::r,acc=>eL cells r (if k == .free then (n,(cells.lookup n).getD 0)::acc else acc)
theorem rT{env:Env}{f:(Str × NameKind)→List (Str × Addr)→Sem (ForInStep (List (Str × Addr)))}
  (hf:∀ n k cs,f (n,k) cs=if (k == NameKind.free)=true then (cellOf env n >>= fun c=>pure (ForInStep.yield ((n,c)::cs))) else pure (ForInStep.yield cs)) :
  ∀ (names:List (Str × NameKind)) (acc:List (Str × Addr)),(∀ x∈names,x.2 = .free→∃ c,env.cells.lookup x.1=some c)→
  forIn names acc f=(pure (eL env.cells names acc):Sem _)
 | [],acc,_=>rfl
 | (n,k)::r,acc,h=>by
  rw[List.forIn_cons,hf];have ih:=fun acc=>rT hf r acc fun x hx=>h x (List.mem_cons_of_mem _ hx)
  by_cases hk:(k == NameKind.free)=true
  ·rw[if_pos hk]
   obtain⟨c,hc⟩:=h (n,k) List.mem_cons_self (by simpa using hk)
   have e:cellOf env n=pure c:=by unfold cellOf; rw[hc]
   rw[e,pure_bind,pure_bind];show forIn r ((n,c)::acc) f=_
   rw[ih];show _=pure (eL env.cells r (if (k == NameKind.free)=true then (n,(env.cells.lookup n).getD 0)::acc else acc))
   rw[if_pos hk,hc]; rfl
  ·rw[if_neg hk,pure_bind]
   show forIn r acc f=_
   rw[ih];show _=pure (eL env.cells r (if (k == NameKind.free)=true then (n,(env.cells.lookup n).getD 0)::acc else acc))
   rw[if_neg hk]
theorem jF{env:Env}{scope:Scope}(h:∀ x∈scope.names,x.2 = .free→∃ c,env.cells.lookup x.1=some c):closureFor scope env=pure (eL env.cells scope.names []):=by
 unfold closureFor;show (forIn scope.names ([]:List (Str × Addr)) _ >>= fun cs=>pure cs)=_
 rw[rT (env:=env) (fun n k cs=>?_) _ _ h]
 ·rfl
 ·rfl
theorem kY{cells:List (Str × Addr)}:∀ {names:List (Str × NameKind)} {acc:List (Str × Addr)} {x:Str} {c:Addr},(∀ y∈names,y.2 = .free→∃ c,cells.lookup y.1=some c)→
  (∀ y c,acc.lookup y=some c→cells.lookup y=some c)→(eL cells names acc).lookup x=some c→cells.lookup x=some c
 | [],acc,x,c,_,ha,h=>ha x c h
 | (n,k)::r,acc,x,c,hn,ha,h=>by
  refine kY (names:=r) (fun y hy=>hn y (List.mem_cons_of_mem _ hy)) ?_ h
  intro y d hy
  by_cases hk:(k == NameKind.free)=true
  ·rw[if_pos hk]at hy
   obtain⟨e,he⟩:=hn (n,k) List.mem_cons_self (by simpa using hk)
   have he':cells.lookup n=some e:=he
   rw[List.lookup_cons]at hy
   by_cases hyn:(y == n)=true
   ·rw[hyn]at hy
    have hy':(cells.lookup n).getD 0=d:=Option.some.inj hy
    rw[he']at hy'
    have e1:y=n:=by simpa using hyn
    rw[e1,he',← hy']; rfl
   ·have hf:(y == n)=false:=by simpa using hyn
    rw[hf]at hy
    exact ha y d hy
  ·rw[if_neg hk]at hy
   exact ha y d hy
theorem mC{cells:List (Str × Addr)}:∀ {names:List (Str × NameKind)} {acc:List (Str × Addr)} {x:Str},(∃ c,acc.lookup x=some c)→∃ c,(eL cells names acc).lookup x=some c
 | [],_,_,h=>h
 | (n,k)::r,acc,x,h=>by
  refine mC (names:=r) ?_
  by_cases hk:(k == NameKind.free)=true
  ·rw[if_pos hk,List.lookup_cons]
   cases hx:(x == n) with
   | true=>exact⟨_,rfl⟩
   | false=>exact h
  ·rw[if_neg hk]; exact h
theorem jD{cells:List (Str × Addr)}:∀ {names:List (Str × NameKind)} {acc:List (Str × Addr)} {x:Str},(x,NameKind.free)∈names→∃ c,(eL cells names acc).lookup x=some c
 | (n,k)::r,acc,x,h=>by
  rcases List.mem_cons.mp h with e | h
  ·have e1:x=n:=congrArg (·.1) e
   have e2:NameKind.free=k:=congrArg (·.2) e
   subst e1 e2;refine mC (names:=r) ?_
   rw[if_pos (by rfl),List.lookup_cons]
   rw[beq_self_eq_true];exact⟨_,rfl⟩
  ·exact jD (names:=r) h
theorem fu{env:Env}:∀ {names:List (Str × NameKind)} {x:Str} {k:NameKind},(∀ y∈names,y.2 ≠ .cell)→
  (names.map fun (n,k)=>if (k == NameKind.free&&env.scope.kind == .function&&env.kindOf n == some .cell) then (n,NameKind.cell) else (n,k)).lookup x=some k→(k = .cell∨k = .free)→(x,NameKind.free)∈names
 | [],_,_,_,h,_=>by simp at h
 | (n,k0)::r,x,k,hc,h,hk=>by
  have ih:=@fu env r x k (fun y hy=>hc y (List.mem_cons_of_mem _ hy))
  rw[List.map_cons]at h
  by_cases hf:(k0 == NameKind.free&&env.scope.kind == .function&&env.kindOf n == some .cell)=true
  ·have hk0:k0 = .free:=by
    have:(k0 == NameKind.free)=true:=by
     rw[Bool.and_eq_true,Bool.and_eq_true]at hf; exact hf.1.1
    simpa using this
   dsimp only at h
   rw[if_pos hf,List.lookup_cons]at h
   cases hx:(x == n) with
   | true=>
    have:x=n:=by simpa using hx
    rw[this,hk0]; exact List.mem_cons_self
   | false=>rw[hx]at h; exact List.mem_cons_of_mem _ (ih h hk)
  ·dsimp only at h
   rw[if_neg hf,List.lookup_cons]at h
   cases hx:(x == n) with
   | true=>
    rw[hx]at h
    have e:k0=k:=Option.some.inj h
    have:x=n:=by simpa using hx
    rcases hk with z | z
    ·exact absurd (e.trans z) (hc (n,k0) List.mem_cons_self)
    ·rw[this,e,z]; exact List.mem_cons_self
   | false=>rw[hx]at h; exact List.mem_cons_of_mem _ (ih h hk)
def cg(X:Cx)(N0 T:List Str)(scope:Scope)(C:Addr)(fp:List Addr)(s:Shared)(H:Hp):Cx:=
 { X with N:=N0++T,s₀:=s,H₀:=H,env:=compEnvC scope (eL X.env.cells scope.names []) C X.env,outer:=X.stack,stack:=X.stack,ex:=fp,fn:=fun _=>false,pn:=[],xe:=fun _ _=>False }
structure iJ (X:Cx) (N0 T:List Str) (scope:Scope):Prop where
 kind:scope.kind = .function
 nocell:∀ y∈scope.names,y.2 ≠ .cell
 names:∀ y∈scope.names,y.2 = .local→scope.names.lookup y.1=some .local
 free:∀ y∈scope.names,y.2 = .free→X.env.kindOf y.1=some .cell∨X.env.kindOf y.1=some .free
 apart:∀ y∈scope.names,y.2 = .local→y.1∉N0
 len0:N0.length=X.N.length
 same:∀ (i:Nat) (x:Str) (k:NameKind),N0[i]? = some x→(x,k)∈scope.names→X.N[i]? = some x
theorem jH{prog:Program}{w:World}{A:Around}{R:Result→Shared→Prop}{s:Shared}{elt target iter:Expr}{ifs:List Expr}{scope:Scope}{pos:Pos}{it acc:Value}{env:Env}(I:Nat→Shared→Prop)
  (turn:∀ n s,I n s→wpAny (model prog w) A (pyNext it) (fun r s₁=>match r with
   | none=>R (.ok .next) s₁
   | some v=>wpAny (model prog w) A (letOwnedTupleGo target it v) (fun _ s₀=>wpAny (model prog w) A (assign target env v) (fun _ s₂=>
     wpAny (model prog w) A (forIn ifs true fun c r=>if r=true then do let ok ← isTrue c env (eval c env); pure (ForInStep.yield ok) else pure (ForInStep.yield r)) (fun ok s₃=>
      if ok=true then wpAny (model prog w) A (eval elt env) (fun x s₄=>
       wpAny (model prog w) A (call (.builtin "list.append") [acc,x]) (fun _ s₅=>∃ m,m<n∧I m s₅) (fun _ _=>False) s₄) (fun _ _=>False) s₃
      else ∃ m,m<n∧I m s₃) (fun _ _=>False) s₂) (fun _ _=>False) s₀) (fun _ _=>False) s₁) (fun _ _=>False) s)
  (n:Nat) (h:I n s) :
  codeAny (model prog w) A (.compLoop (.ListComp elt [⟨target,iter,ifs,0⟩] scope pos) 0 it acc env) R s:=by
 refine codeAny_loop rfl I (fun n s hI=>?_) n h
 show wpAny _ A ((compTurn (.ListComp elt [⟨target,iter,ifs,0⟩] scope pos) 0 it acc env).onRaise (fun x=>do noteFrame x env; theTreesLotGoes x)) _ _ s
 refine wpAny_noted ?_
 rw[compTurn_list];refine wpAny_bind (wpAny_standAt (wpAny_bind (wpAny_mono (turn n s hI) (fun r s₁ h₁=>?_) fun _ _ h'=>h'.elim)))
 cases r with
 | none=>exact wpAny_pure h₁
 | some v=>
  refine wpAny_bind (wpAny_mono h₁ (fun _ s₀ h₀=>?_) fun _ _ h'=>h'.elim)
  refine wpAny_bind (wpAny_mono h₀ (fun _ s₂ h₂=>wpAny_bind (wpAny_mono h₂ (fun ok s₃ h₃=>?_) fun _ _ h'=>h'.elim)) fun _ _ h'=>h'.elim)
  cases ok with
  | false=>exact wpAny_pure ⟨rfl,h₃⟩
  | true=>
   exact wpAny_bind (wpAny_bind (wpAny_mono h₃ (fun x s₄ h₄=>wpAny_bind (wpAny_mono h₄ (fun _ s₅ h₅=>wpAny_pure (wpAny_pure ⟨rfl,h₅⟩)) fun _ _ h'=>h'.elim)) fun _ _ h'=>h'.elim))
def PIfs(X:Cx)(ifs:List Expr)(tc:TT):Prop:=
 ∀ (pins:List (Addr × Obj)) (s:Shared) (σ : St) (H:Hp) (Q:Bool→Hp→Prop),Inv X pins σ H s→tc σ H Q→
  wpAny (model X.prog X.w) X.A (forIn ifs true fun c r=>if r=true then do let ok ← isTrue c X.env (eval c X.env); pure (ForInStep.yield ok) else pure (ForInStep.yield r)) (TP X pins σ Q) X.xe s
def pP:TT:=fun _ H Q=>Q true H
theorem hU{X:Cx}:PIfs X [] pP:=fun _ _ _ H _ I h=>wpAny_tests_nil ⟨H,I,h⟩
theorem ia{X:Cx}{c:Expr}{tc:TT}(hc:PT X c tc):PIfs X [c] tc:=fun pins s σ H Q I h=>wpAny_tests_one (hc pins s σ H Q I h)
def tI(g:TG)(n:Nat):Prop:=∀ x σ H Q,g x σ H Q→g x σ H fun σ' H'=>Q σ' H'∧σ'.length=σ.length∧∀ k,k<n→σ'[k]? = σ[k]?
def uQ(g:ik)(n:Nat):Prop:=∀ x σ H Q,g x σ H Q→g x σ H fun σ' H'=>Q σ' H'∧σ'.length=σ.length∧∀ k,k<n→σ'[k]? = σ[k]?
theorem dy{i n:Nat}(h:n≤i):tI (iF i) n:=fun x σ H Q q=>⟨q,by simp,fun k hk=>by rw[List.getElem?_set_ne (by omega)]⟩
theorem AL{n:Nat}:uQ v7 n:=fun x σ H Q q=>⟨q.1,q.2,rfl,fun _ _=>rfl⟩
def vm(g:TG):Prop:=∀ x σ H Q Q',(∀ σ' H',Q σ' H'→Q' σ' H')→g x σ H Q→g x σ H Q'
def lZ(g:ik):Prop:=∀ x σ H Q Q',(∀ σ' H',Q σ' H'→Q' σ' H')→g x σ H Q→g x σ H Q'
theorem mY{i:Nat}:vm (iF i):=fun x σ H Q Q' h q=>h _ _ q
theorem tW:lZ v7:=fun x σ H Q Q' h q=>⟨q.1,h _ _ q.2⟩
theorem AR{t:TG}{u:ik}(h1:vm t)(h2:lZ u):lZ (pB t u):=fun x σ H Q Q' h ⟨v,r,e,q⟩=>⟨v,r,e,h1 _ _ _ _ _ (fun σ' H' z=>h2 _ _ _ _ _ h z) q⟩
theorem nZ{t:TG}{u:ik}{n:Nat}(h1:tI t n)(m1:vm t)(h2:uQ u n)(m2:lZ u):uQ (pB t u) n:=fun x σ H Q ⟨v,r,e,q⟩=>by
 refine⟨v,r,e,?_⟩
 refine m1 _ _ _ _ _ (fun σ' H' z=>?_) (h1 _ _ _ _ q)
 obtain⟨z,l1,k1⟩:=z
 exact m2 _ _ _ _ _ (fun σ2 H2 y=>⟨y.1,y.2.1.trans l1,fun k hk=>(y.2.2 k hk).trans (k1 k hk)⟩) (h2 _ _ _ _ z)
theorem CK{K:PySem.W.Frag}{m n:Nat}{t:ik}(h:uQ t n):tI (vW K m t) n:=fun x σ H Q ⟨a,xs,e,q,l,z⟩=>⟨a,xs,e,q,l,h _ _ _ _ z⟩
def gB(J:It)(g:TG)(tc:TT)(te:TE)(nT:Nat)(σ : St)(D:Addr)(Q:VK)(H:Hp):Prop:=
 ∃ W:Nat→Nat→List V→Hp→Prop,(∃ m,W 0 m [] H)∧∀ i m ys H2,W i m ys H2→
  (J.stop i H2∧Q (.ref D) H2)∨(J.go i H2∧∀ x H',J.yld i H2 x H'→g x (σ++List.replicate nT none) H' fun σ2 H3=>tc σ2 H3 fun b H4=>
   if b=true then te σ2 H4 fun y H5=>H5 D=some (.lst ys)∧ys.length<sizeLine∧∃ m',m'<m∧W (i+1) m' (ys++[y]) (upd H5 D (.lst (ys++[y]))) else ∃ m',m'<m∧W (i+1) m' ys H4)
def vq(wi:TI)(g:TG)(tc:TT)(te:TE)(nT:Nat):TE:=fun σ H Q=>wi σ H fun J H1=>∀ D,H1 D=none→gB J g tc te nT σ D Q (upd H1 D (.lst []))
theorem HOk.sameBut{P:Program}{w:World}{H:Hp}{h h':Heap}{C:Addr}(x:HOk P w H h)(hs:Heap.SameBut C h h')(hC:H C=none):HOk P w H h':=fun a o e=>
 (x a o e).stay (fun b u hb q=>(hs.2 b (by
  rintro rfl
  rcases hb with z | z
  ·rw[z]at hC; rw[hC]at e; cases e
  ·rw[hC]at z; cases z)).trans q) (fun _ q=>q) fun _ _ q=>q
section
variable{X:Cx}{N0 T:List Str}{scope:Scope}{tg elt iter:Expr}{ifs:List Expr}{pos:Pos}{wi:TI}{g:TG}{tc:TT}{te:TE}
theorem nR{pins:List (Addr × Obj)}{σ : St}{H:Hp}{s:Shared}{E:Value→Shared→Prop}{it:Addr}{fp:List Addr}{tn:Nat→Heap→Prop}{J:It}{Q:VK}{RR:Value→Addr→Result→Shared→Prop}
  (S:iJ X N0 T scope) (hc:X.calm=true)
  (hg:∀ C fp s H,PG (cg X N0 T scope C fp s H) tg g) (hfr:tI g X.N.length) (hi:∀ C fp s H,PIfs (cg X N0 T scope C fp s H) ifs tc) (he:∀ C fp s H,PE (cg X N0 T scope C fp s H) elt te)
  (I:Inv X pins σ H s) (Tn:jP X.prog X.w X.K tg J fp it tn) (st:tn 0 s.heap) (hf:∀ b∈fp,ie X pins H b)
  (h:∀ D,H D=none→gB J g tc te T.length σ D Q (upd H D (.lst [])))
  (hRR:∀ D C s' H' m,s'.heap.Ns C m→H' C=none→C≠X.env.locals→(∀ x c,X.env.cells.lookup x=some c→c≠C)→(∀ p∈X.pn++pins,p.1≠C)→X.s₀.heap.objs.size≤C→Inv X pins σ H' s'→
   (∀ h',Heap.SameBut C s'.heap h'→Inv X pins σ H' { s' with heap:=h' })→Q (.ref D) H'→RR (.ref D) C (.ok .next) s') :
  wpAny (model X.prog X.w) X.A (newList []) (fun acc s₃=>wpAny (model X.prog X.w) X.A (newFunctionEnv scope X.env.globals (eL X.env.cells scope.names []) [] X.env.qual none .none (some X.env)) (fun cenv s₄=>
   codeAny (model X.prog X.w) X.A (.compStart (.ListComp elt [⟨tg,iter,ifs,0⟩] scope pos) 0 (.ref it) acc { cenv with scope:=relabel scope X.env }) (RR acc cenv.locals) s₄) E s₃) E s:=by
 refine wpAny_newObj_type (wpAny_newFunctionEnv S.nocell (by intro y hy; simp at hy) (fun h₁ hns₁ hsb₁=>?_) S.kind)
 dsimp only at hns₁ hsb₁ ⊢
 generalize hH2:s.heap.push { cls:=.type "list", dict:=none,data:=.seq ([]:List Value).toArray }=P2 at hns₁ hsb₁ ⊢;have hC:P2.objs.size=s.heap.objs.size+1:=by rw[← hH2,Heap.size_push]
 -- the new list D, the block's names C
 obtain⟨D,hD⟩ : ∃ D:Nat,D=s.heap.objs.size:=⟨_,rfl⟩
 obtain⟨C,hCC⟩ : ∃ C:Nat,C=P2.objs.size:=⟨_,rfl⟩
 rw[← hCC]at hns₁ hsb₁ hC ⊢
 rw[← hD]at hC ⊢
 have hDC:D≠C:=by omega
 have hDlt:D<C:=by omega
 have neD:∀ b o,s.heap.get? b=some o→b≠D:=fun b o e=>hD ▸ Nat.ne_of_lt (Heap.lt_size e)
 have neC:∀ b o,s.heap.get? b=some o→b≠C:=fun b o e=>Nat.ne_of_lt (Nat.lt_trans (hD ▸ Heap.lt_size e) hDlt)
 have old:∀ b o,s.heap.get? b=some o→h₁.get? b=some o:=fun b o e=>hsb₁.extBut b o (neC b o e) (Heap.get?_push_of_some _ (hH2 ▸ Heap.get?_push_of_some _ e))
 have hHD:H D=none:=I.hok.fresh (by omega)
 have hHC:H C=none:=I.hok.fresh (by omega)
 have dat:h₁.get? D=some { cls:=.type "list", data:=.seq ([]:List Value).toArray 0 }:=by
  refine hsb₁.extBut _ _ hDC (Heap.get?_push_of_some _ ?_)
  rw[← hH2,hD];exact Heap.get?_push_size _ rfl
 -- the block's context stands
 have hcl:∀ x c,(eL X.env.cells scope.names []).lookup x=some c→X.env.cells.lookup x=some c:=fun x c e=>
  kY (fun y hy hk=>I.ok.has y.1 (S.free y hy hk)) (fun y c z=>by simp at z) e
 have okC:(cg X N0 T scope C fp s H).Ok:=by
  refine⟨I.ok.mod,?_,I.ok.glob,I.ok.blt,?_,fun x y c e1 e2=>I.ok.inj x y c (hcl x c e1) (hcl y c e2),fun x hx=>?_,fun x c z _=>(by cases z),I.ok.hd,I.ok.frames,.inl rfl,fun b hb=>⟨?_,fun x c e=>(hf b hb).2.2.2.2.1 x c (hcl x c e)⟩,
   I.bs,?_,fun b o e hb=>?_,fun b hb z=>?_,I.stack,I.stkFree⟩
  ·show (relabel scope X.env).kind = .function
   exact S.kind
  ·show s.heap.objs.size≤C
   omega
  ·have hx':(relabel scope X.env).names.lookup x=some .cell∨(relabel scope X.env).names.lookup x=some .free:=hx
   have m:(x,NameKind.free)∈scope.names:=by
    rcases hx' with z | z
    ·exact fu S.nocell z (.inl rfl)
    ·exact fu S.nocell z (.inr rfl)
   exact jD m
  ·show b≠C
   obtain⟨o,e,_⟩:=Tn.obj 0 _ st b hb
   exact neC b o e
  ·exact Nat.le_trans I.ok.bsz I.sz
  ·obtain⟨_,_,_,z,_⟩:=hf b hb
   rcases z with z | z
   ·exact I.ok.noex b o e z
   ·exact absurd (Nat.lt_of_lt_of_le (Nat.lt_of_lt_of_le (Heap.lt_size e) I.ok.bsz) z) (Nat.lt_irrefl _)
  ·obtain⟨_,z1,z2,_⟩:=hf b hb
   rcases List.mem_cons.mp (I.stkSub b z) with q | q
   ·exact z1 q
   ·exact z2 q
 have I1:Inv (cg X N0 T scope C fp s H) [] (σ++List.replicate T.length none) (upd H D (.lst [])) { s with heap:=h₁,toks:=s.toks+([]:List (Str × Value)).length }:=by
  refine⟨okC,rfl,I.bare,Un.laid (h:=s.heap) old (by omega) hHD,⟨_,hns₁,fun i x v e1 e2 e3=>?_⟩,fun x c e=>?_,?_,fun x c e=>?_,fun p hp=>(by simp[cg]at hp),I.hok.laid old (by omega) ?_,?_⟩
  ·have e1':(N0++T)[i]? = some x:=e1
   have hl:=I.len;have hl0:=S.len0
   have hi:i<σ.length:=by
    rcases Nat.lt_or_ge i σ.length with z | z
    ·exact z
    ·rw[List.getElem?_append_right z]at e2
     rw[List.getElem?_replicate]at e2
     split at e2 <;> cases e2
   rw[List.getElem?_append_left hi]at e2
   rw[List.getElem?_append_left (by omega)]at e1'
   have hxN:x∈N0:=List.mem_of_getElem? e1'
   have e3':(relabel scope X.env).names.lookup x=some .local∨(relabel scope X.env).names.lookup x=some .cell∨(relabel scope X.env).names.lookup x=some .free:=e3
   have fr:(relabel scope X.env).names.lookup x=some .cell∨(relabel scope X.env).names.lookup x=some .free:=by
    rcases e3' with z | z | z
    ·exfalso
     -- a local of the block is no tracked name
     have key:∀ (names:List (Str × NameKind)),(names.map fun (n,k)=>if (k == NameKind.free&&X.env.scope.kind == .function&&X.env.kindOf n == some .cell) then (n,NameKind.cell) else (n,k)).lookup x=some .local→(x,NameKind.local)∈names:=by
      intro names
      induction names with
      | nil=>intro z; simp at z
      | cons y r ih=>
       obtain⟨n,k⟩:=y
       intro z
       rw[List.map_cons]at z
       dsimp only at z
       by_cases hfk:(k == NameKind.free&&X.env.scope.kind == .function&&X.env.kindOf n == some .cell)=true
       ·rw[if_pos hfk,List.lookup_cons]at z
        cases hx:(x == n) with
        | true=>rw[hx]at z; cases z
        | false=>rw[hx]at z; exact List.mem_cons_of_mem _ (ih z)
       ·rw[if_neg hfk,List.lookup_cons]at z
        cases hx:(x == n) with
        | true=>
         rw[hx]at z
         have ek:k = .local:=Option.some.inj z
         have en:x=n:=by simpa using hx
         rw[ek,en]; exact List.mem_cons_self
        | false=>rw[hx]at z; exact List.mem_cons_of_mem _ (ih z)
     exact S.apart (x,.local) (key _ z) rfl hxN
    ·exact .inl z
    ·exact .inr z
   have m:(x,NameKind.free)∈scope.names:=by
    rcases fr with z | z
    ·exact fu S.nocell z (.inl rfl)
    ·exact fu S.nocell z (.inr rfl)
   have kX:=S.free _ m rfl;obtain⟨mm,hn,hl'⟩:=I.loc
   obtain⟨u,r,lk⟩:=hl' i x v (S.same i x _ e1' m) e2 (.inr kX)
   refine⟨u,r,.inr ⟨fr,?_⟩⟩
   rcases lk with ⟨z,_⟩ | ⟨_,c,ec,cc⟩
   ·rcases kX with q | q
    ·rw[q]at z; cases z
    ·rw[q]at z; cases z
   ·obtain⟨c',ec'⟩:=jD (cells:=X.env.cells) (acc:=[]) m
    have:=hcl x c' ec'
    rw[ec]at this; cases this
    exact⟨c,ec',cc.keeps old⟩
  ·obtain⟨v,z⟩:=I.cell x c (hcl x c e)
   exact⟨v,z.keeps old⟩
  ·show upd H D (.lst []) C=none
   rw[aj (Ne.symm hDC)]; exact hHC
  ·have q:=I.freeC x c (hcl x c e)
   obtain⟨v,o,z,_⟩:=I.cell x c (hcl x c e)
   rw[aj (neD c o z)]; exact q
  ·exact⟨Nat.zero_le _,[],0,.nil,dat⟩
  ·show (σ++List.replicate T.length none).length=(N0++T).length
   rw[List.length_append,List.length_append,List.length_replicate,I.len,S.len0]
 have st1:tn 0 h₁:=Tn.keep _ _ _ st fun b _ o e=>old b o e
 have fp1:∀ {H':Hp},(∀ b∈fp,H' b=none)→∀ b∈fp,ie (cg X N0 T scope C fp s H) [] H' b:=fun hn b hb=>
  ⟨hn b hb,(okC.exf b hb).1,okC.exfs b hb,.inl hb,(okC.exf b hb).2,fun p hp=>(by simp[cg]at hp)⟩
 have fp0:∀ b∈fp,upd H D (.lst []) b=none:=fun b hb=>by
  obtain⟨o,e,_⟩:=Tn.obj 0 _ st b hb
  rw[aj (neD b o e)]; exact(hf b hb).1
 obtain⟨W,⟨m0,w0⟩,turn⟩:=h D hHD
 have loop:∀ s₃ : Shared,s₃={ s with heap:=h₁,toks:=s.toks+([]:List (Str × Value)).length }→
   codeAny (model X.prog X.w) X.A (.compLoop (.ListComp elt [⟨tg,iter,ifs,0⟩] scope pos) 0 (.ref it) (.ref D) (compEnvC scope (eL X.env.cells scope.names []) C X.env)) (RR (.ref D) C) s₃:=by
  rintro s₃ rfl
  refine jH (fun n s'=>∃ i H' ys,Inv (cg X N0 T scope C fp s H) [] (σ++List.replicate T.length none) H' s'∧tn i s'.heap∧(∀ b∈fp,H' b=none)∧W i n ys H') ?_ m0 ⟨0,_,[],I1,st1,fp0,w0⟩
  rintro n s3 ⟨i,H3,ys,I3,st3,fr3,w3⟩
  rcases turn i n ys H3 w3 with ⟨stop,qn⟩ | ⟨go,step⟩
  ·refine bf (Tn.done (cg X N0 T scope C fp s H) rfl rfl rfl hc i [] s3 _ H3 (fun _ _=>False) I3 (fp1 fr3) st3 stop) fun r s4 ⟨hr,I4⟩=>?_
   subst hr;obtain⟨m,hm,_⟩:=I4.loc
   have hch:∀ b∈fp,(b∈X.ex∨X.s₀.heap.objs.size≤b)∧b≠X.env.locals∧(∀ x c,X.env.cells.lookup x=some c→c≠b)∧∀ p∈X.pn++pins,p.1≠b:=fun b hb=>
    ⟨(hf b hb).2.2.2.1,(hf b hb).2.1,(hf b hb).2.2.2.2.1,(hf b hb).2.2.2.2.2⟩
   have u4:Un (jG X.stack) fp H H3 s.heap s4.heap:=I4.base
   refine hRR D C s4 H3 m hm I4.free (Ne.symm (Nat.ne_of_lt (Nat.lt_trans (hD ▸ I.lt) hDlt))) (fun x c e=>?_) (fun p hp=>?_) (Nat.le_trans (hD ▸ I.sz) (Nat.le_of_lt hDlt)) (I.call' (ch:=fp) I4.os u4 I4.hok I4.bare hch) (fun h' hs'=>?_) qn
   ·obtain⟨v,o,q,_⟩:=I.cell x c e
    exact neC c o q
   ·exact neC _ _ (I.pin p hp).1
   ·refine I.call' (ch:=fp) (s':={ s4 with heap:=h' }) I4.os ⟨fun b o q n' hb hx=>(hs'.2 b (neC b o q)).trans (u4.keep b o q n' hb hx),fun b o q n' hb hx=>?_,u4.free,fun b o q hx=>?_,u4.tups,u4.frzs,u4.tbls⟩ (I4.hok.sameBut hs' I4.free) I4.bare hch
    ·obtain⟨sl,e⟩:=u4.slot b o q n' hb hx
     exact⟨sl,(hs'.2 b (neC b o q)).trans e⟩
    ·obtain⟨o',e⟩:=u4.there b o q hx
     exact⟨o',(hs'.2 b (neC b o q)).trans e⟩
  ·refine bf (Tn.item (cg X N0 T scope C fp s H) rfl rfl rfl hc i [] s3 _ H3 (fun _ _=>False) I3 (fp1 fr3) st3 go) fun r s4 ⟨u,hr,h4⟩=>?_
   subst hr;refine bf h4 fun _ s5 ⟨x,H5,I5,r5,y5,st5,fr5⟩=>?_
   have I5':=I5.pinned (fp1 fr5) (Tn.obj _ _ st5);refine bf (hg C fp s H _ s5 _ H5 x u _ I5' r5 (hfr _ _ _ _ (step x H5 y5))) fun _ s6 ⟨σ6,H6,I6,q6,l6,k6⟩=>?_
   have back:∀ {H7:Hp} {s7:Shared},Inv (cg X N0 T scope C fp s H) ([]++kn fp s5.heap) σ6 H7 s7→(∀ {m':Nat} {zs:List V},m'<n→W (i+1) m' zs H7→∃ m,m<n∧∃ i H' ys,Inv (cg X N0 T scope C fp s H) [] (σ++List.replicate T.length none) H' s7∧tn i s7.heap∧(∀ b∈fp,H' b=none)∧W i m ys H'):=fun {H7 s7} I7 {m' zs} hm w7=>by
    refine⟨m',hm,i+1,H7,zs,I7.unpinned.weak (by rw[l6]) (fun j v e=>?_),Tn.keep _ _ _ st5 fun b hb o e=>(I7.pin (b,o) (List.mem_append_right _ (List.mem_append_right _ (gR hb e)))).1,fun b hb=>?_,w7⟩
    ·have hj:j<σ.length:=by
      rcases Nat.lt_or_ge j σ.length with z | z
      ·exact z
      ·rw[List.getElem?_append_right z,List.getElem?_replicate]at e
       split at e <;> cases e
     rw[k6 j (by rw[← I.len]; exact hj)]
     exact e
    ·obtain⟨o,e,d⟩:=Tn.obj _ _ st5 b hb
     exact(I7.pin (b,o) (List.mem_append_right _ (List.mem_append_right _ (gR hb e)))).2.1
   refine bf (hi C fp s H _ s6 σ6 H6 _ I6 q6) fun b s7 ⟨H7,I7,q7⟩=>?_
   cases b with
   | false=>
    obtain⟨m',hm,w7⟩:=(show ∃ m',m'<n∧W (i+1) m' ys H7 from by simpa using q7)
    exact back I7 hm w7
   | true=>
    rw[if_pos rfl]at q7
    refine bf (he C fp s H _ s7 σ6 H7 _ I7 q7) fun v s8 ⟨y,H8,I8,r8,hD8,hz,m',hm,w8⟩=>?_
    refine bf (nU (X:=cg X N0 T scope C fp s H) _ s8 σ6 H8 (.ref D) [y] (.ref D) [v] (fun _ H9=>H9=upd H8 D (.lst (ys++[y]))) I8 rfl (.cons r8 .nil) ⟨D,ys,y,rfl,rfl,hD8,hz,rfl⟩) fun v9 s9 ⟨y9,H9,I9,_,e9⟩=>?_
    subst e9;exact back I9 hm w8
 exact codeAny_compStart_list (loop _ rfl) (Tn.self X.A 0 _ _ _ st1 (loop _ rfl))
theorem fT(S:iJ X N0 T scope)(hc:X.calm=true)(hI:PI X tg iter wi)
  (hg:∀ C fp s H,PG (cg X N0 T scope C fp s H) tg g) (hfr:tI g X.N.length) (hi:∀ C fp s H,PIfs (cg X N0 T scope C fp s H) ifs tc) (he:∀ C fp s H,PE (cg X N0 T scope C fp s H) elt te)
  (hs:∀ x,foldedSetIterable iter X.env x=pure x:=by intro _; rfl):PE X (.ListComp elt [⟨tg,iter,ifs,0⟩] scope pos) (vq wi g tc te T.length):=by
 intro pins s σ H Q I h
 rw[eval_ListComp];refine wpAny_comprehension_free (use:=none) rfl hs (jF fun x hx hk=>I.ok.has x.1 (S.free x hx hk)) S.kind S.names (bf (hI pins s σ H _ I h) fun v s1 h1=>bf h1 fun itv s2 h2=>?_)
 obtain⟨it,fp,tn,J,H2,e,I2,Tn,st2,f2,q2⟩:=h2
 subst e;refine nR (RR:=fun acc C=>compPost (model X.prog X.w) X.A X.xe none (EP X pins σ Q) acc C) S hc hg hfr hi he I2 Tn st2 f2 q2 ?_
 intro D C s' H' m hn hC hL hcells hpins hfresh I' hI' q
 exact⟨m,hn,fun h' hs'=>⟨.ref D,H',hI' h' hs',rfl,q⟩⟩
theorem mD{i:Nat}{x:Str}{pos' spos:Pos}(S:iJ X N0 T scope)(hc:X.calm=true)(hN:X.N.Nodup)(hi':X.N[i]? = some x)(hx:X.env.scope.names.lookup x=some .local)(hI:PI X tg iter wi)
  (hg:∀ C fp s H,PG (cg X N0 T scope C fp s H) tg g) (hfr:tI g X.N.length) (hi:∀ C fp s H,PIfs (cg X N0 T scope C fp s H) ifs tc) (he:∀ C fp s H,PE (cg X N0 T scope C fp s H) elt te)
  (hsw:swapsWith (.ListComp elt [⟨tg,iter,ifs,0⟩] scope pos) (some (.Name x pos')) spos.line X.env=pure true:=by rfl)
  (hs:∀ x,foldedSetIterable iter X.env x=pure x:=by intro _; rfl):PS X (.Assign [.Name x pos'] (.ListComp elt [⟨tg,iter,ifs,0⟩] scope pos) spos) (pK (vq wi g tc te T.length) (iF i)):=by
 intro pins s σ H D I h
 rw[exec_Assign_Name_used _ _ _ _ hsw];refine wpAny_bind (wpAny_standAt (wpAny_bind ?_))
 show wpAny _ X.A (do let _ ← comprehension (.ListComp elt [⟨tg,iter,ifs,0⟩] scope pos) scope X.env _ (newList []) false (eval iter X.env) (some (assign (.Name x pos') X.env))) _ _ s
 refine wpAny_bind (wpAny_mono (wpAny_comprehension_free (use:=some (assign (.Name x pos') X.env)) (Q:=fun _ s'=>SP X pins D .next s') rfl hs (jF fun x hx hk=>I.ok.has x.1 (S.free x hx hk)) S.kind S.names
  (bf (hI pins s σ H _ I h) fun v s1 h1=>bf h1 fun itv s2 h2=>?_)) (fun _ s' hq=>wpAny_pure (wpAny_pure hq)) fun _ _ e=>e)
 obtain⟨it,fp,tn,J,H2,e,I2,Tn,st2,f2,q2⟩:=h2
 subst e;refine nR (RR:=fun acc C=>compPost (model X.prog X.w) X.A X.xe (some (assign (.Name x pos') X.env)) (fun _ s'=>SP X pins D .next s') acc C) S hc hg hfr hi he I2 Tn st2 f2 q2 ?_
 intro L C s' H' m hn hC hL hcells hpins hfresh I' hI' q
 show wpAny _ X.A (assign (.Name x pos') X.env (.ref L)) _ _ _
 refine wpAny_assign_Name (nV (v:=.ref L) I' hN hi' (.inl hx) rfl (fun s'' I'' ⟨a,hsa,ha⟩=>?_) (.inr hx))
 have hCa:C≠a:=by
  rintro rfl
  rcases ha with z | z
  ·exact hL z
  ·exact hcells x C z rfl
 refine⟨m,hn.sameBut hsa hCa,fun h' hs'=>?_⟩
 exact⟨σ.set i (some (.ref L)),H',I''.turned (t':=s''.toks) (fun b o hb e=>(hs'.2 b hb).trans e) hC hL (.inr hfresh) hcells hpins,q⟩
end
theorem Vals.of:∀ {xs:List V} {us:List Value} {i:Nat} {u:Value},Vals xs us→us[i]? = some u→∃ x,xs[i]? = some x∧RelV x u
 | _,_,0,u,.cons r _,e=>⟨_,rfl,by simp at e; subst e; exact r⟩
 | _,_,i+1,u,.cons _ rr,e=>by
  obtain⟨x,hx,r⟩:=Vals.of (i:=i) rr (by simpa using e)
  exact⟨x,by simpa using hx,r⟩
theorem j3:∀ {ss:List Str} {us:List Value},Vals (ss.map V.str) us→StrsAre us ss
 | [],_,.nil=>.nil
 | s::ss,_,.cons r rr=>by
  obtain⟨t,rfl⟩:=r
  exact .cons s t (j3 rr)
section
variable{X:Cx}
def di(H:Hp):V→Option String
 | .non=>some "NoneType"
 | .bl _=>some "bool"
 | .int _=>some "int"
 | .str _=>some "str"
 | .ref a=>match H a with
  | some (.lst _)=>some "list"
  | some (.frz _ (.lst _))=>some "list"
  | some (.tup _)=>some "tuple"
  | some (.dK _)=>some "dict"
  | some (.dT _)=>some "dict"
  | _=>none
 | _=>none
theorem xX{K:PySem.W.Frag}{H:Hp}:∀ {x:V} {T:String},di H x=some T→gw K H x (.type T)
 | .non,T,h=>by cases h; exact .non
 | .bl b,T,h=>by cases h; exact .bl b
 | .int i,T,h=>by cases h; exact .int i
 | .str y,T,h=>by cases h; exact .str y
 | .byt _,T,h=>by cases h
 | .flt _,T,h=>by cases h
 | .ty _,T,h=>by cases h
 | .ref a,T,h=>by
  cases e:H a with
  | none=>simp[di,e]at h
  | some o=>
   cases o with
   | lst xs=>simp[di,e]at h; subst h; exact .lst e
   | tup xs=>simp[di,e]at h; subst h; exact .tup e
   | dK xs=>simp[di,e]at h; subst h; exact .dK e
   | dT xs=>simp[di,e]at h; subst h; exact .dT e
   | frz ob u=>
    cases u with
    | lst xs=>simp[di,e]at h; subst h; exact .frz e
    | _=>simp[di,e]at h
   | _=>simp[di,e]at h
def BU(T C:String):Bool:=T == C||(T == "bool" && C == "int")
theorem zn(K:PySem.W.Frag){T C:String}(hT:T∈["NoneType", "bool", "int", "str", "list", "tuple", "dict"]) (hC:C∈["bool", "int", "str", "list", "tuple"]):PySem.W.kitOne K (.type T) (.type C)=some (BU T C):=by
 simp only[List.mem_cons,List.mem_nil_iff,or_false]at hT hC
 rcases hT with rfl | rfl | rfl | rfl | rfl | rfl | rfl <;> rcases hC with rfl | rfl | rfl | rfl | rfl <;> (with_unfolding_all rfl)
theorem vi{H:Hp}{x:V}{T:String}(h:di H x=some T):T∈["NoneType", "bool", "int", "str", "list", "tuple", "dict"]:=by
 cases x with
 | ref a=>
  cases e:H a with
  | none=>simp[di,e]at h
  | some o=>
   cases o with
   | frz ob u=>cases u <;> simp[di,e]at h <;> subst h <;> decide
   | _=>simp[di,e]at h <;> subst h <;> decide
 | _=>first | (cases h; decide) | cases h
def Fd:List V→Hp→VK→Prop:=fun xs H Q=>∃ (x:V) (T C:String),xs=[x,.ty C]∧di H x=some T∧C∈["bool", "int", "str", "list", "tuple"]∧Q (.bl (BU T C)) H
theorem tq{H:Hp}{Q:VK}(x:V)(C:String):Fd [x,.ty C] H Q=∃ T,di H x=some T∧C∈["bool", "int", "str", "list", "tuple"]∧Q (.bl (BU T C)) H:=
 propext ⟨fun ⟨_,T,_,e,q⟩=>by cases e; exact⟨T,q⟩,fun ⟨T,q⟩=>⟨x,T,C,rfl,q⟩⟩
theorem iE:CallR X (.builtin "isinstance") Fd:=by
 intro pins s σ H xs us Q I r h
 obtain⟨x,T,C,rfl,hT,hC,q⟩:=h
 obtain⟨u,w',rfl,ru,rw'⟩:=pC r
 cases rw';exact xI I ru (xX hT) (zn X.K (vi hT) hC) fun tk=>⟨.bl (BU T C),H,I.tok tk,rfl,q⟩
def uY(K:PySem.W.Frag):V→List V→Hp→VK→Prop:=fun x vs H Q=>∃ (sep:Str) (p:Addr) (ss:List Str),x = .str sep∧vs=[.ref p]∧SqL K H p (ss.map V.str)∧(ss.map (·.length)).sum+ss.length * sep.length≤16777216∧Q (.str (Txt.join sep ss)) H
theorem Cv:MtR X "str.join" (uY X.K):=by
 intro pins s σ H x xs v us Q I rx r h
 obtain⟨sep,p,ss,rfl,rfl,hq,hz,q⟩:=h
 obtain⟨t,rfl⟩:=rx
 obtain⟨u,rfl,ru⟩:=dW r
 cases ru;obtain⟨its,rv,pl,_⟩:=I.list hq
 exact join_list pl.isList (by simpa using j3 rv) hz fun t' k=>⟨.str (Txt.join sep ss),H,I.tok k,⟨t',rfl⟩,q⟩
end
def je(J:It)(g:TG)(tb:TS)(D:dR)(σ : St)(H:Hp):Prop:=∃ W:Nat→Nat→St→Hp→Prop,(∃ m,W 0 m σ H)∧∀ i m σ H,W i m σ H→
 (J.stop i H∧D.nx σ H)∨(J.go i H∧∃ N:St→Hp→Prop,(∀ σ' H',N σ' H'→∃ m',m'<m∧W (i+1) m' σ' H')∧∀ x H',J.yld i H x H'→g x σ H' fun σ2 H2=>tb { D with nx:=N,ct:=N,bk:=D.nx } σ2 H2)
theorem uA(wi:TI)(g:TG)(tb:TS)(D:dR)(σ : St)(H:Hp):EW wi g tb D σ H=wi σ H fun J H1=>je J g tb D σ H1:=rfl
theorem kK{J:It}{g:TG}{tb:TS}{D:dR}{σ : St}{H:Hp}(n:Nat)(Pv:Nat→St→Hp→Prop)(h0:Pv 0 σ H)(hgo:∀ i σ H,i<n→Pv i σ H→J.go i H)(hst:∀ σ H,Pv n σ H→J.stop n H)
  (hs:∀ i σ H x H',i<n→Pv i σ H→J.yld i H x H'→g x σ H' fun σ2 H2=>tb { D with nx:=Pv (i+1),ct:=Pv (i+1),bk:=D.nx } σ2 H2) (hd:∀ σ H,Pv n σ H→D.nx σ H):je J g tb D σ H:=by
 refine⟨fun i m σ H=>m=n - i∧i≤n∧Pv i σ H,⟨n,by simp,Nat.zero_le _,h0⟩,?_⟩
 rintro i m σ H ⟨rfl,hi,p⟩
 by_cases hlt:i<n
 ·exact .inr ⟨hgo i σ H hlt p,Pv (i+1),fun σ' H' p'=>⟨n - (i+1),by omega,rfl,hlt,p'⟩,fun x H' y=>hs i σ H x H' hlt p y⟩
 ·have e:i=n:=by omega
  subst e;exact .inl ⟨hst σ H p,hd σ H p⟩
theorem dh{K:PySem.W.Frag}{a:Addr}{xs:List V}{g:TG}{tb:TS}{D:dR}{σ : St}{H:Hp}(Pv:Nat→St→Hp→Prop)(h0:Pv 0 σ H)(hl:∀ i σ H,i≤xs.length→Pv i σ H→SqL K H a xs)
  (hs:∀ i x σ H,xs[i]? = some x→Pv i σ H→g x σ H fun σ2 H2=>tb { D with nx:=Pv (i+1),ct:=Pv (i+1),bk:=D.nx } σ2 H2) (hd:∀ σ H,Pv xs.length σ H→D.nx σ H):je (ma K a) g tb D σ H:=
 AA Pv h0 hl hs hd
theorem jC{lo:Int}{n:Nat}{g:TG}{tb:TS}{D:dR}{σ : St}{H:Hp}(Pv:Nat→St→Hp→Prop)(h0:Pv 0 σ H)
  (hs:∀ i σ H,i<n→Pv i σ H→g (.int (lo+i)) σ H fun σ2 H2=>tb { D with nx:=Pv (i+1),ct:=Pv (i+1),bk:=D.nx } σ2 H2) (hd:∀ σ H,Pv n σ H→D.nx σ H):je (kS lo n) g tb D σ H:=
 yr Pv h0 hs hd
def jq(n i:Nat)(Pv:Nat→List V→Hp→Prop)(D:Addr)(ys:List V)(y:V)(H:Hp):Prop:=
 H D=some (.lst ys)∧ys.length<sizeLine∧∃ m',m'<n - i∧(m'=n - (i+1)∧i+1≤n∧Pv (i+1) (ys++[y]) (upd H D (.lst (ys++[y]))))
theorem uV{n i:Nat}{Pv:Nat→List V→Hp→Prop}{D:Addr}{ys:List V}{y:V}{H:Hp}(hi:i<n)(hlen:ys.length=i)(hz:n≤sizeLine)(h1:H D=some (.lst ys))(h2:Pv (i+1) (ys++[y]) (upd H D (.lst (ys++[y])))):jq n i Pv D ys y H:=
 ⟨h1,by omega,n - (i+1),by omega,rfl,hi,h2⟩
def mf(n i:Nat)(Pv:Nat→List V→Hp→Prop)(D:Addr)(ys:List V)(te:TE)(σ : St)(H:Hp):Prop:=
 if true=true then te σ H (jq n i Pv D ys) else ∃ m',m'<n - i∧(m'=n - (i+1)∧i+1≤n∧Pv (i+1) ys H)
theorem pG{n i:Nat}{Pv:Nat→List V→Hp→Prop}{D:Addr}{ys:List V}{te:TE}{σ : St}{H:Hp}:mf n i Pv D ys te σ H=te σ H (jq n i Pv D ys):=by
 unfold mf; rw[if_pos rfl]
theorem pH{J:It}{g:TG}{te:TE}{nT:Nat}{σ : St}{D:Addr}{Q:VK}{H:Hp}(n:Nat)(Pv:Nat→List V→Hp→Prop)(h0:Pv 0 [] H)(hgo:∀ i ys H,i<n→Pv i ys H→J.go i H)(hst:∀ ys H,Pv n ys H→J.stop n H)
  (hs:∀ i ys H x H',i<n→Pv i ys H→J.yld i H x H'→g x (σ++List.replicate nT none) H' (mf n i Pv D ys te))
  (hd:∀ ys H,Pv n ys H→Q (.ref D) H):gB J g pP te nT σ D Q H:=by
 refine⟨fun i m ys H=>m=n - i∧i≤n∧Pv i ys H,⟨n,by simp,Nat.zero_le _,h0⟩,?_⟩
 rintro i m ys H ⟨rfl,hi,p⟩
 by_cases hlt:i<n
 ·exact .inr ⟨hgo i ys H hlt p,fun x H' y=>hs i ys H x H' hlt p y⟩
 ·have e:i=n:=by omega
  subst e;exact .inl ⟨hst ys H p,hd ys H p⟩
theorem sQ{lo:Int}{n:Nat}{g:TG}{te:TE}{nT:Nat}{σ : St}{D:Addr}{Q:VK}{H:Hp}(Pv:Nat→List V→Hp→Prop)(h0:Pv 0 [] H)
  (hs:∀ i ys H,i<n→Pv i ys H→g (.int (lo+i)) (σ++List.replicate nT none) H (mf n i Pv D ys te))
  (hd:∀ ys H,Pv n ys H→Q (.ref D) H):gB (kS lo n) g pP te nT σ D Q H:=by
 refine pH n Pv h0 (fun i ys H hi p=>hi) (fun ys H p=>Nat.le_refl _) (fun i ys H x H' hi p yl=>?_) hd
 obtain⟨rfl,rfl⟩:=yl
 exact hs i ys _ hi p
def vz(u:TS)(D:dR)(σ : St)(H:Hp):Prop:=u D σ H
section
variable{D:dR}{σ : St}{H:Hp}{Q:VK}{B:Bool→Hp→Prop}{L:List V→Hp→Prop}{R:It→Hp→Prop}{G:St→Hp→Prop}
theorem tD(t u:TS):A2 t u D σ H=t { D with nx:=vz u D } σ H:=rfl
theorem nj(u:TS):vz u D σ H=u D σ H:=rfl
theorem qD:Bf D σ H=D.nx σ H:=rfl
theorem uG(c:TT)(t u:TS):Ex c t u D σ H=c σ H fun b H1=>if b=true then t D σ H1 else u D σ H1:=rfl
theorem uj(t:TE):FC t D σ H=t σ H D.rt:=rfl
theorem rE:BF D σ H=D.rt .non H:=rfl
theorem qj(t:TE):BK t D σ H=t σ H fun _ H1=>D.nx σ H1:=rfl
theorem uN(t:TE)(g:TG):pK t g D σ H=t σ H fun x H1=>g x σ H1 D.nx:=rfl
theorem pN(i:Nat)(v:V):iF i v σ H G=G (σ.set i (some v)) H:=rfl
theorem tF(vs:List V):v7 vs σ H G=(vs=[]∧G σ H):=rfl
theorem sj(t:TG)(u:ik)(vs:List V):pB t u vs σ H G=∃ v r,vs=v::r∧t v σ H fun σ' H'=>u r σ' H' G:=rfl
theorem tN(K:PySem.W.Frag)(n:Nat)(t:ik)(v:V):vW K n t v σ H G=∃ a xs,v = .ref a∧SqT K H a xs∧xs.length=n∧t xs σ H G:=rfl
theorem tZ(to ti:TE)(t:rZ)(v:V):EK to ti t v σ H G=to σ H fun o H1=>ti σ H1 fun i H2=>t o i v H2 fun H3=>G σ H3:=rfl
theorem tK(i:Nat):Av i σ H Q=∃ v,σ[i]? = some (some v)∧Q v H:=rfl
theorem Bw(v:V):tC v σ H Q=Q v H:=rfl
theorem x8(r:R2)(ta tb:TE):xG r ta tb σ H Q=ta σ H fun x H1=>tb σ H1 fun y H2=>r x y H2 Q:=rfl
theorem wN(r:V→Hp→VK→Prop)(ta:TE):Gj r ta σ H Q=ta σ H fun x H1=>r x H1 Q:=rfl
theorem qi(t:TE):vk t σ H B=t σ H fun x H'=>∃ k,x = .bl k∧B k H':=rfl
theorem BE(t:TE):tB t σ H B=t σ H fun x H'=>∃ k,x = .bl k∧B k H':=rfl
theorem tH(t u:TT):DB t u σ H B=t σ H fun c H1=>if c=true then u σ H1 B else B false H1:=rfl
theorem xF(t u:TT):Gp t u σ H B=t σ H fun c H1=>if c=true then B true H1 else u σ H1 B:=rfl
theorem tV(t:TT):FD t σ H B=t σ H fun c H1=>B (!c) H1:=rfl
theorem rC(ta tb:TE):BQ ta tb σ H Q=ta σ H fun x H1=>∃ c,x = .bl c∧if c=true then tb σ H1 Q else Q (.bl false) H1:=rfl
theorem sr(ta:TE):Bc ta σ H Q=ta σ H fun x H1=>∃ c,x = .bl c∧Q (.bl (!c)) H1:=rfl
theorem wY(t:TT)(ta tb:TE):Gf t ta tb σ H Q=t σ H fun c H1=>if c=true then ta σ H1 Q else tb σ H1 Q:=rfl
theorem xm(r:List V→Hp→VK→Prop)(t:TA):x2 r t σ H Q=t σ H fun vs H1=>r vs H1 Q:=rfl
theorem p7(ta:TE)(tr:TA):Bd ta tr σ H L=ta σ H fun x H1=>tr σ H1 fun xs H2=>L (x::xs) H2:=rfl
theorem tR:Eb σ H L=L [] H:=rfl
theorem uh(t:TA):Ft t σ H Q=t σ H fun xs H1=>xs.length≤sizeLine∧∀ p,H1 p=none→Q (.ref p) (upd H1 p (.tup xs)):=rfl
theorem uz(t:TA):E3 t σ H Q=t σ H fun xs H1=>xs.length≤sizeLine∧∀ p,H1 p=none→Q (.ref p) (upd H1 p (.lst xs)):=rfl
theorem rb(sp:Sp)(dvs:List V)(E:XK)(t:TA):vD sp dvs E t σ H Q=t σ H fun vs H1=>sp (vs++dvs) H1 Q E:=rfl
theorem xY(K:PySem.W.Frag)(T:String)(r:V→List V→Hp→VK→Prop)(to:TE)(t:TA):EA K T r to t σ H Q=to σ H fun x H1=>qP K T x H1∧t σ H1 fun xs H2=>r x xs H2 Q:=rfl
theorem uF(K:PySem.W.Frag)(T:String)(r:V→List V→Hp→VK→Prop)(to:TE):A0 K T r to σ H Q=to σ H fun x H1=>qP K T x H1∧r x [] H1 Q:=rfl
theorem oO(r r':R2)(ta tb tc:TE):yw r r' ta tb tc σ H Q=ta σ H fun x H1=>tb σ H1 fun y H2=>r x y H2 fun z H3=>∃ k,z = .bl k∧(if k=true then tc σ H3 fun w' H4=>r' y w' H4 Q else Q (.bl false) H3):=rfl
theorem wW(r:V→Option Int→Option Int→Hp→VK→Prop)(te:TE)(tl th:TO):Gc r te tl th σ H Q=te σ H fun x H1=>tl σ H1 fun l H2=>th σ H2 fun u H3=>r x l u H3 Q:=rfl
theorem rj(t:TE)(O:Option Int→Hp→Prop):Bs t σ H O=t σ H fun x H1=>∃ i,x = .int i∧O (some i) H1:=rfl
theorem lY(O:Option Int→Hp→Prop):tQ σ H O=O none H:=rfl
theorem r_(wi:TI)(g:TG)(tc:TT)(te:TE)(nT:Nat):vq wi g tc te nT σ H Q=wi σ H fun J H1=>∀ D,H1 D=none→gB J g tc te nT σ D Q (upd H1 D (.lst [])):=rfl
theorem tY:pP σ H B=B true H:=rfl
theorem rM(K:PySem.W.Frag)(tl:TE):vF K tl σ H R=tl σ H fun x H1=>∃ a,x = .ref a∧(∃ xs,SqL K H1 a xs)∧R (ma K a) H1:=rfl
theorem rf(ta:TA):Bv ta σ H R=ta σ H fun vs H1=>∃ j:Int,vs=[.int j]∧-(2 ^ 62)≤j∧j<2 ^ 62∧R (kS 0 j.toNat) H1:=rfl
theorem xE(g:Int→Int→V)(i j:Int):oP g (.int i) (.int j) H Q=Q (g i j) H:=propext ⟨fun ⟨_,_,e1,e2,q⟩=>by cases e1; cases e2; exact q,fun q=>⟨i,j,rfl,rfl,q⟩⟩
theorem A5(C:Int→Int→Prop)(g:Int→Int→V)(i j:Int):rI C g (.int i) (.int j) H Q=(C i j∧Q (g i j) H):=propext ⟨fun ⟨_,_,e1,e2,q⟩=>by cases e1; cases e2; exact q,fun q=>⟨i,j,rfl,rfl,q⟩⟩
end
structure DefAt (K:PySem.W.Frag) (mg:Str→Option Value) (x:Str) (st:Stmt):Prop where
 ex:∃ f fd,Fun K x x st f fd∧mg x=some (.ref f)
structure aM (P:Program) (w:World) (K:PySem.W.Frag) (mg:Str→Option Value) (base:Heap) (k:Nat) (x:Str) (ps:List Str) (sp:Sp):Prop where
 ex:∃ f fd,FnOk P w K mg base iZ k f fd ps sp∧Binds K fd ps []∧PySem.W.keepIn K (.ref f)=true∧mg x=some (.ref f)
section
variable{P:Program}{w:World}{K:PySem.W.Frag}{mg:Str→Option Value}{base:Heap}
theorem DefAt.cal{x:Str}{st:Stmt}{N ps:List Str}{k:Nat}{sp:Sp}(D:DefAt K mg x st)(S:aE N ps (defScope st))
  (hb:∀ (kV doc pm:Value) (an:Option Addr) (cdv ct:Value) (us:List Value),us.length=ps.length→bindArgs (PySem.W.fnOf x x (defArgs st) (defBody st) (defScope st) .none kV doc pm an cdv ct) ⟨us,[]⟩=pure (ps.zip us))
  (len:∀ vs H Q E,sp vs H Q E→vs.length=ps.length)
  (hbody:∀ (f:Addr) (cdv:Value) (A:Around) (outer:List Env) (s:Shared) (H:Hp) (vs:List V) (Q:VK) (E:XK),Room k (A.deeper (envOfC x (defScope st) s.heap.objs.size f cdv))→sp vs H Q E→
   ∃ t,PSs (jy iZ P w K mg base N x (defScope st) f cdv A outer s H E).nox (defBody st) t∧t { nx:=fun _ H'=>Q .non H',rt:=Q } (start N vs) H):aM P w K mg base (k+1) x ps sp:=by
 obtain⟨f,fd,F,m⟩:=D.ex
 exact⟨f,fd,F.ok S len fun cdv A outer s H vs Q E hr h=>hbody f cdv A outer s H vs Q E hr h,F.binds hb,F.kp,m⟩
end
section
variable{X:Cx}
theorem aA{j k:Nat}{x:Str}{ps:List Str}{sp:Sp}{p pos:Pos}{e:Expr}{es:List Expr}{t:TA}(c:aM X.prog X.w X.K X.mg X.base j x ps sp)(hr:Room k X.A)(ha:PA X (e::es) t)(hle:j≤k:=by decide)(hg:Gl X x:=by first | exact vGg (by decide +kernel) | rfl)
  (hdb:(x == ("__debug__" : Str))=false:=by decide) (he:starEach (e::es) X.env=(false,eval e X.env)::starEach es X.env:=by rfl) (hpl:(backTo pos (starEach es X.env)).any (·.1)=false:=by rfl) :
  PE X (.Call (.Name x p) (e::es) [] pos) (vD sp [] E0 t):=by
 obtain⟨f,fd,F,b,kp,m⟩:=c.ex
 exact Ca F (hr.mono hle) hg m kp b .nil vZ ha hdb he hpl
theorem jR{x:Str}{T:String}{pos:Pos}(hm:X.mg x=none)(hv:bootBuiltins x=some (.type T))(hg:Gl X x:=by first | exact vGg (by decide +kernel) | rfl)(hn:x ≠ "__name__" := by decide) (hd:(x == ("__debug__" : Str))=false:=by decide):PE X (.Name x pos) (tC (.ty T)):=
 C2 hg hm hv rfl hn hd
theorem bm{x:Str}{p pos:Pos}{e:Expr}{es:List Expr}{t:TA}{id:String}{r:List V→Hp→VK→Prop}(hc:CallR X (.builtin id) r)(hm:X.mg x=none)(hv:bootBuiltins x=some (.builtin id))(ha:PA X (e::es) t)(hg:Gl X x:=by first | exact vGg (by decide +kernel) | rfl)
  (hn:x ≠ "__name__" := by decide) (hdb:(x == ("__debug__" : Str))=false:=by decide) (he:starEach (e::es) X.env=(false,eval e X.env)::starEach es X.env:=by rfl) (hpl:(backTo pos (starEach es X.env)).any (·.1)=false:=by rfl) :
  PE X (.Call (.Name x p) (e::es) [] pos) (x2 r t):=yP hc hg hm hv ha hn hdb he hpl
theorem ga{x:Str}{p pos:Pos}{e:Expr}{es:List Expr}{t:TA}{T:String}{r:List V→Hp→VK→Prop}(hc:CallR X (.type T) r)(hm:X.mg x=none)(hv:bootBuiltins x=some (.type T))(ha:PA X (e::es) t)(hg:Gl X x:=by first | exact vGg (by decide +kernel) | rfl)
  (hn:x ≠ "__name__" := by decide) (hdb:(x == ("__debug__" : Str))=false:=by decide) (he:starEach (e::es) X.env=(false,eval e X.env)::starEach es X.env:=by rfl) (hpl:(backTo pos (starEach es X.env)).any (·.1)=false:=by rfl) :
  PE X (.Call (.Name x p) (e::es) [] pos) (x2 r t):=xj hc hg hm hv ha hn hdb he hpl
end
section
variable{X:Cx}
def pq:R2:=fun x y H Q=>match x,y with
 | .int i,.int j=>Q (.int (i+j)) H
 | .str a,.str b=>a.length+b.length≤sizeLine∧Q (.str (a++b)) H
 | .ref l,.ref b=>∃ xs zs,H l=some (.lst xs)∧H b=some (.lst zs)∧xs.length+zs.length≤sizeLine∧∀ p,H p=none→Q (.ref p) (upd H p (.lst (xs++zs)))
 | _,_=>False
theorem aC:OpR X (binaryOp .Add) pq:=by
 intro pins s σ H x y v u Q I rx ry h
 cases x <;> cases y <;> first
  | exact(show False from h).elim
  | exact D_ pins s σ H _ _ v u Q I rx ry ⟨_,_,rfl,rfl,h⟩
  | exact wm pins s σ H _ _ v u Q I rx ry ⟨_,_,rfl,rfl,h⟩
  | (obtain⟨xs,zs,h1,h2,h3,h4⟩:=h; exact DD pins s σ H _ _ v u Q I rx ry ⟨_,_,xs,zs,rfl,rfl,h1,h2,h3,h4⟩)
def AN:R2:=fun x y H Q=>match x,y with
 | .int i,.int j=>Q (.bl (decide (i<j))) H
 | .str i,.str j=>Q (.bl (decide (i.cps.toList<j.cps.toList))) H
 | _,_=>False
theorem j6:OpR X (compareOp .Lt) AN:=by
 intro pins s σ H x y v u Q I rx ry h
 cases x <;> cases y <;> first
  | exact(show False from h).elim
  | exact FH pins s σ H _ _ v u Q I rx ry ⟨_,_,rfl,rfl,h⟩
  | exact w5 pins s σ H _ _ v u Q I rx ry ⟨_,_,rfl,rfl,h⟩
def vR(K:PySem.W.Frag):R2:=fun x y H Q=>match x,y with
 | .str i,.str j=>Q (.bl (!(Builtin.Str.occurrences j i 0 j.length 1).isEmpty)) H
 | x,.ref p=>∃ xs,(SqL K H p xs∨SqT K H p xs)∧b7 x=true∧xs.all b7=true∧Q (.bl (iK x xs)) H
 | _,_=>False
theorem Fy:OpR X (compareOp .In) (vR X.K):=by
 intro pins s σ H x y v u Q I rx ry h
 cases y with
 | str j=>
  cases x with
  | str i=>exact wQ pins s σ H _ _ v u Q I rx ry ⟨i,j,rfl,rfl,h⟩
  | _=>exact(show False from h).elim
 | ref p=>
  have h':∃ xs,(SqL X.K H p xs∨SqT X.K H p xs)∧b7 x=true∧xs.all b7=true∧Q (.bl (iK x xs)) H:=by cases x <;> exact h
  obtain⟨xs,h1,h2,h3,h4⟩:=h'
  exact xo pins s σ H _ _ v u Q I rx ry ⟨p,xs,rfl,h1,h2,h3,h4⟩
 | _=>cases x <;> exact(show False from h).elim
def kC(K:PySem.W.Frag):R2:=fun x y H Q=>match x,y with
 | .str i,.str j=>Q (.bl (!(!(Builtin.Str.occurrences j i 0 j.length 1).isEmpty))) H
 | x,.ref p=>∃ xs,(SqL K H p xs∨SqT K H p xs)∧b7 x=true∧xs.all b7=true∧Q (.bl (!iK x xs)) H
 | _,_=>False
theorem yG:OpR X (compareOp .NotIn) (kC X.K):=by
 intro pins s σ H x y v u Q I rx ry h
 cases y with
 | str j=>
  cases x with
  | str i=>exact qQ pins s σ H _ _ v u Q I rx ry ⟨i,j,rfl,rfl,h⟩
  | _=>exact(show False from h).elim
 | ref p=>
  have h':∃ xs,(SqL X.K H p xs∨SqT X.K H p xs)∧b7 x=true∧xs.all b7=true∧Q (.bl (!iK x xs)) H:=by cases x <;> exact h
  obtain⟨xs,h1,h2,h3,h4⟩:=h'
  exact qK pins s σ H _ _ v u Q I rx ry ⟨p,xs,rfl,h1,h2,h3,h4⟩
 | _=>cases x <;> exact(show False from h).elim
def pD(K:PySem.W.Frag):List V→Hp→VK→Prop:=fun xs H Q=>match xs with
 | [.str z]=>z.length≤sizeLine∧Q (.int z.length) H
 | [.ref p]=>∃ ys,(SqL K H p ys∨SqT K H p ys)∧Q (.int ys.length) H
 | _=>False
theorem xT:CallR X (.builtin "len") (pD X.K):=by
 intro pins s σ H xs us Q I r h
 match xs,h with
 | [.str z],h=>exact rn pins s σ H _ us Q I r ⟨z,rfl,h⟩
 | [.ref p],h=>obtain⟨ys,h1,h2⟩:=h; exact qy pins s σ H _ us Q I r ⟨p,ys,rfl,h1,h2⟩
def sw(K:PySem.W.Frag):R2:=fun x y H Q=>match x,y with
 | .ref p,.int i=>∃ xs v,(SqL K H p xs∨SqT K H p xs)∧eP xs i=some v∧Q v H
 | .str z,.int i=>∃ c,z.length≤sizeLine∧eP z.cps.toList i=some c∧Q (.str ⟨#[c]⟩) H
 | _,_=>False
theorem JC:IxR X (sw X.K):=by
 intro value slice pins s σ H x y v u Q I rx ry h hs
 refine EM value slice pins s σ H x y v u Q I rx ry ?_ hs
 match x,y,h with
 | .ref p,.int i,h=>
  obtain⟨xs,v',h1,h2,h3⟩:=h
  rcases h1 with h1 | h1
  ·exact .inl ⟨p,xs,i,v',rfl,rfl,h1,h2,h3⟩
  ·exact .inr (.inl ⟨p,xs,i,v',rfl,rfl,h1,h2,h3⟩)
 | .str z,.int i,h=>
  obtain⟨c,h1,h2,h3⟩:=h
  exact .inr (.inr ⟨z,i,c,rfl,rfl,h1,h2,h3⟩)
end
section
variable{K:PySem.W.Frag}{H:Hp}{Q:VK}
theorem og(i j:Int):pq (.int i) (.int j) H Q=Q (.int (i+j)) H:=rfl
theorem om(a b:Str):pq (.str a) (.str b) H Q=(a.length+b.length≤sizeLine∧Q (.str (a++b)) H):=rfl
theorem j2(l b:Addr):pq (.ref l) (.ref b) H Q=∃ xs zs,H l=some (.lst xs)∧H b=some (.lst zs)∧xs.length+zs.length≤sizeLine∧∀ p,H p=none→Q (.ref p) (upd H p (.lst (xs++zs))):=rfl
theorem rB(i j:Int):AN (.int i) (.int j) H Q=Q (.bl (decide (i<j))) H:=rfl
theorem pV(i j:Str):AN (.str i) (.str j) H Q=Q (.bl (decide (i.cps.toList<j.cps.toList))) H:=rfl
theorem p0(i j:Str):vR K (.str i) (.str j) H Q=Q (.bl (!(Builtin.Str.occurrences j i 0 j.length 1).isEmpty)) H:=rfl
theorem qx(x:V)(p:Addr):vR K x (.ref p) H Q=∃ xs,(SqL K H p xs∨SqT K H p xs)∧b7 x=true∧xs.all b7=true∧Q (.bl (iK x xs)) H:=by cases x <;> rfl
theorem k8(i j:Str):kC K (.str i) (.str j) H Q=Q (.bl (!(!(Builtin.Str.occurrences j i 0 j.length 1).isEmpty))) H:=rfl
theorem lm(x:V)(p:Addr):kC K x (.ref p) H Q=∃ xs,(SqL K H p xs∨SqT K H p xs)∧b7 x=true∧xs.all b7=true∧Q (.bl (!iK x xs)) H:=by cases x <;> rfl
theorem ol(z:Str):pD K [.str z] H Q=(z.length≤sizeLine∧Q (.int z.length) H):=rfl
theorem oz(p:Addr):pD K [.ref p] H Q=∃ ys,(SqL K H p ys∨SqT K H p ys)∧Q (.int ys.length) H:=rfl
theorem pY(p:Addr)(i:Int):sw K (.ref p) (.int i) H Q=∃ xs v,(SqL K H p xs∨SqT K H p xs)∧eP xs i=some v∧Q v H:=rfl
theorem pT(z:Str)(i:Int):sw K (.str z) (.int i) H Q=∃ c,z.length≤sizeLine∧eP z.cps.toList i=some c∧Q (.str ⟨#[c]⟩) H:=rfl
theorem lS(p:Addr)(y:V):mO (.ref p) [y] H Q=∃ xs,H p=some (.lst xs)∧xs.length<sizeLine∧Q .non (upd H p (.lst (xs++[y]))):=
 propext ⟨fun ⟨_,xs,_,e1,e2,q⟩=>by cases e1; cases e2; exact⟨xs,q⟩,fun ⟨xs,q⟩=>⟨p,xs,y,rfl,rfl,q⟩⟩
theorem q_(sep:Str)(p:Addr):uY K (.str sep) [.ref p] H Q=∃ ss,SqL K H p (ss.map V.str)∧(ss.map (·.length)).sum+ss.length * sep.length≤16777216∧Q (.str (Txt.join sep ss)) H:=
 propext ⟨fun ⟨_,_,ss,e1,e2,q⟩=>by cases e1; cases e2; exact⟨ss,q⟩,fun ⟨ss,q⟩=>⟨sep,p,ss,rfl,rfl,q⟩⟩
theorem uc(y:Str):qP K "str" (.str y) H=True:=eq_true rfl
theorem ue(p:Addr):(qP K "list" (.ref p) H)=∃ xs,SqL K H p xs:=by
 refine propext ⟨fun h=>?_,fun h=>.inl ⟨rfl,h⟩⟩
 rcases h with ⟨_,h⟩ | ⟨h,_⟩ | ⟨h,_⟩ | ⟨h,_⟩
 ·exact h
 ·exact absurd h (by decide)
 ·exact absurd h (by decide)
 ·exact absurd h (by decide)
end
theorem bL:bootBuiltins "len" = some (.builtin "len"):=by decide +kernel
theorem eQ:bootBuiltins "isinstance" = some (.builtin "isinstance"):=by decide +kernel
theorem Fn:bootBuiltins "min" = some (.builtin "min"):=by decide +kernel
theorem mv:bootBuiltins "str" = some (.type "str"):=by decide +kernel
theorem j5:bootBuiltins "int" = some (.type "int"):=by decide +kernel
theorem B7:bootBuiltins "bool" = some (.type "bool"):=by decide +kernel
theorem tT:bootBuiltins "list" = some (.type "list"):=by decide +kernel
theorem pQ:bootBuiltins "tuple" = some (.type "tuple"):=by decide +kernel
theorem ax{X:Cx}(i:Nat){x:Str}{e:Expr}{te:TE}{pos pos':Pos}(hN:X.N.Nodup)(he:PE X e te)(hi:X.N[i]? = some x:=by rfl)(hx:aP X.env.scope x:=by first | exact vLl (by decide +kernel) | exact Or.inl rfl)(hs:swapsWith e (some (.Name x pos')) pos.line X.env=pure false:=by rfl)
  (hf:X.fn x=true∨X.env.scope.names.lookup x=some .local:=by first | exact .inl rfl | exact .inr rfl | assumption):PS X (.Assign [.Name x pos'] e pos) (pK te (iF i)):=E2 hN hi hx he hs hf
theorem ba{X:Cx}(i:Nat){x:Str}{pos:Pos}(hN:X.N.Nodup)(hi:X.N[i]? = some x:=by rfl)(hx:aP X.env.scope x:=by first | exact vLl (by decide +kernel) | exact Or.inl rfl)
  (hf:X.fn x=true∨X.env.scope.names.lookup x=some .local:=by first | exact .inl rfl | exact .inr rfl | assumption):PG X (.Name x pos) (iF i):=Cp hN hi hx hf
structure CompSc (fsc:Scope) (N N0 T:List Str) (scope:Scope):Prop where
 kind:scope.kind = .function
 nocell:∀ y∈scope.names,y.2 ≠ .cell
 names:∀ y∈scope.names,y.2 = .local→scope.names.lookup y.1=some .local
 free:∀ y∈scope.names,y.2 = .free→fsc.names.lookup y.1=some .cell∨fsc.names.lookup y.1=some .free
 apart:∀ y∈scope.names,y.2 = .local→y.1∉N0
 len0:N0.length=N.length
 same:((N0.zip N).all fun p=>p.1 == p.2 || !(scope.names.any fun y=>y.1 == p.1))=true
theorem CompSc.to{X:Cx}{fsc:Scope}{N N0 T:List Str}{scope:Scope}(S:CompSc fsc N N0 T scope)(h1:X.env.scope=fsc)(h2:X.N=N):iJ X N0 T scope:=by
 subst h1 h2;refine⟨S.kind,S.nocell,S.names,S.free,S.apart,S.len0,fun i x k e m=>?_⟩
 have hl:=S.len0;have hi:i<N0.length:=(List.getElem?_eq_some_iff.mp e).1
 have hN:X.N[i]? = some X.N[i]:=List.getElem?_eq_getElem (by omega)
 have hz:(x,X.N[i])∈N0.zip X.N:=List.mem_of_getElem? (i:=i) (by rw[List.getElem?_zip_eq_some]; exact⟨e,hN⟩)
 have q:=List.all_eq_true.mp S.same _ hz;simp only[Bool.or_eq_true,beq_iff_eq,Bool.not_eq_true']at q
 rcases q with q | q
 ·rw[hN,← q]
 ·have:(scope.names.any fun y=>y.1 == x)=true:=List.any_eq_true.mpr ⟨_,m,by simp⟩
  rw[this]at q; cases q
def y7:R2:=Ga
def zu:R2:=Ge
theorem bz{X:Cx}:OpR X (compareOp .Eq) y7:=FO
theorem ki{X:Cx}:OpR X (compareOp .NotEq) zu:=F1
section
variable{K:PySem.W.Frag}{H:Hp}{Q:VK}
theorem pW(i j:Int):y7 (.int i) (.int j) H Q=Q (.bl (decide (i=j))) H:=by
 have e:decide (V.int i=V.int j)=decide (i=j):=by by_cases h:i=j <;> simp[h]
 show (nh (.int i) (.int j)=true∧Q (.bl (decide (V.int i=V.int j))) H)=_
 rw[e]; exact propext ⟨fun h=>h.2,fun h=>⟨rfl,h⟩⟩
theorem pF(i j:Str):y7 (.str i) (.str j) H Q=Q (.bl (decide (i=j))) H:=by
 have e:decide (V.str i=V.str j)=decide (i=j):=by by_cases h:i=j <;> simp[h]
 show (nh (.str i) (.str j)=true∧Q (.bl (decide (V.str i=V.str j))) H)=_
 rw[e]; exact propext ⟨fun h=>h.2,fun h=>⟨rfl,h⟩⟩
theorem ql(i j:Int):zu (.int i) (.int j) H Q=Q (.bl (!decide (i=j))) H:=by
 have e:decide (V.int i=V.int j)=decide (i=j):=by by_cases h:i=j <;> simp[h]
 show (nh (.int i) (.int j)=true∧Q (.bl (!decide (V.int i=V.int j))) H)=_
 rw[e]; exact propext ⟨fun h=>h.2,fun h=>⟨rfl,h⟩⟩
theorem qV(i j:Str):zu (.str i) (.str j) H Q=Q (.bl (!decide (i=j))) H:=by
 have e:decide (V.str i=V.str j)=decide (i=j):=by by_cases h:i=j <;> simp[h]
 show (nh (.str i) (.str j)=true∧Q (.bl (!decide (V.str i=V.str j))) H)=_
 rw[e]; exact propext ⟨fun h=>h.2,fun h=>⟨rfl,h⟩⟩
end
section
variable{X:Cx}(K:PySem.W.Frag)
theorem xn(hK:X.K=K:=by rfl):OpR X (compareOp .In) (vR K):=hK ▸ Fy
theorem yH(hK:X.K=K:=by rfl):OpR X (compareOp .NotIn) (kC K):=hK ▸ yG
theorem aV(hK:X.K=K:=by rfl):CallR X (.builtin "len") (pD K):=hK ▸ xT
theorem aI(hK:X.K=K:=by rfl):IxR X (sw K):=hK ▸ JC
theorem pS(hK:X.K=K:=by rfl):MtR X "str.join" (uY K):=hK ▸ Cv
theorem dO(hK:X.K=K:=by rfl):SlR X (AV K):=hK ▸ CQ
theorem cr{tg l:Expr}{tl:TE}(hl:PE X l tl)(hK:X.K=K:=by rfl):PI X tg l (vF K tl):=hK ▸ Cc hl
theorem fW{es:List Expr}{k n:Nat}{t:ik}{pos:Pos}(h:PGs X es t)(hn:(assignEach es X.env).length=n:=by rfl)(hst:(assignEach es X.env).findIdx? (·.1)=none:=by rfl)(hK:X.K=K:=by rfl)(hc:X.calm=true:=by rfl):PG X (.Tuple es k pos) (vW K n t):=hK ▸ C7 hc h hn hst
theorem bh{o e:Expr}{es:List Expr}{to:TE}{t:TA}{name:Str}{apos cpos:Pos}{T id:String}{r:V→List V→Hp→VK→Prop}(pa:PlainAttrs T)(slot:Slot T name id)(hty:typeOf (.builtin id)=pure (.type "method_descriptor")) (hm:MtR X id r) (ho:PE X o to) (ha:PA X (e::es) t)
  (hbase:attributeBase o name X.env (eval o X.env)=eval o X.env:=by rfl)
  (hfew:((backTo cpos (starEach (e::es) X.env)).all (fun x=>!x.1)&&(backToKw cpos (keywordEach [] X.env)).all (fun x=>x.1.isSome)&&decide ((e::es).length+([]:List Keyword).length+(if ([]:List Keyword).isEmpty then 0 else 1)<30))=true:=by rfl)
  (hline:(apos.endLine == cpos.line)=true:=by rfl) (hs:starEach (e::es) X.env=(false,eval e X.env)::starEach es X.env:=by rfl) (hplain:(backTo cpos (starEach es X.env)).any (·.1)=false:=by rfl) (hK:X.K=K:=by rfl) :
  PE X (.Call (.Attribute o name apos) (e::es) [] cpos) (EA K T r to t):=hK ▸ F7 pa slot hty hm ho ha hbase hfew hline hs hplain
theorem sP(hK:X.K=K:=by rfl):CallR X (.type "tuple") (fun xs H Q=>∃ p ys,xs=[.ref p]∧((SqL K H p ys∧∀ l,H l=none→Q (.ref l) (upd H l (.tup ys)))∨(SqT K H p ys∧Q (.ref p) H))):=hK ▸ oY
end
theorem xV(n:Int)(P:Int→Prop):(∃ j,[V.int n]=[V.int j]∧P j)=P n:=propext ⟨fun ⟨_,e,h⟩=>by cases e; exact h,fun h=>⟨n,rfl,h⟩⟩
theorem ug(x:V)(xs:List V)(P:V→List V→Prop):(∃ v r,x::xs=v::r∧P v r)=P x xs:=propext ⟨fun ⟨_,_,e,h⟩=>by cases e; exact h,fun h=>⟨x,xs,rfl,h⟩⟩
def gv(scope fsc:Scope):Scope:={ scope with names:=scope.names.map fun (n,k)=>if (k == .free&&fsc.kind == .function&&fsc.names.lookup n == some .cell) then (n,.cell) else (n,k) }
section
variable{X:Cx}{N0 T:List Str}{scope:Scope}{C:Addr}{fp:List Addr}{s:Shared}{H:Hp}{x:Str}
theorem Bg(fsc:Scope)(h:(gv scope fsc).names.lookup x=some .globalImplicit)(e:X.env.scope=fsc:=by rfl):Gl (cg X N0 T scope C fp s H) x:=by subst e; exact h
theorem dz(fsc:Scope)(h:((gv scope fsc).names.lookup x=some .local||(gv scope fsc).names.lookup x=some .cell||(gv scope fsc).names.lookup x=some .free)=true)(e:X.env.scope=fsc:=by rfl):am (cg X N0 T scope C fp s H).env.scope x:=by
 subst e;simp only[Bool.or_eq_true,decide_eq_true_eq]at h
 rcases h with (h | h) | h
 ·exact .inl h
 ·exact .inr (.inl h)
 ·exact .inr (.inr h)
theorem iu(fsc:Scope)(h:(gv scope fsc).names.lookup x=some .local)(e:X.env.scope=fsc:=by rfl):aP (cg X N0 T scope C fp s H).env.scope x:=by subst e; exact .inl h
theorem km(fsc:Scope)(h:(gv scope fsc).names.lookup x=some .local)(e:X.env.scope=fsc:=by rfl):(cg X N0 T scope C fp s H).fn x=true∨(cg X N0 T scope C fp s H).env.scope.names.lookup x=some .local:=by subst e; exact .inr h
end
theorem aW{X:Cx}:MtR X "list.append" mO:=nU
theorem PW.pt'{X:Cx}{e:Expr}{t:TT}(h:PW X e t):PT X e t:=h.pt
theorem Do{t u:TS}{D:dR}{σ : St}{H:Hp}(I:St→Hp→Prop)(h:∀ k:St→Hp→Prop,(∀ σ' H',I σ' H'→k σ' H')→t { D with nx:=k } σ H)(hu:∀ σ' H',I σ' H'→vz u D σ' H'):vz (A2 t u) D σ H:=h _ hu
theorem mG{σ : St}{H:Hp}{Q:List (V × V)→Hp→Prop}:ko [] σ H Q=Q [] H:=rfl
theorem kU{σ : St}{H:Hp}{Q:List (V × V)→Hp→Prop}(tk tv:TE)(r:List (TE × TE)):ko ((tk,tv)::r) σ H Q=tk σ H fun x H1=>tv σ H1 fun y H2=>ko r σ H2 fun ps H3=>Q ((x,y)::ps) H3:=rfl
theorem Same.upd{H H':Hp}{p:Addr}(sm:Same H H')(h:H p=none)(o:HO):Same H (upd H' p o):=fun b u q=>by rw[aj (az q h)]; exact sm b u q
theorem al{H:Hp}{p:Addr}(h:H p=none)(o:HO):Same H (upd H p o):=fun b u q=>by rw[aj (az q h)]; exact q
end L2
namespace L2
open PySem PySem.Spec PyProof.Rows PySem.SeqAt
def EqN(K:PySem.W.Frag)(H:Hp):Nat→V→V→Bool→Prop
 | 0,x,y,b=>b7 x=true∧b7 y=true∧b=fH x y
 | n+1,x,y,b=>(b7 x=true∧b7 y=true∧b=fH x y)∨∃ a c xs ys,x = .ref a∧y = .ref c∧((SqL K H a xs∧SqL K H c ys)∨(SqT K H a xs∧SqT K H c ys))∧
   ((∃ e:Nat→Bool,xs.length=ys.length∧(∀ (i:Nat) x y,xs[i]? = some x→ys[i]? = some y→EqN K H n x y (e i))∧b=(List.range xs.length).all e)∨
    (SqL K H a xs∧SqL K H c ys∧xs.length≠ys.length∧b=false))
theorem lA:∀ {x:V},b7 x=true→fH x x=true
 | .non,_=>rfl
 | .bl b,_=>by simp[fH]
 | .int i,_=>by simp[fH]
 | .str y,_=>by simp[fH]
section
variable{X:Cx}{pins:List (Addr × Obj)}{σ : St}{H:Hp}{s:Shared}
theorem EqN.self(I:Inv X pins σ H s):∀ {n:Nat} {x:V} {b:Bool},EqN X.K H n x x b→b=true
 | 0,x,b,h=>by obtain⟨h1,_,rfl⟩:=h; exact lA h1
 | n+1,x,b,h=>by
  rcases h with ⟨h1,_,rfl⟩ | ⟨a,c,xs,ys,rfl,e,hq,h⟩
  ·exact lA h1
  ·cases e
   have exy:xs=ys:=by
    rcases hq with ⟨q1,q2⟩ | ⟨q1,q2⟩
    ·exact I.list_inj q1 q2
    ·exact I.tuple_inj q1 q2
   subst exy;rcases h with ⟨e,_,he,rfl⟩ | ⟨_,_,z,_⟩
   ·rw[List.all_eq_true]
    intro i hi
    have hi':=List.mem_range.mp hi;have q:=he i xs[i] xs[i] (List.getElem?_eq_getElem hi') (List.getElem?_eq_getElem hi');exact EqN.self I q
   ·exact absurd rfl z
theorem EqN.rc(I:Inv X pins σ H s){n:Nat}(ih:∀ {A:Around} {x y:V} {b:Bool} {u v:Value},A.units+n<cLine→EqN X.K H n x y b→RelV x u→RelV y v→EqAt A s u v b)
  {A:Around} {a c:Addr} {xs ys:List V} {b:Bool} (hu:A.units+(n+1)<cLine) (hq:(SqL X.K H a xs∧SqL X.K H c ys)∨(SqT X.K H a xs∧SqT X.K H c ys))
  (h:(∃ e:Nat→Bool,xs.length=ys.length∧(∀ (i:Nat) x y,xs[i]? = some x→ys[i]? = some y→EqN X.K H n x y (e i))∧b=(List.range xs.length).all e)∨(SqL X.K H a xs∧SqL X.K H c ys∧xs.length≠ys.length∧b=false)) :
  RcAt A s (.ref a) (.ref c) b∧RcNeAt A s (.ref a) (.ref c) (!b):=by
 have hin:A.in1.units+n<cLine:=by
  have:A.in1.units=A.units+1:=rfl
  omega
 rcases h with ⟨e,hl,he,rfl⟩ | ⟨q1,q2,hl,rfl⟩
 ·rcases hq with ⟨q1,q2⟩ | ⟨q1,q2⟩
  ·obtain⟨i1,r1,p1,z1⟩:=I.list q1
   obtain⟨i2,r2,p2,z2⟩:=I.list q2
   have l1:=r1.length;have l2:=r2.length
   have hit:∀ j (h1:j<i1.toArray.size) (h2:j<i2.toArray.size),EqAt A.in1 s i1.toArray[j] i2.toArray[j] (e j):=fun j h1 h2=>by
    obtain⟨x,hx,rx⟩:=r1.of (i:=j) (u:=i1.toArray[j]) (by simp at h1 ⊢)
    obtain⟨y,hy,ry⟩:=r2.of (i:=j) (u:=i2.toArray[j]) (by simp at h2 ⊢)
    exact ih hin (he j x y hx hy) rx ry
   have ez:xs.length=i1.toArray.size:=by simp; omega
   rw[ez];exact⟨RcAt.lists p1.isList p2.isList (by simp; omega) (by omega) hit,RcNeAt.lists p1.isList p2.isList (by simp; omega) (by omega) hit⟩
  ·obtain⟨i1,r1,p1,z1⟩:=I.tuple q1
   obtain⟨i2,r2,p2,z2⟩:=I.tuple q2
   have l1:=r1.length;have l2:=r2.length
   have hit:∀ j (h1:j<i1.toArray.size) (h2:j<i2.toArray.size),EqAt A.in1 s i1.toArray[j] i2.toArray[j] (e j):=fun j h1 h2=>by
    obtain⟨x,hx,rx⟩:=r1.of (i:=j) (u:=i1.toArray[j]) (by simp at h1 ⊢)
    obtain⟨y,hy,ry⟩:=r2.of (i:=j) (u:=i2.toArray[j]) (by simp at h2 ⊢)
    exact ih hin (he j x y hx hy) rx ry
   have ez:(List.range xs.length).all e=((List.range (min i1.toArray.size i2.toArray.size)).all e&&i1.toArray.size == i2.toArray.size):=by
    have e1:i1.toArray.size=xs.length:=by simp; omega
    have e2:i2.toArray.size=xs.length:=by simp; omega
    rw[e1,e2,Nat.min_self]; simp
   rw[ez];exact⟨RcAt.tuples (show s.heap.IsTuple a i1.toArray from p1) (show s.heap.IsTuple c i2.toArray from p2) (by omega) hit,RcNeAt.tuples (show s.heap.IsTuple a i1.toArray from p1) (show s.heap.IsTuple c i2.toArray from p2) (by omega) hit⟩
 ·obtain⟨i1,r1,p1,z1⟩:=I.list q1
  obtain⟨i2,r2,p2,z2⟩:=I.list q2
  have l1:=r1.length;have l2:=r2.length
  have hne:(i1.toArray.size != i2.toArray.size)=true:=by
   rw[bne_iff_ne]; simp; omega
  exact⟨RcAt.lists_lengths p1.isList p2.isList hne (by omega),RcNeAt.lists_lengths p1.isList p2.isList hne (by omega)⟩
theorem EqN.at(I:Inv X pins σ H s):∀ {n:Nat} {A:Around} {x y:V} {b:Bool} {u v:Value},A.units+n<cLine→EqN X.K H n x y b→RelV x u→RelV y v→EqAt A s u v b
 | 0,A,x,y,b,u,v,_,h,rx,ry=>by obtain⟨h1,h2,rfl⟩:=h; exact mr rx ry h1 h2
 | n+1,A,x,y,b,u,v,hu,h,rx,ry=>by
  have h0:=h;rcases h with ⟨h1,h2,rfl⟩ | ⟨a,c,xs,ys,rfl,rfl,hq,h⟩
  ·exact mr rx ry h1 h2
  ·cases rx
   cases ry
   by_cases hac:a=c
   ·subst hac
    rw[EqN.self I h0];exact EqAt.same _
   ·exact EqAt.of_refs hac (EqN.rc I (fun hu' q rx ry=>EqN.at I hu' q rx ry) hu hq h).1
end
section
variable{X:Cx}
def Aw(K:PySem.W.Frag):R2:=fun x y H Q=>∃ (a c:Addr) (n:Nat) (b:Bool),x = .ref a∧y = .ref c∧n≤100∧EqN K H (n+1) x y b∧Q (.bl b) H
def zD(K:PySem.W.Frag):R2:=fun x y H Q=>∃ (a c:Addr) (n:Nat) (b:Bool),x = .ref a∧y = .ref c∧n≤100∧EqN K H (n+1) x y b∧Q (.bl (!b)) H
theorem DH(hu:X.A.units+101<cLine):OpR X (compareOp .Eq) (Aw X.K):=by
 intro pins s σ H x y v u Q I rx ry h
 obtain⟨a,c,n,b,rfl,rfl,hn,he,q⟩:=h
 cases rx
 cases ry;rcases he with ⟨h1,_⟩ | ⟨a',c',xs,ys,e1,e2,hq,h⟩
 ·cases h1
 ·cases e1
  cases e2;exact(EqN.rc I (fun hu' q rx ry=>EqN.at I hu' q rx ry) (by omega) hq h).1 _ _ _ _ ⟨.bl b,H,I,rfl,q⟩
theorem Fv(hu:X.A.units+101<cLine):OpR X (compareOp .NotEq) (zD X.K):=by
 intro pins s σ H x y v u Q I rx ry h
 obtain⟨a,c,n,b,rfl,rfl,hn,he,q⟩:=h
 cases rx
 cases ry;rcases he with ⟨h1,_⟩ | ⟨a',c',xs,ys,e1,e2,hq,h⟩
 ·cases h1
 ·cases e1
  cases e2;exact(EqN.rc I (fun hu' q rx ry=>EqN.at I hu' q rx ry) (by omega) hq h).2 _ _ _ _ ⟨.bl (!b),H,I,rfl,q⟩
theorem C1(K:PySem.W.Frag){k:Nat}(hr:Room k X.A)(hK:X.K=K:=by rfl):OpR X (compareOp .Eq) (Aw K):=by subst hK; exact DH (by have:=hr.un; omega)
theorem kB(K:PySem.W.Frag){k:Nat}(hr:Room k X.A)(hK:X.K=K:=by rfl):OpR X (compareOp .NotEq) (zD K):=by subst hK; exact Fv (by have:=hr.un; omega)
end
section
variable{K:PySem.W.Frag}{H:Hp}{Q:VK}
theorem tu(a c:Addr):Aw K (.ref a) (.ref c) H Q=∃ (n:Nat) (b:Bool),n≤100∧EqN K H (n+1) (.ref a) (.ref c) b∧Q (.bl b) H:=
 propext ⟨fun ⟨_,_,n,b,e1,e2,q⟩=>⟨n,b,q⟩,fun ⟨n,b,q⟩=>⟨a,c,n,b,rfl,rfl,q⟩⟩
theorem uf(a c:Addr):zD K (.ref a) (.ref c) H Q=∃ (n:Nat) (b:Bool),n≤100∧EqN K H (n+1) (.ref a) (.ref c) b∧Q (.bl (!b)) H:=
 propext ⟨fun ⟨_,_,n,b,e1,e2,q⟩=>⟨n,b,q⟩,fun ⟨n,b,q⟩=>⟨a,c,n,b,rfl,rfl,q⟩⟩
theorem EqN.flat{n:Nat}{x y:V}(hx:b7 x=true)(hy:b7 y=true):EqN K H n x y (fH x y):=by
 cases n with
 | zero=>exact⟨hx,hy,rfl⟩
 | succ n=>exact .inl ⟨hx,hy,rfl⟩
theorem EqN.refl{n:Nat}{x:V}(hx:b7 x=true):EqN K H n x x true:=by
 have q:EqN K H n x x (fH x x):=EqN.flat hx hx
 rwa [lA hx]at q
theorem EqN.seq{n:Nat}{a c:Addr}{xs ys:List V}(hq:(SqL K H a xs∧SqL K H c ys)∨(SqT K H a xs∧SqT K H c ys))(hl:xs.length=ys.length)(he:∀ (i:Nat) x y,xs[i]? = some x→ys[i]? = some y→EqN K H n x y true):EqN K H (n+1) (.ref a) (.ref c) true:=
 .inr ⟨a,c,xs,ys,rfl,rfl,hq,.inl ⟨fun _=>true,hl,he,by simp⟩⟩
theorem EqN.seqFlat{n:Nat}{a c:Addr}{xs:List V}(hq:(SqL K H a xs∧SqL K H c xs)∨(SqT K H a xs∧SqT K H c xs))(hf:∀ x∈xs,b7 x=true):EqN K H (n+1) (.ref a) (.ref c) true:=
 EqN.seq hq rfl fun i x y e1 e2=>by
  rw[e1]at e2; cases e2
  exact EqN.refl (hf x (List.mem_of_getElem? e1))
end
section
variable{X:Cx}
def Fh:R2:=fun x y H Q=>y = .non∧Q (.bl (decide (x = .non))) H
def Bi:R2:=fun x y H Q=>y = .non∧Q (.bl (!decide (x = .non))) H
theorem Cw:OpR X (compareOp .Is) Fh:=Eh
theorem lI:OpR X (compareOp .IsNot) Bi:=CJ
def BG:List V→Hp→VK→Prop:=fun xs H Q=>∃ i,xs=[.int i]∧i.natAbs.log2<1920∧Q (.str (toString i)) H
theorem nP:CallR X (.type "str") BG:=j8
def BH:List V→Hp→VK→Prop:=fun xs H Q=>(∃ i,xs=[.int i]∧Q (.int i) H)∨∃ k,xs=[.bl k]∧Q (.int (if k then 1 else 0)) H
theorem oM:CallR X (.type "int") BH:=ym
def xy(K:PySem.W.Frag):List V→Hp→VK→Prop:=fun xs H Q=>∃ p ys,xs=[.ref p]∧((SqL K H p ys∧∀ l,H l=none→Q (.ref l) (upd H l (.tup ys)))∨(SqT K H p ys∧Q (.ref p) H))
theorem xL(K:PySem.W.Frag)(hK:X.K=K:=by rfl):CallR X (.type "tuple") (xy K):=sP K hK
def vh:R2:=fun x y H Q=>match x,y with
 | .int i,.int j=>CMul i j∧Q (.int (i * j)) H
 | .str z,.int n=>0≤n∧n≤4096∧z.length≤4096∧Q (.str (Txt.mul z n)) H
 | _,_=>False
theorem eZ:OpR X (binaryOp .Mult) vh:=by
 intro pins s σ H x y v u Q I rx ry h
 match x,y,h with
 | .int i,.int j,h=>exact E8 pins s σ H _ _ v u Q I rx ry ⟨_,_,rfl,rfl,h⟩
 | .str z,.int n,h=>
  obtain⟨t,rfl⟩:=rx
  obtain⟨t',rfl⟩:=ry
  obtain⟨h0,h1,h2,q⟩:=h
  exact SB.mul (mulOk_of 4096 4096 h2 (by omega) (by omega) (by decide) (by decide)) fun t' k=>⟨.str (Txt.mul z n),H,I.tok k,⟨t',rfl⟩,q⟩
end
section
variable{K:PySem.W.Frag}{H:Hp}{Q:VK}
theorem uB(x:V):Fh x .non H Q=Q (.bl (decide (x = .non))) H:=propext ⟨fun h=>h.2,fun h=>⟨rfl,h⟩⟩
theorem rW(x:V):Bi x .non H Q=Q (.bl (!decide (x = .non))) H:=propext ⟨fun h=>h.2,fun h=>⟨rfl,h⟩⟩
theorem qv(i:Int):BG [.int i] H Q=(i.natAbs.log2<1920∧Q (.str (toString i)) H):=propext ⟨fun ⟨_,e,q⟩=>by cases e; exact q,fun q=>⟨i,rfl,q⟩⟩
theorem rN(k:Bool):BH [.bl k] H Q=Q (.int (if k then 1 else 0)) H:=propext ⟨fun h=>by rcases h with ⟨_,e,q⟩ | ⟨_,e,q⟩ <;> cases e; exact q,fun q=>.inr ⟨k,rfl,q⟩⟩
theorem nS(p:Addr):xy K [.ref p] H Q=∃ ys,((SqL K H p ys∧∀ l,H l=none→Q (.ref l) (upd H l (.tup ys)))∨(SqT K H p ys∧Q (.ref p) H)):=propext ⟨fun ⟨_,ys,e,q⟩=>by cases e; exact⟨ys,q⟩,fun ⟨ys,q⟩=>⟨p,ys,rfl,q⟩⟩
theorem oh(i j:Int):vh (.int i) (.int j) H Q=(CMul i j∧Q (.int (i * j)) H):=rfl
theorem oA(z:Str)(n:Int):vh (.str z) (.int n) H Q=(0≤n∧n≤4096∧z.length≤4096∧Q (.str (Txt.mul z n)) H):=rfl
theorem ui(a:Addr)(lo hi:Option Int):AV K (.ref a) lo hi H Q=∃ xs,SqL K H a xs∧∀ p,H p=none→Q (.ref p) (upd H p (.lst (dY xs lo hi))):=propext ⟨fun ⟨_,xs,e,q⟩=>by cases e; exact⟨xs,q⟩,fun ⟨xs,q⟩=>⟨a,xs,rfl,q⟩⟩
theorem A9(g:Int→V)(i:Int):rU g (.int i) H Q=Q (g i) H:=propext ⟨fun ⟨_,e,q⟩=>by cases e; exact q,fun q=>⟨i,rfl,q⟩⟩
end
theorem bN{n:Nat}(h:n≤1000000):n<sizeLine:=by
 have:sizeLine=16777216:=sizeLine_eq
 omega
theorem a_{n:Nat}(h:n≤1000000):n≤sizeLine:=Nat.le_of_lt (bN h)
theorem sn{α : Type}{f:α→V}{xs:List α}{i:Int}{x:α}(h0:0≤i)(h:xs[i.toNat]? = some x):eP (xs.map f) i=some (f x):=by
 have q:(xs.map f)[i.toNat]? = some (f x):=by rw[List.getElem?_map,h]; rfl
 have q':=aT q
 rwa [show ((i.toNat:Nat):Int)=i by omega]at q'
theorem cV{H H':Hp}{p:Addr}{o:HO}(h:upd H p o=H')(hp:H p=none):Same H H':=h ▸ al hp o
theorem dU{H H':Hp}{p:Addr}{o:HO}(h:upd H p o=H'):H' p=some o:=h ▸ ah
theorem Aj{α β : Type}{f:α→β}(xs:List α)(x:α):xs.map f++[f x]=(xs++[x]).map f:=by rw[List.map_append]; rfl
end L2
namespace L2
open PySem PySem.Spec PyProof.Rows
theorem Inv.turnedL{X:Cx}{pins:List (Addr × Obj)}{σ : St}{H:Hp}{s:Shared}{h':Heap}{t':Nat}{ch:List Addr}(I:Inv X pins σ H s)(k:∀ b o,b∉ch→s.heap.get? b=some o→h'.get? b=some o)
  (hf:∀ b∈ch,ie X pins H b):Inv X pins σ H { s with heap:=h',toks:=t' }:=by
 have nit:∀ b u,H b=some u→b∉ch:=fun b u e z=>by rw[(hf b z).1]at e; cases e
 refine I.step (g':=s.gens) (d':=s.drawn) (ch:=ch) (fun b hb=>?_) (fun b o _ _ hc e _=>k b o hc e) (fun b o _ _ hc e _=>⟨o.slots,k b o hc e⟩) (fun _ _ _ _ n=>n)
  (fun b o hc e=>⟨o,k b o hc e⟩) (fun _ _ e=>e) (fun _ _ _ e=>e) (fun b ps e=>⟨#[],by rw[e]; simp⟩) (fun m hm=>?_) (fun b u e=>?_) I.bare
 ·obtain⟨_,f1,_,f3,f4,f5⟩:=hf b hb
  exact⟨f3,f1,f4,f5⟩
 ·obtain⟨o,es,ep,ho,r⟩:=hm
  exact⟨o,es,ep,k _ o (fun z=>(hf _ z).2.1 rfl) ho,r⟩
 ·refine(I.hok b u e).stay (fun c v hc q=>k c v ?_ q) (fun _ q=>q) fun _ _ q=>q
  rcases hc with z | z
  ·rw[z]; exact nit b u e
  ·exact nit c _ z
theorem Inv.turnedLaid{X:Cx}{pins:List (Addr × Obj)}{σ : St}{H:Hp}{s:Shared}{h':Heap}{t':Nat}{ch:List Addr}{a:Addr}{o:HO}(I:Inv X pins σ H s)(k:∀ b o,b∉ch→s.heap.get? b=some o→h'.get? b=some o)
  (hf:∀ b∈ch,ie X pins H b) (hp:s.heap.objs.size≤a) (new:ObjOk X.prog X.w (upd H a o) h' a o):Inv X pins σ (upd H a o) { s with heap:=h',toks:=t' }:=by
 have hn:H a=none:=I.hok.fresh hp
 have nit:∀ b u,H b=some u→b∉ch:=fun b u e z=>by rw[(hf b z).1]at e; cases e
 refine I.step (g':=s.gens) (d':=s.drawn) (ch:=ch) (fun b hb=>?_) (fun b o _ _ hc e _=>k b o hc e) (fun b o _ _ hc e _=>⟨o.slots,k b o hc e⟩) (fun b u _ q n=>?_)
  (fun b o hc e=>⟨o,k b o hc e⟩) (fun b xs q=>?_) (fun b u xs q=>?_) (fun b ps q=>⟨#[],?_⟩) (fun m hm=>?_) (fun b u e=>?_) I.bare
 ·obtain⟨_,f1,_,f3,f4,f5⟩:=hf b hb
  exact⟨f3,f1,f4,f5⟩
 ·rw[aj (Nat.ne_of_lt (Nat.lt_of_lt_of_le (Heap.lt_size q) hp))]; exact n
 ·rw[aj (az q hn)]; exact q
 ·rw[aj (az q hn)]; exact q
 ·rw[aj (az q hn),q]; simp
 ·obtain⟨o,es,ep,ho,r⟩:=hm
  exact⟨o,es,ep,k _ o (fun z=>(hf _ z).2.1 rfl) ho,r⟩
 ·by_cases hb:b=a
  ·subst hb; rw[ah]at e; cases e; exact new
  ·rw[aj hb]at e
   refine(I.hok b u e).stay (fun c v hc q=>k c v ?_ q) (fun c q=>by rw[aj (az q hn)]; exact q) fun c xs q=>by rw[aj (az q hn)]; exact q
   rcases hc with z | z
   ·rw[z]; exact nit b u e
   ·exact nit c _ z
structure wI (z TI TO i1 i2:Addr):Prop where
 TIz:TI≠z
 TOz:TO≠z
 i1z:i1≠z
 i2z:i2≠z
 TITO:TI≠TO
 TIi1:TI≠i1
 TIi2:TI≠i2
 TOi1:TO≠i1
 TOi2:TO≠i2
 i12:i1≠i2
theorem Lb(n:Nat):wI (n+4) (n+2) (n+3) n (n+1):=⟨(show (@Ne Nat (n+2) (n+4):Prop) by omega),(show (@Ne Nat (n+3) (n+4):Prop) by omega),(show (@Ne Nat (n) (n+4):Prop) by omega),(show (@Ne Nat (n+1) (n+4):Prop) by omega),(show (@Ne Nat (n+2) (n+3):Prop) by omega),(show (@Ne Nat (n+2) (n):Prop) by omega),(show (@Ne Nat (n+2) (n+1):Prop) by omega),(show (@Ne Nat (n+3) (n):Prop) by omega),(show (@Ne Nat (n+3) (n+1):Prop) by omega),(show (@Ne Nat (n) (n+1):Prop) by omega)⟩
theorem zE:bootBuiltins "zip" = some (.type "zip"):=by decide +kernel
theorem qW(n m:Addr)(P:Addr→Addr→Prop):(∃ i j,[V.ref n,V.ref m]=[V.ref i,V.ref j]∧P i j)=P n m:=propext ⟨fun ⟨_,_,e,h⟩=>by cases e; exact h,fun h=>⟨n,m,rfl,h⟩⟩
def yI(K:PySem.W.Frag)(a:Addr):It:=
  ⟨fun i H=>∃ xs x,SqL K H a xs∧xs[i]? = some x,
   fun i H v H'=>∃ t x,H t=none∧v = .ref t∧H'=upd H t (.tup [.int i,x])∧∀ xs,SqL K H a xs→xs[i]? = some x,
   fun i H=>∃ xs,SqL K H a xs∧xs.length≤i⟩
def Kn(e it l:Addr)(i:Nat)(h:Heap):Prop:=(∃ old,IsEnum h e it i old)∧h.IsListIter it l i
theorem x5{P:Program}{w:World}{K:PySem.W.Frag}{elts:List Expr}{k:Nat}{pos:Pos}{e it l:Addr}(hei:e≠it):jP P w K (.Tuple elts k pos) (yI K l) [e,it] e (Kn e it l) where
 mem:=by simp
 obj:=fun i h st b hb=>by
  obtain⟨⟨old,s1⟩,⟨o4,s4,c4,d4⟩⟩:=st
  simp only[List.mem_cons,List.mem_nil_iff,or_false]at hb
  rcases hb with rfl | rfl
  ·exact⟨_,s1,fun v e=>by cases e⟩
  ·exact⟨_,s4,fun v e=>by rw[d4]at e; cases e⟩
 keep:=fun i h h' st kk=>by
  obtain⟨⟨old,s1⟩,s4⟩:=st
  exact⟨⟨old,kk e (by simp) _ s1⟩,s4.at fun o z=>kk it (by simp) o z⟩
 item:=by
  intro X hP hw hK hc i pins s σ H E I hf st hg
  subst hP hw hK;obtain⟨xs,x,q1,hx⟩:=hg
  obtain⟨is1,rv1,p1,_⟩:=I.list q1
  obtain⟨u1,hu1,ru1⟩:=rv1.get hx
  obtain⟨⟨old,s1⟩,s4⟩:=st
  refine wpAny_pyNext_enum_item s1 s4 p1.isList (x:=u1) (by simpa using hu1) hei fun h' a1 a3 a5 a6 kk=>?_
  refine⟨_,rfl,wpAny_letOwnedTupleGo_enum a1 fun h'' hz' hs'=>?_⟩
  have lt:∀ {c o},s.heap.get? c=some o→s.heap.objs.size≠c:=fun z=>Nat.ne_of_gt (Heap.lt_size z)
  have zne:s.heap.objs.size≠e:=lt s1
  have keep2:∀ b o,b∉[e,it]→s.heap.get? b=some o→h''.get? b=some o:=fun b o hb z=>by
   simp only[List.mem_cons,List.mem_nil_iff,or_false,not_or]at hb
   exact hs'.extBut _ _ hb.1 (kk b o hb.1 hb.2 z)
  have hsz:H s.heap.objs.size=none:=I.hok.fresh (Nat.le_refl _)
  have tupN:=hs'.extBut _ _ zne a5
  have nlt:∀ c∈[e,it],c≠s.heap.objs.size:=fun c hc'=>by
   obtain⟨o4,e4,_⟩:=id s4
   simp only[List.mem_cons,List.mem_nil_iff,or_false]at hc'
   rcases hc' with rfl | rfl
   ·exact(lt s1).symm
   ·exact(lt e4).symm
  refine⟨.ref s.heap.objs.size,upd H s.heap.objs.size (.tup [.int i,x]),I.turnedLaid (t':=s.toks+1) keep2 hf (Nat.le_refl _) ⟨a_ (by show 2≤1000000; decide),[.int i s.toks,u1],.cons ⟨_,rfl⟩ (.cons ru1 .nil),⟨_,tupN,rfl,rfl,0,rfl⟩⟩,rfl,⟨_,x,hsz,rfl,rfl,fun xs' q'=>?_⟩,
   ⟨⟨_,by simpa using hz'⟩,a3.extBut hs'.extBut hei.symm⟩,fun c hc'=>?_⟩
  ·rw[I.list_inj q' q1]; exact hx
  ·rw[aj (nlt c hc')]; exact(hf c hc').1
 done:=by
  intro X hP hw hK hc i pins s σ H E I hf st hg
  subst hP hw hK;obtain⟨xs,q1,hlen⟩:=hg
  obtain⟨is1,rv1,p1,_⟩:=I.list q1
  have l1:=rv1.length;obtain⟨⟨old,s1⟩,s4⟩:=st
  refine wpAny_pyNext_enum_end (I.ok.hd hc) s1 s4 p1.isList (by simp; omega) fun h' kk=>⟨rfl,I.turnedL (t':=s.toks) (fun b o hb z=>?_) hf⟩
  simp only[List.mem_cons,List.mem_nil_iff,or_false,not_or]at hb
  exact kk b o hb.2 z
 self:=fun A i s Q E st h=>by
  obtain⟨⟨old,s1⟩,_⟩:=st
  exact wpAny_pyIter_enum s1 h
theorem nr:bootBuiltins "enumerate" = some (.type "enumerate"):=by decide +kernel
def BL(K:PySem.W.Frag)(ta:TA):TI:=fun σ H R=>ta σ H fun vs H1=>∃ a:Addr,vs=[.ref a]∧(∃ xs,H1 a=some (.lst xs))∧R (yI K a) H1
theorem pI(K:PySem.W.Frag)(ta:TA){σ : St}{H:Hp}{R:It→Hp→Prop}:BL K ta σ H R=ta σ H fun vs H1=>∃ a:Addr,vs=[.ref a]∧(∃ xs,H1 a=some (.lst xs))∧R (yI K a) H1:=rfl
theorem t9(n:Addr)(P:Addr→Prop):(∃ i,[V.ref n]=[V.ref i]∧P i)=P n:=propext ⟨fun ⟨_,e,h⟩=>by cases e; exact h,fun h=>⟨n,rfl,h⟩⟩
theorem q8(K:PySem.W.Frag){X:Cx}{elts:List Expr}{k:Nat}{tpos:Pos}{a:Expr}{ta:TA}{p pos:Pos}(hg:Gl X "enumerate") (hm:X.mg "enumerate" = none) (ha:PA X [a] ta) (hs:starEach [a] X.env=[(false,eval a X.env)]:=by rfl) (hK:X.K=K:=by rfl) :
  PI X (.Tuple elts k tpos) (.Call (.Name "enumerate" p) [a] [] pos) (BL K ta):=by
 subst hK;intro pins s σ H R I h
 refine Call_ (ig I hg hm nr (PyProof.Rows.callWith_type1 (bf (ha pos pins s σ H _ I h) fun us s1 ⟨vs,H1,I1,r1,q1⟩=>?_) hs rfl))
 obtain⟨l,e,⟨xs,h1⟩,q⟩:=q1
 subst e;obtain⟨u1,rfl,r1'⟩:=dW r1
 obtain rfl:u1=Value.ref l:=r1'
 obtain⟨hz,its,n,rv,hl⟩ : xs.length≤sizeLine∧∃ (its:List Value) (n:Nat),Vals xs its∧s1.heap.get? l=some { cls:=.type "list", data:=.seq its.toArray n }:=I1.hok l _ h1
 refine call_enumerate_1 hl fun h' a1 a4 a6 kk=>?_
 refine wpAny_pyIter_enum a1 ⟨_,[s1.heap.objs.size+1,s1.heap.objs.size],_,_,H1,rfl,I1.kept (t':=s1.toks) kk,
  x5 (e:=s1.heap.objs.size+1) (it:=s1.heap.objs.size) (Nat.ne_of_gt (Nat.lt_succ_self _)),⟨⟨_,a1⟩,a4⟩,fun b hb=>?_,q⟩
 have hb':s1.heap.objs.size≤b:=by
  simp only[List.mem_cons,List.mem_nil_iff,or_false]at hb
  rcases hb with rfl | rfl <;> first | exact Nat.le_refl _ | exact Nat.le_add_right _ _
 exact I1.fpOk hb' (I1.hok.fresh hb')
section
variable{K:PySem.W.Frag}{a b:Addr}{xs ys:List V}{g:TG}{te:TE}{nT:Nat}{σ : St}{D:Addr}{Q:VK}{H:Hp}
theorem wC{tb:TS}{D:dR}(Pv:Nat→St→Hp→Prop)(h0:Pv 0 σ H)(hl:∀ i σ H,i≤xs.length→Pv i σ H→SqL K H a xs)
  (hs:∀ i x t σ H,xs[i]? = some x→Pv i σ H→H t=none→g (.ref t) σ (upd H t (.tup [.int i,x])) fun σ2 H2=>tb { D with nx:=Pv (i+1),ct:=Pv (i+1),bk:=D.nx } σ2 H2) (hd:∀ σ H,Pv xs.length σ H→D.nx σ H):je (yI K a) g tb D σ H:=by
 refine kK xs.length Pv h0 (fun i σ H hi p=>⟨xs,xs[i],hl i σ H (Nat.le_of_lt hi) p,by simp[hi]⟩) (fun σ H p=>⟨xs,hl _ σ H (Nat.le_refl _) p,Nat.le_refl _⟩) (fun i σ H v H' hi p yl=>?_) hd
 obtain⟨t,x,ht,rfl,rfl,y1⟩:=yl
 exact hs i x t σ H (y1 xs (hl i σ H (Nat.le_of_lt hi) p)) p ht
def v0(n i:Nat)(Pv:Nat→List V→Hp→Prop)(ys:List V)(H:Hp):Prop:=∃ m',m'<n - i∧(m'=n - (i+1)∧i+1≤n∧Pv (i+1) ys H)
theorem mq{n i:Nat}{Pv:Nat→List V→Hp→Prop}{ys:List V}{H:Hp}(hi:i<n)(h:Pv (i+1) ys H):v0 n i Pv ys H:=⟨n - (i+1),by omega,rfl,hi,h⟩
theorem hX{n i:Nat}{Pv:Nat→List V→Hp→Prop}{D:Addr}{ys:List V}{y:V}{H:Hp}(hi:i<n)(hlen:ys.length≤i)(hz:n≤sizeLine)(h1:H D=some (.lst ys))(h2:Pv (i+1) (ys++[y]) (upd H D (.lst (ys++[y])))):jq n i Pv D ys y H:=
 ⟨h1,by omega,n - (i+1),by omega,rfl,hi,h2⟩
def mF(n i:Nat)(Pv:Nat→List V→Hp→Prop)(D:Addr)(ys:List V)(tc:TT)(te:TE)(σ : St)(H:Hp):Prop:=
 tc σ H fun b H4=>if b=true then te σ H4 (jq n i Pv D ys) else v0 n i Pv ys H4
theorem rG{n i:Nat}{Pv:Nat→List V→Hp→Prop}{D:Addr}{ys:List V}{tc:TT}{te:TE}{σ : St}{H:Hp}:mF n i Pv D ys tc te σ H=tc σ H fun b H4=>if b=true then te σ H4 (jq n i Pv D ys) else v0 n i Pv ys H4:=rfl
theorem lJ{J:It}{tc:TT}(n:Nat)(Pv:Nat→List V→Hp→Prop)(h0:Pv 0 [] H)(hgo:∀ i ys H,i<n→Pv i ys H→J.go i H)(hst:∀ ys H,Pv n ys H→J.stop n H)
  (hs:∀ i ys H x H',i<n→Pv i ys H→J.yld i H x H'→g x (σ++List.replicate nT none) H' (mF n i Pv D ys tc te))
  (hd:∀ ys H,Pv n ys H→Q (.ref D) H):gB J g tc te nT σ D Q H:=by
 refine⟨fun i m ys H=>m=n - i∧i≤n∧Pv i ys H,⟨n,by simp,Nat.zero_le _,h0⟩,?_⟩
 rintro i m ys H ⟨rfl,hi,p⟩
 by_cases hlt:i<n
 ·exact .inr ⟨hgo i ys H hlt p,fun x H' y=>hs i ys H x H' hlt p y⟩
 ·have e:i=n:=by omega
  subst e;exact .inl ⟨hst ys H p,hd ys H p⟩
theorem gi{tc:TT}(Pv:Nat→List V→Hp→Prop)(h0:Pv 0 [] H)(hl:∀ i ys H,i≤xs.length→Pv i ys H→SqL K H a xs)
  (hs:∀ i ys H x,xs[i]? = some x→i<xs.length→Pv i ys H→g x (σ++List.replicate nT none) H (mF xs.length i Pv D ys tc te))
  (hd:∀ ys H,Pv xs.length ys H→Q (.ref D) H):gB (ma K a) g tc te nT σ D Q H:=by
 refine lJ xs.length Pv h0 (fun i ys H hi p=>⟨xs,xs[i],hl i ys H (Nat.le_of_lt hi) p,by simp[hi]⟩) (fun ys H p=>⟨xs,hl _ ys H (Nat.le_refl _) p,Nat.le_refl _⟩) (fun i ys H x H' hi p yl=>?_) hd
 obtain⟨rfl,y⟩:=yl
 exact hs i ys _ x (y xs (hl i ys _ (Nat.le_of_lt hi) p)) hi p
theorem sX{tc:TT}{lo:Int}{n:Nat}(Pv:Nat→List V→Hp→Prop)(h0:Pv 0 [] H)
  (hs:∀ i ys H,i<n→Pv i ys H→g (.int (lo+i)) (σ++List.replicate nT none) H (mF n i Pv D ys tc te))
  (hd:∀ ys H,Pv n ys H→Q (.ref D) H):gB (kS lo n) g tc te nT σ D Q H:=by
 refine lJ n Pv h0 (fun i ys H hi p=>hi) (fun ys H p=>Nat.le_refl _) (fun i ys H x H' hi p yl=>?_) hd
 obtain⟨rfl,rfl⟩:=yl
 exact hs i ys _ hi p
end
theorem CA(lo hi:Option Int)(n:Nat):Builtin.Str.strSliceIndices lo hi 1 n=(List.range (HT.sIx n n hi - HT.sIx n 0 lo)).map (HT.sIx n 0 lo + ·):=by
 obtain⟨h1,h2,h3⟩:=jY lo hi n
 rw[← sliceRange_one,← h1,← h2]
 cases lo <;> cases hi <;> rfl
theorem xS(x:Str)(lo hi:Option Int):(Txt.slice x lo hi).cps.toList=(x.cps.toList.drop (HT.sIx x.length 0 lo)).take (HT.sIx x.length x.length hi - HT.sIx x.length 0 lo):=by
 have hn:x.cps.toList.length=x.length:=by simp[Str.length]
 have hb:=HT.sIx_le x.length x.length (Nat.le_refl _) hi;unfold Txt.slice;rw[CA]
 by_cases h:((1:Int) == 1&&((List.range (HT.sIx x.length x.length hi - HT.sIx x.length 0 lo)).map (HT.sIx x.length 0 lo + ·)).length == x.length)=true
 ·rw[if_pos h]
  simp only[List.length_map,List.length_range,Bool.and_eq_true,beq_iff_eq]at h
  have h2:=h.2;rcases Nat.eq_zero_or_pos x.length with z | z
  ·have e:x.cps.toList=[]:=List.eq_nil_of_length_eq_zero (by omega)
   rw[e]; simp
  ·have a0:HT.sIx x.length 0 lo=0:=by omega
   rw[a0,List.drop_zero,List.take_of_length_le (by omega)]
 ·rw[if_neg h]
  show ((List.filterMap _ _).toArray).toList=_
  rw[pick_run]
def Ei:V→Option Int→Option Int→Hp→VK→Prop:=fun x lo hi H Q=>∃ y,x = .str y∧y.length≤sizeLine∧Q (.str (Txt.slice y lo hi)) H
theorem iT{X:Cx}:SlR X Ei:=by
 intro pins s σ H x v vl vu lo hi sl Q I rx hs pl pu h
 obtain⟨y,rfl,hz,q⟩:=h
 obtain⟨t,rfl⟩:=rx
 obtain⟨l,hl,el⟩ : ∃ l:Option (Int × Tok),vl=partValue l∧l.map (·.1)=lo:=by
  cases pl with
  | none=>exact⟨none,rfl,rfl⟩
  | int i t=>exact⟨some (i,t),rfl,rfl⟩
 obtain⟨u,hu,eu⟩ : ∃ l:Option (Int × Tok),vu=partValue l∧l.map (·.1)=hi:=by
  cases pu with
  | none=>exact⟨none,rfl,rfl⟩
  | int i t=>exact⟨some (i,t),rfl,rfl⟩
 subst hl hu el eu;refine⟨"str", _,PySem.F.slot_str_getitem.lookup,typeIs_str _ _ _,wpAny_getItem_str_slice (l:=l) (u:=u) (st:=none) hs rfl (post_val_or_str ⟨Nat.le_trans (Txt.slice_le y _ _) hz,fun t' k=>⟨.str _,H,I.tok k,⟨t',rfl⟩,q⟩⟩)⟩
theorem ut{H:Hp}{Q:VK}(y:Str)(lo hi:Option Int):Ei (.str y) lo hi H Q=(y.length≤sizeLine∧Q (.str (Txt.slice y lo hi)) H):=propext ⟨fun ⟨_,e,h⟩=>by cases e; exact h,fun h=>⟨y,rfl,h⟩⟩
set_option genInjectivity false in
set_option genSizeOf false in
structure IK (prog:Program) (w:World) (κ : Type) [DecidableEq κ] where
 is:Heap→κ→Value→Prop
 hash:κ→Int
 draws:κ→Nat
 deep:Nat
 inj:∀ {h:Heap} {v:Value} {x y:κ},is h x v→is h y v→x=y
 keeps:∀ {h h':Heap} {k:κ} {v:Value} {d:Addr} {o:Obj} {es ep},is h k v→h.get? d=some o→o.data = .dict es ep→Heap.SameBut d h h'→is h' k v
 pyHash:∀ {A:Around} {E:Value→Shared→Prop} {s:Shared} {k:κ} {v:Value} {Q:Int→Shared→Prop},A.units+deep<cLine→is s.heap k v→Q (hash k) { s with toks:=s.toks+draws k }→
  wpAny (model prog w) A (PySem.pyHash v) Q E s
 eqBool:∀ {A:Around} {E:Value→Shared→Prop} {s:Shared} {x y:κ} {u v:Value} {Q:Bool→Shared→Prop},A.units+deep<cLine→is s.heap x u→is s.heap y v→Q (decide (x=y)) s→
  wpAny (model prog w) A (PySem.eqBool u v) Q E s
 quiet:∀ {A:Around} {E:Value→Shared→Prop} {s:Shared} {k:κ} {v:Value} {n:Nat} {Q:Bool→Shared→Prop},is s.heap k v→Q true s→wpAny (model prog w) A (eqIsQuiet (n+deep) v) Q E s
section
variable{prog:Program}{w:World}{κ : Type}[DecidableEq κ](K:IK prog w κ)
inductive IsItems (h:Heap):List κ→List Value→Prop
 | nil:IsItems h [] []
 | cons {k:κ} {v:Value} {ks:List κ} {vs:List Value}:K.is h k v→IsItems h ks vs→IsItems h (k::ks) (v::vs)
def IsTupK(h:Heap)(ks:List κ)(v:Value):Prop:=∃ a o items n,v = .ref a∧h.get? a=some o∧o.cls = .type "tuple" ∧ o.data = .seq items n∧IsItems K h ks items.toList
variable{K}
theorem IsItems.inj{h:Heap}:∀ {x y:List κ} {vs:List Value},IsItems K h x vs→IsItems K h y vs→x=y
 | _,_,_,.nil,.nil=>rfl
 | _,_,_,.cons a b,.cons c d=>by rw[K.inj a c,IsItems.inj b d]
theorem IsItems.keeps{h h':Heap}{d:Addr}{o:Obj}{es ep}(ho:h.get? d=some o)(hd:o.data = .dict es ep)(hs:Heap.SameBut d h h'):∀ {x:List κ} {vs:List Value},IsItems K h x vs→IsItems K h' x vs
 | _,_,.nil=>.nil
 | _,_,.cons a b=>.cons (K.keeps a ho hd hs) (b.keeps ho hd hs)
theorem IsItems.len{h:Heap}:∀ {x:List κ} {vs:List Value},IsItems K h x vs→x.length=vs.length
 | _,_,.nil=>rfl
 | _,_,.cons _ b=>by rw[List.length_cons,List.length_cons,b.len]
def iQ(K:IK prog w κ)(ks:List κ):Nat:=(ks.map K.draws).sum
def rg(K:IK prog w κ)(ks:List κ):Int:=reduceHash (Builtin.Tuple.tupleHashOf (ks.map K.hash))
theorem j1{A:Around}{E:Value→Shared→Prop}{s:Shared}{ks:List κ}{v:Value}{Q:Int→Shared→Prop}(hu:A.units+(K.deep+1)<cLine)(hk:IsTupK K s.heap ks v)(h:Q (rg K ks) { s with toks:=s.toks+(iQ K ks+1) }) :
  wpAny (model prog w) A (PySem.pyHash v) Q E s:=by
 obtain⟨a,o,items,n,rfl,ho,hc,hd,hi⟩:=hk
 have hT:s.TypeIs (.ref a) "tuple" := ⟨o,ho,hc⟩
 unfold PySem.pyHash
 first | unfold pyHashByItsType | skip
 first | refine wpAny_bind (wpAny_cRoomFor_or (.inr (by omega)) ?_) | skip
 refine wpAny_bind (wpAny_specialOf hT PySem.F.slot_tuple_hash.lookup ?_)
 rw[if_neg (by rw[beq_builtin_none]; exact Bool.false_ne_true)]
 refine wpAny_bind (wpAny_specialOf hT PySem.F.slot_tuple_hash.lookup ?_)
 show wpAny _ _ (callSpecialIfBoundUnlessNone? (.ref a) "__hash__" _ >>= _) Q E s
 refine wpAny_bind (wpAny_callSpecialIfBoundUnlessNone?_slot hT PySem.F.slot_tuple_hash (wpAny_call_entry PySem.F.slot_tuple_hash hT
  PySem.F.entry_tuple_hash ?_ (PySem.F.args_tuple_hash_1 _)))
 show wpAny _ _ (Builtin.Tuple.tupleItemsOf (.ref a) >>= _) _ _ s
 refine wpAny_bind (wpAny_tupleItemsOf ho hd (wpAny_bind ?_))
 rw[← Array.forIn_toList];refine wpAny_forIn_list _ (fun rest (b:Array Int) s'=>∃ done left,ks=done++left∧IsItems K s.heap left rest∧b.toList=done.map K.hash∧s'={ s with toks:=s.toks+iQ K done }) _ ?_ ?_ _ _ ⟨[],ks,rfl,hi,rfl,rfl⟩
 ·rintro x rest b s' ⟨done,left,rfl,hl,hb,rfl⟩
  cases hl with
  | @cons k _ ks' _ h1 hl'=>
   have e:iQ K (done++[k])=iQ K done+K.draws k:=by simp[iQ]
   refine wpAny_bind (K.pyHash (show A.in1.units+K.deep<cLine from by show A.units+1+K.deep<cLine; omega) h1 ?_)
   have fin:∃ done' left',done++k::ks'=done'++left'∧IsItems K s.heap left' rest∧(b.push (K.hash k)).toList=done'.map K.hash∧({ s with toks:=s.toks+iQ K done+K.draws k }:Shared)={ s with toks:=s.toks+iQ K done' }:=
    ⟨done++[k],ks',by simp,hl',by simp[hb],by rw[e,Nat.add_assoc]⟩
   first
    | exact wpAny_pure fin
    | exact wpAny_bind (wpAny_pure (wpAny_pure fin))
 ·rintro b s' ⟨done,left,rfl,hl,hb,rfl⟩
  cases hl;rw[List.append_nil]at h
  show wpAny _ _ (retInt (Builtin.Tuple.tupleHashOf b.toList)) _ _ _
  rw[hb];refine wpAny_ret_mkInt ?_
  unfold rg reduceHash at h;show wpAny _ _ (if (decide (-(2:Int) ^ 63≤Builtin.Tuple.tupleHashOf (done.map K.hash))&&decide (Builtin.Tuple.tupleHashOf (done.map K.hash)<2 ^ 63))=true then _ else _) Q E _
  by_cases hr:(decide (-(2:Int) ^ 63≤Builtin.Tuple.tupleHashOf (done.map K.hash))&&decide (Builtin.Tuple.tupleHashOf (done.map K.hash)<2 ^ 63))=true
  ·rw[if_pos hr]at h ⊢
   exact wpAny_pure (by simpa [Nat.add_assoc] using h)
  ·rw[if_neg hr]at h ⊢
   exact wpAny_bind (wpAny_rule (wpAny_pure (by simpa [Nat.add_assoc] using h)))
theorem uR{A:Around}{E:Value→Shared→Prop}{s:Shared}{x y:List κ}{a b:Addr}{P:Fin→Shared→Prop}(hu:A.units+K.deep<cLine)(hx:IsTupK K s.heap x (.ref a))(hy:IsTupK K s.heap y (.ref b))(h:P (.done (.ret (.bool (decide (x=y))))) s) :
  wpAny (model prog w) A (Builtin.«tuple.__eq__» ⟨[.ref a,.ref b],[]⟩) P E s:=by
 obtain⟨_,oa,xs,na,e1,hoa,ca,hda,hia⟩:=hx
 obtain⟨_,ob,ys,nb,e2,hob,cb,hdb,hib⟩:=hy
 cases e1
 cases e2;show wpAny _ _ (isInstance (.ref b) (.type "tuple") >>= _) _ _ s
 refine wpAny_bind (wpAny_isInstance ⟨ob,hob,cb⟩ isSubtype_tuple_tuple ?_)
 simp only[Bool.not_true,Bool.false_eq_true,if_false]
 refine wpAny_bind (wpAny_tupleItemsOf hoa hda (wpAny_bind (wpAny_tupleItemsOf hob hdb (wpAny_bind ?_))))
 refine wpAny_forIn_list _ (fun rest r s'=>r.1=none∧s'=s∧∃ x' y' xs' ys',rest=List.zip xs' ys'∧IsItems K s.heap x' xs'∧IsItems K s.heap y' ys'∧decide (x'=y')=decide (x=y)∧(xs'.length == ys'.length)=(xs.size == ys.size)) _ ?_ ?_ _ _
  ⟨rfl,rfl,x,y,xs.toList,ys.toList,rfl,hia,hib,rfl,by simp⟩
 ·rintro⟨u,v⟩ rest r s' ⟨hr,rfl,x',y',xs',ys',hz,hx',hy',hdec,hlen⟩
  cases hx' with
  | nil=>simp at hz
  | @cons k1 u' x'' xs'' h1 hx''=>
   cases hy' with
   | nil=>simp at hz
   | @cons k2 v' y'' ys'' h2 hy''=>
    simp only[List.zip_cons_cons,List.cons.injEq,Prod.mk.injEq]at hz
    obtain⟨⟨rfl,rfl⟩,rfl⟩:=hz
    refine wpAny_bind (K.eqBool (x:=k1) (y:=k2) hu h1 h2 ?_)
    by_cases hk:k1=k2
    ·subst hk
     rw[decide_eq_true rfl];simp only[Bool.not_true,Bool.false_eq_true,if_false]
     refine wpAny_pure ⟨rfl,rfl,x'',y'',xs'',ys'',rfl,hx'',hy'',?_,by simpa using hlen⟩
     rw[← hdec]
     by_cases hxy:x''=y'' <;> simp[hxy]
    ·rw[decide_eq_false hk]
     simp only[Bool.not_false,if_true]
     have hf:decide (x=y)=false:=by rw[← hdec]; simp[hk]
     rw[hf]at h
     exact wpAny_bind (wpAny_pure (wpAny_pure (wpAny_pure h)))
 ·rintro⟨r1,r2⟩ s' ⟨hr,rfl,x',y',xs',ys',hz,hx',hy',hdec,hlen⟩
  simp only at hr
  subst hr;refine wpAny_pure ?_
  have hfin:(xs.size == ys.size)=decide (x=y):=by
   rw[← hdec,← hlen]
   cases hx' with
   | nil=>cases hy' <;> simp
   | cons _ _=>
    cases hy' with
    | nil=>simp
    | cons _ _=>simp at hz
  show P (.done (.ret (.bool (xs.size == ys.size)))) s'
  rw[hfin]; exact h
theorem ng{A:Around}{E:Value→Shared→Prop}{s:Shared}{x y:List κ}{u v:Value}{Q:Bool→Shared→Prop}(hu:A.units+(K.deep+1)<cLine)(hx:IsTupK K s.heap x u)(hy:IsTupK K s.heap y v)(h:Q (decide (x=y)) s) :
  wpAny (model prog w) A (PySem.eqBool u v) Q E s:=by
 have hx0:=hx;have hy0:=hy;obtain⟨a,oa,xs,na,rfl,hoa,ca,hda,hia⟩:=hx
 obtain⟨b,ob,ys,nb,rfl,hob,cb,hdb,hib⟩:=hy
 unfold PySem.eqBool
 try with_reducible refine wpAny_holding ?_
 show wpAny _ _ (if (Value.ref a == Value.ref b)=true then _ else _) Q E s
 by_cases hab:(Value.ref a == Value.ref b)=true
 ·rw[if_pos hab]
  have e:a=b:=by have:=eq_of_beq hab; injection this
  subst e;rw[hoa]at hob
  cases hob;rw[hda]at hdb
  injection hdb with e1 _
  subst e1;rw[decide_eq_true (hia.inj hib)]at h
  exact wpAny_bind (wpAny_rule (wpAny_pure h))
 ·rw[if_neg hab]
  have ta:s.TypeIs (.ref a) "tuple" := ⟨oa,hoa,ca⟩
  have tb:s.TypeIs (.ref b) "tuple" := ⟨ob,hob,cb⟩
  refine wpAny_bind (wpAny_richCompare_same_room (op:=.Eq) ta tb PySem.F.slot_tuple_eq (wpAny_call_entry PySem.F.slot_tuple_eq ta PySem.F.entry_tuple_eq ?_ (PySem.F.args_tuple_eq_2 _ _)) (by omega))
  refine uR (K:=K) ?_ hx0 hy0 ⟨_,rfl,(fun e=>nomatch e),wpAny_truthy_bool h⟩
  show A.units+1+K.deep<cLine
  omega
theorem jd{A:Around}{E:Value→Shared→Prop}{s:Shared}{ks:List κ}{v:Value}{n:Nat}{Q:Bool→Shared→Prop}(hk:IsTupK K s.heap ks v)(h:Q true s):wpAny (model prog w) A (eqIsQuiet (n+(K.deep+1)) v) Q E s:=by
 obtain⟨a,o,items,m,rfl,ho,hc,hd,hi⟩:=hk
 have hT:s.TypeIs (.ref a) "tuple" := ⟨o,ho,hc⟩
 rw[show n+(K.deep+1)=(n+K.deep)+1 from rfl];unfold eqIsQuiet;refine wpAny_bind (wpAny_specialOf hT PySem.F.slot_tuple_eq.lookup ?_)
 show wpAny _ _ (isInstance (.ref a) (.type "tuple") >>= _) _ _ s
 refine wpAny_bind (wpAny_isInstance hT isSubtype_tuple_tuple ?_)
 simp only[Bool.not_true,Bool.false_eq_true,if_false]
 refine wpAny_bind (wpAny_seqItems ho hd (wpAny_bind ?_))
 show wpAny _ _ (forIn items _ _) _ _ s
 rw[← Array.forIn_toList];refine wpAny_forIn_list _ (fun rest r s'=>r.1=none∧s'=s∧∃ ks',IsItems K s.heap ks' rest) _ ?_ ?_ _ _ ⟨rfl,rfl,ks,hi⟩
 ·rintro v rest r s' ⟨hr,rfl,ks',hall⟩
  cases hall with
  | cons h1 h2=>
   refine wpAny_bind (K.quiet h1 ?_)
   simp only[Bool.not_true,Bool.false_eq_true,if_false]
   exact wpAny_pure ⟨rfl,rfl,_,h2⟩
 ·rintro⟨r1,r2⟩ s' ⟨hr,rfl,_⟩
  simp only at hr
  subst hr;exact wpAny_pure h
def wx(K:IK prog w κ):IK prog w (List κ) where
 is:=IsTupK K
 hash:=rg K
 draws:=fun ks=>iQ K ks+1
 deep:=K.deep+1
 inj:=by
  rintro h v x y ⟨a,oa,xs,na,rfl,hoa,ca,hda,hia⟩ ⟨b,ob,ys,nb,e,hob,cb,hdb,hib⟩
  cases e;rw[hoa]at hob
  cases hob;rw[hda]at hdb
  injection hdb with e1 _
  subst e1;exact hia.inj hib
 keeps:=by
  rintro h h' k v d o es ep ⟨a,oa,xs,na,rfl,hoa,ca,hda,hia⟩ ho hd hs
  have hne:a≠d:=by
   rintro rfl
   rw[hoa]at ho
   cases ho;rw[hd]at hda; cases hda
  exact⟨a,oa,xs,na,rfl,(hs.2 a hne).trans hoa,ca,hda,hia.keeps ho hd hs⟩
 pyHash:=fun hu hk h=>j1 hu hk h
 eqBool:=fun hu hx hy h=>ng hu hx hy h
 quiet:=fun hk h=>jd hk h
def A8(K:IK prog w κ)(hd:K.deep≤7):HeapKind prog w (List κ) where
 is:=fun h k a=>IsTupK K h k (.ref a)
 hash:=rg K
 draws:=fun ks=>iQ K ks+1
 room:=fun A=>A.units+(K.deep+1)<cLine
 inj:=(wx K).inj
 keeps:=(wx K).keeps
 pyHash:=fun hu hk h=>j1 hu hk h
 eqBool:=fun hu hx hy h=>ng hu hx hy h
 quiet:=fun {A E s k a Q} hk h=>by
  have q:=jd (n:=7 - K.deep) (A:=A) (E:=E) hk h
  rwa [show 7 - K.deep+(K.deep+1)=8 by omega]at q
end
def jp:Option Int→V
 | none=>.non
 | some i=>.int i
theorem yQ{x y:Option Int}{v:Value}(a:RelV (jp x) v)(b:RelV (jp y) v):x=y:=by
 have e:=a.inj b
 cases x <;> cases y <;> simp_all [jp]
theorem oF(x:Option Int):b7 (jp x)=true:=by cases x <;> rfl
theorem Ck(x y:Option Int):fH (jp x) (jp y)=decide (x=y):=by
 cases x with
 | none=>cases y <;> rfl
 | some i=>
  cases y with
  | none=>rfl
  | some j=>
   show (i == j)=_
   by_cases h:i=j <;> simp[h]
theorem xW{prog:Program}{w:World}{A:Around}{E:Value→Shared→Prop}{s:Shared}{Q:Int→Shared→Prop}(h:Q 0xFCA86420 { s with toks:=s.toks+1 }):wpAny (model prog w) A (PySem.pyHash .none) Q E s:=by
 have hT:s.TypeIs .none "NoneType" := rfl
 unfold PySem.pyHash
 first | unfold pyHashByItsType | skip
 refine wpAny_bind ?_
 rw[cRoomFor,if_neg (by decide)]
 refine wpAny_pure (wpAny_bind (wpAny_specialOf hT PySem.F.slot_NoneType_hash.lookup ?_))
 rw[if_neg (by rw[beq_builtin_none]; exact Bool.false_ne_true)]
 refine wpAny_bind (wpAny_specialOf hT PySem.F.slot_NoneType_hash.lookup ?_)
 show wpAny _ _ (callSpecialIfBoundUnlessNone? .none "__hash__" _ >>= _) Q E s
 refine wpAny_bind (wpAny_callSpecialIfBoundUnlessNone?_slot hT PySem.F.slot_NoneType_hash (wpAny_call_entry PySem.F.slot_NoneType_hash hT
  PySem.F.entry_NoneType_hash ?_ (PySem.F.args_NoneType_hash_1 _)))
 show wpAny _ _ (retInt 0xFCA86420) _ _ s
 refine wpAny_ret_mkInt ?_
 exact wpAny_pure h
def fq(prog:Program)(w:World):IK prog w (Option Int) where
 is:=fun _ k v=>RelV (jp k) v
 hash:=fun k=>match k with
  | none=>0xFCA86420
  | some i=>hashInt i
 draws:=fun _=>1
 deep:=0
 inj:=fun a b=>yQ a b
 keeps:=fun a _ _ _=>a
 pyHash:=fun {A E s k v Q} _ hk h=>by
  cases k with
  | none=>
   obtain rfl:v=Value.none:=hk
   exact xW h
  | some i=>
   obtain⟨t,rfl⟩:=(show ∃ t,v=Value.int i t from hk)
   exact wpAny_pyHash_int h
 eqBool:=fun {A E s x y u v Q} _ hx hy h=>by
  have q:=mr (A:=A) (s:=s) hx hy (oF x) (oF y);rw[Ck]at q
  exact q prog w E Q h
 quiet:=fun {A E s k v n Q} hk h=>by
  have e:carriedByValue v=true:=by
   cases k with
   | none=>obtain rfl:v=Value.none:=hk; rfl
   | some i=>obtain⟨t,rfl⟩:=(show ∃ t,v=Value.int i t from hk); rfl
  rw[eqIsQuiet_byValue _ e];exact wpAny_pure h
abbrev NI:=Sum Int (List (Option Int))
theorem IsTupK.tup{prog:Program}{w:World}{κ : Type}[DecidableEq κ]{K:IK prog w κ}{h:Heap}{l:List κ}{v:Value}(x:IsTupK K h l v):∃ a its,v = .ref a∧h.IsTuple a its:=by
 obtain⟨a,o,items,n,rfl,ho,hc,hd,hi⟩:=x
 exact⟨a,items,rfl,o,ho,hc,n,hd⟩
theorem uD{A:Around}{prog:Program}{w:World}(hu:A.units+1<cLine):A.units+((fq prog w).deep+1)<cLine:=hu
abbrev zO:=Int × List (Option Int)
def nk(k:zO):List NI:=[.inl k.1,.inr k.2]
section
variable{X:Cx}{pins:List (Addr × Obj)}{σ : St}{H:Hp}{s:Shared}{a b:Addr}{k:zO}{kvs:List (zO × V)}
theorem Paired.snoc{α β : Type}{F:α→β→Prop}{x:α}{y:β}(h:F x y):∀ {l:List α} {m:List β},Paired F l m→Paired F (l++[x]) (m++[y])
 | _,_,.nil=>.cons h .nil
 | _,_,.cons r t=>.cons r (Paired.snoc h t)
end
end L2
namespace L2
open PySem PySem.Spec PyProof.Rows PySem.SeqAt
section
variable{X:Cx}
def HK(K:PySem.W.Frag):R2:=fun x y H Q=>sw K x y H Q∨∃ a kvs k v,x = .ref a∧y=kV k∧H a=some (.dK kvs)∧bY kvs k=some v∧Q v H
theorem qT(K:PySem.W.Frag)(hK:X.K=K:=by rfl):IxR X (HK K):=by
 intro value slice pins s σ H x y v u Q I rx ry h hs
 rcases h with h | ⟨a,kvs,k,z,rfl,rfl,e,l,q⟩
 ·exact aI K hK value slice pins s σ H x y v u Q I rx ry h hs
 ·cases rx
  obtain⟨_,hd,vs,rel,dd⟩:=lU I.hok (.inl e)
  obtain⟨w',hw,rw'⟩:=RelO.some_of (v:=z) (o:=valueAt vs k) (by rw[← l]; exact rel.val k)
  have hl:typeLookup (.type "dict") "__getitem__" = pure (some (.builtin "dict.__getitem__")):=PySem.F.slot_dict_getitem.lookup
  exact subscriptTail_builtinR (x:=w') dd.typeIs hl (wpAny_getItem_of (pz ry) dd.mapOf hw ⟨rfl,z,H,I.tok _,rw',q⟩) hs
def FZ:rZ:=fun o i v H Q=>∃ a kvs k,o = .ref a∧i=kV k∧H a=some (.dK kvs)∧kvs.length<sizeLine∧Q (upd H a (.dK (cS kvs k v)))
theorem vV{n:Nat}(hr:Room n X.A):PSet X FZ:=by
 intro pins s σ H o i v ov iv u Q I ro ri rv h
 obtain⟨a,kvs,k,rfl,rfl,e,hl,q⟩:=h
 cases ro;exact xp (by have:=hr.un; omega) I (DPut.k e hl) ri rv fun s' I'=>⟨_,I',q⟩
end
theorem CB{X:Cx}:MtR X "list.pop" zk:=Fj
section
variable{K:PySem.W.Frag}{H:Hp}{Q:VK}
theorem uq(p:Addr):zk (.ref p) [] H Q=∃ xs y,H p=some (.lst xs)∧xs[xs.length - 1]? = some y∧Q y (upd H p (.lst xs.dropLast)):=
 propext ⟨fun ⟨_,xs,y,e1,_,q⟩=>by cases e1; exact⟨xs,y,q⟩,fun ⟨xs,y,q⟩=>⟨p,xs,y,rfl,rfl,q⟩⟩
end
theorem C0{X:Cx}(K:PySem.W.Frag){o:Expr}{to:TE}{name:Str}{apos cpos:Pos}{T id:String}{r:V→List V→Hp→VK→Prop}(pa:PlainAttrs T)(slot:Slot T name id)(hty:typeOf (.builtin id)=pure (.type "method_descriptor")) (hm:MtR X id r) (ho:PE X o to)
  (hbase:attributeBase o name X.env (eval o X.env)=eval o X.env:=by rfl) (hline:(apos.endLine == cpos.line)=true:=by rfl) (hK:X.K=K:=by rfl):PE X (.Call (.Attribute o name apos) [] [] cpos) (A0 K T r to):=hK ▸ D1 pa slot hty hm ho hbase hline
theorem s_:∀ (xs:List V) (us:List Value),xs.length=us.length→(∀ (j:Nat) x u,xs[j]? = some x→us[j]? = some u→RelV x u)→Vals xs us
 | [],[],_,_=>.nil
 | [],u::us,hl,_=>by simp at hl
 | x::xs,[],hl,_=>by simp at hl
 | x::xs,u::us,hl,h=>.cons (h 0 x u rfl rfl) (s_ xs us (by simpa using hl) fun j a b e1 e2=>h (j+1) a b e1 e2)
section
variable{X:Cx}
theorem l7{α β : Type}{F:α→β→Prop}:∀ {l:List α} {m:List β} {j:Nat} {a:α} {b:β},Paired F l m→l[j]? = some a→m[j]? = some b→F a b
 | _,_,0,_,_,.cons h _,e1,e2=>by
  cases e1; cases e2; exact h
 | _,_,j+1,_,_,.cons _ t,e1,e2=>l7 (j:=j) t e1 e2
 | _,_,0,_,_,.nil,e1,_=>by cases e1
 | _,_,_+1,_,_,.nil,e1,_=>by cases e1
end
section
variable{prog:Program}{w:World}{K:Type}[DecidableEq K]{knd:KeyKind prog w K}{A:Around}{E:Value→Shared→Prop}{s:Shared}{G:SetTable→Prop}
def FG(knd:KeyKind prog w K)(l:List (Int × Value)):Prop:=l.Pairwise fun e e'=>∀ k,knd.is k e.2=true→knd.is k e'.2=false
structure Em (knd:KeyKind prog w K) (G:SetTable→Prop) (o:Obj) (es:Array (Int × Value)) (ep:Nat) (t:SetTable) (S:K→Bool) (n:Nat):Prop where
 ex:o.ExactSet
 dat:o.data = .set es ep t
 el:ElemsOf knd es.toList
 mem:∀ k,S k=true ↔ ∃ e∈es.toList,knd.is k e.2=true
 few:es.size<scanBound
 fit:t.fits es.size=true
 num:es.size=n
 good:G t
 apart:FG knd es.toList
theorem stored{h:Heap}{a:Addr}{o:Obj}{es:Array (Int × Value)}{ep:Nat}{t:SetTable}{S:K→Bool}{n:Nat}{es':Array (Int × Value)}{t':SetTable}{S':K→Bool}{n':Nat}(ho:h.get? a=some o)(T:Em knd G o es ep t S n)
  (T':∀ o',o'.ExactSet→o'.data = .set es' (ep+1) t'→Em knd G o' es' (ep+1) t' S' n'):∃ o',(h.update a (Obj.putSet es' t')).get? a=some o'∧Em knd G o' es' (ep+1) t' S' n':=by
 have hp:=putSet_of es' t' T.dat;have hg:=Heap.get?_update_self (Obj.putSet es' t') ho (by rw[hp]; rfl)
 rw[hp]at hg
 exact⟨_,hg,T' _ T.ex rfl⟩
end
end L2
namespace L2
open PySem PySem.Spec PyProof PyProof.Rows
section
variable{X:Cx}
theorem Fm:bootBuiltins "max" = some (.builtin "max"):=by decide +kernel
end
inductive Ents (w:World):List DictEntry→List (Str × V)→Prop
 | nil:Ents w [] []
 | cons {x:Str} {t:Tok} {y:V} {v:Value} {es:List DictEntry} {kvs:List (Str × V)}:RelV y v→Ents w es kvs→Ents w (⟨PyData.keyHash w.params x,.str x t,v⟩::es) ((x,y)::kvs)
theorem Ents.vs{P:Program}{w:World}{es:List DictEntry}{kvs:List (Str × V)}(h:Ents w es kvs):∃ vs:List (Str × Value),KV kvs vs∧PySem.Pairs (PySem.strKind P w) es vs∧vs.map (·.1)=kvs.map (·.1)∧∀ e∈es,∃ k,(PySem.strKind P w).is k e.key=true∧e.hash=(PySem.strKind P w).hash k:=by
 induction h with
 | nil=>exact⟨[],.nil,.nil,rfl,fun _ h=>nomatch h⟩
 | @cons x t y v es kvs r _ ih=>
  obtain⟨vs,h1,h2,h3,h4⟩:=ih
  have hx:(PySem.strKind P w).is x (.str x t)=true:=by show Value.isStrOf x (.str x t)=true; simp[Value.isStrOf]
  refine⟨(x,v)::vs,.cons ⟨rfl,r⟩ h1,.cons hx rfl h2,by rw[List.map_cons,List.map_cons,h3],fun e he=>?_⟩
  rcases List.mem_cons.mp he with rfl | he
  ·exact⟨x,hx,rfl⟩
  ·exact h4 e he
structure ModD (w:World) (K:PySem.W.Frag) (d:Addr) (kvs:List (Str × V)):Prop where
 low:(d == sysModules)=false
 nd:(kvs.map (·.1)).Nodup
 at':∃ (o:Obj) (es:List DictEntry) (ep:Nat),K.lookup d=some o∧o.ExactDict∧o.data = .dict es.toArray ep∧Ents w es kvs
section
variable{X:Cx}{pins:List (Addr × Obj)}{σ : St}{H:Hp}{s:Shared}{d:Addr}{kvs:List (Str × V)}
theorem ModD.dict(h:ModD X.w X.K d kvs)(I:Inv X pins σ H s):∃ vs:List (Str × Value),KV kvs vs∧s.heap.DictOf (PySem.strKind X.prog X.w) d vs∧∃ ob,s.heap.get? d=some ob∧ob.dict=none:=by
 obtain⟨o,es,ep,h1,h2,h3,h4⟩:=h.at'
 obtain⟨vs,r1,r2,r3,r4⟩:=h4.vs (P:=X.prog)
 have e:=I.kIn d o h1;exact⟨vs,r1,⟨o,es.toArray,ep,e,h2,h3,fun x hx=>r4 x (by simpa using hx),by simpa using r2,by rw[r3]; exact h.nd⟩,o,e,h2.2.1⟩
theorem wF{P:Program}{w:World}{k:Str}{u:Value}(r:RelV (.str k) u):(PySem.strKind P w).is k u=true:=by
 obtain⟨t,rfl⟩:=r
 show Value.isStrOf k (.str k t)=true
 simp[Value.isStrOf]
end
section
variable{X:Cx}
def JA(w:World)(K:PySem.W.Frag):R2:=fun x y H Q=>∃ d kvs k z,x = .ref d∧y = .str k∧ModD w K d kvs∧bY kvs k=some z∧Q z H
theorem G6(w:World)(K:PySem.W.Frag)(hw:X.w=w:=by rfl)(hK:X.K=K:=by rfl):IxR X (JA w K):=by
 subst hw hK;intro value slice pins s σ H x y v u Q I rx ry h hs
 obtain⟨d,kvs,k,z,rfl,rfl,m,l,q⟩:=h
 cases rx;obtain⟨vs,rel,dd,_⟩:=m.dict I
 obtain⟨w',hw,rw'⟩:=RelO.some_of (v:=z) (o:=valueAt vs k) (by rw[← l]; exact rel.val k)
 have hl:typeLookup (.type "dict") "__getitem__" = pure (some (.builtin "dict.__getitem__")):=PySem.F.slot_dict_getitem.lookup
 exact subscriptTail_builtinR (x:=w') dd.typeIs hl (wpAny_getItem_of (wF ry) dd.mapOf hw ⟨rfl,z,H,I.tok _,rw',q⟩) hs
def FY(w:World)(K:PySem.W.Frag):V→List V→Hp→VK→Prop:=fun x xs H Q=>∃ d kvs k z,x = .ref d∧xs=[.str k,z]∧ModD w K d kvs∧Q ((bY kvs k).getD z) H
theorem CL(w:World)(K:PySem.W.Frag)(hw:X.w=w:=by rfl)(hK:X.K=K:=by rfl):MtR X "dict.get" (FY w K):=by
 subst hw hK;intro pins s σ H x vs v us Q I rx rv h
 obtain⟨d,kvs,k,z,rfl,rfl,m,q⟩:=h
 cases rx;obtain⟨u,r,rfl,ru,rr⟩:=pC rv
 obtain⟨vs,rel,dd,_⟩:=m.dict I
 refine call_meetsIn PySem.F.slot_dict_get dd.typeIs PySem.F.entry_dict_get (PySem.F.args_dict_get_3 _ _ _) (meets_dict_get_default (PySem.strKind X.prog X.w) d (wF ru) m.low r) ⟨_,dd.mapOf,_,H,I.tok _,?_,q⟩
 exact(rel.val k).getD rr
def Fi(w:World)(K:PySem.W.Frag)(r:V→List V→Hp→VK→Prop)(to:TE)(t:TA):TE:=fun σ H Q=>to σ H fun x H1=>(∃ d kvs,x = .ref d∧ModD w K d kvs)∧t σ H1 fun xs H2=>r x xs H2 Q
theorem Ef{o e:Expr}{es:List Expr}{to:TE}{t:TA}{name:Str}{apos cpos:Pos}{id:String}{r:V→List V→Hp→VK→Prop}(w:World)(K:PySem.W.Frag)(pa:PlainAttrs "dict") (slot:Slot "dict" name id) (hty:typeOf (.builtin id)=pure (.type "method_descriptor")) (hm:MtR X id r) (ho:PE X o to) (ha:PA X (e::es) t)
  (hbase:attributeBase o name X.env (eval o X.env)=eval o X.env:=by rfl)
  (hfew:((backTo cpos (starEach (e::es) X.env)).all (fun x=>!x.1)&&(backToKw cpos (keywordEach [] X.env)).all (fun x=>x.1.isSome)&&decide ((e::es).length+([]:List Keyword).length+(if ([]:List Keyword).isEmpty then 0 else 1)<30))=true:=by rfl)
  (hline:(apos.endLine == cpos.line)=true:=by rfl) (hs:starEach (e::es) X.env=(false,eval e X.env)::starEach es X.env:=by rfl) (hplain:(backTo cpos (starEach es X.env)).any (·.1)=false:=by rfl) (hw:X.w=w:=by rfl) (hK:X.K=K:=by rfl) :
  PE X (.Call (.Attribute o name apos) (e::es) [] cpos) (Fi w K r to t):=by
 subst hw hK;intro pins s σ H Q I h
 refine wpAny_Call_method_late hbase hfew hline rfl (bf (ho pins s σ H _ I h) fun v s1 ⟨x,H1,I1,r1,ty,q1⟩=>?_)
 obtain⟨d,kvs,rfl,m⟩:=ty
 have e1:v = .ref d:=r1
 subst e1;obtain⟨vs,rel,dd,ob,eo,en⟩:=m.dict I1
 refine⟨"dict", id,pa,slot,hty,dd.typeIs,fun a ea=>⟨ob,by cases ea; exact eo,en⟩,?_⟩
 have hA:=ha cpos pins s1 σ H1 _ I1 q1;rw[hs]at hA ⊢
 refine Calls.callWith_builtin (by show (false||(backTo cpos (starEach es X.env)).any (·.1))=false; rw[hplain] <;> rfl) (Calls.evalArgs_plain ?_)
 exact bf hA fun us s2 ⟨vs,H2,I2,r2,q2⟩=>hm pins s2 σ H2 _ vs _ us Q I2 r1 r2 q2
end
theorem uH{w:World}{K:PySem.W.Frag}{r:V→List V→Hp→VK→Prop}{to:TE}{t:TA}{σ : St}{H:Hp}{Q:VK}:Fi w K r to t σ H Q=to σ H fun x H1=>(∃ d kvs,x = .ref d∧ModD w K d kvs)∧t σ H1 fun xs H2=>r x xs H2 Q:=rfl
section
variable{prog:Program}{w:World}{A:Around}{E:Value→Shared→Prop}{s:Shared}
def TSt(i t:Addr)(zs:Array Value)(k:Nat)(h:Heap):Prop:=h.IsTupleIter i t k∧h.IsTuple t zs
theorem TSt.ext{i t b:Addr}{zs:Array Value}{k:Nat}{h h':Heap}(x:TSt i t zs k h)(hs:Heap.ExtBut b h h')(n1:i≠b)(n2:t≠b):TSt i t zs k h':=⟨x.1.extBut hs n1,x.2.extBut hs n2⟩
theorem lL{i t:Addr}{k:Nat}{zs:Array Value}{v:Value}{Q:Value→Shared→Prop}(st:TSt i t zs k s.heap)(nit:t≠i)(hv:zs[k]? = some v)
  (q:∀ h',TSt i t zs (k+1) h'→Heap.SameBut i s.heap h'→Q v { s with heap:=h' }):wpAny (model prog w) A (Builtin.SmallTypes.nextOf (.ref i)) Q E s:=by
 obtain⟨hi,ht⟩:=id st
 obtain⟨ob,e1,e2,e3⟩:=id hi
 obtain⟨ot,f1,_,m,f2⟩:=id ht
 unfold Builtin.SmallTypes.nextOf;refine wpAny_bind (wpAny_callSpecial?_slot (name:=Str.ofString "__next__") hi.typeIs PySem.F.slot_tuple_iterator_next (wpAny_call_entry PySem.F.slot_tuple_iterator_next hi.typeIs PySem.F.entry_tuple_iterator_next ?_ (PySem.F.args_tuple_iterator_next_1 _)))
 show wpAny _ _ (field (.ref i) 0 >>= _) _ _ s
 refine wpAny_bind (wpAny_field e1 e3 (x:=.ref t) rfl ?_)
 show wpAny _ _ (if (Value.ref t == Value.none)=true then _ else _) _ _ s
 have hno:¬ ((Value.ref t == Value.none)=true):=Bool.false_ne_true
 rw[if_neg hno];show wpAny _ _ (field (.ref i) 1 >>= _) _ _ s
 refine wpAny_bind (wpAny_field e1 e3 (x:=.int k 0) rfl ?_)
 show wpAny _ _ (seqItems? (.ref t) >>= _) _ _ s
 refine wpAny_bind (wpAny_seqItems f1 f2 ?_)
 simp only[Int.toNat_natCast,hv]
 refine wpAny_bind (wpAny_setField e1 e3 (by simp) (wpAny_pure ⟨v,rfl,wpAny_pure (q _ ⟨?_,?_⟩ (Heap.SameBut.update ..))⟩))
 ·exact⟨_,Heap.get?_update_self _ e1 (Obj.isFreed_of_fields (Obj.data_mapFields e3 _)),(Obj.cls_mapFields ..).trans e2,by rw[Obj.data_mapFields e3]; simp[rawInt]⟩
 ·exact ht.extBut (Heap.SameBut.update ..).extBut nit
theorem uC{i t:Addr}{k:Nat}{zs:Array Value}{Q:Value→Shared→Prop}(hh:A.handled=none)(st:TSt i t zs k s.heap)(hv:zs[k]? = none)
  (q:∀ h' e,Heap.ExtBut i s.heap h'→(∃ o,h'.get? e=some o∧o.cls = .type "StopIteration")→E (.ref e) { s with heap:=h' }):wpAny (model prog w) A (Builtin.SmallTypes.nextOf (.ref i)) Q E s:=by
 obtain⟨hi,ht⟩:=id st
 obtain⟨ob,e1,e2,e3⟩:=id hi
 obtain⟨ot,f1,_,m,f2⟩:=id ht
 unfold Builtin.SmallTypes.nextOf;refine wpAny_bind (wpAny_callSpecial?_slot (name:=Str.ofString "__next__") hi.typeIs PySem.F.slot_tuple_iterator_next (wpAny_call_entry PySem.F.slot_tuple_iterator_next hi.typeIs PySem.F.entry_tuple_iterator_next ?_ (PySem.F.args_tuple_iterator_next_1 _)))
 show wpAny _ _ (field (.ref i) 0 >>= _) _ _ s
 refine wpAny_bind (wpAny_field e1 e3 (x:=.ref t) rfl ?_)
 show wpAny _ _ (if (Value.ref t == Value.none)=true then _ else _) _ _ s
 have hno:¬ ((Value.ref t == Value.none)=true):=Bool.false_ne_true
 rw[if_neg hno];show wpAny _ _ (field (.ref i) 1 >>= _) _ _ s
 refine wpAny_bind (wpAny_field e1 e3 (x:=.int k 0) rfl ?_)
 show wpAny _ _ (seqItems? (.ref t) >>= _) _ _ s
 refine wpAny_bind (wpAny_seqItems f1 f2 ?_)
 simp only[Int.toNat_natCast,hv]
 refine wpAny_bind (wpAny_rule (wpAny_bind (wpAny_setField e1 e3 (by simp) ?_)))
 show wpAny _ _ (newExc (.type "StopIteration") [] >>= fun z=>_) _ _ _
 refine wpAny_bind ?_
 simp only[newTuple,newExc]
 refine wpAny_bind (wpAny_newObj_type (hd:=by size_fits) ?_)
 refine wpAny_bind (m:=firstArgMember _ _) (wpAny_of_eq (a:=Value.none) (by first | (simp only[firstArgMember]; rfl) | rfl) ?_)
 refine wpAny_newObj_type (hd:=by size_fits) ?_
 simp only[raiseNew]
 refine wpAny_bind (wpAny_handled ?_)
 have hn:A.in1.handled=none:=hh
 first | rw[hn] | rw[hh]
 refine wpAny_bind (wpAny_pure (wpAny_throw (q _ _ (((Heap.SameBut.update ..).extBut.push _).push _) ⟨_,Heap.get?_push_size _ rfl,rfl⟩)))
variable{z TI TO i1 i2 t1 t2:Addr}{xs ys:Array Value}{k1 k2:Nat}{a b:Value}
theorem yk{x y:Value}{Q:Value→Shared→Prop}(D:ZipApart z TI TO i1 i2 t1 t2)(gz:IsZip s.heap z TI TO .none)(gI:IsPair s.heap TI (.ref i1) (.ref i2))(gO:IsPair s.heap TO a b)
  (g1:TSt i1 t1 xs k1 s.heap) (g2:TSt i2 t2 ys k2 s.heap) (hx:xs[k1]? = some x) (hy:ys[k2]? = some y)
  (q:∀ h',IsZip h' z TI TO (rawInt s.heap.objs.size)→IsPair h' TO x y→TSt i1 t1 xs (k1+1) h'→TSt i2 t2 ys (k2+1) h'→IsPair h' s.heap.objs.size x y→h'.objs.size=s.heap.objs.size+1→
   (∀ c o,c≠z→c≠TO→c≠i1→c≠i2→s.heap.get? c=some o→h'.get? c=some o)→Q (.ref s.heap.objs.size) { s with heap:=h' }) :
  wpAny (model prog w) A (Builtin.«zip.__next__» ⟨[.ref z],[]⟩) (fun fin s'=>∃ v,fin = .done (.ret v)∧Q v s') E s:=by
 show wpAny _ _ (field (.ref z) 2 >>= fun _=>_) _ _ _
 refine wpAny_bind (wpAny_field gz rfl (x:=.bool false) rfl ?_)
 show wpAny _ _ (field (.ref z) 3 >>= fun _=>_) _ _ _
 refine wpAny_bind (wpAny_field gz rfl (x:=.ref TI) rfl (wpAny_bind (wpAny_seqItems gI rfl ?_)))
 show wpAny _ _ (Builtin.SmallTypes.ownedTupleIsFree (.ref z) >>= fun _=>_) _ _ _
 refine wpAny_bind ?_
 unfold Builtin.SmallTypes.ownedTupleIsFree;refine wpAny_bind (wpAny_field gz rfl (x:=.none) rfl (wpAny_pure ?_))
 simp only[if_true]
 refine wpAny_bind (wpAny_rule (wpAny_bind (wpAny_field gz rfl (x:=.ref TO) rfl (wpAny_bind (wpAny_setField_rec gz (by simp) fun ha z1 m1=>?_)))))
 replace z1:IsZip ha z TI TO .ellipsis:=z1
 refine wpAny_bind ?_
 simp only[List.zipIdx_nil,List.zipIdx_cons,List.forIn_nil,List.forIn_cons]
 refine wpAny_bind (wpAny_bind (wpAny_onRaise ?_))
 show wpAny _ _ (Builtin.SmallTypes.nextOf (.ref i1) >>= fun _=>_) _ _ _
 refine wpAny_bind (lL (g1.ext m1.extBut D.i1z D.l1z) D.l1i1 hx fun hb r1 m2=>wpAny_pure ?_)
 have o2:IsPair hb TO a b:=m2.extBut _ _ D.TOi1 (m1.extBut _ _ D.TOz gO)
 refine wpAny_bind (wpAny_seqItems o2 rfl (wpAny_bind (wpAny_updateSeq_pair o2 fun hc o3 m3=>wpAny_bind (wpAny_letGo (wpAny_pure ?_)))))
 replace o3:IsPair hc TO x b:=o3
 refine wpAny_bind (wpAny_bind (wpAny_onRaise ?_))
 show wpAny _ _ (Builtin.SmallTypes.nextOf (.ref i2) >>= fun _=>_) _ _ _
 refine wpAny_bind (lL (((g2.ext m1.extBut D.i2z D.l2z).ext m2.extBut D.i12.symm D.l2i1).ext m3.extBut D.TOi2.symm D.l2TO) D.l2i2 hy fun hd r2 m4=>wpAny_pure ?_)
 have o4:IsPair hd TO x b:=m4.extBut _ _ D.TOi2 o3
 refine wpAny_bind (wpAny_seqItems o4 rfl (wpAny_bind (wpAny_updateSeq_pair o4 fun he o5 m5=>wpAny_bind (wpAny_letGo (wpAny_pure (wpAny_pure ?_))))))
 replace o5:IsPair he TO x y:=o5
 refine wpAny_bind (wpAny_seqItems o5 rfl (wpAny_bind (wpAny_newTuple ?_)))
 have hsz:he.objs.size=s.heap.objs.size:=by rw[m5.1,m4.1,m3.1,m2.1,m1.1]
 have z5:IsZip he z TI TO .ellipsis:=m5.extBut _ _ D.TOz.symm (m4.extBut _ _ D.i2z.symm (m3.extBut _ _ D.TOz.symm (m2.extBut _ _ D.i1z.symm z1)))
 have kp:∀ c o,c≠z→c≠TO→c≠i1→c≠i2→s.heap.get? c=some o→he.get? c=some o:=fun c o c1 c2 c3 c4 e=>m5.extBut _ _ c2 (m4.extBut _ _ c4 (m3.extBut _ _ c2 (m2.extBut _ _ c3 (m1.extBut _ _ c1 e))))
 have r1':TSt i1 t1 xs (k1+1) he:=((r1.ext m3.extBut D.TOi1.symm D.l1TO).ext m4.extBut D.i12 D.l1i2).ext m5.extBut D.TOi1.symm D.l1TO
 have r2':TSt i2 t2 ys (k2+1) he:=r2.ext m5.extBut D.TOi2.symm D.l2TO
 have zlt:z<he.objs.size:=Heap.lt_size z5
 show wpAny _ _ (Builtin.SmallTypes.ownedTupleHandOut (.ref z) (.ref he.objs.size) >>= fun _=>_) _ _ _
 refine wpAny_bind ?_
 unfold Builtin.SmallTypes.ownedTupleHandOut;have z6:IsZip (he.push { cls:=.type "tuple", data:=.seq #[x,y] }) z TI TO .ellipsis:=Heap.get?_push_of_some _ z5
 refine wpAny_bind (wpAny_setField_rec z6 (by simp) fun hf z7 m7=>?_)
 replace z7:IsZip hf z TI TO (rawInt he.objs.size):=z7
 refine wpAny_setField_rec z7 (by simp) fun hg z8 m8=>?_
 replace z8:IsZip hg z TI TO (rawInt he.objs.size):=z8
 have up:∀ c o,c≠z→he.get? c=some o→hg.get? c=some o:=fun c o c1 e=>m8.extBut _ _ c1 (m7.extBut _ _ c1 (Heap.get?_push_of_some _ e))
 have t8:IsPair hg he.objs.size x y:=m8.extBut _ _ (Nat.ne_of_gt zlt) (m7.extBut _ _ (Nat.ne_of_gt zlt) (Heap.get?_push_size _ rfl))
 have s8:hg.objs.size=he.objs.size+1:=by rw[m8.1,m7.1,Heap.size_push]
 rw[hsz]at z8 t8 s8
 refine wpAny_pure ⟨_,rfl,?_⟩
 show Q (.ref he.objs.size) _
 rw[hsz];have ex:Heap.ExtBut z he hg:=fun c o c1 e=>up c o c1 e
 exact q hg z8 (up _ _ D.TOz o5) (r1'.ext ex D.i1z D.l1z) (r2'.ext ex D.i2z D.l2z) t8 s8 fun c o c1 c2 c3 c4 e=>up c o c1 (kp c o c1 c2 c3 c4 e)
theorem AU{Q:Fin→Shared→Prop}(hh:A.handled=none)(D:ZipApart z TI TO i1 i2 t1 t2)(gz:IsZip s.heap z TI TO .none)(gI:IsPair s.heap TI (.ref i1) (.ref i2))(gO:IsPair s.heap TO a b)
  (g1:TSt i1 t1 xs k1 s.heap) (g2:TSt i2 t2 ys k2 s.heap) (hend:xs[k1]? = none∨ys[k2]? = none)
  (q:∀ h' e,(∀ c o,c≠z→c≠TO→c≠i1→c≠i2→s.heap.get? c=some o→h'.get? c=some o)→(∃ o,h'.get? e=some o∧o.cls = .type "StopIteration")→E (.ref e) { s with heap:=h' }) :
  wpAny (model prog w) A (Builtin.«zip.__next__» ⟨[.ref z],[]⟩) Q E s:=by
 show wpAny _ _ (field (.ref z) 2 >>= fun _=>_) _ _ _
 refine wpAny_bind (wpAny_field gz rfl (x:=.bool false) rfl ?_)
 show wpAny _ _ (field (.ref z) 3 >>= fun _=>_) _ _ _
 refine wpAny_bind (wpAny_field gz rfl (x:=.ref TI) rfl (wpAny_bind (wpAny_seqItems gI rfl ?_)))
 show wpAny _ _ (Builtin.SmallTypes.ownedTupleIsFree (.ref z) >>= fun _=>_) _ _ _
 refine wpAny_bind ?_
 unfold Builtin.SmallTypes.ownedTupleIsFree;refine wpAny_bind (wpAny_field gz rfl (x:=.none) rfl (wpAny_pure ?_))
 simp only[if_true]
 refine wpAny_bind (wpAny_rule (wpAny_bind (wpAny_field gz rfl (x:=.ref TO) rfl (wpAny_bind (wpAny_setField_rec gz (by simp) fun ha z1 m1=>?_)))))
 replace z1:IsZip ha z TI TO .ellipsis:=z1
 refine wpAny_bind ?_
 simp only[List.zipIdx_nil,List.zipIdx_cons,List.forIn_nil,List.forIn_cons]
 refine wpAny_bind (wpAny_bind (wpAny_onRaise ?_))
 show wpAny _ _ (Builtin.SmallTypes.nextOf (.ref i1) >>= fun _=>_) _ _ _
 have stop:∀ {h':Heap} {e:Addr},IsZip h' z TI TO .ellipsis→(∃ o,h'.get? e=some o∧o.cls = .type "StopIteration")→e≠z:=fun {h' e} hz ⟨o,ho,hc⟩ n=>by
  subst n; rw[hz]at ho; cases ho; simp at hc
 rcases hx:xs[k1]? with _ | x
 ·refine wpAny_bind (uC hh (g1.ext m1.extBut D.i1z D.l1z) hx fun hb e m2 he=>?_)
  have z2:IsZip hb z TI TO .ellipsis:=m2 _ _ D.i1z.symm z1
  have nz:=stop z2 he;obtain⟨oe,p1,p2⟩:=he
  exact wpAny_setField_rec z2 (by simp) fun hc _ m3=>q hc e (fun c o c1 _ c3 _ x=>m3.extBut _ _ c1 (m2 _ _ c3 (m1.extBut _ _ c1 x))) ⟨oe,m3.extBut _ _ nz p1,p2⟩
 ·have hy:ys[k2]? = none:=by
   rcases hend with h | h
   ·rw[hx]at h; cases h
   ·exact h
  refine wpAny_bind (lL (g1.ext m1.extBut D.i1z D.l1z) D.l1i1 hx fun hb r1 m2=>wpAny_pure ?_)
  have o2:IsPair hb TO a b:=m2.extBut _ _ D.TOi1 (m1.extBut _ _ D.TOz gO)
  refine wpAny_bind (wpAny_seqItems o2 rfl (wpAny_bind (wpAny_updateSeq_pair o2 fun hc o3 m3=>wpAny_bind (wpAny_letGo (wpAny_pure ?_)))))
  refine wpAny_bind (wpAny_bind (wpAny_onRaise ?_))
  show wpAny _ _ (Builtin.SmallTypes.nextOf (.ref i2) >>= fun _=>_) _ _ _
  refine wpAny_bind (uC hh (((g2.ext m1.extBut D.i2z D.l2z).ext m2.extBut D.i12.symm D.l2i1).ext m3.extBut D.TOi2.symm D.l2TO) hy fun hd e m4 he=>?_)
  have z4:IsZip hd z TI TO .ellipsis:=m4 _ _ D.i2z.symm (m3.extBut _ _ D.TOz.symm (m2.extBut _ _ D.i1z.symm z1))
  have nz:=stop z4 he;obtain⟨oe,p1,p2⟩:=he
  exact wpAny_setField_rec z4 (by simp) fun hg _ m5=>q hg e (fun c o c1 c2 c3 c4 x=>m5.extBut _ _ c1 (m4 _ _ c4 (m3.extBut _ _ c2 (m2.extBut _ _ c3 (m1.extBut _ _ c1 x))))) ⟨oe,m5.extBut _ _ nz p1,p2⟩
end
section
variable{prog:Program}{w:World}{A:Around}{E:Value→Shared→Prop}{s:Shared}{z TI TO i1 i2 t1 t2:Addr}{xs ys:Array Value}{k1 k2:Nat}{a b:Value}
theorem u7{x y:Value}{Q:Option Value→Shared→Prop}(D:ZipApart z TI TO i1 i2 t1 t2)(gz:IsZip s.heap z TI TO .none)(gI:IsPair s.heap TI (.ref i1) (.ref i2))(gO:IsPair s.heap TO a b)
  (g1:TSt i1 t1 xs k1 s.heap) (g2:TSt i2 t2 ys k2 s.heap) (hx:xs[k1]? = some x) (hy:ys[k2]? = some y)
  (q:∀ h',IsZip h' z TI TO (rawInt s.heap.objs.size)→IsPair h' TO x y→TSt i1 t1 xs (k1+1) h'→TSt i2 t2 ys (k2+1) h'→IsPair h' s.heap.objs.size x y→h'.objs.size=s.heap.objs.size+1→
   (∀ c o,c≠z→c≠TO→c≠i1→c≠i2→s.heap.get? c=some o→h'.get? c=some o)→Q (some (.ref s.heap.objs.size)) { s with heap:=h' }):wpAny (model prog w) A (pyNext (.ref z)) Q E s:=by
 have ty:s.TypeIs (.ref z) "zip" := ⟨_,gz,rfl⟩
 unfold pyNext
 exact wpAny_bind (wpAny_attempt (wpAny_callSpecial?_slot (name:=Str.ofString "__next__") ty PySem.F.slot_zip_next (wpAny_call_entry PySem.F.slot_zip_next ty PySem.F.entry_zip_next
  (yk D gz gI gO g1 g2 hx hy fun h' a1 a2 a3 a4 a5 a6 a7=>wpAny_pure (q h' a1 a2 a3 a4 a5 a6 a7)) (PySem.F.args_zip_next_1 _))))
theorem w4{Q:Option Value→Shared→Prop}(hh:A.handled=none)(D:ZipApart z TI TO i1 i2 t1 t2)(gz:IsZip s.heap z TI TO .none)(gI:IsPair s.heap TI (.ref i1) (.ref i2))(gO:IsPair s.heap TO a b)
  (g1:TSt i1 t1 xs k1 s.heap) (g2:TSt i2 t2 ys k2 s.heap) (hend:xs[k1]? = none∨ys[k2]? = none)
  (q:∀ h',(∀ c o,c≠z→c≠TO→c≠i1→c≠i2→s.heap.get? c=some o→h'.get? c=some o)→Q none { s with heap:=h' }):wpAny (model prog w) A (pyNext (.ref z)) Q E s:=by
 have ty:s.TypeIs (.ref z) "zip" := ⟨_,gz,rfl⟩
 unfold pyNext
 refine wpAny_bind (wpAny_attempt (wpAny_callSpecial?_slot (name:=Str.ofString "__next__") ty PySem.F.slot_zip_next (wpAny_call_entry PySem.F.slot_zip_next ty PySem.F.entry_zip_next
  (AU hh D gz gI gO g1 g2 hend fun h' e kk he=>?_) (PySem.F.args_zip_next_1 _))))
 obtain⟨o,ho,hc⟩:=he
 exact wpAny_bind (wpAny_isInstance (T := "StopIteration") (b:=true) ⟨o,ho,hc⟩ isSubtype_stop (wpAny_pure (q _ kk)))
abbrev BA (h:Heap) (t1:Addr):Heap:=h.push { cls:=.type "tuple_iterator", data:=.fields #[.ref t1,.int 0 0] }
abbrev Bq (h:Heap) (t1 t2:Addr):Heap:=(BA h t1).push { cls:=.type "tuple_iterator", data:=.fields #[.ref t2,.int 0 0] }
abbrev BN (h:Heap) (t1 t2:Addr):Heap:=(Bq h t1 t2).push { cls:=.type "tuple", data:=.seq #[.ref h.objs.size,.ref (BA h t1).objs.size] }
abbrev Be (h:Heap) (t1 t2:Addr):Heap:=(BN h t1 t2).push { cls:=.type "tuple", data:=.seq #[.none,.none] }
abbrev oK (h:Heap) (t1 t2:Addr):Heap:=(Be h t1 t2).push { cls:=.type "zip", data:=.fields #[.none,.bool false,.bool false,.ref (Bq h t1 t2).objs.size,.ref (BN h t1 t2).objs.size] }
theorem vf(t1 t2:Addr)(xs ys:Array Value):Meets (Builtin.«zip.__new__» ⟨[.type "zip", .ref t1,.ref t2],[]⟩) (fun _ R s=>s.heap.IsTuple t1 xs∧s.heap.IsTuple t2 ys∧
   R (.ok (.ret (.ref (Be s.heap t1 t2).objs.size))) { s with heap:=oK s.heap t1 t2 }):=
 .of_wp fun prog w A R s q=>by
  obtain⟨hp,g,d,tk,os⟩:=s
  obtain⟨e1,e2,q⟩:=q
  have hsub:=sub_zip;have f1:Heap.IsTuple (Shared.heap ⟨hp,g,d,tk,os⟩) t1 xs:=e1
  have f2:Heap.IsTuple (Shared.heap ⟨hp.push { cls:=.type "tuple_iterator", data:=.fields #[.ref t1,.int 0 0] },g,d,tk,os⟩) t2 ys:=Heap.IsTuple.push e2 _
  wp_walk using wpAny_pyIter_tuple f1,wpAny_pyIter_tuple f2
  exact⟨_,rfl,q⟩
theorem x_{Q:Value→Shared→Prop}(e1:s.heap.IsTuple t1 xs)(e2:s.heap.IsTuple t2 ys)
  (q:∀ h',IsZip h' (s.heap.objs.size+4) (s.heap.objs.size+2) (s.heap.objs.size+3) .none→IsPair h' (s.heap.objs.size+2) (.ref s.heap.objs.size) (.ref (s.heap.objs.size+1))→
   IsPair h' (s.heap.objs.size+3) .none .none→TSt s.heap.objs.size t1 xs 0 h'→TSt (s.heap.objs.size+1) t2 ys 0 h'→
   (∀ c o,s.heap.get? c=some o→h'.get? c=some o)→Q (.ref (s.heap.objs.size+4)) { s with heap:=h' }):wpAny (model prog w) A (call (.type "zip") [.ref t1,.ref t2]) Q E s:=by
 refine callType_new PySem.F.called_zip (by decide) (PySem.F.typeCall_zip_2 _ _) (PySem.F.newCall_zip_2 _ _) (fun obj=>PySem.F.args_object_init_3 obj _ _) PySem.F.entry_zip_new (vf t1 t2 xs ys) ⟨e1,e2,?_⟩
 have z1:(BA s.heap t1).objs.size=s.heap.objs.size+1:=Heap.size_push ..
 have z2:(Bq s.heap t1 t2).objs.size=s.heap.objs.size+2:=by rw[Heap.size_push,z1]
 have z3:(BN s.heap t1 t2).objs.size=s.heap.objs.size+3:=by rw[Heap.size_push,z2]
 have z4:(Be s.heap t1 t2).objs.size=s.heap.objs.size+4:=by rw[Heap.size_push,z3]
 have p:∀ {h:Heap} {o:Obj} {c:Addr} {u:Obj},h.get? c=some u→(h.push o).get? c=some u:=fun e=>Heap.get?_push_of_some _ e
 have kk:∀ c o,s.heap.get? c=some o→(oK s.heap t1 t2).get? c=some o:=fun c o e=>p (p (p (p (p e))))
 have g5:(oK s.heap t1 t2).get? (Be s.heap t1 t2).objs.size=some _:=Heap.get?_push_size _ rfl
 have g4:(oK s.heap t1 t2).get? (BN s.heap t1 t2).objs.size=some _:=p (Heap.get?_push_size _ rfl)
 have g3:(oK s.heap t1 t2).get? (Bq s.heap t1 t2).objs.size=some _:=p (p (Heap.get?_push_size _ rfl))
 have g2:(oK s.heap t1 t2).get? (BA s.heap t1).objs.size=some _:=p (p (p (Heap.get?_push_size _ rfl)))
 have g1:(oK s.heap t1 t2).get? s.heap.objs.size=some _:=p (p (p (p (Heap.get?_push_size _ rfl))))
 show _∧_
 rw[z2,z3,z4]at g5
 rw[z1,z2]at g3
 rw[z3]at g4
 rw[z1]at g2
 rw[z4];have tt:∀ {t zs},s.heap.IsTuple t zs→(oK s.heap t1 t2).IsTuple t zs:=fun ⟨o,e,r⟩=>⟨o,kk _ _ e,r⟩
 exact⟨⟨_,g5,rfl⟩,q _ g5 g3 g4 ⟨⟨_,g1,rfl,rfl⟩,tt e1⟩ ⟨⟨_,g2,rfl,rfl⟩,tt e2⟩ kk⟩
end
def BI(K:PySem.W.Frag)(a b:Addr):It:=
  ⟨fun i H=>∃ xs ys x y,SqT K H a xs∧SqT K H b ys∧xs[i]? = some x∧ys[i]? = some y,
   fun i H v H'=>∃ t x y,H t=none∧v = .ref t∧H'=upd H t (.tup [x,y])∧(∀ xs,SqT K H a xs→xs[i]? = some x)∧∀ ys,SqT K H b ys→ys[i]? = some y,
   fun i H=>∃ xs ys,SqT K H a xs∧SqT K H b ys∧(xs.length≤i∨ys.length≤i)⟩
def UZ(z TI TO i1 i2 l1 l2:Addr)(i:Nat)(h:Heap):Prop:=
 IsZip h z TI TO .none∧IsPair h TI (.ref i1) (.ref i2)∧(∃ a b,IsPair h TO a b)∧h.IsTupleIter i1 l1 i∧h.IsTupleIter i2 l2 i
theorem SqT.apart{X:Cx}{pins:List (Addr × Obj)}{σ : St}{H:Hp}{s:Shared}{a c:Addr}{xs:List V}(I:Inv X pins σ H s)(hf:ie X pins H c)(h:SqT X.K H a xs):a≠c:=by
 rintro rfl
 rcases h with h | ⟨o,its,n,hk,_⟩
 ·rcases h with e | ⟨o,e⟩ <;> (rw[hf.1]at e; cases e)
 ·have e:=I.ok.mod.kin a o hk
  rcases hf.2.2.2.1 with z | z
  ·exact I.ok.noex a o e z
  ·exact absurd (Nat.lt_of_lt_of_le (Heap.lt_size (I.ok.bs a o e).1) z) (Nat.lt_irrefl _)
theorem yy{P:Program}{w:World}{K:PySem.W.Frag}{elts:List Expr}{k:Nat}{pos:Pos}{z TI TO i1 i2 l1 l2:Addr}(D:wI z TI TO i1 i2):jP P w K (.Tuple elts k pos) (BI K l1 l2) [z,TI,TO,i1,i2] z (UZ z TI TO i1 i2 l1 l2) where
 mem:=by simp
 obj:=fun i h st b hb=>by
  obtain⟨s1,s2,⟨_,_,s3⟩,⟨o4,s4,c4,d4⟩,⟨o5,s5,c5,d5⟩⟩:=st
  simp only[List.mem_cons,List.mem_nil_iff,or_false]at hb
  rcases hb with rfl | rfl | rfl | rfl | rfl
  ·exact⟨_,s1,fun v e=>by cases e⟩
  ·exact⟨_,s2,fun v e=>by cases e⟩
  ·exact⟨_,s3,fun v e=>by cases e⟩
  ·exact⟨_,s4,fun v e=>by rw[d4]at e; cases e⟩
  ·exact⟨_,s5,fun v e=>by rw[d5]at e; cases e⟩
 keep:=fun i h h' st kk=>by
  obtain⟨s1,s2,⟨a,b,s3⟩,s4,s5⟩:=st
  exact⟨kk z (by simp) _ s1,kk TI (by simp) _ s2,⟨a,b,kk TO (by simp) _ s3⟩,s4.at fun o e=>kk i1 (by simp) o e,s5.at fun o e=>kk i2 (by simp) o e⟩
 item:=by
  intro X hP hw hK hc i pins s σ H E I hf st hg
  subst hP hw hK;obtain⟨xs,ys,x,y,q1,q2,hx,hy⟩:=hg
  obtain⟨is1,rv1,p1,_⟩:=I.tuple q1
  obtain⟨is2,rv2,p2,_⟩:=I.tuple q2
  obtain⟨u1,hu1,ru1⟩:=rv1.get hx
  obtain⟨u2,hu2,ru2⟩:=rv2.get hy
  have n1:∀ c∈[z,TI,TO,i1,i2],l1≠c:=fun c hc'=>SqT.apart I (hf c hc') q1
  have n2:∀ c∈[z,TI,TO,i1,i2],l2≠c:=fun c hc'=>SqT.apart I (hf c hc') q2
  have D':ZipApart z TI TO i1 i2 l1 l2:=⟨D.TIz,D.TOz,D.i1z,D.i2z,D.TITO,D.TIi1,D.TIi2,D.TOi1,D.TOi2,D.i12,n1 _ (by simp),n1 _ (by simp),n1 _ (by simp),n1 _ (by simp),n2 _ (by simp),n2 _ (by simp),n2 _ (by simp),n2 _ (by simp)⟩
  obtain⟨s1,s2,⟨a,b,s3⟩,s4,s5⟩:=st
  have e1:s.heap.IsTuple l1 is1.toArray:=p1
  have e2:s.heap.IsTuple l2 is2.toArray:=p2
  refine u7 D' s1 s2 s3 ⟨s4,e1⟩ ⟨s5,e2⟩ (x:=u1) (y:=u2) (by simpa using hu1) (by simpa using hu2) fun h' a1 a2 a3 a4 a5 a6 kk=>?_
  refine⟨_,rfl,wpAny_letOwnedTupleGo_zip a1 fun h'' hz' hs'=>?_⟩
  have lt:∀ {c o},s.heap.get? c=some o→s.heap.objs.size≠c:=fun e=>Nat.ne_of_gt (Heap.lt_size e)
  have zne:s.heap.objs.size≠z:=lt s1
  have keep2:∀ b o,b∉[z,TI,TO,i1,i2]→s.heap.get? b=some o→h''.get? b=some o:=fun b o hb e=>by
   simp only[List.mem_cons,List.mem_nil_iff,or_false,not_or]at hb
   exact hs'.extBut _ _ hb.1 (kk b o hb.1 hb.2.2.1 hb.2.2.2.1 hb.2.2.2.2 e)
  have hsz:H s.heap.objs.size=none:=I.hok.fresh (Nat.le_refl _)
  have tupN:IsPair h'' s.heap.objs.size u1 u2:=hs'.extBut _ _ zne a5
  have nlt:∀ c∈[z,TI,TO,i1,i2],c≠s.heap.objs.size:=fun c hc'=>by
   obtain⟨o4,e4,_⟩:=id s4
   obtain⟨o5,e5,_⟩:=id s5
   simp only[List.mem_cons,List.mem_nil_iff,or_false]at hc'
   rcases hc' with rfl | rfl | rfl | rfl | rfl
   ·exact(lt s1).symm
   ·exact(lt s2).symm
   ·exact(lt s3).symm
   ·exact(lt e4).symm
   ·exact(lt e5).symm
  refine⟨.ref s.heap.objs.size,upd H s.heap.objs.size (.tup [x,y]),I.turnedLaid (t':=s.toks) keep2 hf (Nat.le_refl _) ⟨a_ (by show 2≤1000000; decide),[u1,u2],.cons ru1 (.cons ru2 .nil),⟨_,tupN,rfl,rfl,0,rfl⟩⟩,rfl,⟨_,x,y,hsz,rfl,rfl,fun xs' q'=>?_,fun ys' q'=>?_⟩,
   ⟨hz',hs'.extBut _ _ D.TIz (kk _ _ D.TIz D.TITO D.TIi1 D.TIi2 s2),⟨_,_,hs'.extBut _ _ D.TOz a2⟩,a3.1.extBut hs'.extBut D.i1z,a4.1.extBut hs'.extBut D.i2z⟩,fun c hc'=>?_⟩
  ·rw[I.tuple_inj q' q1]; exact hx
  ·rw[I.tuple_inj q' q2]; exact hy
  ·rw[aj (nlt c hc')]; exact(hf c hc').1
 done:=by
  intro X hP hw hK hc i pins s σ H E I hf st hg
  subst hP hw hK;obtain⟨xs,ys,q1,q2,hlen⟩:=hg
  obtain⟨is1,rv1,p1,_⟩:=I.tuple q1
  obtain⟨is2,rv2,p2,_⟩:=I.tuple q2
  have l1:=rv1.length;have l2:=rv2.length;have n1:∀ c∈[z,TI,TO,i1,i2],_≠c:=fun c hc'=>SqT.apart I (hf c hc') q1
  have n2:∀ c∈[z,TI,TO,i1,i2],_≠c:=fun c hc'=>SqT.apart I (hf c hc') q2
  have D':ZipApart z TI TO i1 i2 _ _:=⟨D.TIz,D.TOz,D.i1z,D.i2z,D.TITO,D.TIi1,D.TIi2,D.TOi1,D.TOi2,D.i12,n1 _ (by simp),n1 _ (by simp),n1 _ (by simp),n1 _ (by simp),n2 _ (by simp),n2 _ (by simp),n2 _ (by simp),n2 _ (by simp)⟩
  obtain⟨s1,s2,⟨a,b,s3⟩,s4,s5⟩:=st
  have e1:s.heap.IsTuple _ is1.toArray:=p1
  have e2:s.heap.IsTuple _ is2.toArray:=p2
  refine w4 (I.ok.hd hc) D' s1 s2 s3 ⟨s4,e1⟩ ⟨s5,e2⟩ ?_ fun h' kk=>⟨rfl,I.turnedL (t':=s.toks) (fun b o hb e=>?_) hf⟩
  ·rcases hlen with z | z
   ·exact .inl (by simp; omega)
   ·exact .inr (by simp; omega)
  ·simp only[List.mem_cons,List.mem_nil_iff,or_false,not_or]at hb
   exact kk b o hb.1 hb.2.2.1 hb.2.2.2.1 hb.2.2.2.2 e
 self:=fun A i s Q E st h=>wpAny_pyIter_zip st.1 h
def Bm(K:PySem.W.Frag)(ta:TA):TI:=fun σ H R=>ta σ H fun vs H1=>∃ a b:Addr,vs=[.ref a,.ref b]∧(∃ xs,SqT K H1 a xs)∧(∃ ys,SqT K H1 b ys)∧R (BI K a b) H1
theorem qa(K:PySem.W.Frag)(ta:TA){σ : St}{H:Hp}{R:It→Hp→Prop}:Bm K ta σ H R=ta σ H fun vs H1=>∃ a b:Addr,vs=[.ref a,.ref b]∧(∃ xs,SqT K H1 a xs)∧(∃ ys,SqT K H1 b ys)∧R (BI K a b) H1:=rfl
theorem tw(K:PySem.W.Frag){X:Cx}{elts:List Expr}{k:Nat}{tpos:Pos}{a b:Expr}{ta:TA}{p pos:Pos}(hg:Gl X "zip") (hm:X.mg "zip" = none) (ha:PA X [a,b] ta) (hs:starEach [a,b] X.env=[(false,eval a X.env),(false,eval b X.env)]:=by rfl) (hs2:starEach [b] X.env=[(false,eval b X.env)]:=by rfl) (hK:X.K=K:=by rfl) :
  PI X (.Tuple elts k tpos) (.Call (.Name "zip" p) [a,b] [] pos) (Bm K ta):=by
 subst hK;intro pins s σ H R I h
 refine Call_ (ig I hg hm zE (PyProof.Rows.callWith_type1 (bf (ha pos pins s σ H _ I h) fun us s1 ⟨vs,H1,I1,r1,q1⟩=>?_) (by rw[hs,hs2]) (by rw[hs2]; rfl)))
 obtain⟨l1,l2,e,⟨xs,h1⟩,⟨ys,h2⟩,q⟩:=q1
 subst e;obtain⟨u1,u2,rfl,r1,r2⟩:=pC r1
 cases r1
 cases r2;obtain⟨is1,_,p1,_⟩:=I1.tuple h1
 obtain⟨is2,_,p2,_⟩:=I1.tuple h2
 refine x_ (show s1.heap.IsTuple l1 is1.toArray from p1) (show s1.heap.IsTuple l2 is2.toArray from p2) fun h' a1 a2 a3 a4 a5 kk=>?_
 refine wpAny_pyIter_zip a1 ⟨_,[s1.heap.objs.size+4,s1.heap.objs.size+2,s1.heap.objs.size+3,s1.heap.objs.size,s1.heap.objs.size+1],_,_,H1,rfl,I1.kept (t':=s1.toks) kk,
  yy (z:=s1.heap.objs.size+4) (TI:=s1.heap.objs.size+2) (TO:=s1.heap.objs.size+3) (i1:=s1.heap.objs.size) (i2:=s1.heap.objs.size+1) (Lb _),⟨a1,a2,⟨_,_,a3⟩,a4.1,a5.1⟩,fun b hb=>?_,q⟩
 have hb':s1.heap.objs.size≤b:=by
  simp only[List.mem_cons,List.mem_nil_iff,or_false]at hb
  rcases hb with rfl | rfl | rfl | rfl | rfl <;> first | exact Nat.le_refl _ | exact Nat.le_add_right _ _
 exact I1.fpOk hb' (I1.hok.fresh hb')
section
variable{prog:Program}{w:World}{A:Around}{E:Value→Shared→Prop}{s:Shared}
theorem o0{t sl:Addr}{items:Array Value}{vl vu:Value}{lo hi:Option Int}{Q:Value→Shared→Prop}(ht:IsTup s.heap t items)(hs:s.heap.IsSliceOf sl vl vu .none)(pl:PySem.IsPart vl lo)(pu:PySem.IsPart vu hi)
  (hw:HT.sIx items.size 0 lo=0∧HT.sIx items.size items.size hi=items.size) (q:Q (.ref t) s):wpAny (model prog w) A (getItem (.ref t) (.ref sl)) Q E s:=by
 obtain⟨os,g1,g2,g3⟩:=id hs
 have ty:s.TypeIs (.ref sl) "slice" := ⟨os,g1,g2⟩
 unfold getItem
 try with_reducible refine wpAny_holding ?_
 first | refine wpAny_bind (wpAny_pure ?_) | skip
 refine wpAny_bind (wpAny_sequenceKey ht.typeIs (by decide) (wpAny_bind (wpAny_callSpecial?_slot (name:=Str.ofString "__getitem__") ht.typeIs PyProof.Rows.slot_tuple_getitem (wpAny_call_entry PyProof.Rows.slot_tuple_getitem ht.typeIs entry_tuple_getitem ?_ (args_tuple_getitem _ _)))))
 show wpAny _ _ (Builtin.Tuple.tupleItemsOf (.ref t) >>= fun _=>_) _ _ s
 refine wpAny_bind (tupleItemsOf_ ht (wpAny_bind (wpAny_typeOf ty ?_)))
 rw[if_pos (by decide)]
 refine wpAny_bind (HT.sliceApplied_gen hs pl pu ?_)
 have hyes:((((HT.sIx items.size 0 lo:Nat):Int) == 0&&(1:Int) == 1&&(HT.sIx items.size items.size hi - HT.sIx items.size 0 lo) == items.size)=true):=by
  rw[hw.1,hw.2]; simp
 show wpAny _ _ (if (((HT.sIx items.size 0 lo:Nat):Int) == 0&&(1:Int) == 1&&(HT.sIx items.size items.size hi - HT.sIx items.size 0 lo) == items.size)=true then _ else _) _ _ s
 rw[if_pos hyes];refine wpAny_bind (m:=Builtin.Tuple.tupleIsExact _) (wpAny_bind (wpAny_typeOf ht.typeIs (wpAny_pure ?_)))
 have hb:(Value.type "tuple" == Value.type "tuple")=true:=by decide
 rw[hb,if_pos rfl];exact wpAny_bind (wpAny_rule (wpAny_pure ⟨_,rfl,wpAny_pure q⟩))
end
section
variable{X:Cx}
def BC(K:PySem.W.Frag):V→Option Int→Option Int→Hp→VK→Prop:=fun x lo hi H Q=>∃ a xs,x = .ref a∧SqT K H a xs∧
 (HT.sIx xs.length 0 lo=0∧HT.sIx xs.length xs.length hi=xs.length→Q (.ref a) H)∧(¬ (HT.sIx xs.length 0 lo=0∧HT.sIx xs.length xs.length hi=xs.length)→∀ p,H p=none→Q (.ref p) (upd H p (.tup (dY xs lo hi))))
theorem iR(K:PySem.W.Frag)(hK:X.K=K:=by rfl):SlR X (BC K):=by
 subst hK;intro pins s σ H x v vl vu lo hi sl Q I rx hs pl pu h
 obtain⟨a,xs,rfl,hx,q1,q2⟩:=h
 by_cases hw:HT.sIx xs.length 0 lo=0∧HT.sIx xs.length xs.length hi=xs.length
 ·have rx':=rx
  cases rx;obtain⟨its,r,ht,hz⟩:=I.tuple hx
  have hlen:its.toArray.size=xs.length:=by rw[List.size_toArray]; exact r.length.symm
  exact⟨"tuple", _,PyProof.Rows.slot_tuple_getitem.lookup,ht.typeIs,o0 ht hs pl pu (by rw[hlen]; exact hw) ⟨.ref a,H,I,rx',q1 hw⟩⟩
 ·exact E1 pins s σ H _ v vl vu lo hi sl Q I rx hs pl pu ⟨a,xs,rfl,hx,hw,q2 hw⟩
theorem hJ{K:PySem.W.Frag}{H:Hp}{Q:VK}{a:Addr}{lo hi:Option Int}{xs:List V}(h:SqT K H a xs)(q:∀ p H',Same H H'→SqT K H' p (dY xs lo hi)→Q (.ref p) H'):BC K (.ref a) lo hi H Q:=by
 refine⟨a,xs,rfl,h,fun hw=>?_,fun _ p hp=>q p _ (al hp _) (SqT.of ah)⟩
 have e:dY xs lo hi=xs:=by unfold dY; rw[hw.1,hw.2]; simp
 exact q a H (fun _ _ e=>e) (by rw[e]; exact h)
theorem ja(xs:List V)(k:Nat):dY xs none (some (k:Int))=xs.take k:=by
 unfold dY;rw[HT.sIx_none,HT.sIx_nat,List.drop_zero,Nat.sub_zero];exact List.take_eq_take_min.symm
theorem gJ(xs:List V)(k:Nat):dY xs (some (k:Int)) none=xs.drop k:=by
 unfold dY;rw[HT.sIx_none,HT.sIx_nat];rcases Nat.le_total k xs.length with h | h
 ·rw[Nat.min_eq_left h,List.take_of_length_le (by rw[List.length_drop]; omega)]
 ·rw[Nat.min_eq_right h,Nat.sub_self,List.take_zero,List.drop_eq_nil_of_le h]
def wz:List V→Hp→VK→Prop:=fun xs H Q=>(∃ i,xs=[.int i]∧i.natAbs.log2<1920∧Q (.str (toString i)) H)∨∃ y,xs=[.str y]∧Q (.str y) H
theorem wM:CallR X (.type "str") wz:=by
 intro pins s σ H xs us Q I r h
 rcases h with h | ⟨y,rfl,q⟩
 ·exact j8 pins s σ H xs us Q I r h
 ·obtain⟨u,rfl,t,rfl⟩:=dW r
  exact PySem.P.str_of_str ⟨.str y,H,I,⟨t,rfl⟩,q⟩
theorem n_{H:Hp}{Q:VK}(i:Int):wz [.int i] H Q=(i.natAbs.log2<1920∧Q (.str (toString i)) H):=
 propext ⟨fun h=>by rcases h with ⟨_,e,h⟩ | ⟨_,e,_⟩ <;> cases e; exact h,fun h=>.inl ⟨i,rfl,h⟩⟩
theorem nY{H:Hp}{Q:VK}(y:Str):wz [.str y] H Q=Q (.str y) H:=
 propext ⟨fun h=>by rcases h with ⟨_,e,h⟩ | ⟨_,e,h⟩ <;> cases e; exact h,fun h=>.inr ⟨y,rfl,h⟩⟩
theorem ua{x:Str}{d:Addr}{pos:Pos}(h:X.mg x=some (.ref d))(hg:Gl X x:=by first | exact vGg (by decide +kernel) | rfl)(hd:(x == ("__debug__" : Str))=false:=by decide):PE X (.Name x pos) (tC (.ref d)):=CD hg h rfl hd
theorem f_:MtR X "list.extend" mQ:=xb
theorem f7{H:Hp}{Q:VK}(l b:Addr):mQ (.ref l) [.ref b] H Q=∃ xs zs,H l=some (.lst xs)∧H b=some (.lst zs)∧xs.length+zs.length≤sizeLine∧Q .non (upd H l (.lst (xs++zs))):=
 propext ⟨fun ⟨_,_,xs,zs,e1,e2,q⟩=>by cases e1; cases e2; exact⟨xs,zs,q⟩,fun ⟨xs,zs,q⟩=>⟨l,b,xs,zs,rfl,rfl,q⟩⟩
theorem kJ(K:PySem.W.Frag){tg l:Expr}{tl:TE}(hl:PE X l tl)(hK:X.K=K:=by rfl):PI X tg l (zi K tl):=hK ▸ DQ hl
theorem uP(K:PySem.W.Frag)(tl:TE){σ : St}{H:Hp}{R:It→Hp→Prop}:zi K tl σ H R=tl σ H fun x H1=>∃ a,x = .ref a∧(∃ xs,SqT K H1 a xs)∧R (xP K a) H1:=rfl
end
section
variable{K:PySem.W.Frag}{a b:Addr}{xs ys:List V}{g:TG}{te:TE}{nT:Nat}{σ : St}{D:Addr}{Q:VK}{H:Hp}
theorem qw{tb:TS}{D:dR}(Pv:Nat→St→Hp→Prop)(h0:Pv 0 σ H)(hl:∀ i σ H,i≤xs.length→Pv i σ H→SqT K H a xs)
  (hs:∀ i x σ H,xs[i]? = some x→Pv i σ H→g x σ H fun σ2 H2=>tb { D with nx:=Pv (i+1),ct:=Pv (i+1),bk:=D.nx } σ2 H2) (hd:∀ σ H,Pv xs.length σ H→D.nx σ H):je (xP K a) g tb D σ H:=by
 refine kK xs.length Pv h0 (fun i σ H hi p=>⟨xs,xs[i],hl i σ H (Nat.le_of_lt hi) p,by simp[hi]⟩) (fun σ H p=>⟨xs,hl _ σ H (Nat.le_refl _) p,Nat.le_refl _⟩) (fun i σ H x H' hi p yl=>?_) hd
 obtain⟨rfl,y⟩:=yl
 exact hs i x σ _ (y xs (hl i σ _ (Nat.le_of_lt hi) p)) p
theorem n9(Pv:Nat→List V→Hp→Prop)(h0:Pv 0 [] H)(hl:∀ i ys H,i≤xs.length→Pv i ys H→SqT K H a xs)
  (hs:∀ i ys H x,xs[i]? = some x→i<xs.length→Pv i ys H→g x (σ++List.replicate nT none) H (mf xs.length i Pv D ys te))
  (hd:∀ ys H,Pv xs.length ys H→Q (.ref D) H):gB (xP K a) g pP te nT σ D Q H:=by
 refine pH xs.length Pv h0 (fun i ys H hi p=>⟨xs,xs[i],hl i ys H (Nat.le_of_lt hi) p,by simp[hi]⟩) (fun ys H p=>⟨xs,hl _ ys H (Nat.le_refl _) p,Nat.le_refl _⟩) (fun i ys H x H' hi p yl=>?_) hd
 obtain⟨rfl,y⟩:=yl
 exact hs i ys _ x (y xs (hl i ys _ (Nat.le_of_lt hi) p)) hi p
theorem ow{tb:TS}{D:dR}(Pv:Nat→St→Hp→Prop)(hn:xs.length=ys.length)(h0:Pv 0 σ H)(hl:∀ i σ H,i≤xs.length→Pv i σ H→SqT K H a xs∧SqT K H b ys)
  (hs:∀ i x y t σ H,xs[i]? = some x→ys[i]? = some y→Pv i σ H→H t=none→g (.ref t) σ (upd H t (.tup [x,y])) fun σ2 H2=>tb { D with nx:=Pv (i+1),ct:=Pv (i+1),bk:=D.nx } σ2 H2) (hd:∀ σ H,Pv xs.length σ H→D.nx σ H):je (BI K a b) g tb D σ H:=by
 refine kK xs.length Pv h0 (fun i σ H hi p=>⟨xs,ys,xs[i],ys[i],(hl i σ H (Nat.le_of_lt hi) p).1,(hl i σ H (Nat.le_of_lt hi) p).2,by simp[hi],by simp[hn ▸ hi]⟩) (fun σ H p=>⟨xs,ys,(hl _ σ H (Nat.le_refl _) p).1,(hl _ σ H (Nat.le_refl _) p).2,.inl (Nat.le_refl _)⟩) (fun i σ H v H' hi p yl=>?_) hd
 obtain⟨t,x,y,ht,rfl,rfl,y1,y2⟩:=yl
 exact hs i x y t σ H (y1 xs (hl i σ H (Nat.le_of_lt hi) p).1) (y2 ys (hl i σ H (Nat.le_of_lt hi) p).2) p ht
end
theorem SqT.same{K:PySem.W.Frag}{H H':Hp}{a:Addr}{xs:List V}(h:SqT K H a xs)(sm:Same H H'):SqT K H' a xs:=by
 rcases h with (h | ⟨o,h⟩) | h
 ·exact .inl (.inl (sm _ _ h))
 ·exact .inl (.inr ⟨o,sm _ _ h⟩)
 ·exact .inr h
theorem cw{α : Type}{x:α}{xs:List α}:eP (x::xs) 0=some x:=aT (j:=0) rfl
theorem SqT.updL{K:PySem.W.Frag}{H:Hp}{a l:Addr}{xs ys:List V}{o:HO}(h:SqT K H a xs)(hl:H l=some (.lst ys)):SqT K (upd H l o) a xs:=by
 rcases h with (h | ⟨o',h⟩) | h
 ·exact .inl (.inl (by rw[aj (b8 h hl (fun z=>nomatch z))]; exact h))
 ·exact .inl (.inr ⟨o',by rw[aj (b8 h hl (fun z=>nomatch z))]; exact h⟩)
 ·exact .inr h
section
variable{X:Cx}
def xN(K:PySem.W.Frag):V→List V→Hp→VK→Prop:=fun x vs H Q=>∃ (sep:Str) (p:Addr) (ss:List Str),x = .str sep∧vs=[.ref p]∧SqT K H p (ss.map V.str)∧(ss.map (·.length)).sum+ss.length * sep.length≤16777216∧Q (.str (Txt.join sep ss)) H
theorem yV(K:PySem.W.Frag)(hK:X.K=K:=by rfl):MtR X "str.join" (xN K):=by
 subst hK;intro pins s σ H x xs v us Q I rx r h
 obtain⟨sep,p,ss,rfl,rfl,hq,hz,q⟩:=h
 obtain⟨t,rfl⟩:=rx
 obtain⟨u,rfl,ru⟩:=dW r
 cases ru;obtain⟨its,rv,pl,_⟩:=I.tuple hq
 exact join_tuple pl (by simpa using j3 rv) hz fun t' k=>⟨.str (Txt.join sep ss),H,I.tok k,⟨t',rfl⟩,q⟩
theorem oq{K:PySem.W.Frag}{H:Hp}{Q:VK}(sep:Str)(p:Addr):xN K (.str sep) [.ref p] H Q=∃ ss,SqT K H p (ss.map V.str)∧(ss.map (·.length)).sum+ss.length * sep.length≤16777216∧Q (.str (Txt.join sep ss)) H:=
 propext ⟨fun ⟨_,_,ss,e1,e2,q⟩=>by cases e1; cases e2; exact⟨ss,q⟩,fun ⟨ss,q⟩=>⟨sep,p,ss,rfl,rfl,q⟩⟩
end
def BM(K:PySem.W.Frag)(a:Addr)(n:Nat):It:=
 ⟨fun i H=>i<n∧∃ xs x,SqL K H a xs∧xs[n - 1 - i]? = some x,fun i H x H'=>H'=H∧∀ xs,SqL K H a xs→xs[n - 1 - i]? = some x,fun i _=>i=n⟩
theorem zY{P:Program}{w:World}{K:PySem.W.Frag}{tg:Expr}(a it:Addr)(n:Nat):jP P w K tg (BM K a n) [it] it (fun i h=>h.IsRevIter it a ((n:Int) - 1 - (i:Nat))) where
 mem:=by simp
 obj:=fun i h st b hb=>by
  have e:b=it:=by simpa using hb
  subst e;obtain⟨o,e,c,d⟩:=st
  exact⟨o,e,fun v z=>by rw[d]at z; cases z⟩
 keep:=fun i h h' st k=>st.at fun o e=>k it (by simp) o e
 item:=by
  intro X hP hw hK hc i pins s σ H E I hf st hg
  subst hP hw hK;obtain⟨hi,xs,x,hq,hx⟩:=hg
  obtain⟨its,rv,p,hz⟩:=I.list hq
  obtain⟨u,hu,ru⟩:=rv.get hx
  obtain⟨f0,f1,f2,f3,f4,f5⟩:=hf it (by simp)
  have e:(n:Int) - 1 - (i:Int)=((n - 1 - i:Nat):Int):=by omega
  rw[e]at st
  refine wpAny_pyNext_rev_item st p.isList (x:=u) (by simpa using hu) fun h' st' sb=>?_
  have I1:Inv X pins σ H { s with heap:=h' }:=I.turned (t':=s.toks) (fun b o hb e=>(sb.2 b hb).trans e) f0 f1 f3 f4 f5
  have e2:((n - 1 - i:Nat):Int) - 1=(n:Int) - 1 - ((i+1:Nat):Int):=by omega
  rw[e2]at st'
  obtain⟨o,eo,c,d⟩:=id st'
  exact⟨u,rfl,pA (s:={ s with heap:=h' }) eo c d (by decide) ⟨x,H,I1,ru,⟨rfl,fun ys hy=>by rw[I.list_inj hy hq]; exact hx⟩,st',fun b hb=>(hf b hb).1⟩⟩
 done:=by
  intro X hP hw hK hc i pins s σ H E I hf st hg
  subst hP hw hK;obtain⟨f0,f1,f2,f3,f4,f5⟩:=hf it (by simp)
  have hg':i=n:=hg
  have e:(n:Int) - 1 - (i:Int) = -1:=by omega
  rw[e]at st
  exact wpAny_pyNext_rev_end (I.ok.hd hc) st fun h' eb=>⟨rfl,I.turned (t':=s.toks) (fun b o hb e=>eb b o hb e) f0 f1 f3 f4 f5⟩
 self:=fun _ _ _ _ _ st h=>wpAny_pyIter_revIter st h
theorem oZ:bootBuiltins "reversed" = some (.type "reversed"):=by decide +kernel
def Eg(K:PySem.W.Frag)(ta:TA):TI:=fun σ H R=>ta σ H fun vs H1=>∃ a:Addr,vs=[.ref a]∧∃ xs,SqL K H1 a xs∧R (BM K a xs.length) H1
theorem ux(K:PySem.W.Frag)(ta:TA){σ : St}{H:Hp}{R:It→Hp→Prop}:Eg K ta σ H R=ta σ H fun vs H1=>∃ a:Addr,vs=[.ref a]∧∃ xs,SqL K H1 a xs∧R (BM K a xs.length) H1:=rfl
theorem DK(K:PySem.W.Frag){X:Cx}{tg:Expr}{a:Expr}{ta:TA}{p pos:Pos}(hg:Gl X "reversed") (hm:X.mg "reversed" = none) (ha:PA X [a] ta) (hs:starEach [a] X.env=[(false,eval a X.env)]:=by rfl) (hK:X.K=K:=by rfl) :
  PI X tg (.Call (.Name "reversed" p) [a] [] pos) (Eg K ta):=by
 subst hK;intro pins s σ H R I h
 refine Call_ (ig I hg hm oZ (PyProof.Rows.callWith_type1 (bf (ha pos pins s σ H _ I h) fun us s1 ⟨vs,H1,I1,r1,q1⟩=>?_) hs rfl))
 obtain⟨l,e,xs,h1,q⟩:=q1
 subst e;obtain⟨u1,rfl,r1'⟩:=dW r1
 obtain rfl:u1=Value.ref l:=r1'
 obtain⟨its,rv,pl,hz⟩:=I1.list h1
 have hlen:its.toArray.size=xs.length:=by rw[List.size_toArray]; exact rv.length.symm
 refine call_reversed_list pl.isList ?_
 rw[hlen];have hit:(s1.heap.push (revObj l ((xs.length:Int) - 1))).IsRevIter s1.heap.objs.size l ((xs.length:Int) - 1 - ((0:Nat):Int)):=⟨_,Heap.get?_push_size _ rfl,rfl,by simp[revObj]⟩
 refine wpAny_pyIter_revIter (s:={ s1 with heap:=s1.heap.push (revObj l ((xs.length:Int) - 1)) }) hit ⟨s1.heap.objs.size,[s1.heap.objs.size],_,_,H1,rfl,I1.kept (t':=s1.toks) fun b o e=>Heap.get?_push_of_some _ e,zY l _ xs.length,hit,fun b hb=>?_,q⟩
 have e:b=s1.heap.objs.size:=by simpa using hb
 subst e;exact I1.fpOk (Nat.le_refl _) (I1.hok.fresh (Nat.le_refl _))
section
variable{K:PySem.W.Frag}{a:Addr}{xs:List V}{g:TG}{σ : St}{H:Hp}
theorem AE{tb:TS}{D:dR}(Pv:Nat→St→Hp→Prop)(h0:Pv 0 σ H)(hl:∀ i σ H,i≤xs.length→Pv i σ H→SqL K H a xs)
  (hs:∀ i x σ H,i<xs.length→xs[xs.length - 1 - i]? = some x→Pv i σ H→g x σ H fun σ2 H2=>tb { D with nx:=Pv (i+1),ct:=Pv (i+1),bk:=D.nx } σ2 H2) (hd:∀ σ H,Pv xs.length σ H→D.nx σ H):je (BM K a xs.length) g tb D σ H:=by
 refine kK xs.length Pv h0 (fun i σ H hi p=>⟨hi,xs,xs[xs.length - 1 - i],hl i σ H (Nat.le_of_lt hi) p,List.getElem?_eq_getElem _⟩) (fun σ H p=>rfl) (fun i σ H x H' hi p yl=>?_) hd
 obtain⟨rfl,y⟩:=yl
 exact hs i x σ _ hi (y xs (hl i σ _ (Nat.le_of_lt hi) p)) p
end
theorem FU{P:Program}{w:World}{k:aK}{u:Value}(h:(cN P w).is k u=true):RelV (kV k) u:=by
 cases k with
 | inl i=>
  obtain⟨t,rfl⟩:=Value.isInt_shape (show Value.isInt i u=true from h)
  exact⟨t,rfl⟩
 | inr x=>
  obtain⟨t,rfl⟩:=Value.isStrOf_shape (show Value.isStrOf x u=true from h)
  exact⟨t,rfl⟩
section
variable{X:Cx}
def xq:List V→Hp→VK→Prop:=fun xs H Q=>∃ d kvs,xs=[.ref d]∧H d=some (.dK kvs)∧kvs.length≤60000∧∀ l,H l=none→Q (.ref l) (upd H l (.lst (kvs.map fun kv=>kV kv.1)))
theorem ou{H:Hp}{Q:VK}(d:Addr):xq [.ref d] H Q=∃ kvs,H d=some (.dK kvs)∧kvs.length≤60000∧∀ l,H l=none→Q (.ref l) (upd H l (.lst (kvs.map fun kv=>kV kv.1))):=
 propext ⟨fun ⟨_,kvs,e,q⟩=>by cases e; exact⟨kvs,q⟩,fun ⟨kvs,q⟩=>⟨d,kvs,rfl,q⟩⟩
theorem vy{m:Nat}(hr:Room m X.A):CallR X (.type "list") xq:=by
 intro pins s σ H xs us Q I r h
 obtain⟨d,kvs,rfl,ed,hn,q⟩:=h
 obtain⟨u,rfl,ru⟩:=dW r
 cases ru;obtain⟨_,hd,vs,rel,dd⟩:=lU I.hok (.inl ed)
 obtain⟨ep,hm⟩:=dd.dictAt
 have hs:sizeLine=16777216:=sizeLine_eq
 have hl:kvs.length=vs.length:=Paired.length rel
 refine PySem.W.kdl_call (PySem.W.kdl_dict (knd:=cN X.prog X.w) (kvs:=vs) (ep:=ep) hd) hr.hd hm (by omega) fun h' tk acc' c' hk hS hacc=>?_
 refine⟨.ref s.heap.objs.size,_,I.laid hk (Nat.le_refl _) (show ObjOk X.prog X.w _ h' _ (.lst (kvs.map fun kv=>kV kv.1)) from ⟨by simp; omega,acc'.toList,c',?_,by simpa using hS⟩),rfl,q _ (I.hok.fresh (Nat.le_refl _))⟩
 refine s_ _ _ (by simp[hacc.1,hl]) fun j x w' e1 e2=>?_
 obtain⟨k,y,hk',his⟩:=hacc.2 j w' (by rw[← Array.getElem?_toList]; exact e2)
 rw[List.getElem?_map]at e1
 cases hkv:kvs[j]? with
 | none=>rw[hkv]at e1; cases e1
 | some kv=>
  rw[hkv]at e1
  cases e1;have:=(l7 rel hkv hk').1
  show RelV (kV kv.1) w'
  rw[this];exact FU his
end
end L2
namespace L2
open PySem PySem.Spec PyProof.Rows PySem.SeqAt
structure Fl (K:PySem.W.Frag) (C:Addr) (f:Str):Prop where
 c:Cls K C
 n:NoAttr K C f
structure MethAt (K:PySem.W.Frag) (C:Addr) (m qual:Str) (st:Stmt):Prop where
 ex:∃ f fd,Fun K m qual st f fd∧Ad K C m f
 cl:Cls K C
structure MakeAt (K:PySem.W.Frag) (mg:Str→Option Value) (x:Str) (C:Addr) (qual:Str) (st:Stmt):Prop where
 ex:∃ f fd,Fun K "__init__" qual st f fd∧Mk K C f∧mg x=some (.ref C)
structure cI (P:Program) (w:World) (K:PySem.W.Frag) (mg:Str→Option Value) (base:Heap) (k:Nat) (C:Addr) (m:Str) (ps:List Str) (sp:Sp):Prop where
 ex:∃ f fd,FnOk P w K mg base iZ k f fd ps sp∧Binds K fd ps []∧Ad K C m f
 cl:Cls K C
structure j_ (P:Program) (w:World) (K:PySem.W.Frag) (mg:Str→Option Value) (base:Heap) (k:Nat) (x:Str) (C:Addr) (ps:List Str) (sp:Sp):Prop where
 ex:∃ f fd,FnOk P w K mg base iZ k f fd ps sp∧Binds K fd ps []∧Mk K C f∧mg x=some (.ref C)
section
variable{P:Program}{w:World}{K:PySem.W.Frag}{mg:Str→Option Value}{base:Heap}
theorem MethAt.mcal{C:Addr}{m qual:Str}{st:Stmt}{N ps:List Str}{k:Nat}{sp:Sp}(D:MethAt K C m qual st)(S:aE N ps (defScope st))
  (hb:∀ (kV doc pm:Value) (an:Option Addr) (cdv ct:Value) (us:List Value),us.length=ps.length→bindArgs (PySem.W.fnOf m qual (defArgs st) (defBody st) (defScope st) .none kV doc pm an cdv ct) ⟨us,[]⟩=pure (ps.zip us))
  (len:∀ vs H Q E,sp vs H Q E→vs.length=ps.length)
  (hbody:∀ (f:Addr) (cdv:Value) (A:Around) (outer:List Env) (s:Shared) (H:Hp) (vs:List V) (Q:VK) (E:XK),Room k (A.deeper (envOfC qual (defScope st) s.heap.objs.size f cdv))→sp vs H Q E→
   ∃ t,PSs (jy iZ P w K mg base N qual (defScope st) f cdv A outer s H E).nox (defBody st) t∧t { nx:=fun _ H'=>Q .non H',rt:=Q } (start N vs) H):cI P w K mg base (k+1) C m ps sp:=by
 obtain⟨f,fd,F,m⟩:=D.ex
 exact⟨⟨f,fd,F.ok S len fun cdv A outer s H vs Q E hr h=>hbody f cdv A outer s H vs Q E hr h,F.binds hb,m⟩,D.cl⟩
theorem MakeAt.mkal{x:Str}{C:Addr}{qual:Str}{st:Stmt}{N ps:List Str}{k:Nat}{sp:Sp}(D:MakeAt K mg x C qual st)(S:aE N ps (defScope st))
  (hb:∀ (kV doc pm:Value) (an:Option Addr) (cdv ct:Value) (us:List Value),us.length=ps.length→bindArgs (PySem.W.fnOf "__init__" qual (defArgs st) (defBody st) (defScope st) .none kV doc pm an cdv ct) ⟨us,[]⟩=pure (ps.zip us))
  (len:∀ vs H Q E,sp vs H Q E→vs.length=ps.length)
  (hbody:∀ (f:Addr) (cdv:Value) (A:Around) (outer:List Env) (s:Shared) (H:Hp) (vs:List V) (Q:VK) (E:XK),Room k (A.deeper (envOfC qual (defScope st) s.heap.objs.size f cdv))→sp vs H Q E→
   ∃ t,PSs (jy iZ P w K mg base N qual (defScope st) f cdv A outer s H E).nox (defBody st) t∧t { nx:=fun _ H'=>Q .non H',rt:=Q } (start N vs) H):j_ P w K mg base (k+1) x C ps sp:=by
 obtain⟨f,fd,F,m,g⟩:=D.ex
 exact⟨f,fd,F.ok S len fun cdv A outer s H vs Q E hr h=>hbody f cdv A outer s H vs Q E hr h,F.binds hb,m,g⟩
end
def Bn(C:Addr)(f:Str)(ta:TE):TE:=fun σ H Q=>ta σ H fun x H1=>∃ a,x = .ref a∧∃ dx fs v,H1 a=some (.ins C dx fs)∧fs.lookup f=some v∧Q v H1
def A6(C:Addr)(f:Str)(ta tv:TE):TS:=fun D σ H=>tv σ H fun y H1=>ta σ H1 fun x H2=>∃ a,x = .ref a∧∃ dx fs,H2 a=some (.ins C dx fs)∧fs.length<1000∧D.nx σ (upd H2 a (.ins C dx (cQ f y fs)))
def wV(C:Addr)(m:Str)(sp:Sp)(ta:TE)(t:TA):TE:=fun σ H Q=>ta σ H fun x H1=>∃ a,x = .ref a∧(∃ dx fs,H1 a=some (.ins C dx fs)∧fs.lookup m=none)∧t σ H1 fun vs H2=>sp (.ref a::vs) H2 Q E0
def yq(C:Addr)(sp:Sp)(t:TA):TE:=fun σ H Q=>t σ H fun vs H1=>∀ x dx,H1 x=none→H1 dx=none→dx≠x→sp (.ref x::vs) (upd (upd H1 dx (.own x)) x (.ins C dx [])) (fun v H2=>v = .non∧Q (.ref x) H2) E0
section
variable{X:Cx}{o e value:Expr}{es:List Expr}{f m:Str}{pos pos' apos p:Pos}{ta tv:TE}{t:TA}{C:Addr}{x:Str}{ps:List Str}{sp:Sp}{j k:Nat}
theorem au(g:Fl X.K C f)(he:PE X e ta)(hb:attributeBase e f X.env (eval e X.env)=eval e X.env:=by rfl):PE X (.Attribute e f pos) (Bn C f ta):=by
 intro pins s σ H Q I h
 refine Cd hb (bf (he pins s σ H _ I h) fun u s1 ⟨x,H1,I1,rx,a,ex,dx,fs,v,ea,l,q⟩=>?_)
 subst ex;obtain rfl:u=Value.ref a:=rx
 exact vU I1 ea g.c g.n l fun u' s2 I2 ru=>⟨v,H1,I2,ru,q⟩
theorem cW(g:Fl X.K C f)(ha:PE X o ta)(hv:PE X value tv)(hs:swapsWith value (some (.Attribute o f pos')) pos.line X.env=pure false:=by rfl):PS X (.Assign [.Attribute o f pos'] value pos) (A6 C f ta tv):=by
 intro pins s σ H D I h
 refine plainObj_wpAny_Assign_Attribute (bf (hv pins s σ H _ I h) fun u s1 ⟨y,H1,I1,ry,q⟩=>bf (ha pins s1 σ H1 _ I1 q) fun ov s2 ⟨x,H2,I2,rx,a,ex,dx,fs,ea,l,q2⟩=>?_) hs
 subst ex;obtain rfl:ov=Value.ref a:=rx
 exact vE I2 ea g.c g.n l ry fun s3 I3=>⟨σ,_,I3,q2⟩
theorem bn(c:cI X.prog X.w X.K X.mg X.base j C m ps sp)(hr:Room k X.A)(he:PE X o ta)(ha:PA X (e::es) t)(hle:j≤k:=by decide){pl:Sem Bool}
  (hst:starEach (e::es) X.env=(false,eval e X.env)::starEach es X.env:=by rfl) (hpl:(backTo pos (starEach es X.env)).any (·.1)=false:=by rfl)
  (ht:eval (.Call (.Attribute o m apos) (e::es) [] pos) X.env=(do
   let ov ← eval o X.env
   standAt apos.atName
   let (f,first) ← holding [ov] (getMethod ov m pl)
   callWith pos f first (backTo pos (starEach (e::es) X.env)) (backToKw pos (keywordEach [] X.env))):=by rfl) :
  PE X (.Call (.Attribute o m apos) (e::es) [] pos) (wV C m sp ta t):=by
 obtain⟨f,fd,F,b,hm⟩:=c.ex
 intro pins s σ H Q I h
 refine PySem.W.methodCall_KW (pl:=pl) (bf (he pins s σ H _ I h) fun u s1 ⟨x,H1,I1,rx,a,ex,⟨dx,fs,ea,l⟩,q⟩=>?_) ht
 subst ex;obtain rfl:u=Value.ref a:=rx
 refine vT I1 ea c.cl hm l ?_
 refine PySem.W.callWith_K (first:=[.ref a]) (h₀:=X.base) I.ok.mod.kin hm.kp (bf (ha pos pins s1 σ H1 _ I1 q) fun us s2 ⟨vs,H2,I2,r,q2⟩=>⟨I2.kIn,?_⟩) hst hpl
 exact xQ (us:=.ref a::us) (vs:=.ref a::vs) F (hr.mono hle) b .nil vZ I2 (.cons rfl r) (by rw[List.append_nil]; exact q2)
theorem u6(c:j_ X.prog X.w X.K X.mg X.base j x C ps sp)(hr:Room k X.A)(ha:PA X (e::es) t)(hle:j+1≤k:=by decide)(hg:Gl X x:=by first | exact vGg (by decide +kernel) | rfl)(hdb:(x == ("__debug__" : Str))=false:=by decide)
  (he:starEach (e::es) X.env=(false,eval e X.env)::starEach es X.env:=by rfl) (hpl:(backTo pos (starEach es X.env)).any (·.1)=false:=by rfl) :
  PE X (.Call (.Name x p) (e::es) [] pos) (yq C sp t):=by
 obtain⟨f,fd,F,b,M,hm⟩:=c.ex
 intro pins s σ H Q I h
 refine wpAny_Call_Name_kw (mV I hg hm ?_ hdb)
 refine PySem.W.callWith_K (h₀:=X.base) I.ok.mod.kin M.kp (bf (ha pos pins s σ H _ I h) fun us s1 ⟨vs,H1,I1,r,q⟩=>⟨I1.kIn,?_⟩) he hpl
 exact A4 M F (hr.mono hle) b .nil vZ I1 r (by simpa only[List.append_nil] using q)
end
section
variable{C:Addr}{f m:Str}{sp:Sp}{ta tv:TE}{t:TA}{σ : St}{H:Hp}{Q:VK}
theorem rO:Bn C f ta σ H Q=ta σ H fun x H1=>∃ a,x = .ref a∧∃ dx fs v,H1 a=some (.ins C dx fs)∧fs.lookup f=some v∧Q v H1:=rfl
theorem rL{D:dR}:A6 C f ta tv D σ H=tv σ H fun y H1=>ta σ H1 fun x H2=>∃ a,x = .ref a∧∃ dx fs,H2 a=some (.ins C dx fs)∧fs.length<1000∧D.nx σ (upd H2 a (.ins C dx (cQ f y fs))):=rfl
theorem oN:wV C m sp ta t σ H Q=ta σ H fun x H1=>∃ a,x = .ref a∧(∃ dx fs,H1 a=some (.ins C dx fs)∧fs.lookup m=none)∧t σ H1 fun vs H2=>sp (.ref a::vs) H2 Q E0:=rfl
theorem oG:yq C sp t σ H Q=t σ H fun vs H1=>∀ x dx,H1 x=none→H1 dx=none→dx≠x→sp (.ref x::vs) (upd (upd H1 dx (.own x)) x (.ins C dx [])) (fun v H2=>v = .non∧Q (.ref x) H2) E0:=rfl
theorem oE{td ty:TE}:yi td ty σ H Q=td σ H fun x H1=>∃ a,x = .ref a∧Bu H1 a∧ty σ H1 fun y H2=>∃ o,DGet H2 a y o∧Q (o.getD .non) H2:=rfl
theorem bb{R:V→Prop}{a dx:Addr}{fs:List (Str × V)}{v:V}(h:H a=some (.ins C dx fs))(l:fs.lookup f=some v)(q:R v):∃ dx fs v,H a=some (.ins C dx fs)∧fs.lookup f=some v∧R v:=⟨dx,fs,v,h,l,q⟩
theorem De{a:Addr}{kvs:List (aK × V)}(h:H a=some (.dK kvs)):Bu H a:=.inl ⟨kvs,.inl h⟩
end
theorem EL{f:Str}{v:V}{fs:List (Str × V)}:List.lookup f ((f,v)::fs)=some v:=by simp[List.lookup]
theorem fE{f g:Str}{v:V}{fs:List (Str × V)}(h:(f == g)=false):List.lookup f ((g,v)::fs)=List.lookup f fs:=by simp[List.lookup,h]
theorem Fg{f:Str}:List.lookup f ([]:List (Str × V))=none:=rfl
theorem zt{f:Str}{v x:V}{r:List (Str × V)}:cQ f v ((f,x)::r)=(f,v)::r:=by simp[cQ]
theorem xu{f g:Str}{v x:V}{r:List (Str × V)}(h:¬ g=f):cQ f v ((g,x)::r)=(g,x)::cQ f v r:=by simp[cQ,h]
theorem y_{f:Str}{v:V}:cQ f v []=[(f,v)]:=rfl
section
variable{X:Cx}
def wX:V→List V→Hp→VK→Prop:=fun x xs H Q=>∃ s y,x = .str s∧xs=[.str y]∧(y.length == 0)=false∧s.length≤100000∧∀ l,H l=none→Q (.ref l) (upd H l (.lst ((Txt.split s y).map V.str)))
theorem oR{H:Hp}{Q:VK}(s y:Str):wX (.str s) [.str y] H Q=((y.length == 0)=false∧s.length≤100000∧∀ l,H l=none→Q (.ref l) (upd H l (.lst ((Txt.split s y).map V.str)))):=
 propext ⟨fun ⟨_,_,e1,e2,q⟩=>by cases e1; cases e2; exact q,fun q=>⟨s,y,rfl,rfl,q⟩⟩
theorem y8(l:List (Str × Tok)):Vals ((l.map (·.1)).map V.str) (strValues l):=by
 induction l with
 | nil=>exact .nil
 | cons a l ih=>exact .cons ⟨a.2,rfl⟩ ih
theorem jm:MtR X "str.split" wX:=by
 intro pins s σ H x xs v us Q I rx r h
 obtain⟨z,y,rfl,rfl,hy,hz,q⟩:=h
 obtain⟨t,rfl⟩:=rx
 obtain⟨u,rfl,ru⟩:=dW r
 obtain⟨u,rfl⟩:=ru
 have hs:sizeLine=16777216:=sizeLine_eq
 have hn:(Txt.split z y).length≤z.length+2:=split_le z y
 have lay:∀ (l:List (Str × Tok)) (k:Tok),l.map (·.1)=Txt.split z y→EP X pins σ Q (.ref s.heap.objs.size) { s with heap:=s.heap.push { cls:=.type "list", data:=.seq (strValues l).toArray },toks:=k }:=by
  intro l k e
  refine⟨.ref s.heap.objs.size,_,I.laid (fun _ _ q=>Heap.get?_push_of_some _ q) (Nat.le_refl _) (show ObjOk X.prog X.w _ _ _ (.lst ((Txt.split z y).map V.str)) from ⟨by rw[List.length_map,hs]; omega,strValues l,_,e ▸ y8 l,Heap.get?_push_size _ rfl⟩),rfl,q _ (I.hok.fresh (Nat.le_refl _))⟩
 cases h1:(decide (z.length<y.length)||decide (Builtin.Str.strKind z<Builtin.Str.strKind y))
 ·cases hf:(Builtin.Str.occurrences z y 0 z.length (z.length+1)).isEmpty
  ·have e:Txt.split z y=Builtin.Str.partsBetween z (Builtin.Str.occurrences z y 0 z.length (z.length+1)) y.length:=(if_neg (ne_true_of_eq_false h1)).trans (if_neg (ne_true_of_eq_false hf))
   refine call_meets F.slot_str_split (typeIs_str _ _ _) F.entry_str_split (F.args_str_split_2 _ _) (meets_str_split_sep z y t u h1 hy hf (by rw[hs]; omega) (by rw[← e,hs]; omega)) ?_
   show wants _ _ _ { s with toks:=_,heap:=s.heap.push { cls:=.type "list", data:=.seq (strsFrom s.toks (Builtin.Str.partsBetween z (Builtin.Str.occurrences z y 0 z.length (z.length+1)) y.length)).toArray } }
   rw[strsFrom_eq];exact lay (numbered s.toks _) _ ((numbered_texts _ _).trans e.symm)
  ·exact call_meets F.slot_str_split (typeIs_str _ _ _) F.entry_str_split (F.args_str_split_2 _ _) (meets_str_split_not_found z y t u h1 hy hf)
    (lay [(z,t)] _ ((if_neg (ne_true_of_eq_false h1)).trans (if_pos hf)).symm)
 ·exact call_meets F.slot_str_split (typeIs_str _ _ _) F.entry_str_split (F.args_str_split_2 _ _) (meets_str_split_cannot_occur z y t u h1) (lay [(z,t)] _ (if_pos h1).symm)
def Bh:List V→Hp→VK→Prop:=fun xs H Q=>∃ i j,xs=[.int i,.int j]∧Q (.int (if j>i then j else i)) H
theorem xk(hc:X.calm=true:=by rfl):CallR X (.builtin "max") Bh:=yh hc
theorem qR{H:Hp}{Q:VK}(i j:Int):Bh [.int i,.int j] H Q=Q (.int (if j>i then j else i)) H:=propext ⟨fun ⟨_,_,e,q⟩=>by cases e; exact q,fun q=>⟨i,j,rfl,q⟩⟩
def F5:List V→Hp→VK→Prop:=fun xs H Q=>∃ x n,xs=[.str x]∧PySem.intText? x=some n∧x.length≤640∧Q (.int n) H
theorem oH:CallR X (.type "int") F5:=by
 intro pins s σ H xs us Q I r h
 obtain⟨x,n,rfl,hn,hl,q⟩:=h
 obtain⟨u,rfl,ru⟩:=dW r
 obtain⟨t,rfl⟩:=ru
 exact PySem.W.KIN.call_text hn hl ⟨.int n,H,I.tok _,⟨_,rfl⟩,q⟩
end
theorem p9{c:Nat}:∀ {p q t u:List Nat},c∉p→c∉q→p++c::t=q++c::u→p=q∧t=u
 | [],[],_,_,_,_,e=>⟨rfl,(List.cons.inj e).2⟩
 | [],b::q,_,_,_,hq,e=>absurd ((List.cons.inj e).1 ▸ List.mem_cons_self) hq
 | a::p,[],_,_,hp,_,e=>absurd ((List.cons.inj e).1 ▸ List.mem_cons_self) hp
 | a::p,b::q,t,u,hp,hq,e=>by
  obtain⟨e1,e2⟩:=List.cons.inj e
  obtain⟨e3,e4⟩:=p9 (p:=p) (q:=q) (fun z=>hp (List.mem_cons_of_mem _ z)) (fun z=>hq (List.mem_cons_of_mem _ z)) e2
  exact⟨by rw[e1,e3],e4⟩
theorem m_{x y:Str}(h:x.cps.toList=y.cps.toList):x=y:=by
 cases x; cases y
 exact congrArg _ (Array.toList_inj.mp h)
theorem fQ(x y:Str):(x++y).cps.toList=x.cps.toList++y.cps.toList:=Array.toList_append
theorem lP(c:Nat)(x y:Str)(r:List Str):(Str.join ⟨#[c]⟩ (x::y::r)).cps.toList=x.cps.toList++c::(Str.join ⟨#[c]⟩ (y::r)).cps.toList:=by
 rw[join_cons_cons,fQ,fQ];show (x.cps.toList++[c])++_=_
 rw[List.append_assoc]; rfl
theorem n8{c:Nat}:∀ {ps qs:List Str},ps≠[]→qs≠[]→(∀ p∈ps,c∉p.cps.toList)→(∀ q∈qs,c∉q.cps.toList)→Str.join ⟨#[c]⟩ ps=Str.join ⟨#[c]⟩ qs→ps=qs
 | [],_,h,_,_,_,_=>absurd rfl h
 | _::_,[],_,h,_,_,_=>absurd rfl h
 | [p],[q],_,_,_,_,e=>congrArg (fun z=>[z]) (show p=q from e)
 | [p],q::q'::qs,_,_,hp,_,e=>by
  have e':=congrArg (fun z:Str=>z.cps.toList) e
  simp only[lP]at e'
  have e2:p.cps.toList=q.cps.toList++c::(Str.join ⟨#[c]⟩ (q'::qs)).cps.toList:=e'
  exact absurd (e2 ▸ List.mem_append_right _ List.mem_cons_self) (hp p List.mem_cons_self)
 | p::p'::ps,[q],_,_,_,hq,e=>by
  have e':=congrArg (fun z:Str=>z.cps.toList) e
  simp only[lP]at e'
  have e2:q.cps.toList=p.cps.toList++c::(Str.join ⟨#[c]⟩ (p'::ps)).cps.toList:=e'.symm
  exact absurd (e2 ▸ List.mem_append_right _ List.mem_cons_self) (hq q List.mem_cons_self)
 | p::p'::ps,q::q'::qs,_,_,hp,hq,e=>by
  have e':=congrArg (fun z:Str=>z.cps.toList) e
  simp only[lP]at e'
  obtain⟨e1,e2⟩:=p9 (hp p List.mem_cons_self) (hq q List.mem_cons_self) e'
  have ih:=n8 (ps:=p'::ps) (qs:=q'::qs) (by simp) (by simp) (fun z hz=>hp z (List.mem_cons_of_mem _ hz)) (fun z hz=>hq z (List.mem_cons_of_mem _ hz)) (m_ e2)
  rw[m_ e1,ih]
theorem vN{ws:List Str}(h:ws≠[])(hf:∀ x∈ws,32∉x.cps.toList):Txt.split (Txt.join " " ws) " " = ws:=by
 have e0:(" " : Str)=⟨#[32]⟩:=by decide +kernel
 have e1:Str.join ⟨#[32]⟩ (Txt.split (Txt.join " " ws) " ")=Str.join ⟨#[32]⟩ ws:=by
  have:=PySem.StrLaws.join_split (Txt.join " " ws) " "
  rw[e0]at this ⊢
  rw[this];exact PySem.StrLaws.glued_eq_join _ ws
 refine n8 ?_ h ?_ hf e1
 ·intro z
  have:=split_pos (Txt.join " " ws) " "
  rw[z]at this; exact absurd this (by decide)
 ·rw[e0]; exact PySem.StrLaws.split_free _ 32
theorem jh(m:Nat):PySem.NumText.AllDigits ((Nat.toDigits 10 m).map Char.toNat)∧(Nat.toDigits 10 m).map Char.toNat≠[]:=by
 constructor
 ·intro c hc
  obtain⟨ch,hch,e⟩:=List.mem_map.mp hc
  rw[← e];exact digit_range (Nat.isDigit_of_mem_toDigits (by decide) (by decide) hch)
 ·intro e
  have h:=tDigits_len_ge 10 m;rw[List.map_eq_nil_iff.mp e]at h
  exact absurd h (by decide)
theorem xJ{m:Nat}(h:m<10 ^ 61):(Nat.toDigits 10 m).length≤61:=digits10_le (by decide) h
theorem jr{n:Int}(h:n.natAbs<10 ^ 61):PySem.intText? (Str.ofString (toString n))=some n∧(Str.ofString (toString n)).length≤640:=by
 obtain⟨d1,d2⟩:=jh n.natAbs
 have hl:=xJ h
 cases n with
 | ofNat m=>
  have e:(Str.ofString (toString (Int.ofNat m))).cps.toList=(Nat.toDigits 10 m).map Char.toNat:=PySem.W.KIN.signs_num m
  have el:(Str.ofString (toString (Int.ofNat m))).length=(Nat.toDigits 10 m).length:=by
   have:=congrArg List.length e
   rw[List.length_map]at this
   rw[← this]; exact Array.length_toList.symm
  have hm:(Nat.toDigits 10 m).length≤61:=hl
  refine⟨?_,by omega⟩
  have z:=intText_digits (x:=Str.ofString (toString (Int.ofNat m))) (by rw[e]; exact d1) (by rw[e]; exact d2) (by omega)
  rw[e,PySem.W.KIN.val_back]at z
  exact z
 | negSucc m=>
  have e:(Str.ofString (toString (Int.negSucc m))).cps.toList=45::(Nat.toDigits 10 (m+1)).map Char.toNat:=by
   rw[signs_ofString];show ("-" ++ Nat.repr (m+1)).toList.map Char.toNat=_
   rw[String.toList_append,List.map_append,Nat.toList_repr]; rfl
  have el:(Str.ofString (toString (Int.negSucc m))).length=(Nat.toDigits 10 (m+1)).length+1:=by
   have:=congrArg List.length e
   rw[List.length_cons,List.length_map]at this
   rw[← this]; exact Array.length_toList.symm
  have hm:(Nat.toDigits 10 (m+1)).length≤61:=hl
  refine⟨?_,by omega⟩
  have z:=intText_neg (x:=Str.ofString (toString (Int.negSucc m))) e d1 d2 (by omega)
  rw[PySem.W.KIN.val_back]at z
  exact z
end L2
namespace L2
open PySem PySem.Spec PyProof.Rows
section
variable{X:Cx}{tg e:Expr}
def Eu:TG:=fun _ _ _ _=>False
theorem lD:PG X tg Eu:=fun _ _ _ _ _ _ _ _ _ h=>h.elim
theorem An{K:PySem.W.Frag}{a:Addr}{g:TG}{tb:TS}{D:dR}{σ : St}{H:Hp}(h:SqL K H a [])(q:D.nx σ H):je (ma K a) g tb D σ H:=
 dh (xs:=[]) (fun _ σ' H'=>σ'=σ∧H'=H) ⟨rfl,rfl⟩ (fun i σ' H' _ z=>by rw[z.2]; exact h) (fun i x σ' H' z=>by simp at z) fun σ' H' z=>by rw[z.1,z.2]; exact q
end
end L2
namespace L2
open PySem PySem.Spec PyProof.Rows PySem.SeqAt PySem.Builtin PySem.Builtin.Str PySem.StrLaws
def qm:V→List V→Hp→VK→Prop:=fun x xs H Q=>∃ s y,x = .str s∧xs=[.str y]∧Q (.bl (decide (0+y.length≤s.length)&&subAt s y 0)) H
theorem k7{H:Hp}{Q:VK}(s y:Str):qm (.str s) [.str y] H Q=Q (.bl (decide (0+y.length≤s.length)&&subAt s y 0)) H:=
 propext ⟨fun ⟨_,_,e1,e2,q⟩=>by cases e1; cases e2; exact q,fun q=>⟨s,y,rfl,rfl,q⟩⟩
theorem oW{X:Cx}:MtR X "str.startswith" qm:=by
 intro pins s σ H x xs v us Q I rx r h
 obtain⟨z,y,rfl,rfl,q⟩:=h
 obtain⟨t,rfl⟩:=rx
 obtain⟨u,rfl,ru⟩:=dW r
 obtain⟨u,rfl⟩:=ru
 exact call_gives F.slot_str_startswith (typeIs_str _ _ _) F.entry_str_startswith (F.args_str_startswith_2 _ _) (gives_str_startswith z y t u) ⟨.bl _,H,I,rfl,q⟩
theorem yT{X:Cx}(K:PySem.W.Frag)(hK:X.K=K:=by rfl):OpR X (binaryOp .Add) (v6 K):=hK ▸ Cy
theorem rR{K:PySem.W.Frag}{H:Hp}{Q:VK}(a b:Addr):v6 K (.ref a) (.ref b) H Q=∃ xs ys,SqT K H a xs∧SqT K H b ys∧xs≠[]∧xs.length+ys.length≤sizeLine∧(ys=[]→Q (.ref a) H)∧(ys≠[]→∀ p,H p=none→Q (.ref p) (upd H p (.tup (xs++ys)))):=
 propext ⟨fun ⟨_,_,xs,ys,e1,e2,q⟩=>by cases e1; cases e2; exact⟨xs,ys,q⟩,fun ⟨xs,ys,q⟩=>⟨a,b,xs,ys,rfl,rfl,q⟩⟩
end L2
namespace L2
open PySem PySem.Spec PyProof.Rows
abbrev jL:=List (Option Int)
def MO(P:Program)(w:World):HeapKind P w (jL):=A8 (fq P w) (show 0≤7 by decide)
def F6(P:Program)(w:World)(a:Addr)(xs:List (jL × Addr × Value)):HO:=
 .ext fun h=>∃ o es ep,h.get? a=some o∧o.ExactDict∧o.data = .dict es ep∧es.toList=xs.map (entryOfKey (MO P w))∧(xs.map (·.1)).Nodup
def Jd(H:Hp)(k:jL)(b:Addr):Prop:=H b=some (.tup (k.map jp))
def Jj(H:Hp)(p:jL × V)(q:jL × Addr × Value):Prop:=q.1=p.1∧Jd H p.1 q.2.1∧RelV p.2 q.2.2
def DO(P:Program)(w:World)(H:Hp)(a:Addr)(kvs:List (jL × V)):Prop:=
 ∃ xs,H a=some (F6 P w a xs)∧(a == sysModules)=false∧xs.length≤sizeLine∧Paired (Jj H) kvs xs
end L2
namespace L2
open PySem PySem.Spec PyProof PyProof.Rows
section
variable{K:PySem.W.Frag}{a b:Addr}{xs ys:List V}{g:TG}{te:TE}{nT:Nat}{σ : St}{D:Addr}{Q:VK}{H:Hp}
theorem vG{tc:TT}(Pv:Nat→List V→Hp→Prop)(h0:Pv 0 [] H)(hl:∀ i zs H,i≤xs.length→Pv i zs H→SqL K H a xs)
  (hs:∀ i zs H x t,xs[i]? = some x→i<xs.length→Pv i zs H→H t=none→g (.ref t) (σ++List.replicate nT none) (upd H t (.tup [.int i,x])) (mF xs.length i Pv D zs tc te))
  (hd:∀ zs H,Pv xs.length zs H→Q (.ref D) H):gB (yI K a) g tc te nT σ D Q H:=by
 refine lJ xs.length Pv h0 (fun i zs H hi p=>⟨xs,xs[i],hl i zs H (Nat.le_of_lt hi) p,by simp[hi]⟩) (fun zs H p=>⟨xs,hl _ zs H (Nat.le_refl _) p,Nat.le_refl _⟩) (fun i zs H v H' hi p yl=>?_) hd
 obtain⟨t,x,ht,rfl,rfl,y1⟩:=yl
 exact hs i zs H x t (y1 xs (hl i zs H (Nat.le_of_lt hi) p)) hi p ht
end
end L2
namespace PySem.SeqAt
open AutoSeq1 (wpAny_loadPart')
open MeetsSeq MeetsSeq2 MeetsSeq3
open SeqRoads2
def LessAt(A:Around)(s:Shared)(y x:Value)(k:Bool):Prop:=
 ∀ (P:Program) (w:World) (E:Value→Shared→Prop) (Q:Value→Shared→Prop),Q (.bool k) s→wpAny (model P w) A (richCompare .Lt y x) Q E s
def kc(e l:Nat→Bool)(z:Bool):List Nat→Bool
 | []=>z
 | i::r=>if e i=true then kc e l z r else l i
theorem yW(p q:Addr)(xs ys:Array Value)(m k:Nat)(d1 d2:Option Addr)(s1 s2:Array (Option Value))(e lt:Nat→Bool) :
  Meets (Builtin.«tuple.__lt__» ⟨[.ref p,.ref q],[]⟩)
   (fun A R s=>s.heap.get? p=some { cls:=.type "tuple", dict:=d1,data:=.seq xs m,slots:=s1 }∧s.heap.get? q=some { cls:=.type "tuple", dict:=d2,data:=.seq ys k,slots:=s2 }∧
    (∀ j (h1:j<xs.size) (h2:j<ys.size),(∀ i,i<j→e i=true)→EqAt A.in1 s xs[j] ys[j] (e j))∧(∀ j (h1:j<xs.size) (h2:j<ys.size),e j=false→LessAt A.in1 s xs[j] ys[j] (lt j))∧
    R (.ok (.ret (.bool (kc e lt (decide (xs.size<ys.size)) (List.range (min xs.size ys.size)))))) s):=
 .of_wp fun P w A R s h=>by
  obtain⟨hp,g,d,tk,os⟩:=s; obtain⟨hx,hy,he,hlt,h⟩:=h
  have sub:=AutoSeq1.sub_tuple_tuple;have zl:(xs.toList.zip ys.toList).length=min xs.size ys.size:=by simp
  wp_walk using wpAny_loadPart' hx,wpAny_loadPart' hy,wpAny_forIn_list _ (fun left acc st=>acc.1=none∧st=⟨hp,g,d,tk,os⟩∧∃ i,left=(xs.toList.zip ys.toList).drop i∧(∀ j,j<i→e j=true)∧
   R (.ok (.ret (.bool (kc e lt (decide (xs.size<ys.size)) ((List.range (min xs.size ys.size)).drop i))))) ⟨hp,g,d,tk,os⟩) _
  case turn=>
   rintro⟨u,v⟩ left acc st ⟨ha,rfl,i,hz,hpre,hR⟩
   have il:i<(xs.toList.zip ys.toList).length:=by
    rcases Nat.lt_or_ge i (xs.toList.zip ys.toList).length with z | z
    ·exact z
    ·rw[List.drop_of_length_le z]at hz; cases hz
   have im:i<min xs.size ys.size:=zl ▸ il
   have i1:i<xs.size:=by omega
   have i2:i<ys.size:=by omega
   rw[List.drop_eq_getElem_cons il]at hz
   injection hz with huv hleft
   have eu:u=xs[i]:=by have:=congrArg Prod.fst huv; simpa using this
   have ev:v=ys[i]:=by have:=congrArg Prod.snd huv; simpa using this
   subst eu ev;have dd:(List.range (min xs.size ys.size)).drop i=i::(List.range (min xs.size ys.size)).drop (i+1):=by simp[List.drop_eq_getElem_cons,im]
   rw[dd]at hR
   refine wpAny_bind (he i i1 i2 hpre P w _ _ ?_)
   cases hei:e i with
   | true=>
    have hR':kc e lt (decide (xs.size<ys.size)) (i::(List.range (min xs.size ys.size)).drop (i+1))=kc e lt (decide (xs.size<ys.size)) ((List.range (min xs.size ys.size)).drop (i+1)):=by
     show (if e i=true then _ else _)=_; rw[hei]; rfl
    rw[hR']at hR
    wp_walk
    exact⟨rfl,rfl,i+1,hleft,fun j hj=>by rcases Nat.lt_or_ge j i with z | z; exact hpre j z; exact(Nat.le_antisymm (Nat.le_of_lt_succ hj) z).symm ▸ hei,hR⟩
   | false=>
    have hR':kc e lt (decide (xs.size<ys.size)) (i::(List.range (min xs.size ys.size)).drop (i+1))=lt i:=by
     show (if e i=true then _ else _)=_; rw[hei]; rfl
    rw[hR']at hR
    have hri:∀ (E:Value→Shared→Prop) (Q:Value→Shared→Prop),Q (.bool (lt i)) ⟨hp,g,d,tk,os⟩→wpAny (model P w) A.in1 (richCompare .Lt xs[i] ys[i]) Q E ⟨hp,g,d,tk,os⟩:=hlt i i1 i2 hei P w
    wp_walk using hri
    exact⟨_,rfl,hR⟩
  case fin=>
   rintro⟨b1,b2⟩ st ⟨ha,rfl,i,hz,_,hR⟩
   simp only at ha
   subst ha
   have hover:min xs.size ys.size≤i:=by
    rcases Nat.lt_or_ge i (xs.toList.zip ys.toList).length with z | z
    ·rw[List.drop_eq_getElem_cons z]at hz; cases hz
    ·exact zl ▸ z
   rw[List.drop_of_length_le (by simpa using hover)]at hR
   wp_walk
   exact⟨_,rfl,hR⟩
  case h=>
   exact⟨rfl,rfl,0,rfl,fun j hj=>absurd hj (Nat.not_lt_zero _),h⟩
section
variable{A:Around}{s:Shared}
theorem LessAt.tuples{p q:Addr}{xs ys:Array Value}{e lt:Nat→Bool}(hx:s.heap.IsTuple p xs)(hy:s.heap.IsTuple q ys)(hu:A.units<cLine)(he:∀ j (h1:j<xs.size) (h2:j<ys.size),(∀ i,i<j→e i=true)→EqAt A.in1 s xs[j] ys[j] (e j))
  (hl:∀ j (h1:j<xs.size) (h2:j<ys.size),e j=false→LessAt A.in1 s xs[j] ys[j] (lt j)):LessAt A s (.ref p) (.ref q) (kc e lt (decide (xs.size<ys.size)) (List.range (min xs.size ys.size))):=fun P w E Q h=>by
 obtain⟨⟨c1,d1,a1,s1⟩,o1,hc1,n1,hd1⟩:=id hx
 obtain⟨⟨c2,d2,a2,s2⟩,o2,hc2,n2,hd2⟩:=id hy
 simp only at hc1 hd1 hc2 hd2
 subst hc1 hd1 hc2 hd2;exact richCompare_meets_room (op:=.Lt) ⟨_,o1,rfl⟩ ⟨_,o2,rfl⟩ F.slot_tuple_lt F.entry_tuple_lt (F.args_tuple_lt_2 _ _) (yW p q xs ys n1 n2 d1 d2 s1 s2 e lt) ⟨o1,o2,he,hl,(fun z=>nomatch z),h⟩ hu
end
end PySem.SeqAt
namespace L2
open PySem PySem.Spec PyProof PyProof.Rows PySem.SeqAt
def Lt0(x y:V)(b:Bool):Prop:=(∃ i j,x = .int i∧y = .int j∧b=decide (i<j))∨∃ u v:Str,x = .str u∧y = .str v∧b=decide (u.cps.toList<v.cps.toList)
def LtN(K:PySem.W.Frag)(H:Hp):Nat→V→V→Bool→Prop
 | 0,x,y,b=>Lt0 x y b
 | n+1,x,y,b=>Lt0 x y b∨∃ (a c:Addr) (xs ys:List V) (e l:Nat→Bool),x = .ref a∧y = .ref c∧SqT K H a xs∧SqT K H c ys∧(∀ (i:Nat) x y,xs[i]? = some x→ys[i]? = some y→(∀ j,j<i→e j=true)→EqN K H n x y (e i))∧
   (∀ (i:Nat) x y,xs[i]? = some x→ys[i]? = some y→e i=false→LtN K H n x y (l i))∧b=kc e l (decide (xs.length<ys.length)) (List.range (min xs.length ys.length))
section
variable{X:Cx}{pins:List (Addr × Obj)}{σ : St}{H:Hp}{s:Shared}
theorem AK{A:Around}{i j:Int}{t u:Tok}:LessAt A s (.int i t) (.int j u) (decide (i<j)):=fun P w E Q h=>HT.rcLt_int A s i t j u P w E Q h
theorem AT{A:Around}{x y:Str}{t u:Tok}:LessAt A s (.str x t) (.str y u) (decide (x.cps.toList<y.cps.toList)):=fun P w E Q h=>lt_str h
theorem Lt0.at{A:Around}{x y:V}{b:Bool}{u v:Value}(h:Lt0 x y b)(rx:RelV x u)(ry:RelV y v):LessAt A s u v b:=by
 rcases h with ⟨i,j,rfl,rfl,rfl⟩ | ⟨p,q,rfl,rfl,rfl⟩
 ·obtain⟨t,rfl⟩:=rx
  obtain⟨t',rfl⟩:=ry
  exact AK
 ·obtain⟨t,rfl⟩:=rx
  obtain⟨t',rfl⟩:=ry
  exact AT
theorem LtN.at(I:Inv X pins σ H s):∀ {n:Nat} {A:Around} {x y:V} {b:Bool} {u v:Value},A.units+n<cLine→LtN X.K H n x y b→RelV x u→RelV y v→LessAt A s u v b
 | 0,A,x,y,b,u,v,_,h,rx,ry=>Lt0.at h rx ry
 | n+1,A,x,y,b,u,v,hu,h,rx,ry=>by
  rcases h with h | ⟨a,c,xs,ys,e,l,rfl,rfl,q1,q2,he,hl,rfl⟩
  ·exact Lt0.at h rx ry
  ·cases rx
   cases ry;obtain⟨i1,r1,p1,z1⟩:=I.tuple q1
   obtain⟨i2,r2,p2,z2⟩:=I.tuple q2
   have l1:=r1.length;have l2:=r2.length;have hin:A.in1.units+n<cLine:=by show A.units+1+n<cLine; omega
   have e1:xs.length=i1.toArray.size:=by simp; omega
   have e2:ys.length=i2.toArray.size:=by simp; omega
   rw[e1,e2];refine LessAt.tuples (show s.heap.IsTuple a i1.toArray from p1) (show s.heap.IsTuple c i2.toArray from p2) (by omega) (fun j h1 h2 hp=>?_) (fun j h1 h2 hf=>?_)
   ·obtain⟨x,hx,rx⟩:=r1.of (i:=j) (u:=i1.toArray[j]) (by simp at h1 ⊢)
    obtain⟨y,hy,ry⟩:=r2.of (i:=j) (u:=i2.toArray[j]) (by simp at h2 ⊢)
    exact EqN.at I hin (he j x y hx hy hp) rx ry
   ·obtain⟨x,hx,rx⟩:=r1.of (i:=j) (u:=i1.toArray[j]) (by simp at h1 ⊢)
    obtain⟨y,hy,ry⟩:=r2.of (i:=j) (u:=i2.toArray[j]) (by simp at h2 ⊢)
    exact LtN.at I hin (hl j x y hx hy hf) rx ry
end
end L2
namespace PySem
section
variable{M:Program}{w:World}{A:Around}{R:Result→Shared→Prop}{I:Addr}{fp wr:List Addr}{n:Nat}{Pv:Nat→Value→Prop}{St:Nat→Heap→Prop}
def gp(wr:List Addr)(S:Addr)(h0 h:Heap):Prop:=∀ b o,b∉wr→b≠S→h0.get? b=some o→h.get? b=some o
def Dp(M:Program)(w:World)(A:Around)(wr:List Addr)(S:Addr)(s0:Shared)(h0:Heap)(Pv:Nat→Value→Prop)(bt:Nat→Nat→Bool):Prop:=
 ∀ i j u v (h:Heap) (tk:Nat) (Q:Value→Shared→Prop) (E:Value→Shared→Prop),gp wr S h0 h→Pv i u→Pv j v→Q (.bool (bt i j)) { s0 with heap:=h,toks:=tk }→wpAny (model M w) A (richCompare .Lt u v) Q E { s0 with heap:=h,toks:=tk }
theorem yK(W:Walks M w A.in1 I fp wr n Pv St){bt:Nat→Nat→Bool}{S:Addr}{s0:Shared}{h0:Heap}(far:S∉fp)(cmp:Dp M w A.in1 wr S s0 h0 Pv bt) :
  ∀ (left j:Nat) (h:Heap) (tk0:Nat) (best:Value) (c:Nat),n - (j+1)=left→j+1≤n→St (j+1) h→Pv (argBest bt j) best→h.get? S=some { cls:=.type "list", dict:=none,data:=.seq #[best,best] c,slots:=#[] }→gp wr S h0 h→
  (∀ v h' tk,Pv (argBest bt (n - 1)) v→gp wr S h0 h'→R (.ok (.ret v)) { s0 with heap:=h',toks:=tk })→codeAny (model M w) A (.builtin "min.loop" ⟨[.ref I,.none,.ref S],[]⟩) R { s0 with heap:=h,toks:=tk0 }:=by
 have farw:S∉wr:=fun z=>far (W.sub _ z)
 have nm:(toString "min" ++ toString ".loop" : String) = "min.loop" := by decide
 intro left
 induction left with
 | zero=>
  intro j h tk0 best c hl hj hst hbest eS kb hR
  have jn:j+1=n:=by omega
  refine codeAny_builtin F.entry_min_loop (by
   rw[Around.under_plainId (F.plain_min_loop) _];show wpAny _ (A.in1) (seqItems? (.ref S) >>= _) _ _ _
   refine wpAny_bind (wpAny_seqItems eS rfl ?_)
   show wpAny _ (A.in1) (tryCatch (pyNext (.ref I)) _ >>= _) _ _ _
   refine wpAny_bind (wpAny_tryCatch (W.done _ _ _ (jn ▸ hst) fun h' tk kk=>?_))
   have eS':=kk S _ farw eS;show wpAny _ (A.in1) (updateSeq S (fun _=>#[]) >>= _) _ _ _
   refine wpAny_bind (wpAny_updateSeq eS' rfl (wpAny_bind (wpAny_letGo (wpAny_pure ?_))))
   exact hR best _ tk (by rw[← jn]; exact hbest) fun b o q1 q2 q3=>(Heap.get?_update_other _ _ (Ne.symm q2)).trans (kk b o q1 (kb b o q1 q2 q3)))
 | succ left ih=>
  intro j h tk0 best c hl hj hst hbest eS kb hR
  have jl:j+1<n:=by omega
  refine codeAny_builtin F.entry_min_loop (by
   rw[Around.under_plainId (F.plain_min_loop) _];show wpAny _ (A.in1) (seqItems? (.ref S) >>= _) _ _ _
   refine wpAny_bind (wpAny_seqItems eS rfl ?_)
   show wpAny _ (A.in1) (tryCatch (pyNext (.ref I)) _ >>= _) _ _ _
   refine wpAny_bind (wpAny_tryCatch (W.item (j+1) _ _ _ jl hst fun v h' tk hv st' kk=>?_))
   have eS':=kk S _ farw eS;have kb':gp wr S h0 h':=fun b o q1 q2 q3=>kk b o q1 (kb b o q1 q2 q3)
   show wpAny _ (A.in1) (tryCatch (holding [v,v] (richCompare .Lt v best >>= _)) _ >>= _) _ _ _
   refine wpAny_bind (wpAny_tryCatch (wpAny_holding (wpAny_bind (cmp (j+1) (argBest bt j) v best _ _ _ _ kb' hv hbest ?_))))
   refine wpAny_bind (wpAny_holding (wpAny_truthy_bool (wpAny_bind (wpAny_letGo (wpAny_pure ?_)))))
   cases less:bt (j+1) (argBest bt j) with
   | true=>
    simp only[if_true]
    refine wpAny_bind (wpAny_updateSeq eS' rfl (wpAny_bind (wpAny_letGo ?_)))
    rw[nm]
    refine wpAny_pure ⟨plainId_quiet F.plain_min_loop _,ih (j+1) _ _ v _ (by omega) jl (W.frame _ _ _ st' fun b hb o q=>(Heap.get?_update_other _ _ (fun z:S=b=>far (by rw[z]; exact hb))).trans q) (by simp only[argBest,less,if_true]; exact hv) (Heap.get?_update_self _ eS' rfl)
     (fun b o q1 q2 q3=>(Heap.get?_update_other _ _ (Ne.symm q2)).trans (kb' b o q1 q2 q3)) hR⟩
   | false=>
    simp only[if_false,Bool.false_eq_true]
    rw[nm];exact wpAny_bind <| wpAny_letGo <| wpAny_pure ⟨plainId_quiet F.plain_min_loop _,ih (j+1) _ _ best c (by omega) jl st' (by simp only[argBest,less,Bool.false_eq_true,if_false]; exact hbest) eS' kb' hR⟩)
end
section
variable{M:Program}{w:World}{A:Around}{E:Value→Shared→Prop}{s:Shared}
theorem xH{R:Result→Shared→Prop}{I:Addr}{fp wr:List Addr}{n:Nat}{Pv:Nat→Value→Prop}{St:Nat→Heap→Prop}(W:Walks M w A.in1 I fp wr n Pv St){bt:Nat→Nat→Bool}{S:Addr}{s0:Shared}{h0:Heap}(far:S∉fp)(cmp:Dp M w A.in1 wr S s0 h0 Pv bt)(some1:0<n){h:Heap}{tk0 c:Nat}(hst:St 0 h)
  (eS:h.get? S=some { cls:=.type "list", dict:=none,data:=.seq #[] c,slots:=#[] }) (kb:gp wr S h0 h) (hR:∀ v h' tk,Pv (argBest bt (n - 1)) v→gp wr S h0 h'→R (.ok (.ret v)) { s0 with heap:=h',toks:=tk }) :
  codeAny (model M w) A (.builtin "min.loop" ⟨[.ref I,.none,.ref S],[]⟩) R { s0 with heap:=h,toks:=tk0 }:=by
 have farw:S∉wr:=fun z=>far (W.sub _ z)
 have nm:(toString "min" ++ toString ".loop" : String) = "min.loop" := by decide
 refine codeAny_builtin F.entry_min_loop (by
  rw[Around.under_plainId (F.plain_min_loop) _];show wpAny _ (A.in1) (seqItems? (.ref S) >>= _) _ _ _
  refine wpAny_bind (wpAny_seqItems eS rfl ?_)
  show wpAny _ (A.in1) (tryCatch (pyNext (.ref I)) _ >>= _) _ _ _
  refine wpAny_bind (wpAny_tryCatch (W.item 0 _ _ _ some1 hst fun v h' tk hv st' kk=>?_))
  have eS':=kk S _ farw eS;show wpAny _ (A.in1) (updateSeq S (fun _=>#[v,v]) >>= _) _ _ _
  refine wpAny_bind (wpAny_updateSeq eS' rfl ?_)
  rw[nm]
  exact wpAny_pure ⟨plainId_quiet F.plain_min_loop _,yK W far cmp _ 0 _ _ v _ rfl some1 (W.frame _ _ _ st' fun b hb o q=>(Heap.get?_update_other _ _ (fun z:S=b=>far (by rw[z]; exact hb))).trans q) hv (Heap.get?_update_self _ eS' rfl)
   (fun b o q1 q2 q3=>(Heap.get?_update_other _ _ (Ne.symm q2)).trans (kk b o q1 (kb b o q1 q2 q3))) hR⟩)
theorem ya{l:Addr}{its:Array Value}{bt:Nat→Nat→Bool}{Q:Value→Shared→Prop}(hh:A.handled=none)(hl:s.heap.IsList l its)(hz:0<its.size)
  (cmp:∀ i j u v (h:Heap) (tk:Nat) (Q:Value→Shared→Prop) (E:Value→Shared→Prop),(∀ b o,s.heap.get? b=some o→h.get? b=some o)→its[i]? = some u→its[j]? = some v→Q (.bool (bt i j)) { s with heap:=h,toks:=tk }→wpAny (model M w) A.in1 (richCompare .Lt u v) Q E { s with heap:=h,toks:=tk })
  (q:∀ v h' tk,its[argBest bt (its.size - 1)]? = some v→(∀ b o,s.heap.get? b=some o→h'.get? b=some o)→Q v { s with heap:=h',toks:=tk }) :
  wpAny (model M w) A (call (.builtin "min") [.ref l]) Q E s:=by
 have nm:(toString "min" ++ toString ".loop" : String) = "min.loop" := by decide
 have lz:l<s.heap.objs.size:=by obtain⟨_,e,_⟩:=hl; exact Heap.lt_size e
 refine call_function_tree F.kind_min F.plain_min F.entry_min (F.args_min1 _) (by
  show wpAny _ (A.in1) (Builtin.Builtins.bindParams "min" ["key", "default"] 0 ⟨[],[]⟩ >>= _) _ _ _
  refine wpAny_bind (wpAny_of_eq (show Builtin.Builtins.bindParams "min" ["key", "default"] 0 ⟨[],[]⟩=pure [none,none] from rfl) (wpAny_bind (wpAny_pure ?_)))
  refine wpAny_bind (wpAny_pyIter_list hl ?_)
  refine wpAny_bind (wpAny_newObj_type (?_))
  rw[nm];have W:=Walks.list (prog:=M) (w:=w) (A:=A.in1) hh s.heap.objs.size l (Nat.ne_of_lt lz) its;have z2:(s.heap.push { cls:=.type "list_iterator", data:=.fields #[.ref l,.int 0 0] }).objs.size=s.heap.objs.size+1:=Heap.size_push ..
  have keep:∀ h',gp [s.heap.objs.size] (s.heap.push { cls:=.type "list_iterator", data:=.fields #[.ref l,.int 0 0] }).objs.size s.heap h'→∀ b o,s.heap.get? b=some o→h'.get? b=some o:=fun h' k b o e=>by
   have:=Heap.lt_size e
   exact k b o (fun hm=>by simp at hm; exact Nat.lt_irrefl _ (hm ▸ this)) (fun z=>by rw[z2]at z; exact Nat.not_succ_lt_self (z ▸ this)) e
  refine wpAny_pure ⟨plainId_quiet F.plain_min_loop _,xH (h0:=s.heap) (s0:=s) W (S:=(s.heap.push { cls:=.type "list_iterator", data:=.fields #[.ref l,.int 0 0] }).objs.size) ?_ (fun i j u v h tk Q E kb hu hv hq=>cmp i j u v h tk Q E (keep h kb) hu hv hq) hz ?_ (Heap.get?_push_size _ rfl) (fun b o q1 q2 q3=>?_) (fun v h' tk hv kb=>q v h' tk hv (keep h' kb))⟩
  ·rw[z2]; intro hm
   rcases List.mem_cons.mp hm with z | hm
   ·exact Nat.succ_ne_self _ z
   ·rcases List.mem_cons.mp hm with z | hm
    ·exact Nat.not_succ_lt_self (z ▸ lz)
    ·cases hm
  ·exact⟨⟨_,Heap.get?_push_of_some _ (Heap.get?_push_size _ rfl),rfl,rfl⟩,(hl.push _).push _⟩
  ·exact Heap.get?_push_of_some _ (Heap.get?_push_of_some _ q3))
end
end PySem
namespace L2
open PySem PySem.Spec PyProof PyProof.Rows PySem.SeqAt
section
variable{X:Cx}
def Bz(K:PySem.W.Frag):List V→Hp→VK→Prop:=fun xs H Q=>∃ (p:Addr) (vs:List V) (bt:Nat→Nat→Bool) (n:Nat),xs=[.ref p]∧SqL K H p vs∧vs≠[]∧n≤50∧(∀ (i j:Nat) x y,vs[i]? = some x→vs[j]? = some y→LtN K H n x y (bt i j))∧∀ v,vs[argBest bt (vs.length - 1)]? = some v→Q v H
theorem x6(K:PySem.W.Frag){k:Nat}(hr:Room k X.A)(hK:X.K=K:=by rfl)(hc:X.calm=true:=by rfl):CallR X (.builtin "min") (Bz K):=by
 subst hK;intro pins s σ H xs us Q I r h
 obtain⟨p,vs,bt,n,rfl,hq,hne,hn,hlt,q⟩:=h
 obtain⟨u,rfl,ru⟩:=dW r
 cases ru;obtain⟨its,rv,pl,hz⟩:=I.list hq
 have hl:=rv.length;have h0:0<vs.length:=List.length_pos_iff.mpr hne
 have hu:X.A.in1.units+n<cLine:=by have:=hr.un; show X.A.units+1+n<cLine; omega
 refine ya (bt:=bt) (I.ok.hd hc) pl.isList (by simp; omega) (fun i j a b h tk Q' E' hk ha hb hQ=>?_) (fun v h' tk hv hk=>?_)
 ·obtain⟨x,hx,rx⟩:=rv.of (i:=i) (u:=a) (by simpa using ha)
  obtain⟨y,hy,ry⟩:=rv.of (i:=j) (u:=b) (by simpa using hb)
  exact LtN.at (I.kept (t':=tk) hk) hu (hlt i j x y hx hy) rx ry _ _ _ _ hQ
 ·have hv':its[argBest bt (vs.length - 1)]? = some v:=by rw[hl]; simpa using hv
  obtain⟨x,hx,rx⟩:=rv.of (i:=argBest bt (vs.length - 1)) (u:=v) hv'
  exact⟨x,H,I.kept (t':=tk) hk,rx,q x hx⟩
end
end L2
namespace L2
open PySem PySem.Spec PyProof.Rows
abbrev iX:=Sum Str (List (Option Int))
def vp(prog:Program)(w:World)(h:Heap):iX→Value→Prop
 | .inl u,v=>∃ t,v=Value.str u t
 | .inr l,v=>IsTupK (fq prog w) h l v
theorem FN(i j:Str):decide (i=j)=decide ((Sum.inl i:iX)=Sum.inl j):=by
 by_cases z:i=j
 ·subst z; simp
 ·have z':¬ ((Sum.inl i:iX)=Sum.inl j):=fun q=>z (Sum.inl.inj q)
  rw[decide_eq_false z',decide_eq_false z]
theorem FM(l l':List (Option Int)):decide (l=l')=decide ((Sum.inr l:iX)=Sum.inr l'):=by
 by_cases z:l=l'
 ·subst z; simp
 ·have z':¬ ((Sum.inr l:iX)=Sum.inr l'):=fun q=>z (Sum.inr.inj q)
  rw[decide_eq_false z',decide_eq_false z]
theorem FQ(i:Str)(l:List (Option Int)):decide ((Sum.inl i:iX)=Sum.inr l)=false:=decide_eq_false (fun q=>nomatch q)
theorem FS(i:Str)(l:List (Option Int)):decide ((Sum.inr l:iX)=Sum.inl i)=false:=decide_eq_false (fun q=>nomatch q)
theorem FP{prog:Program}{w:World}{A:Around}{E:Value→Shared→Prop}{s:Shared}{u v:Value}{Q:Bool→Shared→Prop}(hu:A.units+1<cLine):∀ (x y:iX),vp prog w s.heap x u→vp prog w s.heap y v→Q (decide (x=y)) s→
  wpAny (model prog w) A (PySem.eqBool u v) Q E s
 | .inl i,.inl j,⟨t,e1⟩,⟨t',e2⟩,h=>by
  subst e1 e2;rw[← FN]at h
  exact wpAny_eqBool_str h
 | .inl i,.inr l,⟨t,e1⟩,hy,h=>by
  subst e1;obtain⟨b,its,rfl,ht⟩:=IsTupK.tup (K:=fq prog w) hy
  rw[FQ]at h
  exact SeqAt.EqAt.str_tuple i t ht (Nat.lt_of_succ_lt hu) prog w E Q h
 | .inr l,.inl j,hx,⟨t,e1⟩,h=>by
  subst e1;obtain⟨b,its,rfl,ht⟩:=IsTupK.tup (K:=fq prog w) hx
  rw[FS]at h
  exact SeqAt.EqAt.tuple_str j t ht (Nat.lt_of_succ_lt hu) prog w E Q h
 | .inr l,.inr l',hx,hy,h=>by
  rw[← FM]at h
  exact ng (K:=fq prog w) (uD hu) hx hy h
def GJ(prog:Program)(w:World):IK prog w iX where
 is:=vp prog w
 hash:=fun k=>match k with
  | .inl u=>hashStr w u
  | .inr l=>rg (fq prog w) l
 draws:=fun k=>match k with
  | .inl _=>1
  | .inr l=>iQ (fq prog w) l+1
 deep:=1
 inj:=fun {h v x y} a b=>by
  cases x with
  | inl i=>
   obtain⟨t,rfl⟩:=(show ∃ t,v=Value.str i t from a)
   cases y with
   | inl j=>obtain⟨t',e⟩:=(show ∃ t',Value.str i t=Value.str j t' from b); injection e with e1 _; rw[e1]
   | inr l=>obtain⟨a,_,e,_⟩:=IsTupK.tup (show IsTupK (fq prog w) h l _ from b); cases e
  | inr l=>
   cases y with
   | inl j=>
    obtain⟨t,rfl⟩:=(show ∃ t,v=Value.str j t from b)
    obtain⟨a,_,e,_⟩:=IsTupK.tup (show IsTupK (fq prog w) h l _ from a); cases e
   | inr l'=>rw[(wx (fq prog w)).inj (show IsTupK (fq prog w) h l v from a) (show IsTupK (fq prog w) h l' v from b)]
 keeps:=fun {h h' k v d o es ep} a ho hd hs=>by
  cases k with
  | inl i=>exact a
  | inr l=>exact(wx (fq prog w)).keeps (show IsTupK (fq prog w) h l v from a) ho hd hs
 pyHash:=fun {A E s k v Q} hu hk h=>by
  cases k with
  | inl i=>
   obtain⟨t,rfl⟩:=(show ∃ t,v=Value.str i t from hk)
   exact wpAny_pyHash_str h
  | inr l=>exact j1 (K:=fq prog w) (uD hu) hk h
 eqBool:=fun {A E s x y u v Q} hu hx hy h=>FP hu x y hx hy h
 quiet:=fun {A E s k v n Q} hk h=>by
  cases k with
  | inl i=>
   obtain⟨t,rfl⟩:=(show ∃ t,v=Value.str i t from hk)
   rw[eqIsQuiet_byValue _ rfl];exact wpAny_pure h
  | inr l=>exact jd (K:=fq prog w) hk h
abbrev m6:=Str × List (Option Int)
def sk(k:m6):List iX:=[.inl k.1,.inr k.2]
def MS(P:Program)(w:World):HeapKind P w (List iX):=A8 (GJ P w) (show 1≤7 by decide)
def FK(P:Program)(w:World)(a:Addr)(xs:List (List iX × Addr × Value)):HO:=
 .ext fun h=>∃ o es ep,h.get? a=some o∧o.ExactDict∧o.data = .dict es ep∧es.toList=xs.map (entryOfKey (MS P w))∧(xs.map (·.1)).Nodup
def Hd(H:Hp)(k:m6)(b:Addr):Prop:=∃ t,H b=some (.tup [.str k.1,.ref t])∧H t=some (.tup (k.2.map jp))
def Ia(H:Hp)(p:m6 × V)(q:List iX × Addr × Value):Prop:=q.1=sk p.1∧Hd H p.1 q.2.1∧RelV p.2 q.2.2
def DS(P:Program)(w:World)(H:Hp)(a:Addr)(kvs:List (m6 × V)):Prop:=
 ∃ xs,H a=some (FK P w a xs)∧(a == sysModules)=false∧xs.length≤sizeLine∧Paired (Ia H) kvs xs
end L2
section
open PySem PySem.Spec PyProof.Rows L2
seal L2.PE L2.PT L2.PW L2.PA L2.PS L2.PSs L2.PG L2.PGs L2.PSet L2.PI L2.PIfs L2.OpR L2.UnR L2.CallR L2.IxR L2.MtR L2.SlR L2.PO L2.PPs
local macro_rules | `(tactic| walk_at "rd1")=>`(tactic| try simp only [tD,mG,kU,qD,uG,uj,rE,qj,uN,pN,tF,sj,tN,tZ,tK,Bw,x8,wN,qi,BE,tH,xF,tV,rC,sr,wY,xm,p7,tR,uh,uz,rb,xY,uF,rO,rL,oN,oG,oE,oR,k7,rR,qR,oO,wW,rj,lY,r_,tY,qW,pI,t9,rG,ut,rM,rf,uA,pG,xE,A5,og,om,j2,oh,oA,uB,rW,qv,rN,nS,ui,A9,tu,uf,rB,pV,p0,qx,k8,lm,ol,oz,pY,pT,lS,q_,tq,uH,n_,nY,f7,uP,ou,ux,oq,qa,pW,pF,ql,qV,uq,uc,ue,L2.start,List.map_cons,List.map_nil,List.length_cons,List.length_nil,List.replicate,List.cons_append,List.nil_append,List.append_nil,List.getElem?_cons_zero,List.getElem?_cons_succ,List.set_cons_zero,List.set_cons_succ,Nat.reduceAdd,Nat.reduceSub,Option.some.injEq,exists_eq_left',exists_eq_left,V.int.injEq,V.ref.injEq,V.str.injEq,V.bl.injEq,xV,ug,and_true,true_and,decide_eq_true_eq,Bool.not_true,Bool.not_false,if_true,Bool.false_eq_true,if_false,ite_true,ite_false])
local macro_rules | `(tactic| walk_at "nx")=>`(tactic| ((first | rw [nj] | (dsimp only; rw [nj])); walk_at "rd1"))
local macro_rules | `(tactic| walk_at "lk")=>`(tactic| repeat (first | exact EL | exact Fg | rw [fE (by decide +kernel)]))
local macro_rules | `(tactic| walk_at "pf")=>`(tactic| repeat (first | rw [zt] | rw [y_] | rw [xu (by decide +kernel)]))
namespace K39
open PySem L2
abbrev aX:Stmt:=inClass (top 14) 0
theorem iz:aE ["self", "head", "lines", "blocks"] ["self", "head", "lines", "blocks"] (defScope aX):=mKk
abbrev gLk (s : Stmt) (n : Str) : Prop:=(defScope s).names.lookup n=some .globalImplicit
theorem oIn {a b : Prop} (h : a) : a ∨ b:=.inl h
abbrev aMm(s:Stmt)(n:Str):Prop:=am (defScope s) n
abbrev ck:Stmt:=inClass (top 25) 0
theorem mI:aE ["self", "inputs", "watches"] ["self", "inputs", "watches"] (defScope ck):=mKk
abbrev bT:Stmt:=inClass (top 25) 2
theorem kP:aE ["self", "bound"] ["self", "bound"] (defScope bT):=mKk
abbrev cx:Stmt:=inClass (top 25) 3
theorem lR:aE ["self", "holder"] ["self", "holder"] (defScope cx):=mKk
abbrev de:Stmt:=inClass (top 25) 4
theorem sS:aE ["self", "holder", "handle"] ["self", "holder", "handle"] (defScope de):=mKk
abbrev bW:Stmt:=inClass (top 25) 5
theorem sc_Run_deed:aE ["self", "line", "handle", "word", "entry", "broken"] ["self", "line", "handle", "word"] (defScope bW):=mKk
abbrev bD:Stmt:=inClass (top 25) 7
theorem sc_Run_new_handle:aE ["self", "line", "holder", "handle"] ["self", "line", "holder"] (defScope bD):=mKk
abbrev cM:Stmt:=inClass (top 25) 8
theorem uT:aE ["self", "line", "one", "other"] ["self", "line", "one", "other"] (defScope cM):=mKk
abbrev bX:Stmt:=inClass (top 25) 9
theorem sc_Run_end_all:aE ["self", "line", "handle"] ["self", "line"] (defScope bX):=mKk
theorem KM:gLk bX "range":=by decide +kernel
abbrev cK:Stmt:=inClass (top 25) 1
theorem mK:aE ["self", "at"] ["self", "at"] (defScope cK):=mKk
abbrev fk:Stmt:=top 22
theorem lG:aE ["watches", "one", "other", "start", "watch"] ["watches", "one", "other", "start"] (defScope fk):=mKk
abbrev cu:Stmt:=top 23
theorem sc_broken_or_gone_on:aE ["watches", "at", "handle", "word", "broken", "watch", "first"] ["watches", "at", "handle", "word"] (defScope cu):=mKk
abbrev fN:Stmt:=top 45
theorem sc_do_row:aE ["run", "row", "line"] ["run", "row"] (defScope fN):=mKk
abbrev dX:Stmt:=top 46
theorem pj:aE ["run", "row"] ["run", "row"] (defScope dX):=mKk
abbrev gu:Stmt:=top 47
theorem wZ:aE ["code", "run"] ["code", "run"] (defScope gu):=mKk
abbrev ej:Stmt:=top 48
theorem sV:aE ["code", "inputs"] ["code", "inputs"] (defScope ej):=mKk
abbrev fv:Stmt:=top 6
theorem pd:aE ["kind"] ["kind"] (defScope fv):=mKk
abbrev fR:Stmt:=top 7
theorem we:aE ["step"] ["step"] (defScope fR):=mKk
abbrev eU:Stmt:=top 8
theorem pZ:aE ["step"] ["step"] (defScope eU):=mKk
abbrev bP:Stmt:=top 9
theorem sc_steps_within:aE ["program", "steps", "step", "block"] ["program"] (defScope bP):=mKk
abbrev b9:Stmt:=top 10
theorem sc_names_in:aE ["steps", "names", "step", "part", "kind"] ["steps"] (defScope b9):=mKk
theorem L6:gLk b9 "zip":=by decide +kernel
abbrev bo:Stmt:=top 11
theorem sc_lines_of:aE ["program", "lines", "step", "block", "closer"] ["program"] (defScope bo):=mKk
theorem Mb:gLk bo "zip":=by decide +kernel
abbrev fC:Stmt:=top 12
theorem sx:aE ["program"] ["program"] (defScope fC):=mKk
abbrev dH:Stmt:=top 15
theorem mP:aE ["steps", "line"] ["steps", "line"] (defScope dH):=mKk
abbrev aU:Stmt:=top 16
theorem sc_numbered_step:aE ["step", "line", "lines", "blocks", "block", "steps"] ["step", "line"] (defScope aU):=mKk
abbrev bK:Stmt:=top 17
theorem sc_numbered_steps:aE ["steps", "line", "numbered", "step"] ["steps", "line"] (defScope bK):=mKk
abbrev bZ:Stmt:=top 34
theorem pe:aE ["program"] ["program"] (defScope bZ):=mKk
theorem L_:gLk bZ "enumerate":=by decide +kernel
abbrev cD:Stmt:=top 35
theorem sc_slots_of:aE ["program", "slots", "slot", "holder"] ["program"] (defScope cD):=mKk
theorem J6:gLk cD "enumerate":=by decide +kernel
abbrev bQ:Stmt:=top 36
theorem sc_simple_row:aE ["step", "slots", "line"] ["step", "slots"] (defScope bQ):=mKk
theorem Hr:aMm bQ "slots" := Or.inr (Or.inl (by decide +kernel))
abbrev aY:Stmt:=top 37
theorem sc_lend_rows:aE ["step", "at", "slots", "turned", "line", "back", "giver", "taker", "lent", "ahead", "within"] ["step", "at", "slots", "turned"] (defScope aY):=mKk
abbrev bM:Stmt:=top 38
theorem sc_if_rows:aE ["step", "at", "slots", "turned", "more", "jump", "rest", "behind", "test"] ["step", "at", "slots", "turned"] (defScope bM):=mKk
abbrev cj:Stmt:=top 39
theorem sc_loop_rows:aE ["step", "at", "slots", "within", "behind"] ["step", "at", "slots"] (defScope cj):=mKk
abbrev bv:Stmt:=top 40
theorem sc_while_rows:aE ["step", "at", "slots", "turned", "first", "loop", "behind"] ["step", "at", "slots", "turned"] (defScope bv):=mKk
abbrev bV:Stmt:=top 41
theorem sc_rows_of:aE ["steps", "at", "slots", "turned", "rows", "step", "place"] ["steps", "at", "slots", "turned"] (defScope bV):=mKk
abbrev b6:Stmt:=top 42
theorem sc_rows_and_end:aE ["program", "turned", "steps"] ["program", "turned"] (defScope b6):=mKk
abbrev gK:Stmt:=top 43
theorem uS:aE ["program"] ["program"] (defScope gK):=mKk
abbrev c_:Stmt:=top 27
theorem sc_do_simple:aE ["run", "step", "line", "parts"] ["run", "step"] (defScope c_):=mKk
abbrev d0:Stmt:=top 28
theorem sc_do_lend:aE ["run", "step", "lent"] ["run", "step"] (defScope d0):=mKk
abbrev gU:Stmt:=top 29
theorem Ah:aE ["run", "step"] ["run", "step"] (defScope gU):=mKk
abbrev fD:Stmt:=top 30
theorem sy:aE ["run", "step"] ["run", "step"] (defScope fD):=mKk
abbrev cP:Stmt:=top 31
theorem sc_do_steps:aE ["run", "steps", "step"] ["run", "steps"] (defScope cP):=mKk
abbrev cm:Stmt:=top 32
theorem sc_run_plain:aE ["program", "inputs", "steps", "run"] ["program", "inputs"] (defScope cm):=mKk
abbrev dG:Stmt:=top 50
theorem nO:aE ["_law_script", "_law_k"] ["_law_script", "_law_k"] (defScope dG):=mKk
abbrev aO:Stmt:=top 51
theorem sc_law_names:aE ["_law_cell", "_law_letters", "_law_base", "_law_many", "_law_size", "_law_at", "_law_found", "_law_k", "_law_sign"] ["_law_cell"] (defScope aO):=mKk
theorem nG:aMm aO "_law_cell" := Or.inr (Or.inl (by decide +kernel))
theorem Ho:aMm aO "_law_letters" := Or.inr (Or.inl (by decide +kernel))
theorem Gu:aP (defScope aO) "_law_letters" := Or.inr (by decide +kernel)
theorem EU:gLk aO "range":=by decide +kernel
abbrev eY:Stmt:=top 52
theorem sc_law_bound:aE ["_law_cell", "_law_way"] ["_law_cell"] (defScope eY):=mKk
abbrev cL:Stmt:=top 53
theorem sc_law_step:aE ["_law_cell", "_law_x", "_law_y", "_law_names_here", "_law_kind", "_law_words"] ["_law_cell", "_law_x", "_law_y", "_law_names_here"] (defScope cL):=mKk
abbrev bH:Stmt:=top 54
theorem sc_law_begun:aE ["_law_here", "_law_pile", "_law_lines", "_law_cell", "_law_x", "_law_y", "_law_inner", "_law_bound_here", "_law_others"] ["_law_here", "_law_pile", "_law_lines", "_law_cell", "_law_x", "_law_y"] (defScope bH):=mKk
abbrev ar:Stmt:=top 55
theorem sc_law_program:aE ["_law_cells", "_law_names_here", "_law_program_here", "_law_lines", "_law_pile", "_law_here", "_law_left", "_law_lends", "_law_cell", "_law_kind", "_law_x", "_law_y", "_law_deep", "_law_line", "_law_there"] ["_law_cells", "_law_names_here"] (defScope ar):=mKk
theorem JM:gLk ar "reversed":=by decide +kernel
abbrev br:Stmt:=top 56
theorem sc_law_inputs:aE ["_law_cells", "_law_lines", "_law_bounds", "_law_found", "_law_cell"] ["_law_cells", "_law_lines"] (defScope br):=mKk
abbrev bC:Stmt:=top 57
theorem sc_law_drawn:aE ["_law_script", "_law_names_here", "_law_cut", "_law_program_here", "_law_lines"] ["_law_script"] (defScope bC):=mKk
abbrev dQ:Stmt:=top 58
theorem qu:aE ["_law_found"] ["_law_found"] (defScope dQ):=mKk
abbrev b_:Stmt:=top 59
theorem sc_law_is_log:aE ["_law_found", "_law_entry"] ["_law_found"] (defScope b_):=mKk
abbrev bi:Stmt:=top 62
theorem sc_law:aE ["_law_script", "_law_program_here", "_law_lines", "_law_inputs_here", "_law_bounds", "_law_least", "_law_more", "_law_due", "_law_found", "_law_by_code"] ["_law_script"] (defScope bi):=mKk
theorem Kk:(defScope bi).names.lookup ("_law_bounds" : Str)=some .local:=by decide +kernel
theorem H_:aP (defScope bi) "_law_least" := Or.inr (by decide +kernel)
theorem LW:(defScope bi).names.lookup ("_law_more" : Str)=some .local:=by decide +kernel
theorem IZ:gLk bi "range":=by decide +kernel
abbrev dI:Stmt:=top 60
theorem sU:aE ["_law_log"] ["_law_log"] (defScope dI):=mKk
abbrev aq:Stmt:=top 61
theorem sc_law_step_behind:aE ["_law_program_here", "_law_lines", "_law_inputs_here", "_law_due", "_law_many", "_law_cut", "_law_found", "_law_number", "_law_entry", "_law_ends", "_law_handle"] ["_law_program_here", "_law_lines", "_law_inputs_here", "_law_due"] (defScope aq):=mKk
theorem EB:aMm aq "_law_lines" := Or.inr (Or.inl (by decide +kernel))
theorem JP:gLk aq "range":=by decide +kernel
def bj(k:Str):List Str:=if k = "lend" then ["back"] else if k = "if" then ["else", "fi"] else if k = "while" then ["done"] else []
def kq:V→Str→Prop
 | .str y,x=>x=y
 | .int i,x=>i.natAbs.log2<1920∧x=Str.ofString (toString i)
 | _,_=>False
def ce:List (List Str)→List Str→List Str
 | i::is,c::cs=>(i++[c])++ce is cs
 | _,_=>[]
structure DR (LA:Addr→List Str→Prop) (H:Hp) (a:Addr) (kind:Str) (hs:List V) (ws:List Str) (bs:List Addr) (ins:List (List Str)):Prop where
 at':H a=some (.tup (.str kind::hs++bs.map V.ref))
 parts:Paired kq hs ws
 size:((kind::ws).map (·.length)).sum+(kind::ws).length≤10000
 bl:bs.length=(bj kind).length
 inn:Paired LA bs ins
def my(LA:Addr→List Str→Prop)(H:Hp)(a:Addr)(ls:List Str):Prop:=∃ kind hs ws bs ins,DR LA H a kind hs ws bs ins∧ls=Txt.join " " (kind::ws)::ce ins (bj kind)
def LinesAt:Nat→Hp→Addr→List Str→Prop
 | 0=>fun _ _ _=>False
 | d+1=>fun H p L=>∃ (as:List Addr) (Ls:List (List Str)),H p=some (.lst (as.map V.ref))∧Paired (my (LinesAt d H) H) as Ls∧L=Ls.flatten
theorem LinesAt.mono:∀ (d:Nat) {H H':Hp} {p:Addr} {L:List Str},LinesAt d H p L→Same H H'→LinesAt d H' p L
 | 0,_,_,_,_,h,_=>h.elim
 | d+1,H,H',p,L,⟨as,Ls,h1,h2,h3⟩,sm=>by
  refine⟨as,Ls,sm _ _ h1,Paired.imp' (fun a ls z=>?_) h2,h3⟩
  obtain⟨kind,hs,ws,bs,ins,z1,z2⟩:=z
  exact⟨kind,hs,ws,bs,ins,⟨sm _ _ z1.at',z1.parts,z1.size,z1.bl,Paired.imp' (fun b i y=>LinesAt.mono d y sm) z1.inn⟩,z2⟩
theorem bw{α β : Type}{R:α→β→Prop}:∀ {xs:List α} {ys:List β} {i:Nat} {x:α},Paired R xs ys→xs[i]? = some x→∃ y,ys[i]? = some y∧R x y
 | _,_,_,_,.nil,e=>by simp at e
 | _,_,0,_,.cons (b:=b) h _,e=>⟨b,rfl,by have:=Option.some.inj e; subst this; exact h⟩
 | _,_,i+1,_,.cons _ t,e=>by
  rw[List.getElem?_cons_succ]at e
  obtain⟨y,h1,h2⟩:=bw t e
  exact⟨y,by rw[List.getElem?_cons_succ]; exact h1,h2⟩
theorem ay{α β : Type}{R:α→β→Prop}:∀ {xs:List α} {ys:List β},Paired R xs ys→xs.length=ys.length
 | _,_,.nil=>rfl
 | _,_,.cons _ t=>by rw[List.length_cons,List.length_cons,ay t]
theorem lw:∀ {ins:List (List Str)} {cs:List Str} {j:Nat} {i:List Str} {c:Str},ins[j]? = some i→cs[j]? = some c→ce (ins.take (j+1)) (cs.take (j+1))=ce (ins.take j) (cs.take j)++(i++[c])
 | [],_,_,_,_,h,_=>by simp at h
 | _::_,[],_,_,_,_,h=>by simp at h
 | a::ins,b::cs,0,i,c,h,h'=>by
  have e1:a=i:=by simpa using h
  have e2:b=c:=by simpa using h'
  subst e1 e2;show (a++[b])++ce [] []=ce [] []++(a++[b])
  simp[ce]
 | a::ins,b::cs,j+1,i,c,h,h'=>by
  have ih:=lw (ins:=ins) (cs:=cs) (j:=j) (i:=i) (c:=c) (by simpa using h) (by simpa using h')
  show (a++[b])++ce (ins.take (j+1)) (cs.take (j+1))=((a++[b])++ce (ins.take j) (cs.take j))++(i++[c])
  rw[ih,List.append_assoc (a++[b])]
theorem mx:∀ {ins:List (List Str)} {cs:List Str} (j:Nat),(ce (ins.take j) (cs.take j)).length≤(ce ins cs).length
 | [],_,j=>by simp[ce]
 | _::_,[],j=>by cases j <;> simp[ce]
 | a::ins,b::cs,0=>by simp[ce]
 | a::ins,b::cs,j+1=>by
  have ih:=mx (ins:=ins) (cs:=cs) j;show ((a++[b])++ce (ins.take j) (cs.take j)).length≤((a++[b])++ce ins cs).length
  simp only[List.length_append]; omega
theorem nD{α : Type}:∀ (Ls:List (List α)) (i:Nat),(Ls.take i).flatten.length≤Ls.flatten.length
 | [],i=>by simp
 | a::Ls,0=>by simp
 | a::Ls,i+1=>by
  have ih:=nD Ls i;rw[List.take_succ_cons,List.flatten_cons,List.flatten_cons,List.length_append,List.length_append]; omega
theorem wD{α : Type}{Ls:List (List α)}{i:Nat}{l:List α}(h:Ls[i]? = some l):(Ls.take (i+1)).flatten=(Ls.take i).flatten++l:=by
 rw[List.take_add_one,h,List.flatten_append]; simp
def jM(K:PySem.W.Frag):Sp:=fun vs H Q _=>∃ k:Str,vs=[.str k]∧∀ (p:Addr) (H':Hp),Same H H'→SqT K H' p ((bj k).map V.str)→Q (.ref p) H'
def kf(K:PySem.W.Frag):Sp:=fun vs H Q _=>∃ (a:Addr) (k:Str) (xs:List V),vs=[.ref a]∧SqT K H a (.str k::xs)∧(bj k).length≤xs.length+1∧
 ∀ (p:Addr) (H':Hp),Same H H'→SqT K H' p ((V.str k::xs).take (xs.length+1 - (bj k).length))→Q (.ref p) H'
def ii(K:PySem.W.Frag):Sp:=fun vs H Q _=>∃ (a:Addr) (k:Str) (xs:List V),vs=[.ref a]∧SqT K H a (.str k::xs)∧(bj k).length≤xs.length+1∧
 ∀ (p:Addr) (H':Hp),Same H H'→SqT K H' p ((V.str k::xs).drop (xs.length+1 - (bj k).length))→Q (.ref p) H'
def tL(d:Nat):Sp:=fun vs H Q _=>∃ (p:Addr) (L:List Str),vs=[.ref p]∧LinesAt d H p L∧L.length≤10000∧∀ (q:Addr) (H':Hp),Same H H'→H q=none→H' q=some (.lst (L.map V.str))→Q (.ref q) H'
section
variable{P:Program}{w:World}{K:PySem.W.Frag}{mg:Str→Option Value}{base:Heap}
theorem vw(D:DefAt K mg "closers_of" fv) {d a0 a1 a2:Addr} (g_CLOSERS:mg "CLOSERS" = some (.ref d)) (m:ModD w K d [("lend", .ref a0),("if", .ref a1),("while", .ref a2)])
  (q0:∀ H:Hp,SqT K H a0 [.str "back"]) (q1:∀ H:Hp,SqT K H a1 [.str "else", .str "fi"]) (q2:∀ H:Hp,SqT K H a2 [.str "done"]):aM P w K mg base 1 "closers_of" ["kind"] (jM K):=by
 refine D.cal pd (fun _ _ _ _ _ _ us hl=>match us,hl with | [_],_=>rfl) (fun vs H Q E h=>by obtain⟨k,rfl,_⟩:=h; rfl) (fun f cdv A outer s H vs Q E hr h=>?_)
 obtain⟨k,rfl,q⟩:=h
 refine⟨_,(ak (aG (Ef w K PySem.F.plainAttrs_dict PySem.F.slot_dict_get PySem.F.type_dict_get (CL w K) (ua g_CLOSERS) (aa (pv 0) (aa (bB ac) ac))))),?_⟩
 walk_at "rd1";refine⟨⟨d,_,rfl,m⟩,by decide,fun p hp=>?_⟩
 refine⟨d,_,k,.ref p,rfl,rfl,m,?_⟩
 have sm:=al hp (.tup []);unfold bj at q
 by_cases h0:k = "lend"
 ·subst h0; exact q _ _ sm (q0 _)
 rw[if_neg h0]at q
 by_cases h1:k = "if"
 ·subst h1; exact q _ _ sm (q1 _)
 rw[if_neg h1]at q
 by_cases h2:k = "while"
 ·subst h2; exact q _ _ sm (q2 _)
 rw[if_neg h2]at q
 have e:bY [(("lend" : Str),V.ref a0),("if", .ref a1),("while", .ref a2)] k=none:=by simp[bY,Ne.symm h0,Ne.symm h1,Ne.symm h2]
 rw[e];exact q _ _ sm (SqT.of ah)
theorem Cq(D:DefAt K mg "head_of" fR) (z_len:mg "len" = none) (c_closers_of:aM P w K mg base 1 "closers_of" ["kind"] (jM K)):aM P w K mg base 2 "head_of" ["step"] (kf K):=by
 refine D.cal we (fun _ _ _ _ _ _ us hl=>match us,hl with | [_],_=>rfl) (fun vs H Q E h=>by obtain⟨a,k,xs,rfl,_⟩:=h; rfl) (fun f cdv A outer s H vs Q E hr h=>?_)
 obtain⟨a,k,xs,rfl,ha,hl,q⟩:=h
 refine⟨_,(ak (aG (bS (iR K) (pv 0) cB (b4 (ap eJ (bm (aV K) z_len bL (aa (pv 0) ac)) (bm (aV K) z_len bL (aa (aA c_closers_of hr (aa (av (aI K) (pv 0) ae (fun _ _=>rfl)) ac)) ac))))))),?_⟩
 walk_at "rd1";refine⟨_,.inr ha,?_⟩
 refine⟨_,_,.inr ha,cw,?_⟩
 refine⟨k,rfl,fun p H1 sm1 hp=>?_⟩
 walk_at "rd1";refine⟨_,.inr hp,?_⟩
 walk_at "rd1"
 have e:((xs.length+1:Nat):Int) - ((((bj k).map V.str).length:Nat):Int)=((xs.length+1 - (bj k).length:Nat):Int):=by
  rw[List.length_map]; omega
 rw[e];refine hJ (ha.same sm1) fun p2 H2 sm2 h2=>q p2 H2 (sm1.trans sm2) ?_
 rw[ja]at h2
 exact h2
theorem xg(D:DefAt K mg "blocks_of" eU) (z_len:mg "len" = none) (c_head_of:aM P w K mg base 2 "head_of" ["step"] (kf K)):aM P w K mg base 3 "blocks_of" ["step"] (ii K):=by
 refine D.cal pZ (fun _ _ _ _ _ _ us hl=>match us,hl with | [_],_=>rfl) (fun vs H Q E h=>by obtain⟨a,k,xs,rfl,_⟩:=h; rfl) (fun f cdv A outer s H vs Q E hr h=>?_)
 obtain⟨a,k,xs,rfl,ha,hl,q⟩:=h
 refine⟨_,(ak (aG (bS (iR K) (pv 0) (b4 (bm (aV K) z_len bL (aa (aA c_head_of hr (aa (pv 0) ac)) ac))) cB))),?_⟩
 walk_at "rd1";refine⟨a,k,xs,rfl,ha,hl,fun p H1 sm1 hp=>?_⟩
 walk_at "rd1";refine⟨_,.inr hp,?_⟩
 have e:(((V.str k::xs).take (xs.length+1 - (bj k).length)).length:Int)=((xs.length+1 - (bj k).length:Nat):Int):=by
  rw[List.length_take,List.length_cons]; omega
 rw[e];refine hJ (ha.same sm1) fun p2 H2 sm2 h2=>q p2 H2 (sm1.trans sm2) ?_
 rw[gJ]at h2
 exact h2
theorem qF(D:DefAt K mg "lines_of" bo) (z_str:mg "str" = none) (z_zip:mg "zip" = none) (c_closers_of:aM P w K mg base 1 "closers_of" ["kind"] (jM K)) (c_head_of:aM P w K mg base 2 "head_of" ["step"] (kf K)) (c_blocks_of:aM P w K mg base 3 "blocks_of" ["step"] (ii K)) :
  ∀ d:Nat,aM P w K mg base (d+4) "lines_of" ["program"] (tL d)
 | 0=>D.cal (k:=3) sc_lines_of (fun _ _ _ _ _ _ us hl=>match us,hl with | [_],_=>rfl) (fun vs H Q E h=>by obtain⟨p,L,rfl,_⟩:=h; rfl) (fun f cdv A outer s H vs Q E hr h=>by obtain⟨p,L,rfl,z,_⟩:=h; exact z.elim)
 | d+1=>by
  have c_lines_of:=qF D z_str z_zip c_closers_of c_head_of c_blocks_of d;refine D.cal (k:=d+4) sc_lines_of (fun _ _ _ _ _ _ us hl=>match us,hl with | [_],_=>rfl) (fun vs H Q E h=>by obtain⟨p,L,rfl,_⟩:=h; rfl) (fun f cdv A outer s H vs Q E hr h=>?_)
  obtain⟨p,L,rfl,⟨as,Ls,h1,h2,rfl⟩,hL,q⟩:=h
  have hlen:=ay h2
  refine⟨_,(af (ax 1 sc_lines_of.nd (bA ac))
   (af (cE PassesOwn.never rfl (cr K (pv 0)) (ba 2 sc_lines_of.nd) (af (aD (bh K PySem.F.plainAttrs_list PySem.F.slot_list_append PySem.F.type_list_append aW (pv 1) (aa (bh K PySem.F.plainAttrs_str PySem.F.slot_str_join PySem.F.type_str_join (pS K) aw (aa (fT (CompSc.to (fsc:=(defScope bo)) (N:=["program", "lines", "step", "block", "closer"]) (N0:=["program", "lines", "step", "block", "closer"]) (T:=["part"]) ⟨by decide +kernel,by decide +kernel,by decide +kernel,by decide +kernel,by decide +kernel,by decide +kernel,by decide +kernel⟩ rfl rfl) rfl (kJ K (aA c_head_of hr (aa (pv 2) ac) (hle:=by omega))) (fun _ _ _ _=>(ba 5 (show (["program", "lines", "step", "block", "closer", "part"]:List Str).Nodup from by decide +kernel) (hx:=(iu (defScope bo) (by decide +kernel))) (hf:=km (defScope bo) (by decide +kernel)))) (dy (show (["program", "lines", "step", "block", "closer"]:List Str).length≤5 from by decide)) (fun _ _ _ _=>hU) (fun _ _ _ _=>(ga wM z_str mv (aa (pv 5 (hv:=(dz (defScope bo) (by decide +kernel)))) ac) (hg:=(Bg (defScope bo) (by decide +kernel)))))) ac)) ac)))
   (ak (cE PassesOwn.never rfl (tw K Mb z_zip (aa (aA c_blocks_of hr (aa (pv 2) ac) (hle:=by omega)) (aa (aA c_closers_of hr (aa (av (aI K) (pv 2) ae (fun _ _=>rfl)) ac) (hle:=by omega)) ac))) (fW K (n:=2) (cz (ba 3 sc_lines_of.nd) (cz (ba 4 sc_lines_of.nd) fU))) (af (aD (bh K PySem.F.plainAttrs_list PySem.F.slot_list_extend PySem.F.type_list_extend f_ (pv 1) (aa (aA c_lines_of hr (aa (pv 3) ac) (hle:=by omega)) ac)))
   (ak (aD (bh K PySem.F.plainAttrs_list PySem.F.slot_list_append PySem.F.type_list_append aW (pv 1) (aa (pv 4) ac)))))))))
   (ak (aG (pv 1))))),?_⟩
  walk_at "rd1";refine⟨by decide,fun lp hlp=>?_⟩
  generalize hH1:upd H lp _=H1
  have sm1:=cV hH1 hlp;have e1:=dU hH1;walk_at "nx";refine⟨⟨_,SqL.of (sm1 _ _ h1)⟩,?_⟩
  refine dh (xs:=as.map V.ref) (fun i σ H'=>∃ o2 o3 o4:Option V,σ=[some (.ref p),some (.ref lp),o2,o3,o4]∧Same H H'∧H' lp=some (.lst ((Ls.take i).flatten.map V.str)))
   ⟨none,none,none,rfl,sm1,e1⟩ (fun i σ H' _ h=>by obtain⟨_,_,_,_,sm,_⟩:=h; exact SqL.of (sm _ _ h1)) ?_ ?_
  ·rintro i v σ H' hv ⟨o2,o3,o4,rfl,sm,hl⟩
   have hi:i<as.length:=by have:=(List.getElem?_eq_some_iff.mp hv).1; simpa using this
   rw[List.getElem?_map,List.getElem?_eq_getElem hi]at hv
   cases hv;obtain⟨ls,hls,kind,hs,ws,bs,ins,st,rfl⟩:=bw h2 (List.getElem?_eq_getElem hi)
   have hflat:=wD hls;have hfl:=nD Ls (i+1);rw[hflat]at hfl ⊢
   generalize (Ls.take i).flatten=pre at hl hfl hflat ⊢;rw[List.length_append,List.length_cons]at hfl
   have hat:SqT K H' as[i] (.str kind::(hs++bs.map V.ref)):=SqT.of (sm _ _ st.at')
   have hcl:(bj kind).length≤(hs++bs.map V.ref).length+1:=by rw[List.length_append,List.length_map,st.bl]; omega
   have hcut:(hs++bs.map V.ref).length+1 - (bj kind).length=hs.length+1:=by rw[List.length_append,List.length_map,st.bl]; omega
   have hpl:=ay st.parts;have hsz:=st.size;walk_at "rd1";refine⟨⟨_,SqL.of hl⟩,as[i],kind,hs++bs.map V.ref,rfl,hat,hcl,fun hp H2 sm2 hhp=>?_⟩
   rw[hcut]at hhp
   have etk:(V.str kind::(hs++bs.map V.ref)).take (hs.length+1)=V.str kind::hs:=by rw[List.take_succ_cons,List.take_left']; rfl
   rw[etk]at hhp
   walk_at "rd1";refine⟨⟨_,hhp⟩,fun C hC=>?_⟩
   refine n9 (xs:=V.str kind::hs) (fun j ys H3=>Same H2 H3∧H3 C=some (.lst ys)∧ys=((kind::ws).take j).map V.str) ⟨al hC _,ah,rfl⟩ (fun j ys H3 _ h=>hhp.same h.1) ?_ ?_
   ·rintro j ys H3 x hx hj ⟨sm3,hl3,rfl⟩
    obtain⟨y,hy,hr'⟩:=bw (R:=kq) (.cons (show kq (.str kind) kind from rfl) st.parts) hx
    have hjl:j<(kind::ws).length:=(List.getElem?_eq_some_iff.mp hy).1
    have fin:jq (V.str kind::hs).length j (fun j ys H3=>Same H2 H3∧H3 C=some (.lst ys)∧ys=((kind::ws).take j).map V.str) C (((kind::ws).take j).map V.str) (.str y) H3:=by
     refine uV hj (by rw[List.length_map,List.length_take]; omega) (a_ (by simp only[List.length_cons]at hsz hjl ⊢; omega)) hl3 ⟨sm3.upd hC _,ah,?_⟩
     rw[List.take_add_one,hy,List.map_append]; rfl
    match x,hr' with
    | .str z,hr'=>
     have e:y=z:=hr'
     subst e;walk_at "rd1";exact fin
    | .int z,hr'=>
     obtain⟨g1,rfl⟩:=hr'
     walk_at "rd1";exact⟨g1,fin⟩
   rintro ys H3 ⟨sm3,hl3,rfl⟩
   have hl3':H3 C=some (.lst ((kind::ws).map V.str)):=by
    rw[hl3,List.length_cons,hpl,List.take_of_length_le (by simp)]
   have smA:=sm2.trans sm3;have h1l:(Str.ofString " ").length=1:=by decide
   walk_at "rd1";refine⟨kind::ws,SqL.of hl3',by rw[h1l]; omega,?_⟩
   refine⟨_,smA _ _ hl,by rw[List.length_map]; exact bN (by omega),?_⟩
   generalize hH4:upd H3 lp _=H4
   have smH:Same H H4:=fun b o e=>by
    have nb:b≠lp:=fun z=>by subst z; rw[hlp]at e; cases e
    rw[← hH4,aj nb]; exact smA _ _ (sm _ _ e)
   have e4:H4 lp=some (.lst ((pre++[Txt.join " " (kind::ws)]).map V.str)):=by rw[← hH4,ah,List.map_append]; rfl
   have hat4:SqT K H4 as[i] (.str kind::(hs++bs.map V.ref)):=SqT.of (smH _ _ st.at')
   walk_at "nx";refine⟨as[i],kind,hs++bs.map V.ref,rfl,hat4,hcl,fun bp H5 sm5 hbp=>?_⟩
   rw[hcut]at hbp
   have edr:(V.str kind::(hs++bs.map V.ref)).drop (hs.length+1)=bs.map V.ref:=by rw[List.drop_succ_cons,List.drop_left']; rfl
   rw[edr]at hbp
   walk_at "rd1";refine⟨_,_,.inr (hat4.same sm5),cw,kind,rfl,fun cp H6 sm6 hcp=>?_⟩
   walk_at "rd1";refine⟨⟨_,hbp.same sm6⟩,⟨_,hcp⟩,?_⟩
   have sm46:=sm5.trans sm6;have hil:=ay st.inn;have hbl:=st.bl
   refine ow (xs:=bs.map V.ref) (ys:=(bj kind).map V.str) (fun j σ H'=>∃ o3 o4:Option V,σ=[some (.ref p),some (.ref lp),some (.ref as[i]),o3,o4]∧Same H H'∧SqT K H' bp (bs.map V.ref)∧SqT K H' cp ((bj kind).map V.str)∧
     H' lp=some (.lst ((pre++([Txt.join " " (kind::ws)]++ce (ins.take j) ((bj kind).take j))).map V.str)))
    (by rw[List.length_map,List.length_map]; exact hbl) ⟨o3,o4,rfl,smH.trans sm46,hbp.same sm6,hcp,by rw[sm46 _ _ e4]; simp[ce]⟩ (fun j σ H' _ h=>by obtain⟨_,_,_,_,z1,z2,_⟩:=h; exact⟨z1,z2⟩) ?_ ?_
   ·rintro j x y t σ H7 hx hy ⟨o3,o4,rfl,sm7,hb7,hc7,hl7⟩ ht
    have hj:j<bs.length:=by have:=(List.getElem?_eq_some_iff.mp hx).1; simpa using this
    have hjc:j<(bj kind).length:=by omega
    rw[List.getElem?_map,List.getElem?_eq_getElem hj]at hx
    cases hx;rw[List.getElem?_map,List.getElem?_eq_getElem hjc]at hy
    cases hy;obtain⟨il,hil',hla⟩:=bw st.inn (List.getElem?_eq_getElem hj)
    have hsn:=lw hil' (List.getElem?_eq_getElem hjc);have hcl1:=mx (ins:=ins) (cs:=bj kind) (j+1);rw[hsn]at hcl1 ⊢
    rw[List.length_append,List.length_append]at hcl1
    generalize ce (ins.take j) ((bj kind).take j)=mid at hl7 hsn hcl1 ⊢;have st7:=al ht (.tup [V.ref bs[j],.str (bj kind)[j]]);have et7:upd H7 t (.tup [V.ref bs[j],.str (bj kind)[j]]) t=some (.tup [V.ref bs[j],.str (bj kind)[j]]):=ah
    generalize upd H7 t (.tup [V.ref bs[j],.str (bj kind)[j]])=H8 at st7 et7 ⊢;have hl8:=st7 _ _ hl7;walk_at "rd1";refine⟨t,_,rfl,SqT.of et7,rfl,?_⟩
    walk_at "rd1";refine⟨⟨_,SqL.of hl8⟩,bs[j],il,rfl,LinesAt.mono d hla (sm7.trans st7),by omega,fun r H9 sm9 hr9 hl9=>?_⟩
    walk_at "rd1";refine⟨_,_,sm9 _ _ hl8,hl9,a_ (by simp only[List.length_map,List.length_append,List.length_cons,List.length_nil]; omega),?_⟩
    have hb9:=((hb7.same st7).same sm9).updL (sm9 _ _ hl8) (o:=.lst ((pre++([Txt.join " " (kind::ws)]++mid)).map V.str++il.map V.str));have hc9:=((hc7.same st7).same sm9).updL (sm9 _ _ hl8) (o:=.lst ((pre++([Txt.join " " (kind::ws)]++mid)).map V.str++il.map V.str));have sm10:Same H (upd H9 lp (.lst ((pre++([Txt.join " " (kind::ws)]++mid)).map V.str++il.map V.str))):=((sm7.trans st7).trans sm9).upd hlp _
    have e10:upd H9 lp (.lst ((pre++([Txt.join " " (kind::ws)]++mid)).map V.str++il.map V.str)) lp=some (.lst ((pre++([Txt.join " " (kind::ws)]++mid)).map V.str++il.map V.str)):=ah
    generalize upd H9 lp (.lst ((pre++([Txt.join " " (kind::ws)]++mid)).map V.str++il.map V.str))=H10 at hb9 hc9 sm10 e10 ⊢;walk_at "nx";refine⟨⟨_,SqL.of e10⟩,_,e10,bN (by simp only[List.length_map,List.length_append,List.length_cons,List.length_nil]; omega),?_⟩
    refine⟨_,_,rfl,sm10.upd hlp _,hb9.updL e10,hc9.updL e10,?_⟩
    rw[ah];simp only[List.map_append,List.map_cons,List.map_nil,List.append_assoc,List.cons_append,List.nil_append]
   ·rintro σ H7 ⟨o3,o4,rfl,sm7,_,_,hl7⟩
    refine⟨_,_,_,rfl,sm7,?_⟩
    rw[hl7,List.length_map,List.take_of_length_le (by omega),List.take_of_length_le (by omega)]; rfl
  ·rintro σ H' ⟨o2,o3,o4,rfl,sm,hl⟩
   walk_at "nx";rw[List.length_map,List.take_of_length_le (by omega)]at hl
   exact q lp H' sm hlp hl
end
abbrev letters:Str := "abcdefghijklmnopqrstuvwxyz"
def pE(K:PySem.W.Frag):Sp:=fun vs H Q _=>∃ (a:Addr) (ns:List Int),vs=[.ref a]∧SqL K H a (ns.map V.int)∧ns.length≤63∧∀ H',Q (.bl true) H'
def qt(K:PySem.W.Frag):Sp:=fun vs H Q _=>∃ (a:Addr) (ns:List Int) (k:Int),vs=[.ref a,.int k]∧SqL K H a (ns.map V.int)∧0≤k∧Q (.int (ns.getD k.toNat 0)) H
theorem qA:∀ (cs:List Nat) (acc:Array Nat),((cs.map fun c=>(⟨#[c]⟩ : Str)).foldl (fun acc p=>acc++(Str.ofString "").cps++p.cps) acc).toList=acc.toList++cs
 | [],acc=>by simp
 | c::cs,acc=>by
  rw[List.map_cons,List.foldl_cons,qA cs];have e:(Str.ofString "").cps = #[]:=by decide +kernel
  rw[e]; simp
theorem ra(cs:List Nat):(Txt.join "" (cs.map fun c=>(⟨#[c]⟩ : Str))).cps.toList=cs:=by
 cases cs with
 | nil=>rfl
 | cons c cs=>
  show (((c::cs).map fun c=>(⟨#[c]⟩ : Str)).drop 1 |>.foldl (fun acc p=>acc++(Str.ofString "").cps++p.cps) (((c::cs).map fun c=>(⟨#[c]⟩ : Str)).headD Str.empty).cps).toList=c::cs
  rw[List.map_cons,List.drop_one,List.tail_cons,qA]; rfl
theorem yR(cs:List Nat):(Txt.join "" (cs.map fun c=>(⟨#[c]⟩ : Str))).length=cs.length:=by
 have e:=congrArg List.length (ra cs)
 simpa [Str.length] using e
theorem gT(b:Nat):∀ (ss:List Str),(∀ s∈ss,s.length≤b)→(ss.map (·.length)).sum≤ss.length * b
 | [],_=>by simp
 | s::ss,h=>by
  have h1:=gT b ss fun x hx=>h x (List.mem_cons_of_mem _ hx)
  have h2:=h s List.mem_cons_self;rw[List.map_cons,List.sum_cons,List.length_cons,Nat.succ_mul];omega
theorem xf(z:Int):∃ c,letters.length≤sizeLine∧eP letters.cps.toList (z % 26)=some c∧c∈letters.cps.toList:=by
 have hz:(z % 26).toNat<letters.cps.toList.length:=by
  show (z % 26).toNat<26
  omega
 refine⟨letters.cps.toList[(z % 26).toNat],by decide,?_,List.getElem_mem hz⟩
 have q:=aT (List.getElem?_eq_getElem hz)
 rwa [show (((z % 26).toNat:Nat):Int)=z % 26 by omega]at q
theorem zL(x:Str)(c:Nat):(x++(⟨#[c]⟩ : Str)).length=x.length+1:=by rw[Str.length_append]; rfl
section
variable{P:Program}{w:World}{K:PySem.W.Frag}{mg:Str→Option Value}{base:Heap}
theorem Cg(D:DefAt K mg "_law_cell_at" dG) (z_len:mg "len" = none):aM P w K mg base 1 "_law_cell_at" ["_law_script", "_law_k"] (qt K):=by
 refine D.cal nO (fun _ _ _ _ _ _ us hl=>match us,hl with | [_,_],_=>rfl) (fun vs H Q E h=>by obtain⟨a,ns,k,rfl,_⟩:=h; rfl) (fun f cdv A outer s H vs Q E hr h=>?_)
 obtain⟨a,ns,k,rfl,hS,h0,q⟩:=h
 refine⟨_,(af (bd (aF j6 (pv 1) (bm (aV K) z_len bL (aa (pv 0) ac)) (aL _)) (ak (aG (av (aI K) (pv 0) (pv 1) (fun _ _=>rfl)))) bu)
   (ak (aG ae))),?_⟩
 try simp only[nj,tD,mG,kU,qD,uG,uj,rE,qj,uN,pN,tF,sj,tN,tZ,tK,Bw,x8,wN,qi,BE,tH,xF,tV,rC,sr,wY,xm,p7,tR,uh,uz,rb,xY,uF,rO,rL,oN,oG,oE,oR,k7,rR,qR,oO,wW,rj,lY,r_,tY,qW,pI,t9,rG,ut,rM,rf,uA,pG,xE,A5,og,om,j2,oh,oA,uB,rW,qv,rN,nS,ui,A9,tu,uf,rB,pV,p0,qx,k8,lm,ol,oz,pY,pT,lS,q_,tq,uH,n_,nY,f7,uP,ou,ux,oq,qa,pW,pF,ql,qV,uq,uc,ue,L2.start,List.map_cons,List.map_nil,List.length_cons,List.length_nil,List.replicate,List.cons_append,List.nil_append,List.append_nil,List.getElem?_cons_zero,List.getElem?_cons_succ,List.set_cons_zero,List.set_cons_succ,Nat.reduceAdd,Nat.reduceSub,Option.some.injEq,exists_eq_left',exists_eq_left,V.int.injEq,V.ref.injEq,V.str.injEq,V.bl.injEq,xV,ug,and_true,true_and,decide_eq_true_eq,Bool.not_true,Bool.not_false,if_true,Bool.false_eq_true,if_false,ite_true,ite_false]
 refine⟨_,.inl hS,aJ (fun c=>?_) (fun c=>?_)⟩
 ·rw[List.length_map]at c
  refine⟨_,.int (ns.getD k.toNat 0),.inl hS,sn h0 ?_,q⟩
  rw[List.getD_eq_getElem?_getD,List.getElem?_eq_getElem (by omega)]; rfl
 ·rw[List.length_map]at c
  have e:ns.getD k.toNat 0=0:=by
   rw[List.getD_eq_getElem?_getD,List.getElem?_eq_none (by omega)]; rfl
  rw[e]at q; exact q
theorem qr(ss:List Str){z:Int}(h:0≤z):dY (ss.map V.str) none (some z)=(ss.take z.toNat).map V.str:=by
 have e:z=(z.toNat:Int):=by omega
 rw[e,ja,List.map_take]; rfl
end
theorem iL(sep k:Str)(ws:List Str):Txt.join sep (k::ws)=ws.foldl (fun a x=>a++sep++x) k:=by
 have go:∀ (ws:List Str) (a:Str),(⟨ws.foldl (fun acc p=>acc++sep.cps++p.cps) a.cps⟩ : Str)=ws.foldl (fun a x=>a++sep++x) a:=by
  intro ws
  induction ws with
  | nil=>intro a; rfl
  | cons x ws ih=>intro a; rw[List.foldl_cons,List.foldl_cons]; exact ih (a++sep++x)
 exact go ws k
def dm:List Str:=["open", "copy", "drop", "tie", "do"]
structure iB (ws:List Str):Prop where
 two:2≤ws.length
 three:ws.length≤3
 kind:ws.headD "" ∈ dm
 len:∀ x∈ws,x.length≤20
def F0(H:Hp)(a:Addr)(ws:List Str):Prop:=H a=some (.tup (ws.map V.str))∧iB ws
def jk{α : Type}(xs:List α)(lo hi:Option Int):List α:=(xs.drop (HT.sIx xs.length 0 lo)).take (HT.sIx xs.length xs.length hi - HT.sIx xs.length 0 lo)
theorem kD{α : Type}(f:α→V)(xs:List α)(lo hi:Option Int):dY (xs.map f) lo hi=(jk xs lo hi).map f:=by
 unfold dY jk;rw[List.length_map,List.map_take,List.map_drop]
theorem gA{α : Type}(xs:List α)(lo hi:Option Int):(jk xs lo hi).length≤xs.length:=by
 unfold jk;rw[List.length_take,List.length_drop];omega
theorem wf{H:Hp}{a:Addr}{ws:List Str}{LA:Addr→List Str→Prop}(h:F0 H a ws):my LA H a [Txt.join " " ws]:=by
 obtain⟨h1,two,three,kd,len⟩:=h
 cases ws with
 | nil=>simp at two
 | cons k ws=>
  have hk:k∈dm:=kd
  have hc:bj k=[]:=by
   simp only[dm,List.mem_cons,List.mem_nil_iff,or_false]at hk
   rcases hk with rfl | rfl | rfl | rfl | rfl <;> decide
  have hp:∀ ws:List Str,Paired kq (ws.map V.str) ws:=fun ws=>by
   induction ws with
   | nil=>exact .nil
   | cons x ws ih=>exact .cons (show kq (.str x) x from rfl) ih
  refine⟨k,ws.map V.str,ws,[],[],⟨by rw[List.map_nil,List.append_nil]; exact h1,hp ws,?_,by rw[hc]; rfl,.nil⟩,by rw[hc]; rfl⟩
  have:=gT 20 (k::ws) len
  simp only[List.length_cons]at this two three ⊢
  omega
theorem cA{α β : Type}{R:α→β→Prop}{x:α}{y:β}(hxy:R x y):∀ {xs:List α} {ys:List β},Paired R xs ys→Paired R (xs++[x]) (ys++[y])
 | _,_,.nil=>.cons hxy .nil
 | _,_,.cons h t=>.cons h (cA hxy t)
set_option genSizeOf false in
inductive Stp where
 | plain (ws:List Str)
 | lend (x y:Str) (b:List Stp)
 | ite (n:Int) (b c:List Stp)
 | whl (n:Int) (b:List Stp)
def bG(n:Int):Str:=Str.ofString (toString n)
def bU(f:List Stp→List Str):Stp→List Str
 | .plain ws=>[Txt.join " " ws]
 | .lend x y b=>Txt.join " " ["lend", x,y]::(f b++[("back" : Str)])
 | .ite n b c=>Txt.join " " ["if", bG n]::(f b++[("else" : Str)]++(f c++[("fi" : Str)]))
 | .whl n b=>Txt.join " " ["while", bG n]::(f b++[("done" : Str)])
def b5:Nat→List Stp→List Str
 | 0,_=>[]
 | d+1,T=>T.flatMap (bU (b5 d))
def qg(f:List Stp→Prop):Stp→Prop
 | .plain ws=>iB ws
 | .lend x y b=>x.length≤20∧y.length≤20∧f b
 | .ite n b c=>n.natAbs.log2<1920∧f b∧f c
 | .whl n b=>n.natAbs.log2<1920∧f b
def dJ:Nat→List Stp→Prop
 | 0,_=>False
 | d+1,T=>∀ s∈T,qg (dJ d) s
def stpAt(PA:Addr→List Stp→Prop)(H:Hp)(a:Addr):Stp→Prop
 | .plain ws=>H a=some (.tup (ws.map V.str))
 | .lend x y b=>∃ q,H a=some (.tup [.str "lend", .str x,.str y,.ref q])∧PA q b
 | .ite n b c=>∃ q r,H a=some (.tup [.str "if", .int n,.ref q,.ref r])∧PA q b∧PA r c
 | .whl n b=>∃ q,H a=some (.tup [.str "while", .int n,.ref q])∧PA q b
def ProgAt(S:Addr→Prop):Nat→Hp→Addr→List Stp→Prop
 | 0=>fun _ _ _=>False
 | d+1=>fun H p T=>S p∧∃ as:List Addr,H p=some (.lst (as.map V.ref))∧Paired (stpAt (ProgAt S d H) H) as T
theorem stpAt.imp{PA PA':Addr→List Stp→Prop}{H H':Hp}{a:Addr}(ht:∀ b xs,H b=some (.tup xs)→H' b=some (.tup xs))(hp:∀ q b,PA q b→PA' q b):∀ {s:Stp},stpAt PA H a s→stpAt PA' H' a s
 | .plain _,h=>ht _ _ h
 | .lend _ _ _,⟨q,h,z⟩=>⟨q,ht _ _ h,hp _ _ z⟩
 | .ite _ _ _,⟨q,r,h,z,y⟩=>⟨q,r,ht _ _ h,hp _ _ z,hp _ _ y⟩
 | .whl _ _,⟨q,h,z⟩=>⟨q,ht _ _ h,hp _ _ z⟩
theorem ProgAt.imp{S S':Addr→Prop}{H H':Hp}(ht:∀ b xs,H b=some (.tup xs)→H' b=some (.tup xs))(hl:∀ b xs,S b→H b=some (.lst xs)→H' b=some (.lst xs))(hS:∀ b,S b→S' b) :
  ∀ (d:Nat) {p:Addr} {T:List Stp},ProgAt S d H p T→ProgAt S' d H' p T
 | 0,_,_,h=>h.elim
 | d+1,p,T,⟨h0,as,h1,h2⟩=>⟨hS _ h0,as,hl _ _ h0 h1,Paired.imp' (fun a s z=>z.imp ht fun q b y=>ProgAt.imp ht hl hS d y) h2⟩
theorem ProgAt.mono{S:Addr→Prop}{H H':Hp}{d:Nat}{p:Addr}{T:List Stp}(h:ProgAt S d H p T)(sm:Same H H'):ProgAt S d H' p T:=h.imp (fun b xs e=>sm _ _ e) (fun b xs _ e=>sm _ _ e) (fun _ z=>z) d
theorem iW{n:Int}(h:n.natAbs.log2<1920):(bG n).length≤1921:=by
 have e:=int_text_length_le (k:=1920) (by decide) h
 unfold bG;rw[PySem.ofString_length]; exact e
theorem wk{PA:Addr→List Stp→Prop}{LA:Addr→List Str→Prop}{H:Hp}{a:Addr}{f:List Stp→List Str}{g:List Stp→Prop}(hp:∀ q b,PA q b→g b→LA q (f b)):∀ {s:Stp},stpAt PA H a s→qg g s→my LA H a (bU f s)
 | .plain ws,h,ok=>wf ⟨h,ok⟩
 | .lend x y b,⟨q,h,z⟩,⟨o1,o2,o3⟩=>by
  refine⟨"lend", [.str x,.str y],[x,y],[q],[f b],⟨h,.cons rfl (.cons rfl .nil),?_,by show 1=(bj "lend").length; decide,.cons (hp _ _ z o3) .nil⟩,by show _=_::ce [f b] ["back"]; simp[bU,ce]⟩
  have:(Str.ofString "lend").length=4:=by decide
  simp only[List.map_cons,List.map_nil,List.sum_cons,List.sum_nil,List.length_cons,List.length_nil,this]; omega
 | .ite n b c,⟨q,r,h,z,y⟩,⟨o1,o2,o3⟩=>by
  refine⟨"if", [.int n],[bG n],[q,r],[f b,f c],⟨h,.cons ⟨o1,rfl⟩ .nil,?_,by show 2=(bj "if").length; decide,.cons (hp _ _ z o2) (.cons (hp _ _ y o3) .nil)⟩,?_⟩
  ·have:(Str.ofString "if").length=2:=by decide
   have:=iW o1
   simp only[List.map_cons,List.map_nil,List.sum_cons,List.sum_nil,List.length_cons,List.length_nil]; omega
  ·show _=_::ce [f b,f c] ["else", "fi"]
   simp[bU,ce]
 | .whl n b,⟨q,h,z⟩,⟨o1,o2⟩=>by
  refine⟨"while", [.int n],[bG n],[q],[f b],⟨h,.cons ⟨o1,rfl⟩ .nil,?_,by show 1=(bj "while").length; decide,.cons (hp _ _ z o2) .nil⟩,by show _=_::ce [f b] ["done"]; simp[bU,ce]⟩
  have:(Str.ofString "while").length=5:=by decide
  have:=iW o1
  simp only[List.map_cons,List.map_nil,List.sum_cons,List.sum_nil,List.length_cons,List.length_nil]; omega
theorem lr{PA:Addr→List Stp→Prop}{LA:Addr→List Str→Prop}{H:Hp}{f:List Stp→List Str}{g:List Stp→Prop}(hp:∀ q b,PA q b→g b→LA q (f b)) :
  ∀ {as:List Addr} {T:List Stp},Paired (stpAt PA H) as T→(∀ s∈T,qg g s)→Paired (my LA H) as (T.map (bU f))
 | _,_,.nil,_=>.nil
 | _,_,.cons h t,ok=>.cons (wk hp h (ok _ List.mem_cons_self)) (lr hp t fun s hs=>ok s (List.mem_cons_of_mem _ hs))
theorem mw{S:Addr→Prop}{H:Hp}:∀ (d:Nat) {p:Addr} {T:List Stp},ProgAt S d H p T→dJ d T→LinesAt d H p (b5 d T)
 | 0,_,_,h,_=>h.elim
 | d+1,p,T,⟨_,as,h1,h2⟩,ok=>⟨as,T.map (bU (b5 d)),h1,lr (fun q b z o=>mw d z o) h2 ok,List.flatMap_def⟩
def aR(f:List Stp→Nat):Stp→Nat
 | .plain _=>1
 | .lend _ _ b=>f b+2
 | .ite _ b c=>f b+f c+3
 | .whl _ b=>f b+2
def ai:Nat→List Stp→Nat
 | 0,_=>0
 | d+1,T=>(T.map (aR (ai d))).sum
def cZ(f:Stp→Nat):Nat→List Stp→List (Nat × Stp)
 | _,[]=>[]
 | l,s::T=>(l,s)::cZ f (l+f s) T
theorem iI(f:Stp→Nat)(s:Stp):∀ (l:Nat) (T:List Stp),cZ f l (T++[s])=cZ f l T++[(l+(T.map f).sum,s)]
 | l,[]=>by simp[cZ]
 | l,t::T=>by
  show (l,t)::cZ f (l+f t) (T++[s])=(l,t)::cZ f (l+f t) T++[(l+(f t+(T.map f).sum),s)]
  rw[iI f s (l+f t) T,Nat.add_assoc]; rfl
theorem fO(f:Stp→Nat):∀ (l:Nat) (T:List Stp),(cZ f l T).length=T.length
 | _,[]=>rfl
 | l,s::T=>by show (cZ f (l+f s) T).length+1=T.length+1; rw[fO f _ T]
theorem nu(f:Stp→Nat):∀ (l:Nat) (T:List Stp) (i:Nat) (s:Stp),T[i]? = some s→(cZ f l T)[i]? = some (l+((T.take i).map f).sum,s)
 | _,[],_,_,h=>by simp at h
 | l,t::T,0,s,h=>by
  have e:t=s:=by simpa using h
  subst e; simp[cZ]
 | l,t::T,i+1,s,h=>by
  have h':T[i]? = some s:=by simpa using h
  have ih:=nu f (l+f t) T i s h';show (cZ f (l+f t) T)[i]? = _
  rw[ih,List.take_succ_cons,List.map_cons,List.sum_cons,Nat.add_assoc]
def kindOf:Stp→Str
 | .plain ws=>ws.headD ""
 | .lend _ _ _ => "lend"
 | .ite _ _ _ => "if"
 | .whl _ _ => "while"
def dZ:Stp→List V
 | .plain ws=>(ws.drop 1).map V.str
 | .lend x y _=>[.str x,.str y]
 | .ite n _ _=>[.int n]
 | .whl n _=>[.int n]
def cU(f:List Stp→Nat)(l:Nat):Stp→List (Nat × List Stp)
 | .plain _=>[]
 | .lend _ _ b=>[(l+1,b)]
 | .ite _ b c=>[(l+1,b),(l+1+f b+1,c)]
 | .whl _ b=>[(l+1,b)]
def cX(f:List Stp→Nat)(l:Nat)(s:Stp):List Nat:=l::(cU f l s).map fun z=>z.1+f z.2
theorem zr{f:List Stp→Nat}{l:Nat}:∀ {s:Stp} {j:Nat} {z:Nat × List Stp},(cU f l s)[j]? = some z→∃ y,(cX f l s)[j]? = some y∧z.1=y+1
 | .plain _,j,z,h=>by simp[cU]at h
 | .lend _ _ b,0,z,h=>by cases h; exact⟨l,rfl,rfl⟩
 | .lend _ _ b,j+1,z,h=>by simp[cU]at h
 | .ite _ b c,0,z,h=>by cases h; exact⟨l,rfl,rfl⟩
 | .ite _ b c,1,z,h=>by cases h; exact⟨l+1+f b,rfl,rfl⟩
 | .ite _ b c,j+2,z,h=>by simp[cU]at h
 | .whl _ b,0,z,h=>by cases h; exact⟨l,rfl,rfl⟩
 | .whl _ b,j+1,z,h=>by simp[cU]at h
theorem ji{f:List Stp→Nat}{l:Nat}:∀ {s:Stp},(cX f l s).getLast? = some (l+aR f s - 1)∧1≤aR f s
 | .plain _=>by simp[cX,cU,aR]
 | .lend _ _ b=>by simp[cX,cU,aR]; omega
 | .ite _ b c=>by simp[cX,cU,aR]; omega
 | .whl _ b=>by simp[cX,cU,aR]; omega
def hV:Option Nat→V
 | none=>.non
 | some n=>.int n
set_option genInjectivity false in
set_option genSizeOf false in
structure RS where
 taken:Nat
 last:Int
 opened:Nat
 held:List (aK × V)
 log:List (List V)
 pc:Nat
def RS.sz(st:RS):Nat:=st.log.length+st.held.length+st.opened
def aH(st:RS)(k:aK):Option Nat:=match bY st.held k with
 | some (.int n)=>some n.toNat
 | _=>none
def aN(k:aK)(h:Option Nat)(st:RS):RS:={ st with held:=cS st.held k (hV h) }
def aQ(l:Nat)(h:Option Nat)(w:Str)(st:RS):RS:=match h with
 | none=>st
 | some n=>{ st with log:=st.log++[[.int l,.int n,.str w,.int st.last]] }
def dj(l:Nat)(k:aK)(st:RS):RS:=aN k (some st.opened) (aQ l (some st.opened) "open" { st with opened:=st.opened+1 })
def cJ(l:Nat)(a b:Option Nat)(st:RS):RS:=match a,b with
 | some n,some m=>if n=m then st else { st with log:=st.log++[[.int l,.int n,.int m]] }
 | _,_=>st
def ao(xs:List Int)(n:Int)(st:RS):Bool × RS:=match xs[st.taken]? with
 | none=>(false,st)
 | some v=>(decide (n<v),{ st with taken:=st.taken+1,last:=v })
def gQ(l:Nat)(st:RS):RS:={ st with log:=st.log++(List.range st.opened).map fun (h:Nat)=>([.int l,.int h,.str "end", .int st.last]:List V) }
def cf(l:Nat)(ws:List Str)(st:RS):RS:=match ws with
 | [k,x]=>if k = "open" then dj l (.inr x) st else aN (.inr x) none st
 | [k,x,y]=>if k = "do" then aQ l (aH st (.inr y)) x st else if k = "copy" then aN (.inr x) (aH st (.inr y)) st else cJ l (aH st (.inr x)) (aH st (.inr y)) st
 | _=>st
inductive eO:List Str→Prop
 | op (x:Str):eO ["open", x]
 | dr (x:Str):eO ["drop", x]
 | dd (u x:Str):eO ["do", u,x]
 | cp (x y:Str):eO ["copy", x,y]
 | ti (x y:Str):eO ["tie", x,y]
def nM(f:List Stp→Prop):Stp→Prop
 | .plain ws=>eO ws
 | .lend _ _ b=>f b
 | .ite _ b c=>f b∧f c
 | .whl _ b=>f b
def fG:Nat→List Stp→Prop
 | 0,_=>False
 | d+1,T=>∀ s∈T,nM (fG d) s
def bO(f:RS→RS)(xs:List Int)(n:Int):Nat→RS→RS
 | 0,st=>st
 | m+1,st=>if (ao xs n st).1=true then bO f xs n m (f (ao xs n st).2) else (ao xs n st).2
def bF(f:List Stp→Nat)(g:Nat→List Stp→RS→RS)(xs:List Int)(l:Nat):Stp→RS→RS
 | .plain ws,st=>cf l ws st
 | .lend x y b,st=>aN (.inr y) none (aQ (l+1+f b) (aH st (.inr x)) "back" (g (l+1) b (aN (.inr y) (aH st (.inr x)) (aQ l (aH st (.inr x)) "lend" st))))
 | .ite n b c,st=>if (ao xs n st).1=true then g (l+1) b (ao xs n st).2 else g (l+1+f b+1) c (ao xs n st).2
 | .whl n b,st=>bO (g (l+1) b) xs n xs.length st
def aB(xs:List Int):Nat→Nat→List Stp→RS→RS
 | 0,_,_,st=>st
 | d+1,l,T,st=>(cZ (aR (ai d)) l T).foldl (fun st z=>bF (ai d) (aB xs d) xs z.1 z.2 st) st
def rs0:RS:=⟨0,0,0,[],[],0⟩
def GoodR(st:RS):Prop:=∀ k v,bY st.held k=some v→∃ h,v=hV h
theorem GoodR.get{st:RS}(g:GoodR st)(k:aK):(bY st.held k).getD .non=hV (aH st k):=by
 unfold aH
 cases e:bY st.held k with
 | none=>rfl
 | some v=>
  obtain⟨h,rfl⟩:=g k v e
  cases h with
  | none=>rfl
  | some n=>show V.int n=V.int ((Int.toNat (n:Int):Nat):Int); rw[Int.toNat_natCast]
theorem ft(k j:aK)(h:Option Nat)(st:RS):aH (aN k h st) j=if j=k then h else aH st j:=by
 unfold aH aN;rw[iD]
 by_cases e:j=k
 ·rw[if_pos e,if_pos e]
  cases h with
  | none=>rfl
  | some n=>show some (Int.toNat (n:Int))=some n; rw[Int.toNat_natCast]
 ·rw[if_neg e,if_neg e]
theorem GoodR.hold{st:RS}(g:GoodR st)(k:aK)(h:Option Nat):GoodR (aN k h st):=fun j v e=>by
 have e':(if j=k then some (hV h) else bY st.held j)=some v:=by rw[← iD]; exact e
 by_cases hj:j=k
 ·rw[if_pos hj]at e'; exact⟨h,(Option.some.inj e').symm⟩
 ·rw[if_neg hj]at e'; exact g j v e'
theorem gm(l:Nat)(h:Option Nat)(w:Str)(st:RS):(aQ l h w st).held=st.held:=by cases h <;> rfl
theorem wR(l:Nat)(a b:Option Nat)(st:RS):(cJ l a b st).held=st.held:=by
 unfold cJ; split
 ·split <;> rfl
 ·rfl
theorem fA(xs:List Int)(n:Int)(st:RS):(ao xs n st).2.held=st.held:=by unfold ao; split <;> rfl
theorem GoodR.of{st st':RS}(g:GoodR st)(e:st'.held=st.held):GoodR st':=fun k v h=>g k v (by rw[← e]; exact h)
theorem AO(kvs:List (aK × V))(k:aK)(v:V):kvs.length≤(cS kvs k v).length:=by
 unfold cS; split
 ·rw[List.length_map]; exact Nat.le_refl _
 ·rw[List.length_append]; omega
def UpR(a b:RS):Prop:=a.taken≤b.taken∧a.sz≤b.sz
theorem UpR.refl(a:RS):UpR a a:=⟨Nat.le_refl _,Nat.le_refl _⟩
theorem UpR.trans{a b c:RS}(h:UpR a b)(k:UpR b c):UpR a c:=⟨Nat.le_trans h.1 k.1,Nat.le_trans h.2 k.2⟩
theorem eR(k:aK)(h:Option Nat)(st:RS):UpR st (aN k h st):=⟨Nat.le_refl _,by have:=AO st.held k (hV h); simp only[RS.sz,aN]; omega⟩
theorem fX(l:Nat)(h:Option Nat)(w:Str)(st:RS):UpR st (aQ l h w st):=by
 cases h with
 | none=>exact UpR.refl _
 | some n=>exact⟨Nat.le_refl _,by simp only[RS.sz,aQ,List.length_append]; omega⟩
theorem Co(l:Nat)(k:aK)(st:RS):UpR st (dj l k st):=
 UpR.trans (b:={ st with opened:=st.opened+1 }) ⟨Nat.le_refl _,by simp only[RS.sz]; omega⟩ (UpR.trans (fX l (some st.opened) "open" _) (eR k _ _))
theorem x4(l:Nat)(a b:Option Nat)(st:RS):UpR st (cJ l a b st):=by
 unfold cJ; split
 ·split
  ·exact UpR.refl _
  ·exact⟨Nat.le_refl _,by simp only[RS.sz,List.length_append]; omega⟩
 ·exact UpR.refl _
theorem kG(xs:List Int)(n:Int)(st:RS):UpR st (ao xs n st).2:=by
 unfold ao; split
 ·exact UpR.refl _
 ·exact⟨Nat.le_succ _,Nat.le_refl _⟩
theorem zK(l:Nat)(ws:List Str)(st:RS):UpR st (cf l ws st):=by
 unfold cf; split
 ·split
  ·exact Co _ _ _
  ·exact eR _ _ _
 ·split
  ·exact fX _ _ _ _
  ·split
   ·exact eR _ _ _
   ·exact x4 _ _ _ _
 ·exact UpR.refl _
theorem nI{f:RS→RS}(hf:∀ st,UpR st (f st))(xs:List Int)(n:Int):∀ (m:Nat) (st:RS),UpR st (bO f xs n m st)
 | 0,st=>UpR.refl _
 | m+1,st=>by
  unfold bO; split
  ·exact(kG xs n st).trans ((hf _).trans (nI hf xs n m _))
  ·exact kG xs n st
theorem uE{f:List Stp→Nat}{g:Nat→List Stp→RS→RS}(hg:∀ l T st,UpR st (g l T st))(xs:List Int)(l:Nat):∀ (s:Stp) (st:RS),UpR st (bF f g xs l s st)
 | .plain ws,st=>zK _ _ _
 | .lend x y b,st=>(fX l _ "lend" st).trans ((eR _ _ _).trans ((hg _ _ _).trans ((fX _ _ "back" _).trans (eR _ _ _))))
 | .ite n b c,st=>by
  show UpR st (if (ao xs n st).1=true then _ else _)
  split
  ·exact(kG xs n st).trans (hg _ _ _)
  ·exact(kG xs n st).trans (hg _ _ _)
 | .whl n b,st=>nI (hg _ _) xs n _ _
theorem nL{α : Type}{h:RS→α→RS}(hh:∀ st z,UpR st (h st z)):∀ (zs:List α) (st:RS),UpR st (zs.foldl h st)
 | [],st=>UpR.refl _
 | z::zs,st=>(hh st z).trans (nL hh zs _)
theorem j4(xs:List Int):∀ (d l:Nat) (T:List Stp) (st:RS),UpR st (aB xs d l T st)
 | 0,_,_,st=>UpR.refl _
 | d+1,l,T,st=>nL (fun st (z:Nat × Stp)=>uE (f:=ai d) (j4 xs d) xs z.1 z.2 st) _ _
def GrR(n c:Nat)(a b:RS):Prop:=∃ δ,b.taken=a.taken+δ∧b.sz≤a.sz+c * (δ+1)∧(a.taken≤n→b.taken≤n)
theorem GrR.seq{n c c':Nat}{x y z:RS}(h:GrR n c x y)(k:GrR n c' y z):GrR n (c+c') x z:=by
 obtain⟨δ,h1,h2,h3⟩:=h
 obtain⟨ε,k1,k2,k3⟩:=k
 refine⟨δ+ε,by omega,?_,fun q=>k3 (h3 q)⟩
 have e1:c * (δ+1)≤c * (δ+ε+1):=Nat.mul_le_mul (Nat.le_refl _) (by omega)
 have e2:c' * (ε+1)≤c' * (δ+ε+1):=Nat.mul_le_mul (Nat.le_refl _) (by omega)
 have e3:(c+c') * (δ+ε+1)=c * (δ+ε+1)+c' * (δ+ε+1):=Nat.add_mul _ _ _
 omega
theorem GrR.up{n c c':Nat}{x y:RS}(h:GrR n c x y)(k:c≤c'):GrR n c' x y:=by
 obtain⟨δ,h1,h2,h3⟩:=h
 have e:=Nat.mul_le_mul k (Nat.le_refl (δ+1));exact⟨δ,h1,by omega,h3⟩
theorem i_(n:Nat)(k:aK)(h:Option Nat)(st:RS):GrR n 1 st (aN k h st):=⟨0,rfl,by have:=iO st.held k (hV h); simp only[RS.sz,aN]; omega,fun q=>q⟩
theorem kH(n:Nat)(l:Nat)(h:Option Nat)(w:Str)(st:RS):GrR n 1 st (aQ l h w st):=by
 cases h with
 | none=>exact⟨0,rfl,Nat.le_add_right _ _,fun q=>q⟩
 | some m=>exact⟨0,rfl,by simp only[RS.sz,aQ,List.length_append,List.length_cons,List.length_nil]; omega,fun q=>q⟩
theorem Ea(n:Nat)(l:Nat)(a b:Option Nat)(st:RS):GrR n 1 st (cJ l a b st):=by
 unfold cJ; split
 ·split
  ·exact⟨0,rfl,Nat.le_add_right _ _,fun q=>q⟩
  ·exact⟨0,rfl,by simp only[RS.sz,List.length_append,List.length_cons,List.length_nil]; omega,fun q=>q⟩
 ·exact⟨0,rfl,Nat.le_add_right _ _,fun q=>q⟩
theorem CZ(n:Nat)(l:Nat)(k:aK)(st:RS):GrR n 3 st (dj l k st):=
 GrR.seq (c:=1) (y:={ st with opened:=st.opened+1 }) ⟨0,rfl,by simp only[RS.sz]; omega,fun q=>q⟩ (GrR.seq (c:=1) (c':=1) (kH n l (some st.opened) "open" _) (i_ n k _ _))
theorem AC(n:Nat)(l:Nat)(ws:List Str)(st:RS):GrR n 3 st (cf l ws st):=by
 unfold cf; split
 ·split
  ·exact CZ _ _ _ _
  ·exact(i_ _ _ _ _).up (by decide)
 ·split
  ·exact(kH _ _ _ _ _).up (by decide)
  ·split
   ·exact(i_ _ _ _ _).up (by decide)
   ·exact(Ea _ _ _ _ _).up (by decide)
 ·exact⟨0,rfl,Nat.le_add_right _ _,fun q=>q⟩
theorem oi{xs:List Int}{n:Int}{st:RS}(h:(ao xs n st).1=true):(ao xs n st).2.taken=st.taken+1∧st.taken<xs.length∧(ao xs n st).2.sz=st.sz:=by
 unfold ao at h ⊢
 split at h
 ·cases h
 ·rename_i v e
  have:=(List.getElem?_eq_some_iff.mp e).1
  exact⟨rfl,this,rfl⟩
theorem rD(xs:List Int)(n:Int)(st:RS):(∃ δ,(ao xs n st).2.taken=st.taken+δ)∧(ao xs n st).2.sz=st.sz∧(st.taken≤xs.length→(ao xs n st).2.taken≤xs.length):=by
 unfold ao;split
 ·exact⟨⟨0,rfl⟩,rfl,fun q=>q⟩
 ·rename_i v e
  have:=(List.getElem?_eq_some_iff.mp e).1
  exact⟨⟨1,rfl⟩,rfl,fun q=>this⟩
theorem uK(xs:List Int)(n:Int)(st:RS):GrR xs.length 0 st (ao xs n st).2:=by
 obtain⟨⟨δ,h1⟩,h2,h3⟩:=rD xs n st
 exact⟨δ,h1,by omega,h3⟩
theorem tS{f:RS→RS}{xs:List Int}{c:Nat}(hf:∀ st,GrR xs.length c st (f st))(n:Int):∀ (m:Nat) (st:RS),∃ δ,(bO f xs n m st).taken=st.taken+δ∧(bO f xs n m st).sz≤st.sz+c * δ∧(st.taken≤xs.length→(bO f xs n m st).taken≤xs.length)
 | 0,st=>⟨0,rfl,Nat.le_add_right _ _,fun q=>q⟩
 | m+1,st=>by
  unfold bO; split
  ·rename_i hh
   obtain⟨a1,a2,a3⟩:=oi hh
   obtain⟨δ,h1,h2,h3⟩:=hf (ao xs n st).2
   obtain⟨ε,k1,k2,k3⟩:=tS hf n m (f (ao xs n st).2)
   refine⟨1+δ+ε,by omega,?_,fun q=>k3 (h3 (by omega))⟩
   have e:c * (1+δ+ε)=c * (δ+1)+c * ε:=by rw[← Nat.mul_add]; congr 1; omega
   omega
  ·obtain⟨⟨δ,h1⟩,h2,h3⟩:=rD xs n st
   exact⟨δ,h1,by omega,h3⟩
theorem BY{xs:List Int}{f:List Stp→Nat}{g:Nat→List Stp→RS→RS}(hg:∀ l T st,GrR xs.length (3 * f T) st (g l T st))(l:Nat):∀ (s:Stp) (st:RS),GrR xs.length (3 * aR f s) st (bF f g xs l s st)
 | .plain ws,st=>AC _ _ _ _
 | .lend x y b,st=>GrR.up (((kH _ l _ "lend" st).seq ((i_ _ _ _ _).seq ((hg _ _ _).seq ((kH _ _ _ "back" _).seq (i_ _ _ _ _)))))) (by simp only[aR]; omega)
 | .ite n b c,st=>by
  show GrR _ _ st (if (ao xs n st).1=true then _ else _)
  split
  ·exact GrR.up ((uK xs n st).seq (hg _ _ _)) (by simp only[aR]; omega)
  ·exact GrR.up ((uK xs n st).seq (hg _ _ _)) (by simp only[aR]; omega)
 | .whl n b,st=>by
  obtain⟨δ,h1,h2,h3⟩:=tS (hg (l+1) b) n xs.length st
  refine⟨δ,h1,Nat.le_trans h2 ?_,h3⟩
  have:3 * f b * δ≤3 * aR f (.whl n b) * (δ+1):=Nat.mul_le_mul (by simp only[aR]; omega) (by omega)
  omega
theorem ur{n:Nat}{α : Type}{h:RS→α→RS}{c:α→Nat}(hh:∀ st z,GrR n (c z) st (h st z)):∀ (zs:List α) (st:RS),GrR n (zs.map c).sum st (zs.foldl h st)
 | [],st=>⟨0,rfl,Nat.le_add_right _ _,fun q=>q⟩
 | z::zs,st=>(hh st z).seq (ur hh zs _)
theorem p6(f:Stp→Nat):∀ (l:Nat) (T:List Stp),((cZ f l T).map fun z=>3 * f z.2).sum=3 * (T.map f).sum
 | _,[]=>rfl
 | l,s::T=>by
  show 3 * f s+((cZ f (l+f s) T).map fun z=>3 * f z.2).sum=3 * (f s+(T.map f).sum)
  rw[p6 f _ T]; omega
theorem yu(xs:List Int):∀ (d l:Nat) (T:List Stp) (st:RS),GrR xs.length (3 * ai d T) st (aB xs d l T st)
 | 0,_,_,st=>⟨0,rfl,Nat.le_add_right _ _,fun q=>q⟩
 | d+1,l,T,st=>by
  have:=ur (n:=xs.length) (c:=fun z:Nat × Stp=>3 * aR (ai d) z.2) (h:=fun st z=>bF (ai d) (aB xs d) xs z.1 z.2 st) (fun st z=>BY (yu xs d) z.1 z.2 st) (cZ (aR (ai d)) l T) st
  rw[p6]at this
  exact this
def dE(xs:List Int)(d:Nat)(T:List Stp):RS:=gQ (ai d T) (aB xs d 0 T rs0)
theorem xD(xs:List Int)(d:Nat)(T:List Stp):(aB xs d 0 T rs0).sz≤3 * ai d T * (xs.length+1):=by
 obtain⟨δ,h1,h2,h3⟩:=yu xs d 0 T rs0
 have h4:=h3 (Nat.zero_le _);have h0:rs0.taken=0:=rfl
 have h00:rs0.sz=0:=rfl
 have:3 * ai d T * (δ+1)≤3 * ai d T * (xs.length+1):=Nat.mul_le_mul (Nat.le_refl _) (by omega)
 omega
structure ClosedR (xs:List Int) (P:RS→Prop):Prop where
 hold:∀ k h st,P st→P (aN k h st)
 deed:∀ l h w st,P st→P (aQ l h w st)
 tie:∀ l a b st,P st→P (cJ l a b st)
 opn:∀ l k st,P st→P (dj l k st)
 take:∀ n st,P st→P (ao xs n st).2
theorem ClosedR.plain{xs:List Int}{P:RS→Prop}(c:ClosedR xs P)(l:Nat)(ws:List Str)(st:RS)(h:P st):P (cf l ws st):=by
 unfold cf; split
 ·split
  ·exact c.opn _ _ _ h
  ·exact c.hold _ _ _ h
 ·split
  ·exact c.deed _ _ _ _ h
  ·split
   ·exact c.hold _ _ _ h
   ·exact c.tie _ _ _ _ h
 ·exact h
theorem ClosedR.loop{xs:List Int}{P:RS→Prop}(c:ClosedR xs P){f:RS→RS}(hf:∀ st,P st→P (f st))(n:Int):∀ (m:Nat) (st:RS),P st→P (bO f xs n m st)
 | 0,_,h=>h
 | m+1,st,h=>by
  unfold bO; split
  ·exact c.loop hf n m _ (hf _ (c.take n st h))
  ·exact c.take n st h
theorem ClosedR.step{xs:List Int}{P:RS→Prop}(c:ClosedR xs P){f:List Stp→Nat}{g:Nat→List Stp→RS→RS}(hg:∀ l T st,P st→P (g l T st))(l:Nat):∀ (s:Stp) (st:RS),P st→P (bF f g xs l s st)
 | .plain ws,st,h=>c.plain l ws st h
 | .lend x y b,st,h=>c.hold _ _ _ (c.deed _ _ _ _ (hg _ _ _ (c.hold _ _ _ (c.deed _ _ _ _ h))))
 | .ite n b e,st,h=>by
  show P (if (ao xs n st).1=true then _ else _)
  split
  ·exact hg _ _ _ (c.take n st h)
  ·exact hg _ _ _ (c.take n st h)
 | .whl n b,st,h=>c.loop (hg _ _) n _ _ h
theorem qH{α : Type}{P:RS→Prop}{h:RS→α→RS}(hh:∀ st z,P st→P (h st z)):∀ (zs:List α) (st:RS),P st→P (zs.foldl h st)
 | [],_,g=>g
 | z::zs,st,g=>qH hh zs _ (hh st z g)
theorem ClosedR.run{xs:List Int}{P:RS→Prop}(c:ClosedR xs P):∀ (d l:Nat) (T:List Stp) (st:RS),P st→P (aB xs d l T st)
 | 0,_,_,_,h=>h
 | d+1,l,T,st,h=>qH (fun st (z:Nat × Stp) k=>c.step (f:=ai d) (c.run d) z.1 z.2 st k) _ _ h
inductive gC:List V→Prop
 | deed (l h:Nat) (w:Str) (n:Int):gC [.int l,.int h,.str w,.int n]
 | tie (l a b:Nat):gC [.int l,.int a,.int b]
def LogOk(st:RS):Prop:=∀ e∈st.log,gC e
theorem LogOk.add{st:RS}(h:LogOk st){e:List V}(he:gC e):LogOk { st with log:=st.log++[e] }:=fun x hx=>by
 rcases List.mem_append.mp hx with z | z
 ·exact h x z
 ·rw[List.mem_singleton.mp z]; exact he
theorem vP(xs:List Int):ClosedR xs LogOk where
 hold:=fun k h st z=>z
 deed:=fun l h w st z=>by
  cases h with
  | none=>exact z
  | some n=>exact LogOk.add z (.deed l n w st.last)
 tie:=fun l a b st z=>by
  unfold cJ; split
  ·split
   ·exact z
   ·exact LogOk.add z (.tie l _ _)
  ·exact z
 opn:=fun l k st z=>LogOk.add (st:={ st with opened:=st.opened+1 }) z (.deed l st.opened "open" st.last)
 take:=fun n st z=>by unfold ao; split <;> exact z
theorem Cs{l:Nat}{st:RS}(h:LogOk st):LogOk (gQ l st):=fun x hx=>by
 rcases List.mem_append.mp hx with z | z
 ·exact h x z
 ·obtain⟨n,_,rfl⟩:=List.mem_map.mp z; exact .deed l n "end" st.last
theorem nc(xs:List Int)(d:Nat)(T:List Stp):LogOk (dE xs d T):=Cs ((vP xs).run d 0 T rs0 (fun x hx=>by cases hx))
def nF(k:Str)(pp lp bp:Addr):List (Str × V):=[("kind", .str k),("parts", .ref pp),("lines", .ref lp),("blocks", .ref bp)]
theorem bE(k:Str)(pp lp bp:Addr):(nF k pp lp bp).lookup ("kind" : Str)=some (.str k):=by unfold nF; walk_at "lk"
theorem cv(k:Str)(pp lp bp:Addr):(nF k pp lp bp).lookup ("parts" : Str)=some (.ref pp):=by unfold nF; walk_at "lk"
theorem cF(k:Str)(pp lp bp:Addr):(nF k pp lp bp).lookup ("lines" : Str)=some (.ref lp):=by unfold nF; walk_at "lk"
theorem dM(k:Str)(pp lp bp:Addr):(nF k pp lp bp).lookup ("blocks" : Str)=some (.ref bp):=by unfold nF; walk_at "lk"
def fj(ns:List Nat):List V:=ns.map fun (n:Nat)=>V.int (n:Int)
def nstpAt(K:PySem.W.Frag)(C:Addr)(f:List Stp→Nat)(S:Addr→Prop)(PA:Addr→Nat→List Stp→Prop)(H:Hp)(a:Addr)(l:Nat)(s:Stp):Prop:=
 ∃ (dx pp lp bp:Addr) (bs:List Addr),H a=some (.ins C dx (nF (kindOf s) pp lp bp))∧SqT K H pp (dZ s)∧S lp∧H lp=some (.lst (fj (cX f l s)))∧S bp∧H bp=some (.lst (bs.map V.ref))∧Paired (fun q (z:Nat × List Stp)=>PA q z.1 z.2) bs (cU f l s)
def NumAt(K:PySem.W.Frag)(C:Addr)(S:Addr→Prop):Nat→Hp→Addr→Nat→List Stp→Prop
 | 0=>fun _ _ _ _=>False
 | d+1=>fun H p l T=>S p∧∃ as:List Addr,H p=some (.lst (as.map V.ref))∧Paired (fun a (z:Nat × Stp)=>nstpAt K C (ai d) S (NumAt K C S d H) H a z.1 z.2) as (cZ (aR (ai d)) l T)
structure Stays (S:Addr→Prop) (H H':Hp):Prop where
 t:∀ b xs,H b=some (.tup xs)→H' b=some (.tup xs)
 z:∀ b o u,H b=some (.frz o u)→H' b=some (.frz o u)
 i:∀ b C dx fs,H b=some (.ins C dx fs)→H' b=some (.ins C dx fs)
 l:∀ b xs,S b→H b=some (.lst xs)→H' b=some (.lst xs)
theorem Stays.of{S:Addr→Prop}{H H':Hp}(sm:Same H H'):Stays S H H':=⟨fun b xs h=>sm _ _ h,fun b o u h=>sm _ _ h,fun b C dx fs h=>sm _ _ h,fun b xs _ h=>sm _ _ h⟩
theorem Stays.upd{S:Addr→Prop}{H:Hp}{p:Addr}{xs:List V}{o:HO}(h:H p=some (.lst xs))(hS:¬ S p):Stays S H (upd H p o):=
  ⟨fun b xs e=>by rw[aj (b8 e h (fun z=>nomatch z))]; exact e,fun b o u e=>by rw[aj (b8 e h (fun z=>nomatch z))]; exact e,fun b C dx fs e=>by rw[aj (b8 e h (fun z=>nomatch z))]; exact e,
   fun b xs hb e=>by rw[aj (show b≠p from fun z=>hS (z ▸ hb))]; exact e⟩
theorem SqT.stays{K:PySem.W.Frag}{S:Addr→Prop}{H H':Hp}{a:Addr}{xs:List V}(h:SqT K H a xs)(st:Stays S H H'):SqT K H' a xs:=by
 rcases h with (h | ⟨o,h⟩) | h
 ·exact .inl (.inl (st.t _ _ h))
 ·exact .inl (.inr ⟨o,st.z _ _ _ h⟩)
 ·exact .inr h
theorem SqT.updI{K:PySem.W.Frag}{H:Hp}{a x C dx:Addr}{xs:List V}{fs:List (Str × V)}{o:HO}(h:SqT K H a xs)(hx:H x=some (.ins C dx fs)):SqT K (upd H x o) a xs:=by
 rcases h with (h | ⟨o',h⟩) | h
 ·exact .inl (.inl (by rw[aj (b8 h hx (fun z=>nomatch z))]; exact h))
 ·exact .inl (.inr ⟨o',by rw[aj (b8 h hx (fun z=>nomatch z))]; exact h⟩)
 ·exact .inr h
theorem nstpAt.imp{K:PySem.W.Frag}{C:Addr}{f:List Stp→Nat}{S S':Addr→Prop}{PA PA':Addr→Nat→List Stp→Prop}{H H':Hp}{a:Addr}{l:Nat}{s:Stp}(h:nstpAt K C f S PA H a l s)(st:Stays S H H')(hS:∀ b,S b→S' b)(hp:∀ q l b,PA q l b→PA' q l b):nstpAt K C f S' PA' H' a l s:=by
 obtain⟨dx,pp,lp,bp,bs,h1,h2,h3,h4,h5,h6,h7⟩:=h
 exact⟨dx,pp,lp,bp,bs,st.i _ _ _ _ h1,SqT.stays h2 st,hS _ h3,st.l _ _ h3 h4,hS _ h5,st.l _ _ h5 h6,Paired.imp' (fun q z y=>hp _ _ _ y) h7⟩
theorem NumAt.imp{K:PySem.W.Frag}{C:Addr}{S S':Addr→Prop}{H H':Hp}(st:Stays S H H')(hS:∀ b,S b→S' b):∀ (d:Nat) {p:Addr} {l:Nat} {T:List Stp},NumAt K C S d H p l T→NumAt K C S' d H' p l T
 | 0,_,_,_,h=>h.elim
 | d+1,p,l,T,⟨h0,as,h1,h2⟩=>⟨hS _ h0,as,st.l _ _ h0 h1,Paired.imp' (fun a z y=>y.imp st hS fun q l b y'=>NumAt.imp st hS d y') h2⟩
theorem NumAt.mono{K:PySem.W.Frag}{C:Addr}{S:Addr→Prop}{H H':Hp}{d:Nat}{p:Addr}{l:Nat}{T:List Stp}(h:NumAt K C S d H p l T)(sm:Same H H'):NumAt K C S d H' p l T:=h.imp (Stays.of sm) (fun _ z=>z) d
theorem nstpAt.mono{K:PySem.W.Frag}{C:Addr}{S:Addr→Prop}{H H':Hp}{d:Nat}{a:Addr}{l:Nat}{s:Stp}(h:nstpAt K C (ai d) S (NumAt K C S d H) H a l s)(sm:Same H H'):nstpAt K C (ai d) S (NumAt K C S d H') H' a l s:=
 h.imp (Stays.of sm) (fun _ z=>z) fun q l b y=>y.mono sm
theorem tM{α : Type}{xs:List α}{x:α}(h:xs.getLast? = some x):eP xs (-1)=some x:=by
 rcases List.eq_nil_or_concat xs with rfl | ⟨ys,y,rfl⟩
 ·simp at h
 ·have e:y=x:=by simpa using h
  subst e
  have e:kW (ys++[y]).length (-1)=some ys.length:=by
   unfold kW;simp only[List.length_append,List.length_cons,List.length_nil]
   split <;> simp_all <;> omega
  unfold eP;rw[List.concat_eq_append,e];simp
theorem jw{ns:List Nat}{n:Nat}(h:ns.getLast? = some n):eP (fj ns) (-1)=some (.int n):=tM (by unfold fj; rw[List.getLast?_map,h]; rfl)
theorem fz{ns:List Nat}{i n:Nat}(h:ns[i]? = some n):eP (fj ns) i=some (.int n):=aT (by unfold fj; rw[List.getElem?_map,h]; rfl)
theorem uO(d:Nat):∀ T:List Stp,T.length≤ai (d+1) T
 | []=>Nat.zero_le _
 | s::T=>by
  have:=uO d T
  have h1:=(ji (f:=ai d) (l:=0) (s:=s)).2;show T.length+1≤aR (ai d) s+ai (d+1) T
  omega
theorem mZ{d:Nat}:∀ {T:List Stp} {s:Stp},s∈T→aR (ai d) s≤ai (d+1) T
 | [],_,h=>by cases h
 | t::T,s,h=>by
  show aR (ai d) s≤aR (ai d) t+ai (d+1) T
  rcases List.mem_cons.mp h with rfl | h
  ·omega
  ·have:=mZ (d:=d) h; omega
theorem qE{d i:Nat}{T:List Stp}:ai (d+1) (T.take i)≤ai (d+1) T:=by
 have e:ai (d+1) T=ai (d+1) (T.take i)+ai (d+1) (T.drop i):=by
  show (T.map _).sum=((T.take i).map _).sum+((T.drop i).map _).sum
  rw[← List.sum_append,← List.map_append,List.take_append_drop]
 omega
theorem B2{f:List Stp→Nat}{l:Nat}:∀ {s:Stp} {z:Nat × List Stp},z∈cU f l s→f z.2≤aR f s
 | .plain _,z,h=>by cases h
 | .lend _ _ b,z,h=>by simp[cU]at h; subst h; simp[aR]
 | .ite _ b c,z,h=>by
  simp[cU]at h
  rcases h with rfl | rfl <;> simp[aR] <;> omega
 | .whl _ b,z,h=>by simp[cU]at h; subst h; simp[aR]
theorem zx(f:List Stp→Nat)(l:Nat)(s:Stp):(cU f l s).length≤2:=by cases s <;> simp[cU]
theorem Ci{PA:Addr→List Stp→Prop}{H:Hp}{a:Addr}{f:List Stp→Nat}{g:List Stp→Prop}{l:Nat}:∀ {s:Stp},stpAt PA H a s→qg g s→∃ bs:List Addr,H a=some (.tup (.str (kindOf s)::(dZ s++bs.map V.ref)))∧bs.length=(bj (kindOf s)).length∧Paired (fun q (z:Nat × List Stp)=>PA q z.2∧g z.2) bs (cU f l s)
 | .plain ws,h,ok=>by
  have hw:ws≠[]:=fun e=>by have:=ok.two; rw[e]at this; simp at this
  obtain⟨k,r,rfl⟩:=List.exists_cons_of_ne_nil hw
  have hk:k∈dm:=ok.kind
  refine⟨[],?_,?_,.nil⟩
  ·show H a=some (.tup (.str k::(r.map V.str++[])))
   rw[List.append_nil]; exact h
  ·show 0=(bj k).length
   revert hk; unfold dm
   intro hk
   simp only[List.mem_cons,List.not_mem_nil,or_false]at hk
   rcases hk with rfl | rfl | rfl | rfl | rfl <;> decide
 | .lend x y b,⟨q,h,z⟩,⟨_,_,o⟩=>⟨[q],h,by show 1=(bj "lend").length; decide,.cons ⟨z,o⟩ .nil⟩
 | .ite n b c,⟨q,r,h,z,y⟩,⟨_,o,o'⟩=>⟨[q,r],h,by show 2=(bj "if").length; decide,.cons ⟨z,o⟩ (.cons ⟨y,o'⟩ .nil)⟩
 | .whl n b,⟨q,h,z⟩,⟨_,o⟩=>⟨[q],h,by show 1=(bj "while").length; decide,.cons ⟨z,o⟩ .nil⟩
def nC(K:PySem.W.Frag)(C:Addr):Sp:=fun vs H Q _=>∃ (x dx hp:Addr) (k:Str) (ps:List V) (lp bp:Addr),vs=[.ref x,.ref hp,.ref lp,.ref bp]∧H x=some (.ins C dx [])∧SqT K H hp (.str k::ps)∧
 ∀ (pp:Addr) (H':Hp),(∀ b o,H b=some o→b≠x→H' b=some o)→H' x=some (.ins C dx (nF k pp lp bp))→SqT K H' pp ps→Q .non H'
def iq(K:PySem.W.Frag)(C:Addr):Sp:=fun vs H Q _=>∃ (p:Addr) (l d:Nat) (T:List Stp) (S:Addr→Prop),vs=[.ref p,.int (l:Int)]∧NumAt K C S (d+1) H p l T∧ai (d+1) T≤10000∧Q (.int ((l+ai (d+1) T:Nat):Int)) H
def FR(K:PySem.W.Frag)(C:Addr)(d:Nat):Sp:=fun vs H Q _=>∃ (a:Addr) (l:Nat) (s:Stp) (S:Addr→Prop),vs=[.ref a,.int (l:Int)]∧stpAt (ProgAt S d H) H a s∧qg (dJ d) s∧aR (ai d) s≤10000∧
 ∀ (q:Addr) (H':Hp),Same H H'→nstpAt K C (ai d) (fun b=>H b=none) (NumAt K C (fun b=>H b=none) d H') H' q l s→Q (.ref q) H'
def lT(K:PySem.W.Frag)(C:Addr)(d:Nat):Sp:=fun vs H Q _=>∃ (p:Addr) (l:Nat) (T:List Stp) (S:Addr→Prop),vs=[.ref p,.int (l:Int)]∧ProgAt S d H p T∧dJ d T∧ai d T≤10000∧
 ∀ (q:Addr) (H':Hp),Same H H'→NumAt K C (fun b=>H b=none) d H' q l T→Q (.ref q) H'
section
variable{P:Program}{w:World}{K:PySem.W.Frag}{mg:Str→Option Value}{base:Heap}{CN:Addr}
theorem AH(D:MakeAt K mg "NumberedStep" CN "NumberedStep.__init__" aX) (a_kind:Fl K CN "kind") (a_parts:Fl K CN "parts") (a_lines:Fl K CN "lines") (a_blocks:Fl K CN "blocks") :
  j_ P w K mg base 1 "NumberedStep" CN ["self", "head", "lines", "blocks"] (nC K CN):=by
 refine D.mkal (k:=0) iz (fun _ _ _ _ _ _ us hl=>match us,hl with | [_,_,_,_],_=>rfl) (fun vs H Q E h=>by obtain⟨x,dx,hp,k,ps,lp,bp,rfl,_⟩:=h; rfl) (fun f cdv A outer s H vs Q E hr h=>?_)
 obtain⟨x,dx,hp,k,ps,lp,bp,rfl,hx,hh,q⟩:=h
 refine⟨_,(af (cW a_kind (pv 0) (av (aI K) (pv 1) ae (fun _ _=>rfl)))
   (af (cW a_parts (pv 0) (bS (iR K) (pv 1) (b4 ae) cB))
   (af (cW a_lines (pv 0) (pv 2))
   (ak (cW a_blocks (pv 0) (pv 3)))))),?_⟩
 walk_at "rd1";refine⟨_,_,.inr hh,cw,dx,_,hx,by decide,?_⟩
 generalize hH1:upd H x _=H1
 have e1:H1 x=some (.ins CN dx [("kind", .str k)]):=by rw[← hH1,ah]; walk_at "pf"
 have k1:∀ b o,H b=some o→b≠x→H1 b=some o:=fun b o e n=>by rw[← hH1,aj n]; exact e
 have hh1:SqT K H1 hp (.str k::ps):=by rw[← hH1]; exact SqT.updI hh hx
 walk_at "nx";refine hJ hh1 fun pp H2 sm2 hpp=>?_
 have ec:dY (V.str k::ps) (some 1) none=ps:=gJ _ 1
 rw[ec]at hpp
 refine⟨dx,_,sm2 _ _ e1,by simp,?_⟩
 generalize hH3:upd H2 x _=H3
 have e3:H3 x=some (.ins CN dx [("kind", .str k),("parts", .ref pp)]):=by rw[← hH3,ah]; walk_at "pf"
 have k3:∀ b o,H2 b=some o→b≠x→H3 b=some o:=fun b o e n=>by rw[← hH3,aj n]; exact e
 have hp3:SqT K H3 pp ps:=by rw[← hH3]; exact SqT.updI hpp (sm2 _ _ e1)
 walk_at "nx";refine⟨dx,_,e3,by simp,?_⟩
 generalize hH4:upd H3 x _=H4
 have e4:H4 x=some (.ins CN dx [("kind", .str k),("parts", .ref pp),("lines", .ref lp)]):=by rw[← hH4,ah]; walk_at "pf"
 have k4:∀ b o,H3 b=some o→b≠x→H4 b=some o:=fun b o e n=>by rw[← hH4,aj n]; exact e
 have hp4:SqT K H4 pp ps:=by rw[← hH4]; exact SqT.updI hp3 e3
 walk_at "nx";refine⟨dx,_,e4,by simp,?_⟩
 refine q pp _ (fun b o e n=>?_) ?_ (SqT.updI hp4 e4)
 ·rw[aj n]; exact k4 _ _ (k3 _ _ (sm2 _ _ (k1 _ _ e n)) n) n
 ·rw[ah]; unfold nF; walk_at "pf"
theorem yd(D:DefAt K mg "line_behind" dH) (z_len:mg "len" = none) (a_lines:Fl K CN "lines"):aM P w K mg base 1 "line_behind" ["steps", "line"] (iq K CN):=by
 refine D.cal (k:=0) mP (fun _ _ _ _ _ _ us hl=>match us,hl with | [_,_],_=>rfl) (fun vs H Q E h=>by obtain⟨p,l,d,T,S,rfl,_⟩:=h; rfl) (fun f cdv A outer s H vs Q E hr h=>?_)
 obtain⟨p,l,d,T,S,rfl,⟨h0,as,h1,h2⟩,hz,q⟩:=h
 have hlen:=ay h2;rw[fO]at hlen
 refine⟨_,(ak (aG (qB (aF bz (bm (aV K) z_len bL (aa (pv 0) ac)) ae (aL _)) (pv 1) (ap aC (av (aI K) (au a_lines (av (aI K) (pv 0) (ku i8 ae) (fun _ _=>rfl))) (ku i8 ae) (fun _ _=>rfl)) ae)))),?_⟩
 walk_at "rd1";refine⟨_,.inl (SqL.of h1),?_⟩
 rw[List.length_map,hlen];rcases List.eq_nil_or_concat T with rfl | ⟨T',t,rfl⟩
 ·refine aJ (fun c=>?_) (fun c=>absurd rfl c)
  exact q
 ·rw[List.concat_eq_append]at *
  refine aJ (fun c=>absurd c (by rw[List.length_append]; simp; omega)) (fun c=>?_)
  rw[iI]at h2
  rcases List.eq_nil_or_concat as with rfl | ⟨as',a,rfl⟩
  ·have:=ay h2; simp at this
  rw[List.concat_eq_append]at *
  have hl':as'.length=T'.length:=by simpa using hlen
  have h3:nstpAt K CN (ai d) S (NumAt K CN S d H) H a (l+(T'.map (aR (ai d))).sum) t:=by
   obtain⟨z,hz1,hz2⟩:=bw h2 (i:=as'.length) (x:=a) (by simp)
   rw[List.getElem?_append_right (by rw[fO]; omega),fO,hl']at hz1
   simp at hz1
   subst hz1; exact hz2
  obtain⟨dx,pp,lp,bp,bs,g1,g2,g3,g4,g5,g6,g7⟩:=h3
  obtain⟨g8,g9⟩:=ji (f:=ai d) (l:=l+(T'.map (aR (ai d))).sum) (s:=t)
  walk_at "rd1";refine⟨_,_,.inl (SqL.of h1),tM (x:=V.ref a) (by simp),?_⟩
  refine⟨a,rfl,dx,_,_,g1,cF _ _ _ _,?_⟩
  walk_at "rd1";refine⟨_,_,.inl (SqL.of g4),jw g8,?_⟩
  walk_at "rd1"
  have e:((l+(T'.map (aR (ai d))).sum+aR (ai d) t - 1:Nat):Int)+1=((l+ai (d+1) (T'++[t]):Nat):Int):=by
   have:ai (d+1) (T'++[t])=(T'.map (aR (ai d))).sum+aR (ai d) t:=by show ((T'++[t]).map _).sum=_; simp
   omega
  rw[e]; exact q
theorem D4(D:DefAt K mg "numbered_step" aU) (c_head_of:aM P w K mg base 2 "head_of" ["step"] (kf K)) (c_blocks_of:aM P w K mg base 3 "blocks_of" ["step"] (ii K)) (c_line_behind:aM P w K mg base 1 "line_behind" ["steps", "line"] (iq K CN))
  (k_NumberedStep:j_ P w K mg base 1 "NumberedStep" CN ["self", "head", "lines", "blocks"] (nC K CN)) {d:Nat} (c_numbered_steps:aM P w K mg base (2 * d+4) "numbered_steps" ["steps", "line"] (lT K CN d)) :
  aM P w K mg base (2 * d+5) "numbered_step" ["step", "line"] (FR K CN d):=by
 refine D.cal (k:=2 * d+4) sc_numbered_step (fun _ _ _ _ _ _ us hl=>match us,hl with | [_,_],_=>rfl) (fun vs H Q E h=>by obtain⟨a,l,s,S,rfl,_⟩:=h; rfl) (fun f cdv A outer sh H vs Q E hr h=>?_)
 obtain⟨a,l,s,S,rfl,h1,ok,hz,q⟩:=h
 obtain⟨bs,b1,b2,b3⟩:=Ci (f:=ai d) (l:=l) h1 ok
 refine⟨_,(af (ax 2 sc_numbered_step.nd (bA (aa (pv 1) ac)))
   (af (ax 3 sc_numbered_step.nd (bA ac))
   (af (cE PassesOwn.never rfl (kJ K (aA c_blocks_of hr (aa (pv 0) ac) (hle:=by omega))) (ba 4 sc_numbered_step.nd) (af (ax 5 sc_numbered_step.nd (aA c_numbered_steps hr (aa (pv 4) (aa (ap aC (av (aI K) (pv 2) (ku i8 ae) (fun _ _=>rfl)) ae) ac)) (hle:=by omega)))
   (af (aD (bh K PySem.F.plainAttrs_list PySem.F.slot_list_append PySem.F.type_list_append aW (pv 3) (aa (pv 5) ac)))
   (ak (aD (bh K PySem.F.plainAttrs_list PySem.F.slot_list_append PySem.F.type_list_append aW (pv 2) (aa (aA c_line_behind hr (aa (pv 5) (aa (ap aC (av (aI K) (pv 2) (ku i8 ae) (fun _ _=>rfl)) ae) ac)) (hle:=by omega)) ac)))))))
   (ak (aG (u6 k_NumberedStep hr (aa (aA c_head_of hr (aa (pv 0) ac) (hle:=by omega)) (aa (pv 2) (aa (pv 3) ac))) (hle:=by omega))))))),?_⟩
 walk_at "rd1";refine⟨by decide,fun lp hlp=>?_⟩
 generalize hA:upd H lp _=HA
 have sA:=cV hA hlp;have eA:=dU hA;walk_at "nx";refine⟨by decide,fun bp hbp=>?_⟩
 generalize hB:upd HA bp _=HB
 have sB:=cV hB hbp;have eB:=dU hB;have sAB:=sA.trans sB;have hcl:(bj (kindOf s)).length≤(dZ s++bs.map V.ref).length+1:=by rw[List.length_append,List.length_map,b2]; omega
 have hcut:(dZ s++bs.map V.ref).length+1 - (bj (kindOf s)).length=(dZ s).length+1:=by rw[List.length_append,List.length_map,b2]; omega
 walk_at "nx";refine⟨a,kindOf s,_,rfl,SqT.of (sAB _ _ b1),hcl,fun tp HC sC htp=>?_⟩
 rw[hcut]at htp
 have etk:(V.str (kindOf s)::(dZ s++bs.map V.ref)).drop ((dZ s).length+1)=bs.map V.ref:=by rw[List.drop_succ_cons,List.drop_left']; rfl
 rw[etk]at htp
 walk_at "rd1";refine⟨⟨_,htp⟩,?_⟩
 have hbl:=ay b3;have hb2:=zx (ai d) l s;have nlb:lp≠bp:=fun z=>by rw[← z]at hbp; rw[hbp]at eA; cases eA
 refine qw (xs:=bs.map V.ref) (fun j σ H'=>∃ (o4 o5:Option V) (qs:List Addr),σ=[some (.ref a),some (.int (l:Int)),some (.ref lp),some (.ref bp),o4,o5]∧Same H H'∧SqT K H' tp (bs.map V.ref)∧H' lp=some (.lst (fj ((cX (ai d) l s).take (j+1))))∧H' bp=some (.lst (qs.map V.ref))∧
   (∀ b,H' b=none→HC b=none)∧Paired (fun q (z:Nat × List Stp)=>NumAt K CN (fun b=>HC b=none) d H' q z.1 z.2) qs ((cU (ai d) l s).take j))
  ⟨none,none,[],rfl,sAB.trans sC,htp,by rw[sC _ _ (sB _ _ eA)]; simp[fj,cX],by rw[sC _ _ eB]; rfl,fun b h=>h,.nil⟩ (fun j σ H' _ h=>by obtain⟨_,_,_,_,_,z,_⟩:=h; exact z) ?_ ?_
 ·rintro j v σ H' hv ⟨o4,o5,qs,rfl,sm,ht',hl',hb',hfr,hp'⟩
  have hj:j<bs.length:=by have:=(List.getElem?_eq_some_iff.mp hv).1; simpa using this
  rw[List.getElem?_map,List.getElem?_eq_getElem hj]at hv
  cases hv;obtain⟨z,hz1,hz2,hz3⟩:=bw b3 (List.getElem?_eq_getElem hj)
  obtain⟨y,hy1,hy2⟩:=zr hz1
  have hylast:((cX (ai d) l s).take (j+1)).getLast? = some y:=by
   rw[List.take_add_one,hy1]; simp
  have hcnt:=B2 (List.mem_of_getElem? hz1);walk_at "rd1";refine⟨_,_,.inl (SqL.of hl'),jw hylast,?_⟩
  walk_at "rd1";have ey:(y:Int)+1=((z.1:Nat):Int):=by omega
  rw[ey];refine⟨bs[j],z.1,z.2,S,rfl,hz2.mono sm,hz3,by omega,fun q' HD sD hq'=>?_⟩
  have qlen:=ay hp';rw[List.length_take]at qlen
  walk_at "nx";refine⟨⟨_,SqL.of (sD _ _ hb')⟩,_,sD _ _ hb',bN (by rw[List.length_map]; omega),?_⟩
  generalize hE:upd HD bp _=HE
  have stE:Stays (fun b=>H' b=none) HD HE:=by rw[← hE]; exact Stays.upd (sD _ _ hb') (fun z=>by rw[hb']at z; cases z)
  have hqE:=NumAt.imp (S':=fun b=>H' b=none) stE (fun _ z=>z) d hq'
  have eE:HE bp=some (.lst (qs.map V.ref++[V.ref q'])):=by rw[← hE,ah]
  have lE:HE lp=some (.lst (fj ((cX (ai d) l s).take (j+1)))):=by rw[← hE,aj nlb]; exact sD _ _ hl'
  walk_at "nx";refine⟨⟨_,SqL.of lE⟩,_,_,.inl (SqL.of lE),jw hylast,?_⟩
  walk_at "rd1";rw[ey];have hC1:∀ b,H' b=none→HC b=none:=hfr
  have hqC:=NumAt.imp (S':=fun b=>HC b=none) (Stays.of (Same.refl HE)) hC1 d hqE
  cases d with
  | zero=>exact hqE.elim
  | succ d=>
  refine⟨q',z.1,d,z.2,_,rfl,hqE,by omega,?_⟩
  refine⟨_,lE,bN (by unfold fj; rw[List.length_map,List.length_take]; omega),?_⟩
  generalize hF:upd HE lp _=HF
  have lpC:HC lp=some (.lst (fj [l])):=by rw[sC _ _ (sB _ _ eA)]; simp[fj]
  have bpC:HC bp=some (.lst []):=sC _ _ eB
  have stF:Stays (fun b=>HC b=none) HE HF:=by rw[← hF]; exact Stays.upd lE (fun z=>by rw[lpC]at z; cases z)
  have stE':Stays (fun b=>HC b=none) HD HE:=by rw[← hE]; exact Stays.upd (sD _ _ hb') (fun z=>by rw[bpC]at z; cases z)
  have up:∀ {p:Addr} {l:Nat} {T:List Stp},NumAt K CN (fun b=>HC b=none) (d+1) H' p l T→NumAt K CN (fun b=>HC b=none) (d+1) HF p l T:=fun z=>NumAt.imp stF (fun _ y=>y) _ (NumAt.imp stE' (fun _ y=>y) _ (z.mono sD))
  refine⟨_,_,qs++[q'],rfl,?_,?_,?_,?_,?_,?_⟩
  ·rw[← hF,← hE]; exact((sm.trans sD).upd (sA.free hbp) _).upd hlp _
  ·exact SqT.stays (SqT.stays (ht'.same sD) stE') stF
  ·rw[← hF,ah]
   have:(cX (ai (d+1)) l s)[j+1]? = some (z.1+ai (d+1) z.2):=by
    unfold cX;rw[List.getElem?_cons_succ,List.getElem?_map,hz1]; rfl
   unfold fj;rw[List.take_add_one (i:=j+1),this,List.map_append]; rfl
  ·rw[← hF,aj nlb.symm,eE,List.map_append]; rfl
  ·intro b hb
   refine hfr b (sD.free ?_)
   rw[← hF,← hE]at hb
   by_cases e1:b=lp
   ·rw[e1,ah]at hb; cases hb
   ·rw[aj e1]at hb
    by_cases e2:b=bp
    ·rw[e2,ah]at hb; cases hb
    ·rw[aj e2]at hb; exact hb
  ·rw[List.take_add_one,hz1]
   exact cA (R:=fun q (z:Nat × List Stp)=>NumAt K CN (fun b=>HC b=none) (d+1) HF q z.1 z.2) (NumAt.imp stF (fun _ y=>y) _ hqC) (Paired.imp' (fun q z y=>up y) hp')
 ·rintro σ H' ⟨o4,o5,qs,rfl,sm,ht',hl',hb',hfr,hp'⟩
  rw[List.length_map,hbl,List.take_length]at hp'
  have hll:(cX (ai d) l s).take ((bs.map V.ref).length+1)=cX (ai d) l s:=by
   rw[List.take_of_length_le]; unfold cX; rw[List.length_cons,List.length_map,List.length_map,hbl]; exact Nat.le_refl _
  rw[hll]at hl'
  walk_at "nx";refine⟨a,kindOf s,_,rfl,SqT.of (sm _ _ b1),hcl,fun hp HD sD hhp=>?_⟩
  rw[hcut]at hhp
  have etk2:(V.str (kindOf s)::(dZ s++bs.map V.ref)).take ((dZ s).length+1)=V.str (kindOf s)::dZ s:=by rw[List.take_succ_cons,List.take_left']; rfl
  rw[etk2]at hhp
  walk_at "rd1";intro x dx hx hdx ndx
  generalize hM:upd (upd HD dx (.own x)) x (.ins CN dx [])=HM
  have sM:Same HD HM:=by rw[← hM]; exact(al hdx (.own x)).upd hx _
  have eM:HM x=some (.ins CN dx []):=by rw[← hM,ah]
  refine⟨x,dx,hp,kindOf s,dZ s,lp,bp,rfl,eM,hhp.same sM,fun pp HN kN eN hpp=>⟨rfl,?_⟩⟩
  have sN:Same HD HN:=fun b o e=>kN b o (sM _ _ e) (az e hx)
  have sHN:Same H HN:=(sm.trans sD).trans sN
  have hCH:∀ b,HC b=none→H b=none:=fun b z=>(sAB.trans sC).free z
  refine q x HN sHN ⟨dx,pp,lp,bp,qs,eN,hpp,hlp,sN _ _ (sD _ _ hl'),sA.free hbp,sN _ _ (sD _ _ hb'),?_⟩
  exact Paired.imp' (fun q z y=>NumAt.imp (Stays.of (sD.trans sN)) hCH d y) hp'
theorem uJ(D0:DefAt K mg "numbered_step" aU) (D:DefAt K mg "numbered_steps" bK) (c_head_of:aM P w K mg base 2 "head_of" ["step"] (kf K)) (c_blocks_of:aM P w K mg base 3 "blocks_of" ["step"] (ii K)) (c_line_behind:aM P w K mg base 1 "line_behind" ["steps", "line"] (iq K CN))
  (k_NumberedStep:j_ P w K mg base 1 "NumberedStep" CN ["self", "head", "lines", "blocks"] (nC K CN)):∀ d:Nat,aM P w K mg base (2 * d+4) "numbered_steps" ["steps", "line"] (lT K CN d)
 | 0=>D.cal (k:=3) sc_numbered_steps (fun _ _ _ _ _ _ us hl=>match us,hl with | [_,_],_=>rfl) (fun vs H Q E h=>by obtain⟨p,l,T,S,rfl,_⟩:=h; rfl) (fun f cdv A outer s H vs Q E hr h=>by obtain⟨p,l,T,S,rfl,z,_⟩:=h; exact z.elim)
 | d+1=>by
  have c_numbered_step:=D4 D0 c_head_of c_blocks_of c_line_behind k_NumberedStep (uJ D0 D c_head_of c_blocks_of c_line_behind k_NumberedStep d);refine D.cal (k:=2 * d+5) sc_numbered_steps (fun _ _ _ _ _ _ us hl=>match us,hl with | [_,_],_=>rfl) (fun vs H Q E h=>by obtain⟨p,l,T,S,rfl,_⟩:=h; rfl) (fun f cdv A outer s H vs Q E hr h=>?_)
  obtain⟨p,l,T,S,rfl,⟨h0,as,h1,h2⟩,ok,hz,q⟩:=h
  have hlen:=ay h2;have hTl:=uO d T
  refine⟨_,(af (ax 2 sc_numbered_steps.nd (bA ac))
   (af (cE PassesOwn.never rfl (cr K (pv 0)) (ba 3 sc_numbered_steps.nd) (ak (aD (bh K PySem.F.plainAttrs_list PySem.F.slot_list_append PySem.F.type_list_append aW (pv 2) (aa (aA c_numbered_step hr (aa (pv 3) (aa (aA c_line_behind hr (aa (pv 2) (aa (pv 1) ac)) (hle:=by omega)) ac)) (hle:=by omega)) ac)))))
   (ak (aG (pv 2))))),?_⟩
  walk_at "rd1";refine⟨by decide,fun lp hlp=>?_⟩
  generalize hA:upd H lp _=HA
  have sA:=cV hA hlp;have eA:=dU hA;walk_at "nx";refine⟨⟨_,SqL.of (sA _ _ h1)⟩,?_⟩
  have lpA:¬ HA lp=none:=fun z=>by rw[eA]at z; cases z
  refine dh (xs:=as.map V.ref) (fun i σ H'=>∃ (o3:Option V) (ns:List Addr),σ=[some (.ref p),some (.int (l:Int)),some (.ref lp),o3]∧Same H H'∧H' lp=some (.lst (ns.map V.ref))∧(∀ b,H' b=none→HA b=none)∧
    Paired (fun a (z:Nat × Stp)=>nstpAt K CN (ai d) (fun b=>HA b=none) (NumAt K CN (fun b=>HA b=none) d H') H' a z.1 z.2) ns (cZ (aR (ai d)) l (T.take i)))
   ⟨none,[],rfl,sA,eA,fun _ z=>z,.nil⟩ (fun i σ H' _ h=>by obtain⟨_,_,_,sm,_⟩:=h; exact SqL.of (sm _ _ h1)) ?_ ?_
  ·rintro i v σ H' hv ⟨o3,ns,rfl,sm,n1,nf,n2⟩
   have hi:i<as.length:=by have:=(List.getElem?_eq_some_iff.mp hv).1; simpa using this
   rw[List.getElem?_map,List.getElem?_eq_getElem hi]at hv
   cases hv;obtain⟨s,hs,hsa⟩:=bw h2 (List.getElem?_eq_getElem hi)
   have hmem:=List.mem_of_getElem? hs;have hct:=mZ (d:=d) hmem;have hctk:=qE (d:=d) (i:=i) (T:=T);have nlen:=ay n2;rw[fO,List.length_take]at nlen
   walk_at "rd1";refine⟨⟨_,SqL.of n1⟩,?_⟩
   refine⟨lp,l,d,T.take i,fun _=>True,rfl,⟨trivial,ns,n1,Paired.imp' (fun a z y=>y.imp (Stays.of (Same.refl H')) (fun _ _=>trivial) fun q l b y'=>NumAt.imp (Stays.of (Same.refl H')) (fun _ _=>trivial) d y') n2⟩,by omega,?_⟩
   refine⟨as[i],l+ai (d+1) (T.take i),s,S,rfl,?_,ok s hmem,by omega,fun q' HD sD hq'=>?_⟩
   ·exact stpAt.imp (fun b xs e=>sm _ _ e) (fun q b y=>y.mono sm) hsa
   refine⟨_,sD _ _ n1,bN (by rw[List.length_map]; omega),?_⟩
   generalize hE:upd HD lp _=HE
   have eE:HE lp=some (.lst ((ns++[q']).map V.ref)):=by rw[← hE,ah,List.map_append]; rfl
   have stE:Stays (fun b=>HA b=none) HD HE:=by rw[← hE]; exact Stays.upd (sD _ _ n1) lpA
   have hq2:nstpAt K CN (ai d) (fun b=>HA b=none) (NumAt K CN (fun b=>HA b=none) d HD) HD q' (l+ai (d+1) (T.take i)) s:=hq'.imp (Stays.of (Same.refl HD)) nf fun q l b y'=>NumAt.imp (Stays.of (Same.refl HD)) nf d y'
   have up:∀ {a:Addr} {l:Nat} {s:Stp},nstpAt K CN (ai d) (fun b=>HA b=none) (NumAt K CN (fun b=>HA b=none) d HD) HD a l s→nstpAt K CN (ai d) (fun b=>HA b=none) (NumAt K CN (fun b=>HA b=none) d HE) HE a l s:=fun z=>z.imp stE (fun _ y=>y) fun q l b y'=>NumAt.imp stE (fun _ y=>y) d y'
   refine⟨_,ns++[q'],rfl,?_,eE,?_,?_⟩
   ·rw[← hE]; exact(sm.trans sD).upd hlp _
   ·intro b hb
    refine nf b (sD.free ?_)
    rw[← hE]at hb
    by_cases e1:b=lp
    ·rw[e1,ah]at hb; cases hb
    ·rw[aj e1]at hb; exact hb
   ·have et:T.take (i+1)=T.take i++[s]:=by rw[List.take_add_one,hs]; rfl
    rw[et,iI];exact cA (R:=fun a (z:Nat × Stp)=>nstpAt K CN (ai d) (fun b=>HA b=none) (NumAt K CN (fun b=>HA b=none) d HE) HE a z.1 z.2) (up hq2) (Paired.imp' (fun a z y=>up (nstpAt.mono y sD)) n2)
  ·rintro σ H' ⟨o3,ns,rfl,sm,n1,nf,n2⟩
   rw[List.length_map,hlen,List.take_length]at n2
   walk_at "nx";have hAH:∀ b,HA b=none→H b=none:=fun b z=>sA.free z
   exact q lp H' sm ⟨hlp,ns,n1,Paired.imp' (fun a z y=>y.imp (Stays.of (Same.refl H')) hAH fun q l b y'=>NumAt.imp (Stays.of (Same.refl H')) hAH d y') n2⟩
end
set_option genInjectivity false in
set_option genSizeOf false in
structure RE where
 C:Addr
 r:Addr
 ip:Addr
 hp:Addr
 lp:Addr
 xs:List Int
 wp:Addr
def rF(E:RE)(st:RS):List (Str × V):=[("inputs", .ref E.ip),("watches", .ref E.wp),("at", .int (st.pc:Int)),("taken", .int (st.taken:Int)),("last", .int st.last),("opened", .int (st.opened:Int)),("held", .ref E.hp),("log", .ref E.lp)]
theorem yD(E:RE)(st:RS):(rF E st).lookup ("inputs" : Str)=some (.ref E.ip):=by unfold rF; walk_at "lk"
theorem vM(E:RE)(st:RS):(rF E st).lookup ("watches" : Str)=some (.ref E.wp):=by unfold rF; walk_at "lk"
theorem FJ(E:RE)(st:RS):(rF E st).lookup ("at" : Str)=some (.int (st.pc:Int)):=by unfold rF; walk_at "lk"
theorem zR(E:RE)(st:RS):(rF E st).lookup ("taken" : Str)=some (.int (st.taken:Int)):=by unfold rF; walk_at "lk"
theorem CO(E:RE)(st:RS):(rF E st).lookup ("last" : Str)=some (.int st.last):=by unfold rF; walk_at "lk"
theorem xh(E:RE)(st:RS):(rF E st).lookup ("opened" : Str)=some (.int (st.opened:Int)):=by unfold rF; walk_at "lk"
theorem CH(E:RE)(st:RS):(rF E st).lookup ("held" : Str)=some (.ref E.hp):=by unfold rF; walk_at "lk"
theorem EZ(E:RE)(st:RS):(rF E st).lookup ("log" : Str)=some (.ref E.lp):=by unfold rF; walk_at "lk"
theorem FF(E:RE)(st:RS){m:Str}(h:(m == "inputs" || m == "watches" || m == "at" || m == "taken" || m == "last" || m == "opened" || m == "held" || m == "log")=false):(rF E st).lookup m=none:=by
 simp only[Bool.or_eq_false_iff]at h
 obtain⟨⟨⟨⟨⟨⟨⟨h1,h7⟩,h8⟩,h2⟩,h3⟩,h4⟩,h5⟩,h6⟩:=h
 unfold rF;rw[fE h1,fE h7,fE h8,fE h2,fE h3,fE h4,fE h5,fE h6]; rfl
theorem sH(E:RE)(st:RS)(n:Nat):cQ "taken" (.int (n:Int)) (rF E st)=rF E { st with taken:=n }:=by unfold rF; walk_at "pf"
theorem vJ(E:RE)(st:RS)(n:Int):cQ "last" (.int n) (rF E st)=rF E { st with last:=n }:=by unfold rF; walk_at "pf"
theorem zJ(E:RE)(st:RS)(n:Nat):cQ "at" (.int (n:Int)) (rF E st)=rF E { st with pc:=n }:=by unfold rF; walk_at "pf"
theorem qz(E:RE)(st:RS)(n:Nat):cQ "opened" (.int (n:Int)) (rF E st)=rF E { st with opened:=n }:=by unfold rF; walk_at "pf"
structure RO (K:PySem.W.Frag) (E:RE) (H0 H:Hp) (st:RS):Prop where
 sm:Same H0 H
 fr:H0 E.r=none
 fh:H0 E.hp=none
 fl:H0 E.lp=none
 inp:SqL K H0 E.ip (E.xs.map V.int)
 wt:SqL K H0 E.wp []
 xl:E.xs.length≤10000
 tk:st.taken≤E.xs.length
 ob:∃ dx,H E.r=some (.ins E.C dx (rF E st))
 hd:H E.hp=some (.dK st.held)
 lg:∃ es:List Addr,H E.lp=some (.lst (es.map V.ref))∧Paired (fun a e=>H a=some (.tup e)) es st.log
 good:GoodR st
section
variable{K:PySem.W.Frag}{E:RE}{H0 H H':Hp}{st st':RS}{Q:V→Prop}
theorem RO.mono(h:RO K E H0 H st)(s:Same H H'):RO K E H0 H' st:=by
 obtain⟨dx,ob⟩:=h.ob
 obtain⟨es,l1,l2⟩:=h.lg
 exact⟨h.sm.trans s,h.fr,h.fh,h.fl,h.inp,h.wt,h.xl,h.tk,⟨dx,s _ _ ob⟩,s _ _ h.hd,⟨es,s _ _ l1,Paired.imp' (fun a e y=>s _ _ y) l2⟩,h.good⟩
theorem RO.inputs(h:RO K E H0 H st)(q:Q (.ref E.ip)):∃ dx fs v,H E.r=some (.ins E.C dx fs)∧fs.lookup ("inputs" : Str)=some v∧Q v:=by obtain⟨dx,ob⟩:=h.ob; exact⟨dx,_,_,ob,yD E st,q⟩
theorem RO.watches(h:RO K E H0 H st)(q:Q (.ref E.wp)):∃ dx fs v,H E.r=some (.ins E.C dx fs)∧fs.lookup ("watches" : Str)=some v∧Q v:=by obtain⟨dx,ob⟩:=h.ob; exact⟨dx,_,_,ob,vM E st,q⟩
theorem RO.at(h:RO K E H0 H st)(q:Q (.int (st.pc:Int))):∃ dx fs v,H E.r=some (.ins E.C dx fs)∧fs.lookup ("at" : Str)=some v∧Q v:=by obtain⟨dx,ob⟩:=h.ob; exact⟨dx,_,_,ob,FJ E st,q⟩
theorem RO.taken(h:RO K E H0 H st)(q:Q (.int (st.taken:Int))):∃ dx fs v,H E.r=some (.ins E.C dx fs)∧fs.lookup ("taken" : Str)=some v∧Q v:=by obtain⟨dx,ob⟩:=h.ob; exact⟨dx,_,_,ob,zR E st,q⟩
theorem RO.last(h:RO K E H0 H st)(q:Q (.int st.last)):∃ dx fs v,H E.r=some (.ins E.C dx fs)∧fs.lookup ("last" : Str)=some v∧Q v:=by obtain⟨dx,ob⟩:=h.ob; exact⟨dx,_,_,ob,CO E st,q⟩
theorem RO.opened(h:RO K E H0 H st)(q:Q (.int (st.opened:Int))):∃ dx fs v,H E.r=some (.ins E.C dx fs)∧fs.lookup ("opened" : Str)=some v∧Q v:=by obtain⟨dx,ob⟩:=h.ob; exact⟨dx,_,_,ob,xh E st,q⟩
theorem RO.held(h:RO K E H0 H st)(q:Q (.ref E.hp)):∃ dx fs v,H E.r=some (.ins E.C dx fs)∧fs.lookup ("held" : Str)=some v∧Q v:=by obtain⟨dx,ob⟩:=h.ob; exact⟨dx,_,_,ob,CH E st,q⟩
theorem RO.log(h:RO K E H0 H st)(q:Q (.ref E.lp)):∃ dx fs v,H E.r=some (.ins E.C dx fs)∧fs.lookup ("log" : Str)=some v∧Q v:=by obtain⟨dx,ob⟩:=h.ob; exact⟨dx,_,_,ob,EZ E st,q⟩
theorem RO.isM(h:RO K E H0 H st){m:Str}(hm:(m == "inputs" || m == "watches" || m == "at" || m == "taken" || m == "last" || m == "opened" || m == "held" || m == "log")=false):∃ dx fs,H E.r=some (.ins E.C dx fs)∧fs.lookup m=none:=by obtain⟨dx,ob⟩:=h.ob; exact⟨dx,_,ob,FF E st hm⟩
theorem RO.put(h:RO K E H0 H st)(e1:st'.held=st.held)(e2:st'.log=st.log)(et:st'.taken≤E.xs.length)(f:Str)(v:V)(e:cQ f v (rF E st)=rF E st'){Q':Hp→Prop}(q:∀ H',RO K E H0 H' st'→Q' H'):∃ dx fs,H E.r=some (.ins E.C dx fs)∧fs.length<1000∧Q' (upd H E.r (.ins E.C dx (cQ f v fs))):=by
 obtain⟨dx,ob⟩:=h.ob
 obtain⟨es,l1,l2⟩:=h.lg
 refine⟨dx,_,ob,by show 8<1000; decide,q _ ⟨h.sm.upd h.fr _,h.fr,h.fh,h.fl,h.inp,h.wt,h.xl,et,⟨dx,by rw[ah,e]⟩,?_,⟨es,?_,?_⟩,h.good.of e1⟩⟩
 ·rw[aj (b8 h.hd ob (fun z=>nomatch z)),e1]; exact h.hd
 ·rw[aj (b8 l1 ob (fun z=>nomatch z))]; exact l1
 ·rw[e2]
  exact Paired.imp' (fun a e y=>by rw[aj (b8 y ob (fun z=>nomatch z))]; exact y) l2
theorem RO.hold(h:RO K E H0 H st)(k:aK)(o:Option Nat):RO K E H0 (upd H E.hp (.dK (cS st.held k (hV o)))) (aN k o st):=by
 obtain⟨dx,ob⟩:=h.ob
 obtain⟨es,l1,l2⟩:=h.lg
 refine⟨h.sm.upd h.fh _,h.fr,h.fh,h.fl,h.inp,h.wt,h.xl,h.tk,⟨dx,?_⟩,ah,⟨es,?_,?_⟩,h.good.hold k o⟩
 ·rw[aj (b8 ob h.hd (fun z=>nomatch z))]; exact ob
 ·rw[aj (b8 l1 h.hd (fun z=>nomatch z))]; exact l1
 ·exact Paired.imp' (fun a e y=>by rw[aj (b8 y h.hd (fun z=>nomatch z))]; exact y) l2
theorem RO.add(h:RO K E H0 H st){t:Addr}{e:List V}(et:H t=some (.tup e))(hz:st.log.length<1000000)(Q':Hp→Prop)(q:∀ H',RO K E H0 H' { st with log:=st.log++[e] }→Q' H') :
  ∃ xs,H E.lp=some (.lst xs)∧xs.length<sizeLine∧Q' (upd H E.lp (.lst (xs++[.ref t]))):=by
 obtain⟨dx,ob⟩:=h.ob
 obtain⟨es,l1,l2⟩:=h.lg
 have hlen:es.length=st.log.length:=ay l2
 refine⟨_,l1,by rw[List.length_map,hlen]; exact bN (by omega),q _ ⟨h.sm.upd h.fl _,h.fr,h.fh,h.fl,h.inp,h.wt,h.xl,h.tk,⟨dx,?_⟩,?_,⟨es++[t],by rw[ah,List.map_append]; rfl,?_⟩,h.good.of rfl⟩⟩
 ·rw[aj (b8 ob l1 (fun z=>nomatch z))]; exact ob
 ·rw[aj (b8 h.hd l1 (fun z=>nomatch z))]; exact h.hd
 ·exact cA (by rw[aj (b8 et l1 (fun z=>nomatch z))]; exact et) (Paired.imp' (fun a e y=>by rw[aj (b8 y l1 (fun z=>nomatch z))]; exact y) l2)
end
def A7(K:PySem.W.Frag):Sp:=fun vs H Q _=>∃ (a:Addr) (t u v:V),vs=[.ref a,t,u,v]∧SqL K H a []∧∀ H',Same H H'→Q .non H'
def Br(K:PySem.W.Frag):Sp:=fun vs H Q _=>∃ (a:Addr) (u v x:V),vs=[.ref a,u,v,x]∧SqL K H a []∧Q .non H
def kA(K:PySem.W.Frag)(C:Addr):Sp:=fun vs H Q _=>∃ (E:RE) (H0:Hp) (st:RS) (n:Int),E.C=C∧vs=[.ref E.r,.int n]∧RO K E H0 H st∧∀ H',RO K E H0 H' (ao E.xs n st).2→Q (.bl (ao E.xs n st).1) H'
def js(K:PySem.W.Frag)(C:Addr):Sp:=fun vs H Q _=>∃ (E:RE) (H0:Hp) (st:RS) (k:aK),E.C=C∧vs=[.ref E.r,kV k]∧RO K E H0 H st∧Q (hV (aH st k)) H
def jV(K:PySem.W.Frag)(C:Addr):Sp:=fun vs H Q _=>∃ (E:RE) (H0:Hp) (st:RS) (k:aK) (o:Option Nat),E.C=C∧vs=[.ref E.r,kV k,hV o]∧RO K E H0 H st∧st.sz≤900000∧∀ H',RO K E H0 H' (aN k o st)→Q .non H'
def iS(K:PySem.W.Frag)(C:Addr):Sp:=fun vs H Q _=>∃ (E:RE) (H0:Hp) (st:RS) (l:Nat) (o:Option Nat) (x:Str),E.C=C∧vs=[.ref E.r,.int (l:Int),hV o,.str x]∧RO K E H0 H st∧st.sz≤900000∧∀ H',RO K E H0 H' (aQ l o x st)→Q .non H'
def qG(K:PySem.W.Frag)(C:Addr):Sp:=fun vs H Q _=>∃ (E:RE) (H0:Hp) (st:RS) (l:Nat) (k:aK),E.C=C∧vs=[.ref E.r,.int (l:Int),kV k]∧RO K E H0 H st∧(dj l k st).sz≤400000∧∀ H',RO K E H0 H' (dj l k st)→Q .non H'
def ve(K:PySem.W.Frag)(C:Addr):Sp:=fun vs H Q _=>∃ (E:RE) (H0:Hp) (st:RS) (l:Nat) (a b:Option Nat),E.C=C∧vs=[.ref E.r,.int (l:Int),hV a,hV b]∧RO K E H0 H st∧st.sz≤900000∧∀ H',RO K E H0 H' (cJ l a b st)→Q .non H'
def uZ(K:PySem.W.Frag)(C:Addr):Sp:=fun vs H Q _=>∃ (E:RE) (H0:Hp) (st:RS) (l:Nat),E.C=C∧vs=[.ref E.r,.int (l:Int)]∧RO K E H0 H st∧st.sz≤400000∧∀ H',RO K E H0 H' (gQ l st)→Q .non H'
def mR(K:PySem.W.Frag)(C:Addr):Sp:=fun vs H Q _=>∃ (x dx ip wp:Addr) (H0:Hp) (xs:List Int),vs=[.ref x,.ref ip,.ref wp]∧H x=some (.ins C dx [])∧H0 x=none∧Same H0 H∧SqL K H0 ip (xs.map V.int)∧SqL K H0 wp []∧xs.length≤10000∧
 ∀ (hp lp:Addr) (H':Hp),RO K ⟨C,x,ip,hp,lp,xs,wp⟩ H0 H' rs0→Q .non H'
section
variable{P:Program}{w:World}{K:PySem.W.Frag}{mg:Str→Option Value}{base:Heap}{CR:Addr}
theorem za(D:MethAt K CR "takes_more" "Run.takes_more" bT) (z_len:mg "len" = none) (a_taken:Fl K CR "taken") (a_inputs:Fl K CR "inputs") (a_last:Fl K CR "last"):cI P w K mg base 1 CR "takes_more" ["self", "bound"] (kA K CR):=by
 refine D.mcal (k:=0) kP (fun _ _ _ _ _ _ us hl=>match us,hl with | [_,_],_=>rfl) (fun vs H Q E h=>by obtain⟨E,H0,st,n,_,rfl,_⟩:=h; rfl) (fun f cdv A outer s H vs Q _ hr h=>?_)
 obtain⟨E,H0,st,n,rfl,rfl,R,q⟩:=h
 refine⟨_,(af (bd (aF bz (au a_taken (pv 0)) (bm (aV K) z_len bL (aa (au a_inputs (pv 0)) ac)) (aL _)) (ak (aG fg)) bu)
   (af (cW a_last (pv 0) (av (aI K) (au a_inputs (pv 0)) (au a_taken (pv 0)) (fun _ _=>rfl)))
   (af (cW a_taken (pv 0) (ap aC (au a_taken (pv 0)) ae))
   (ak (aG (kE jx (au a_last (pv 0)) (pv 1) (aL _))))))),?_⟩
 walk_at "rd1";refine R.taken (R.inputs ⟨_,.inl (R.sm.seq R.inp),?_⟩)
 walk_at "rd1";rw[List.length_map];refine aJ (fun h=>?_) (fun h=>?_)
 ·have e:st.taken=E.xs.length:=by omega
  have e':ao E.xs n st=(false,st):=by unfold ao; rw[e,List.getElem?_eq_none (Nat.le_refl _)]
  rw[e']at q
  exact q _ R
 have hlt:st.taken<E.xs.length:=by have:=R.tk; omega
 have ex:E.xs[st.taken]? = some E.xs[st.taken]:=List.getElem?_eq_getElem hlt
 have e':ao E.xs n st=(decide (n<E.xs[st.taken]),{ st with taken:=st.taken+1,last:=E.xs[st.taken] }):=by unfold ao; rw[ex]
 rw[e']at q
 generalize E.xs[st.taken]=v at ex e' q;walk_at "nx";refine R.inputs (R.taken ⟨_,_,.inl (R.sm.seq R.inp),aT (by rw[List.getElem?_map,ex]; rfl),?_⟩)
 refine R.put (st':={ st with last:=v }) rfl rfl R.tk _ _ (vJ E st v) fun H1 R1=>?_
 walk_at "nx";refine R1.taken ?_
 walk_at "rd1";refine R1.put (st':={ st with last:=v,taken:=st.taken+1 }) rfl rfl hlt _ _ (sH E { st with last:=v } (st.taken+1)) fun H2 R2=>?_
 walk_at "nx";refine R2.last ?_
 walk_at "rd1";exact q _ R2
theorem xr(D:MethAt K CR "handle_of" "Run.handle_of" cx) (a_held:Fl K CR "held"):cI P w K mg base 1 CR "handle_of" ["self", "holder"] (js K CR):=by
 refine D.mcal (k:=0) lR (fun _ _ _ _ _ _ us hl=>match us,hl with | [_,_],_=>rfl) (fun vs H Q E h=>by obtain⟨E,H0,st,k,_,rfl,_⟩:=h; rfl) (fun f cdv A outer s H vs Q _ hr h=>?_)
 obtain⟨E,H0,st,k,rfl,rfl,R,q⟩:=h
 refine⟨_,(ak (aG (AB (FT hr) (au a_held (pv 0)) (pv 1) ⟨rfl,rfl,rfl,rfl⟩))),?_⟩
 walk_at "rd1";refine R.held ⟨_,rfl,De R.hd,_,DGet.k R.hd,?_⟩
 rw[R.good.get]; exact q
theorem B6(D:MethAt K CR "hold" "Run.hold" de) (a_held:Fl K CR "held"):cI P w K mg base 1 CR "hold" ["self", "holder", "handle"] (jV K CR):=by
 refine D.mcal (k:=0) sS (fun _ _ _ _ _ _ us hl=>match us,hl with | [_,_,_],_=>rfl) (fun vs H Q E h=>by obtain⟨E,H0,st,k,o,_,rfl,_⟩:=h; rfl) (fun f cdv A outer s H vs Q _ hr h=>?_)
 obtain⟨E,H0,st,k,o,rfl,rfl,R,hz,q⟩:=h
 refine⟨_,(ak (iV (pv 2) (qM (au a_held (pv 0)) (pv 1) (vV hr)))),?_⟩
 walk_at "rd1";refine R.held ⟨E.hp,_,k,rfl,rfl,R.hd,bN (by unfold RS.sz at hz; omega),?_⟩
 exact q _ (R.hold k o)
theorem Ej(D:DefAt K mg "broken_or_gone_on" cu) (z_len:mg "len" = none):aM P w K mg base 1 "broken_or_gone_on" ["watches", "at", "handle", "word"] (A7 K):=by
 refine D.cal (k:=0) sc_broken_or_gone_on (fun _ _ _ _ _ _ us hl=>match us,hl with | [_,_,_,_],_=>rfl) (fun vs H Q E h=>by obtain⟨a,t,u,v,rfl,_⟩:=h; rfl) (fun f cdv A outer s H vs Q _ hr h=>?_)
 obtain⟨a,t,u,v,rfl,h0,q⟩:=h
 refine⟨_,(af (ax 4 sc_broken_or_gone_on.nd (bA ac))
   (af (cE PassesOwn.never rfl (cr K (pv 0)) lD ke)
   (af (bd (aF jx (bm (aV K) z_len bL (aa (pv 4) ac)) ae (aL _)) (af lN
   (ak lN)) bu)
   (af (cE PassesOwn.never rfl (cr K (pv 0)) lD ke)
   (ak (aG gG)))))),?_⟩
 walk_at "rd1";refine⟨by decide,fun D hD=>?_⟩
 have sm:Same H (upd H D (.lst [])):=al hD (.lst [])
 have eD:upd H D (.lst []) D=some (.lst []):=ah
 generalize upd H D (.lst [])=H1 at sm eD ⊢;walk_at "nx";refine⟨⟨_,sm.seq h0⟩,An (sm.seq h0) ?_⟩
 walk_at "nx";refine⟨_,.inl (SqL.of eD),?_⟩
 walk_at "rd1";refine aJ (fun c=>absurd c (by decide)) (fun c=>?_)
 walk_at "nx";refine⟨⟨_,sm.seq h0⟩,An (sm.seq h0) ?_⟩
 walk_at "nx";exact q _ sm
theorem ET(D:DefAt K mg "all_begin_tie" fk):aM P w K mg base 1 "all_begin_tie" ["watches", "one", "other", "start"] (Br K):=by
 refine D.cal (k:=0) lG (fun _ _ _ _ _ _ us hl=>match us,hl with | [_,_,_,_],_=>rfl) (fun vs H Q E h=>by obtain⟨a,u,v,x,rfl,_⟩:=h; rfl) (fun f cdv A outer s H vs Q _ hr h=>?_)
 obtain⟨a,u,v,x,rfl,h0,q⟩:=h
 refine⟨_,(ak (cE PassesOwn.never rfl (cr K (pv 0)) lD ke)),?_⟩
 walk_at "rd1";refine⟨⟨_,h0⟩,An h0 ?_⟩
 exact q
theorem C3(D:MethAt K CR "deed" "Run.deed" bW) (a_log:Fl K CR "log") (a_last:Fl K CR "last") (a_watches:Fl K CR "watches") (a_at:Fl K CR "at") (c_broken_or_gone_on:aM P w K mg base 1 "broken_or_gone_on" ["watches", "at", "handle", "word"] (A7 K)):cI P w K mg base 2 CR "deed" ["self", "line", "handle", "word"] (iS K CR):=by
 refine D.mcal (k:=1) sc_Run_deed (fun _ _ _ _ _ _ us hl=>match us,hl with | [_,_,_,_],_=>rfl) (fun vs H Q E h=>by obtain⟨E,H0,st,l,o,x,_,rfl,_⟩:=h; rfl) (fun f cdv A outer s H vs Q _ hr h=>?_)
 obtain⟨E,H0,st,l,o,x,rfl,rfl,R,hz,q⟩:=h
 refine⟨_,(af (bd (aF Cw (pv 2) gG (aL _)) (ak CF) bu)
   (af (ax 4 sc_Run_deed.nd (bB (aa (pv 1) (aa (pv 2) (aa (pv 3) (aa (au a_last (pv 0)) ac))))))
   (af (ax 5 sc_Run_deed.nd (aA c_broken_or_gone_on hr (aa (au a_watches (pv 0)) (aa (au a_at (pv 0)) (aa (pv 2) (aa (pv 3) ac))))))
   (af (bd (aF lI (pv 5) gG (aL _)) (ak lN) bu)
   (ak (aD (bh K PySem.F.plainAttrs_list PySem.F.slot_list_append PySem.F.type_list_append aW (au a_log (pv 0)) (aa (pv 4) ac)))))))),?_⟩
 walk_at "rd1"
 cases o with
 | none=>
  refine aJ (fun c=>?_) (fun c=>absurd rfl c)
  exact q _ R
 | some n=>
  refine aJ (fun c=>absurd c (by simp[hV])) (fun c=>?_)
  have hV':hV (some n) = .int (n:Int):=rfl
  rw[hV'];walk_at "nx";refine R.last ⟨by decide,fun t ht=>?_⟩
  have sm:=al ht (.tup [.int (l:Int),.int (n:Int),.str x,.int st.last]);have et:upd H t (.tup [.int (l:Int),.int (n:Int),.str x,.int st.last]) t=some (.tup [.int (l:Int),.int (n:Int),.str x,.int st.last]):=ah
  generalize upd H t (.tup [.int (l:Int),.int (n:Int),.str x,.int st.last])=H1 at sm et ⊢;have R1:=R.mono sm;walk_at "nx";refine R1.watches (R1.at ⟨E.wp,_,_,_,rfl,R1.sm.seq R1.wt,fun H2 s2=>?_⟩)
  have R2:=R1.mono s2;walk_at "nx";refine aJ (fun c=>absurd c (by simp)) (fun c=>?_)
  obtain⟨es,l1,l2⟩:=id R2.lg
  walk_at "nx";refine R2.log ⟨.inl ⟨rfl,_,SqL.of l1⟩,?_⟩
  walk_at "rd1";exact R2.add (s2 _ _ et) (by unfold RS.sz at hz; omega) (fun H'=>Q .non H') q
theorem Ct(D:MethAt K CR "new_handle" "Run.new_handle" bD) (a_opened:Fl K CR "opened") (m_Run_deed:cI P w K mg base 2 CR "deed" ["self", "line", "handle", "word"] (iS K CR)) (m_Run_hold:cI P w K mg base 1 CR "hold" ["self", "holder", "handle"] (jV K CR)):cI P w K mg base 3 CR "new_handle" ["self", "line", "holder"] (qG K CR):=by
 refine D.mcal (k:=2) sc_Run_new_handle (fun _ _ _ _ _ _ us hl=>match us,hl with | [_,_,_],_=>rfl) (fun vs H Q E h=>by obtain⟨E,H0,st,l,k,_,rfl,_⟩:=h; rfl) (fun f cdv A outer s H vs Q _ hr h=>?_)
 obtain⟨E,H0,st,l,k,rfl,rfl,R,hz,q⟩:=h
 refine⟨_,(af (ax 3 sc_Run_new_handle.nd (au a_opened (pv 0)))
   (af (cW a_opened (pv 0) (ap aC (pv 3) ae))
   (af (aD (bn m_Run_deed hr (pv 0) (aa (pv 1) (aa (pv 3) (aa aw ac)))))
   (ak (aD (bn m_Run_hold hr (pv 0) (aa (pv 2) (aa (pv 3) ac)))))))),?_⟩
 walk_at "rd1";refine R.opened ?_
 walk_at "nx";refine R.put (st':={ st with opened:=st.opened+1 }) rfl rfl R.tk _ _ (qz E st (st.opened+1)) fun H1 R1=>?_
 have u1:=fX l (some st.opened) "open" { st with opened:=st.opened+1 };have u2:=eR k (some st.opened) (aQ l (some st.opened) "open" { st with opened:=st.opened+1 });have hz2:(aN k (some st.opened) (aQ l (some st.opened) "open" { st with opened:=st.opened+1 })).sz≤400000:=hz
 walk_at "nx";refine⟨R1.isM (by decide +kernel),E,H0,_,l,some st.opened, "open", rfl,rfl,R1,by have:=u1.2; have:=u2.2; omega,fun H2 R2=>?_⟩
 walk_at "nx";refine⟨R2.isM (by decide +kernel),E,H0,_,k,some st.opened,rfl,rfl,R2,by have:=u2.2; omega,fun H3 R3=>?_⟩
 exact q _ R3
theorem D8(D:MethAt K CR "tie" "Run.tie" cM) (z_len:mg "len" = none) (a_log:Fl K CR "log") (a_watches:Fl K CR "watches") (c_all_begin_tie:aM P w K mg base 1 "all_begin_tie" ["watches", "one", "other", "start"] (Br K)):cI P w K mg base 2 CR "tie" ["self", "line", "one", "other"] (ve K CR):=by
 refine D.mcal (k:=1) uT (fun _ _ _ _ _ _ us hl=>match us,hl with | [_,_,_,_],_=>rfl) (fun vs H Q E h=>by obtain⟨E,H0,st,l,a,b,_,rfl,_⟩:=h; rfl) (fun f cdv A outer s H vs Q _ hr h=>?_)
 obtain⟨E,H0,st,l,a,b,rfl,rfl,R,hz,q⟩:=h
 refine⟨_,(ak (bd (PW.pt' (gh (aF lI (pv 2) gG (aL _)) (gh (aF lI (pv 3) gG (aL _)) (gW (aF ki (pv 2) (pv 3) (aL _)))))) (af (aD (bh K PySem.F.plainAttrs_list PySem.F.slot_list_append PySem.F.type_list_append aW (au a_log (pv 0)) (aa (bB (aa (pv 1) (aa (pv 2) (aa (pv 3) ac)))) ac)))
   (ak (aD (aA c_all_begin_tie hr (aa (au a_watches (pv 0)) (aa (pv 2) (aa (pv 3) (aa (bm (aV K) z_len bL (aa (au a_log (pv 0)) ac)) ac)))))))) bu)),?_⟩
 walk_at "rd1"
 cases a with
 | none=>
  refine aJ (fun c=>absurd c (by simp[hV])) (fun c=>?_)
  exact q _ R
 | some n=>
  refine aJ (fun c=>?_) (fun c=>absurd (show (!decide (hV (some n)=V.non))=true by simp[hV]) c)
  cases b with
  | none=>
   refine aJ (fun c=>absurd c (by simp[hV])) (fun c=>?_)
   exact q _ R
  | some m=>
   refine aJ (fun c=>?_) (fun c=>absurd (show (!decide (hV (some m)=V.non))=true by simp[hV]) c)
   have hVn:hV (some n) = .int (n:Int):=rfl
   have hVm:hV (some m) = .int (m:Int):=rfl
   rw[hVn,hVm];walk_at "rd1"
   by_cases e:n=m
   ·refine aJ (fun c=>absurd c (by simp[e])) (fun c=>?_)
    have e':cJ l (some n) (some m) st=st:=by show (if n=m then st else _)=st; rw[if_pos e]
    rw[e']at q
    exact q _ R
   ·refine aJ (fun c=>?_) (fun c=>absurd (show _ from by simp; omega) c)
    have e':cJ l (some n) (some m) st={ st with log:=st.log++[[.int l,.int n,.int m]] }:=by show (if n=m then st else _)=_; rw[if_neg e]
    rw[e']at q
    obtain⟨es,l1,l2⟩:=id R.lg
    refine R.log ⟨.inl ⟨rfl,_,SqL.of l1⟩,by decide,fun t ht=>?_⟩
    have sm:=al ht (.tup [.int (l:Int),.int (n:Int),.int (m:Int)]);have et:upd H t (.tup [.int (l:Int),.int (n:Int),.int (m:Int)]) t=some (.tup [.int (l:Int),.int (n:Int),.int (m:Int)]):=ah
    generalize upd H t (.tup [.int (l:Int),.int (n:Int),.int (m:Int)])=H1 at sm et ⊢;have R1:=R.mono sm;walk_at "rd1";refine R1.add et (by unfold RS.sz at hz; omega) _ fun H2 R2=>?_
    walk_at "nx";refine R2.watches (R2.log ?_)
    obtain⟨es2,l3,l4⟩:=id R2.lg
    refine⟨_,.inl (SqL.of l3),?_⟩
    exact⟨E.wp,_,_,_,rfl,R2.sm.seq R2.wt,q _ R2⟩
theorem Di(D:MethAt K CR "end_all" "Run.end_all" bX) (z_range:mg "range" = none) (a_opened:Fl K CR "opened") (m_Run_deed:cI P w K mg base 2 CR "deed" ["self", "line", "handle", "word"] (iS K CR)):cI P w K mg base 3 CR "end_all" ["self", "line"] (uZ K CR):=by
 refine D.mcal (k:=2) sc_Run_end_all (fun _ _ _ _ _ _ us hl=>match us,hl with | [_,_],_=>rfl) (fun vs H Q E h=>by obtain⟨E,H0,st,l,_,rfl,_⟩:=h; rfl) (fun f cdv A outer s H vs Q _ hr h=>?_)
 obtain⟨E,H0,st,l,rfl,rfl,R,hz,q⟩:=h
 have ho:st.opened≤400000:=by unfold RS.sz at hz; omega
 refine⟨_,(ak (cE PassesOwn.never rfl (gM KM z_range (aa (au a_opened (pv 0)) ac)) (ba 2 sc_Run_end_all.nd) (ak (aD (bn m_Run_deed hr (pv 0) (aa (pv 1) (aa (pv 2) (aa aw ac)))))))),?_⟩
 walk_at "rd1";refine R.opened ?_
 walk_at "rd1";refine⟨by omega,by omega,?_⟩
 rw[show ((st.opened:Int)).toNat=st.opened from Int.toNat_natCast _]
 refine jC (fun i σ H'=>∃ o2:Option V,σ=[some (.ref E.r),some (.int (l:Int)),o2]∧RO K E H0 H' { st with log:=st.log++(List.range i).map fun (h:Nat)=>([.int l,.int h,.str "end", .int st.last]:List V) })
  ⟨none,rfl,by simpa using R⟩ ?_ ?_
 ·rintro i σ H' hi ⟨o2,rfl,R'⟩
  walk_at "rd1";refine⟨R'.isM (by decide +kernel),E,H0,_,l,some i, "end", rfl,by rw[Int.zero_add]; rfl,R',?_,fun H2 R2=>⟨_,rfl,?_⟩⟩
  ·simp only[RS.sz,List.length_append,List.length_map,List.length_range]at hz ⊢; omega
  ·have e:aQ l (some i) "end" { st with log:=st.log++(List.range i).map fun (h:Nat)=>([.int l,.int h,.str "end", .int st.last]:List V) }={ st with log:=st.log++(List.range (i+1)).map fun (h:Nat)=>([.int l,.int h,.str "end", .int st.last]:List V) }:=by
    rw[List.range_succ,List.map_append,← List.append_assoc]; rfl
   rw[e]at R2
   exact R2
 ·rintro σ H' ⟨o2,rfl,R'⟩
  exact q _ R'
theorem zN(D:MakeAt K mg "Run" CR "Run.__init__" ck) (a_inputs:Fl K CR "inputs") (a_watches:Fl K CR "watches") (a_at:Fl K CR "at") (a_taken:Fl K CR "taken") (a_last:Fl K CR "last") (a_opened:Fl K CR "opened") (a_held:Fl K CR "held") (a_log:Fl K CR "log"):j_ P w K mg base 1 "Run" CR ["self", "inputs", "watches"] (mR K CR):=by
 refine D.mkal (k:=0) mI (fun _ _ _ _ _ _ us hl=>match us,hl with | [_,_,_],_=>rfl) (fun vs H Q E h=>by obtain⟨x,dx,ip,wp,H0,xs,rfl,_⟩:=h; rfl) (fun f cdv A outer s H vs Q _ hr h=>?_)
 obtain⟨x,dx,ip,wp,H0,xs,rfl,hx,h0x,sm,hip,hwp,hxl,q⟩:=h
 refine⟨_,(af (cW a_inputs (pv 0) (pv 1))
   (af (cW a_watches (pv 0) (pv 2))
   (af (cW a_at (pv 0) ae)
   (af (cW a_taken (pv 0) ae)
   (af (cW a_last (pv 0) ae)
   (af (cW a_opened (pv 0) ae)
   (af (cW a_held (pv 0) ly)
   (ak (cW a_log (pv 0) (bA ac)))))))))),?_⟩
 walk_at "rd1";refine⟨dx,_,hx,by simp,?_⟩
 generalize hA:upd H x _=HA
 have eA:HA x=some (.ins CR dx [("inputs", .ref ip)]):=by rw[← hA,ah]; walk_at "pf"
 have sA:Same H0 HA:=by rw[← hA]; exact sm.upd h0x _
 walk_at "nx";refine⟨dx,_,eA,by simp,?_⟩
 generalize hA2:upd HA x _=HA2
 have eA2:HA2 x=some (.ins CR dx [("inputs", .ref ip),("watches", .ref wp)]):=by rw[← hA2,ah]; walk_at "pf"
 have sA2:Same H0 HA2:=by rw[← hA2]; exact sA.upd h0x _
 walk_at "nx";refine⟨dx,_,eA2,by simp,?_⟩
 generalize hA3:upd HA2 x _=HA3
 have eA3:HA3 x=some (.ins CR dx [("inputs", .ref ip),("watches", .ref wp),("at", .int 0)]):=by rw[← hA3,ah]; walk_at "pf"
 have sA3:Same H0 HA3:=by rw[← hA3]; exact sA2.upd h0x _
 walk_at "nx";refine⟨dx,_,eA3,by simp,?_⟩
 generalize hB:upd HA3 x _=HB
 have eB:HB x=some (.ins CR dx [("inputs", .ref ip),("watches", .ref wp),("at", .int 0),("taken", .int 0)]):=by rw[← hB,ah]; walk_at "pf"
 have sB:Same H0 HB:=by rw[← hB]; exact sA3.upd h0x _
 walk_at "nx";refine⟨dx,_,eB,by simp,?_⟩
 generalize hC:upd HB x _=HC
 have eC:HC x=some (.ins CR dx [("inputs", .ref ip),("watches", .ref wp),("at", .int 0),("taken", .int 0),("last", .int 0)]):=by rw[← hC,ah]; walk_at "pf"
 have sC:Same H0 HC:=by rw[← hC]; exact sB.upd h0x _
 walk_at "nx";refine⟨dx,_,eC,by simp,?_⟩
 generalize hD:upd HC x _=HD
 have eD:HD x=some (.ins CR dx [("inputs", .ref ip),("watches", .ref wp),("at", .int 0),("taken", .int 0),("last", .int 0),("opened", .int 0)]):=by rw[← hD,ah]; walk_at "pf"
 have sD:Same H0 HD:=by rw[← hD]; exact sC.upd h0x _
 walk_at "nx";intro hp hhp
 generalize hE:upd HD hp _=HE
 have sE:=cV hE hhp;have eE:=dU hE;refine⟨dx,_,sE _ _ eD,by simp,?_⟩
 generalize hF:upd HE x _=HF
 have eF:HF x=some (.ins CR dx [("inputs", .ref ip),("watches", .ref wp),("at", .int 0),("taken", .int 0),("last", .int 0),("opened", .int 0),("held", .ref hp)]):=by rw[← hF,ah]; walk_at "pf"
 have sF:Same H0 HF:=by rw[← hF]; exact(sD.trans sE).upd h0x _
 have dF:HF hp=some (.dK []):=by rw[← hF,aj (b8 eE (sE _ _ eD) (fun z=>nomatch z))]; exact eE
 walk_at "nx";refine⟨by decide,fun lp hlp=>?_⟩
 generalize hG:upd HF lp _=HG
 have sG:=cV hG hlp;have eG:=dU hG;refine⟨dx,_,sG _ _ eF,by simp,?_⟩
 refine q hp lp _ ⟨(sF.trans sG).upd h0x _,h0x,sD.free hhp,sF.free hlp,hip,hwp,hxl,Nat.zero_le _,⟨dx,?_⟩,?_,⟨[],?_,.nil⟩,fun k v e=>by cases e⟩
 ·rw[ah]; unfold rF; walk_at "pf"; rfl
 ·rw[aj (b8 (sG _ _ dF) (sG _ _ eF) (fun z=>nomatch z))]; exact sG _ _ dF
 ·rw[aj (b8 eG (sG _ _ eF) (fun z=>nomatch z))]; exact eG
end
def iG(K:PySem.W.Frag)(CR CN:Addr)(d:Nat)(is:Stp→Prop):Sp:=fun vs H Q _=>∃ (E:RE) (H0:Hp) (st:RS) (a:Addr) (l:Nat) (s:Stp) (S:Addr→Prop),E.C=CR∧vs=[.ref E.r,.ref a]∧is s∧nstpAt K CN (ai d) S (NumAt K CN S d H0) H0 a l s∧nM (fG d) s∧RO K E H0 H st∧
 (bF (ai d) (aB E.xs d) E.xs l s st).sz≤400000∧∀ H',RO K E H0 H' (bF (ai d) (aB E.xs d) E.xs l s st)→Q .non H'
def jU(K:PySem.W.Frag)(CR CN:Addr)(d:Nat):Sp:=fun vs H Q _=>∃ (E:RE) (H0:Hp) (st:RS) (p:Addr) (l:Nat) (T:List Stp) (S:Addr→Prop),E.C=CR∧vs=[.ref E.r,.ref p]∧NumAt K CN S d H0 p l T∧fG d T∧RO K E H0 H st∧
 (aB E.xs d l T st).sz≤400000∧∀ H',RO K E H0 H' (aB E.xs d l T st)→Q .non H'
def uy:Stp→Prop
 | .plain _=>True
 | _=>False
def yz:Stp→Prop
 | .lend _ _ _=>True
 | _=>False
def By:Stp→Prop
 | .ite _ _ _=>True
 | _=>False
def Ba:Stp→Prop
 | .whl _ _=>True
 | _=>False
section
variable{P:Program}{w:World}{K:PySem.W.Frag}{mg:Str→Option Value}{base:Heap}{CR CN:Addr}
theorem kQ(l:Nat)(x:Str)(st:RS):cf l ["open", x] st=dj l (.inr x) st:=by
 show (if ("open" : Str) = "open" then dj l (.inr x) st else aN (.inr x) none st)=_
 exact if_pos rfl
theorem sL(l:Nat)(x:Str)(st:RS):cf l ["drop", x] st=aN (.inr x) none st:=by
 show (if ("drop" : Str) = "open" then dj l (.inr x) st else aN (.inr x) none st)=_
 exact if_neg (by decide)
theorem xx(l:Nat)(u x:Str)(st:RS):cf l ["do", u,x] st=aQ l (aH st (.inr x)) u st:=by
 show (if ("do" : Str) = "do" then aQ l (aH st (.inr x)) u st else if ("do" : Str) = "copy" then aN (.inr u) (aH st (.inr x)) st else cJ l (aH st (.inr u)) (aH st (.inr x)) st)=_
 exact if_pos rfl
theorem sI(l:Nat)(u x:Str)(st:RS):cf l ["copy", u,x] st=aN (.inr u) (aH st (.inr x)) st:=by
 show (if ("copy" : Str) = "do" then aQ l (aH st (.inr x)) u st else if ("copy" : Str) = "copy" then aN (.inr u) (aH st (.inr x)) st else cJ l (aH st (.inr u)) (aH st (.inr x)) st)=_
 rw[if_neg (by decide)]; exact if_pos rfl
theorem wg(l:Nat)(u x:Str)(st:RS):cf l ["tie", u,x] st=cJ l (aH st (.inr u)) (aH st (.inr x)) st:=by
 show (if ("tie" : Str) = "do" then aQ l (aH st (.inr x)) u st else if ("tie" : Str) = "copy" then aN (.inr u) (aH st (.inr x)) st else cJ l (aH st (.inr u)) (aH st (.inr x)) st)=_
 rw[if_neg (by decide)]; exact if_neg (by decide)
theorem jW{α : Type}{x y:α}{xs:List α}:eP (x::y::xs) 1=some y:=aT (j:=1) rfl
theorem sZ(D:DefAt K mg "do_simple" c_) (a_lines:Fl K CN "lines") (a_parts:Fl K CN "parts") (a_kind:Fl K CN "kind")
  (m_Run_new_handle:cI P w K mg base 3 CR "new_handle" ["self", "line", "holder"] (qG K CR)) (m_Run_deed:cI P w K mg base 2 CR "deed" ["self", "line", "handle", "word"] (iS K CR)) (m_Run_handle_of:cI P w K mg base 1 CR "handle_of" ["self", "holder"] (js K CR))
  (m_Run_hold:cI P w K mg base 1 CR "hold" ["self", "holder", "handle"] (jV K CR)) (m_Run_tie:cI P w K mg base 2 CR "tie" ["self", "line", "one", "other"] (ve K CR)) {d:Nat}:aM P w K mg base 4 "do_simple" ["run", "step"] (iG K CR CN d uy):=by
 refine D.cal (k:=3) sc_do_simple (fun _ _ _ _ _ _ us hl=>match us,hl with | [_,_],_=>rfl) (fun vs H Q E h=>by obtain⟨E,H0,st,a,l,s,S,_,rfl,_⟩:=h; rfl) (fun f cdv A outer sh H vs Q _ hr h=>?_)
 obtain⟨E,H0,st,a,l,s,S,rfl,rfl,hs,hn,sp,R,hz,q⟩:=h
 refine⟨_,(af (ax 2 sc_do_simple.nd (av (aI K) (au a_lines (pv 1)) ae (fun _ _=>rfl)))
   (af (ax 3 sc_do_simple.nd (au a_parts (pv 1)))
   (ak (bd (aF bz (au a_kind (pv 1)) aw (aL _)) (ak (aD (bn m_Run_new_handle hr (pv 0) (aa (pv 2) (aa (av (aI K) (pv 3) ae (fun _ _=>rfl)) ac))))) (ak (bd (aF bz (au a_kind (pv 1)) aw (aL _)) (ak (aD (bn m_Run_deed hr (pv 0) (aa (pv 2) (aa (bn m_Run_handle_of hr (pv 0) (aa (av (aI K) (pv 3) ae (fun _ _=>rfl)) ac)) (aa (av (aI K) (pv 3) ae (fun _ _=>rfl)) ac)))))) (ak (bd (aF bz (au a_kind (pv 1)) aw (aL _)) (ak (aD (bn m_Run_hold hr (pv 0) (aa (av (aI K) (pv 3) ae (fun _ _=>rfl)) (aa (bn m_Run_handle_of hr (pv 0) (aa (av (aI K) (pv 3) ae (fun _ _=>rfl)) ac)) ac))))) (ak (bd (aF bz (au a_kind (pv 1)) aw (aL _)) (ak (aD (bn m_Run_hold hr (pv 0) (aa (av (aI K) (pv 3) ae (fun _ _=>rfl)) (aa gG ac))))) (ak (aD (bn m_Run_tie hr (pv 0) (aa (pv 2) (aa (bn m_Run_handle_of hr (pv 0) (aa (av (aI K) (pv 3) ae (fun _ _=>rfl)) ac)) (aa (bn m_Run_handle_of hr (pv 0) (aa (av (aI K) (pv 3) ae (fun _ _=>rfl)) ac)) ac)))))))))))))))),?_⟩
 cases s with
 | plain ws=>
  obtain⟨dx,pp,lp,bp,bs,g1,g2,g3,g4,g5,g6,g7⟩:=hn
  have k4:H lp=some (.lst (fj [l])):=R.sm _ _ g4
  have px:eO ws:=sp
  cases px with
  | op x=>
   have k1:H a=some (.ins CN dx (nF "open" pp lp bp)):=R.sm _ _ g1
   have k2:SqT K H pp [.str x]:=g2.same R.sm
   have e:bF (ai d) (aB E.xs d) E.xs l (.plain ["open", x]) st=dj l (.inr x) st:=kQ l x st
   rw[e]at hz q
   walk_at "rd1";refine bb k1 (cF _ _ _ _) ?_
   walk_at "rd1";refine⟨_,_,.inl (SqL.of k4),cw,?_⟩
   walk_at "nx";refine bb k1 (cv _ _ _ _) ?_
   walk_at "nx";refine bb k1 (bE _ _ _ _) ?_
   walk_at "rd1";exact⟨R.isM (by decide +kernel),_,_,.inr k2,cw,E,H0,st,l,.inr x,rfl,rfl,R,hz,q⟩
  | dr x=>
   have k1:H a=some (.ins CN dx (nF "drop" pp lp bp)):=R.sm _ _ g1
   have k2:SqT K H pp [.str x]:=g2.same R.sm
   have e:bF (ai d) (aB E.xs d) E.xs l (.plain ["drop", x]) st=aN (.inr x) none st:=sL l x st
   rw[e]at hz q
   walk_at "rd1";refine bb k1 (cF _ _ _ _) ?_
   walk_at "rd1";refine⟨_,_,.inl (SqL.of k4),cw,?_⟩
   walk_at "nx";refine bb k1 (cv _ _ _ _) ?_
   walk_at "nx";refine bb k1 (bE _ _ _ _) ?_
   walk_at "rd1";refine aJ (fun c=>absurd c (by decide)) (fun _=>?_)
   refine bb k1 (bE _ _ _ _) ?_
   walk_at "rd1";refine aJ (fun c=>absurd c (by decide)) (fun _=>?_)
   refine bb k1 (bE _ _ _ _) ?_
   walk_at "rd1";refine aJ (fun c=>absurd c (by decide)) (fun _=>?_)
   refine bb k1 (bE _ _ _ _) ?_
   walk_at "rd1";exact⟨R.isM (by decide +kernel),_,_,.inr k2,cw,E,H0,st,.inr x,none,rfl,rfl,R,by have:=(eR (.inr x) none st).2; omega,q⟩
  | dd u x=>
   have k1:H a=some (.ins CN dx (nF "do" pp lp bp)):=R.sm _ _ g1
   have k2:SqT K H pp [.str u,.str x]:=g2.same R.sm
   have e:bF (ai d) (aB E.xs d) E.xs l (.plain ["do", u,x]) st=aQ l (aH st (.inr x)) u st:=xx l u x st
   rw[e]at hz q
   walk_at "rd1";refine bb k1 (cF _ _ _ _) ?_
   walk_at "rd1";refine⟨_,_,.inl (SqL.of k4),cw,?_⟩
   walk_at "nx";refine bb k1 (cv _ _ _ _) ?_
   walk_at "nx";refine bb k1 (bE _ _ _ _) ?_
   walk_at "rd1";refine aJ (fun c=>absurd c (by decide)) (fun _=>?_)
   refine bb k1 (bE _ _ _ _) ?_
   walk_at "rd1";exact⟨R.isM (by decide +kernel),R.isM (by decide +kernel),_,_,.inr k2,jW,E,H0,st,.inr x,rfl,rfl,R,_,_,.inr k2,cw,E,H0,st,l,aH st (.inr x),u,rfl,rfl,R,by have:=(fX l (aH st (.inr x)) u st).2; omega,q⟩
  | cp x y=>
   have k1:H a=some (.ins CN dx (nF "copy" pp lp bp)):=R.sm _ _ g1
   have k2:SqT K H pp [.str x,.str y]:=g2.same R.sm
   have e:bF (ai d) (aB E.xs d) E.xs l (.plain ["copy", x,y]) st=aN (.inr x) (aH st (.inr y)) st:=sI l x y st
   rw[e]at hz q
   walk_at "rd1";refine bb k1 (cF _ _ _ _) ?_
   walk_at "rd1";refine⟨_,_,.inl (SqL.of k4),cw,?_⟩
   walk_at "nx";refine bb k1 (cv _ _ _ _) ?_
   walk_at "nx";refine bb k1 (bE _ _ _ _) ?_
   walk_at "rd1";refine aJ (fun c=>absurd c (by decide)) (fun _=>?_)
   refine bb k1 (bE _ _ _ _) ?_
   walk_at "rd1";refine aJ (fun c=>absurd c (by decide)) (fun _=>?_)
   refine bb k1 (bE _ _ _ _) ?_
   walk_at "rd1";exact⟨R.isM (by decide +kernel),_,_,.inr k2,cw,R.isM (by decide +kernel),_,_,.inr k2,jW,E,H0,st,.inr y,rfl,rfl,R,E,H0,st,.inr x,aH st (.inr y),rfl,rfl,R,by have:=(eR (.inr x) (aH st (.inr y)) st).2; omega,q⟩
  | ti x y=>
   have k1:H a=some (.ins CN dx (nF "tie" pp lp bp)):=R.sm _ _ g1
   have k2:SqT K H pp [.str x,.str y]:=g2.same R.sm
   have e:bF (ai d) (aB E.xs d) E.xs l (.plain ["tie", x,y]) st=cJ l (aH st (.inr x)) (aH st (.inr y)) st:=wg l x y st
   rw[e]at hz q
   walk_at "rd1";refine bb k1 (cF _ _ _ _) ?_
   walk_at "rd1";refine⟨_,_,.inl (SqL.of k4),cw,?_⟩
   walk_at "nx";refine bb k1 (cv _ _ _ _) ?_
   walk_at "nx";refine bb k1 (bE _ _ _ _) ?_
   walk_at "rd1";refine aJ (fun c=>absurd c (by decide)) (fun _=>?_)
   refine bb k1 (bE _ _ _ _) ?_
   walk_at "rd1";refine aJ (fun c=>absurd c (by decide)) (fun _=>?_)
   refine bb k1 (bE _ _ _ _) ?_
   walk_at "rd1";refine aJ (fun c=>absurd c (by decide)) (fun _=>?_)
   refine bb k1 (bE _ _ _ _) ?_
   walk_at "rd1";refine aJ (fun c=>absurd c (by decide)) (fun _=>?_)
   exact⟨R.isM (by decide +kernel),R.isM (by decide +kernel),_,_,.inr k2,cw,E,H0,st,.inr x,rfl,rfl,R,R.isM (by decide +kernel),_,_,.inr k2,jW,E,H0,st,.inr y,rfl,rfl,R,E,H0,st,l,aH st (.inr x),aH st (.inr y),rfl,rfl,R,by have:=(x4 l (aH st (.inr x)) (aH st (.inr y)) st).2; omega,q⟩
 | lend x y b=>exact hs.elim
 | ite n b c=>exact hs.elim
 | whl n b=>exact hs.elim
theorem yx(D:DefAt K mg "do_lend" d0) (a_lines:Fl K CN "lines") (a_parts:Fl K CN "parts") (a_blocks:Fl K CN "blocks") (m_Run_deed:cI P w K mg base 2 CR "deed" ["self", "line", "handle", "word"] (iS K CR)) (m_Run_handle_of:cI P w K mg base 1 CR "handle_of" ["self", "holder"] (js K CR))
  (m_Run_hold:cI P w K mg base 1 CR "hold" ["self", "holder", "handle"] (jV K CR)) {d:Nat} (c_do_steps:aM P w K mg base (2 * d+4) "do_steps" ["run", "steps"] (jU K CR CN d)):aM P w K mg base (2 * d+5) "do_lend" ["run", "step"] (iG K CR CN d yz):=by
 refine D.cal (k:=2 * d+4) sc_do_lend (fun _ _ _ _ _ _ us hl=>match us,hl with | [_,_],_=>rfl) (fun vs H Q E h=>by obtain⟨E,H0,st,a,l,s,S,_,rfl,_⟩:=h; rfl) (fun f cdv A outer sh H vs Q _ hr h=>?_)
 obtain⟨E,H0,st,a,l,s,S,rfl,rfl,hs,hn,sp,R,hz,q⟩:=h
 refine⟨_,(af (ax 2 sc_do_lend.nd (bn m_Run_handle_of hr (pv 0) (aa (av (aI K) (au a_parts (pv 1)) ae (fun _ _=>rfl)) ac) (hle:=by omega)))
   (af (aD (bn m_Run_deed hr (pv 0) (aa (av (aI K) (au a_lines (pv 1)) ae (fun _ _=>rfl)) (aa (pv 2) (aa aw ac))) (hle:=by omega)))
   (af (aD (bn m_Run_hold hr (pv 0) (aa (av (aI K) (au a_parts (pv 1)) ae (fun _ _=>rfl)) (aa (pv 2) ac)) (hle:=by omega)))
   (af (aD (aA c_do_steps hr (aa (pv 0) (aa (av (aI K) (au a_blocks (pv 1)) ae (fun _ _=>rfl)) ac)) (hle:=by omega)))
   (af (aD (bn m_Run_deed hr (pv 0) (aa (av (aI K) (au a_lines (pv 1)) ae (fun _ _=>rfl)) (aa (pv 2) (aa aw ac))) (hle:=by omega)))
   (ak (aD (bn m_Run_hold hr (pv 0) (aa (av (aI K) (au a_parts (pv 1)) ae (fun _ _=>rfl)) (aa gG ac)) (hle:=by omega))))))))),?_⟩
 cases s with
 | lend x y b=>
  obtain⟨dx,pp,lp,bp,bs,g1,g2,g3,g4,g5,g6,g7⟩:=hn
  have g2':SqT K H0 pp [.str x,.str y]:=g2
  have g4':H0 lp=some (.lst (fj [l,l+1+ai d b])):=g4
  cases g7 with
  | cons gb gn=>
  cases gn
  rename_i qb
  have gb':NumAt K CN S d H0 qb (l+1) b:=gb
  have spb:fG d b:=sp
  have e:bF (ai d) (aB E.xs d) E.xs l (.lend x y b) st=aN (.inr y) none (aQ (l+1+ai d b) (aH st (.inr x)) "back" (aB E.xs d (l+1) b (aN (.inr y) (aH st (.inr x)) (aQ l (aH st (.inr x)) "lend" st)))):=rfl
  rw[e]at hz q
  generalize hh:aH st (.inr x)=h at hz q;have u1:=(fX l h "lend" st).2;have u2:=(eR (.inr y) h (aQ l h "lend" st)).2;have u3:=(j4 E.xs d (l+1) b (aN (.inr y) h (aQ l h "lend" st))).2;have u4:=(fX (l+1+ai d b) h "back" (aB E.xs d (l+1) b (aN (.inr y) h (aQ l h "lend" st)))).2;have u5:=(eR (.inr y) none (aQ (l+1+ai d b) h "back" (aB E.xs d (l+1) b (aN (.inr y) h (aQ l h "lend" st))))).2;walk_at "rd1";refine⟨R.isM (by decide +kernel),bb (R.sm _ _ g1) (cv _ _ _ _) ?_⟩
  walk_at "rd1";refine⟨_,_,.inr (g2'.same R.sm),cw,E,H0,st,.inr x,rfl,rfl,R,?_⟩
  rw[hh];walk_at "nx";refine⟨R.isM (by decide +kernel),bb (R.sm _ _ g1) (cF _ _ _ _) ?_⟩
  walk_at "rd1";refine⟨_,_,.inl (SqL.of (R.sm _ _ g4')),cw,E,H0,st,l,h, "lend", rfl,rfl,R,by omega,fun H1 R1=>?_⟩
  walk_at "nx";refine⟨R1.isM (by decide +kernel),bb (R1.sm _ _ g1) (cv _ _ _ _) ?_⟩
  walk_at "rd1";refine⟨_,_,.inr (g2'.same R1.sm),jW,E,H0,_,.inr y,h,rfl,rfl,R1,by omega,fun H2 R2=>?_⟩
  walk_at "nx";refine bb (R2.sm _ _ g1) (dM _ _ _ _) ?_
  walk_at "rd1";refine⟨_,_,.inl (SqL.of (R2.sm _ _ g6)),cw,E,H0,_,qb,l+1,b,S,rfl,rfl,gb',spb,R2,by omega,fun H3 R3=>?_⟩
  walk_at "nx";refine⟨R3.isM (by decide +kernel),bb (R3.sm _ _ g1) (cF _ _ _ _) ?_⟩
  walk_at "rd1";refine⟨_,_,.inl (SqL.of (R3.sm _ _ g4')),jW,E,H0,_,l+1+ai d b,h, "back", rfl,rfl,R3,by omega,fun H4 R4=>?_⟩
  walk_at "nx";refine⟨R4.isM (by decide +kernel),bb (R4.sm _ _ g1) (cv _ _ _ _) ?_⟩
  walk_at "rd1";exact⟨_,_,.inr (g2'.same R4.sm),jW,E,H0,_,.inr y,none,rfl,rfl,R4,by omega,q⟩
 | plain ws=>exact hs.elim
 | ite n b c=>exact hs.elim
 | whl n b=>exact hs.elim
theorem B8(D:DefAt K mg "do_if" gU) (a_parts:Fl K CN "parts") (a_blocks:Fl K CN "blocks") (m_Run_takes_more:cI P w K mg base 1 CR "takes_more" ["self", "bound"] (kA K CR)) {d:Nat} (c_do_steps:aM P w K mg base (2 * d+4) "do_steps" ["run", "steps"] (jU K CR CN d)):aM P w K mg base (2 * d+5) "do_if" ["run", "step"] (iG K CR CN d By):=by
 refine D.cal (k:=2 * d+4) Ah (fun _ _ _ _ _ _ us hl=>match us,hl with | [_,_],_=>rfl) (fun vs H Q E h=>by obtain⟨E,H0,st,a,l,s,S,_,rfl,_⟩:=h; rfl) (fun f cdv A outer sh H vs Q _ hr h=>?_)
 obtain⟨E,H0,st,a,l,s,S,rfl,rfl,hs,hn,sp,R,hz,q⟩:=h
 refine⟨_,(ak (bd (dC (bn m_Run_takes_more hr (pv 0) (aa (av (aI K) (au a_parts (pv 1)) ae (fun _ _=>rfl)) ac) (hle:=by omega))) (ak (aD (aA c_do_steps hr (aa (pv 0) (aa (av (aI K) (au a_blocks (pv 1)) ae (fun _ _=>rfl)) ac)) (hle:=by omega)))) (ak (aD (aA c_do_steps hr (aa (pv 0) (aa (av (aI K) (au a_blocks (pv 1)) ae (fun _ _=>rfl)) ac)) (hle:=by omega)))))),?_⟩
 cases s with
 | ite n b c=>
  obtain⟨dx,pp,lp,bp,bs,g1,g2,g3,g4,g5,g6,g7⟩:=hn
  have g2':SqT K H0 pp [.int n]:=g2
  cases g7 with
  | cons gb gn=>
  cases gn with
  | cons gc gn=>
  cases gn
  rename_i qb qc
  have gb':NumAt K CN S d H0 qb (l+1) b:=gb
  have gc':NumAt K CN S d H0 qc (l+1+ai d b+1) c:=gc
  have spb:fG d b∧fG d c:=sp
  have e:bF (ai d) (aB E.xs d) E.xs l (.ite n b c) st=if (ao E.xs n st).1=true then aB E.xs d (l+1) b (ao E.xs n st).2 else aB E.xs d (l+1+ai d b+1) c (ao E.xs n st).2:=rfl
  rw[e]at hz q
  walk_at "rd1";refine⟨R.isM (by decide +kernel),bb (R.sm _ _ g1) (cv _ _ _ _) ?_⟩
  walk_at "rd1";refine⟨_,_,.inr (g2'.same R.sm),cw,E,H0,st,n,rfl,rfl,R,fun H1 R1=>?_⟩
  walk_at "rd1";refine aJ (fun c1=>?_) (fun c1=>?_)
  ·rw[if_pos c1]at hz q
   refine bb (R1.sm _ _ g1) (dM _ _ _ _) ?_
   walk_at "rd1";exact⟨_,_,.inl (SqL.of (R1.sm _ _ g6)),cw,E,H0,_,qb,l+1,b,S,rfl,rfl,gb',spb.1,R1,hz,q⟩
  ·rw[if_neg c1]at hz q
   refine bb (R1.sm _ _ g1) (dM _ _ _ _) ?_
   walk_at "rd1";exact⟨_,_,.inl (SqL.of (R1.sm _ _ g6)),jW,E,H0,_,qc,l+1+ai d b+1,c,S,rfl,rfl,gc',spb.2,R1,hz,q⟩
 | plain ws=>exact hs.elim
 | lend x y b=>exact hs.elim
 | whl n b=>exact hs.elim
theorem vL(D:DefAt K mg "do_while" fD) (a_parts:Fl K CN "parts") (a_blocks:Fl K CN "blocks") (m_Run_takes_more:cI P w K mg base 1 CR "takes_more" ["self", "bound"] (kA K CR)) {d:Nat} (c_do_steps:aM P w K mg base (2 * d+4) "do_steps" ["run", "steps"] (jU K CR CN d)):aM P w K mg base (2 * d+5) "do_while" ["run", "step"] (iG K CR CN d Ba):=by
 refine D.cal (k:=2 * d+4) sy (fun _ _ _ _ _ _ us hl=>match us,hl with | [_,_],_=>rfl) (fun vs H Q E h=>by obtain⟨E,H0,st,a,l,s,S,_,rfl,_⟩:=h; rfl) (fun f cdv A outer sh H vs Q _ hr h=>?_)
 obtain⟨E,H0,st,a,l,s,S,rfl,rfl,hs,hn,sp,R,hz,q⟩:=h
 refine⟨_,(ak (rz PassesOwn.never (dC (bn m_Run_takes_more hr (pv 0) (aa (av (aI K) (au a_parts (pv 1)) ae (fun _ _=>rfl)) ac) (hle:=by omega))) (ak (aD (aA c_do_steps hr (aa (pv 0) (aa (av (aI K) (au a_blocks (pv 1)) ae (fun _ _=>rfl)) ac)) (hle:=by omega)))))),?_⟩
 cases s with
 | whl n b=>
  obtain⟨dx,pp,lp,bp,bs,g1,g2,g3,g4,g5,g6,g7⟩:=hn
  have g2':SqT K H0 pp [.int n]:=g2
  cases g7 with
  | cons gb gn=>
  cases gn
  rename_i qb
  have gb':NumAt K CN S d H0 qb (l+1) b:=gb
  have spb:fG d b:=sp
  have e:bF (ai d) (aB E.xs d) E.xs l (.whl n b) st=bO (aB E.xs d (l+1) b) E.xs n E.xs.length st:=rfl
  rw[e]at hz q
  generalize hT:bO (aB E.xs d (l+1) b) E.xs n E.xs.length st=last at hz q;refine⟨fun m σ H'=>∃ st',σ=[some (.ref E.r),some (.ref a)]∧RO K E H0 H' st'∧E.xs.length≤st'.taken+m∧bO (aB E.xs d (l+1) b) E.xs n m st'=last,⟨E.xs.length,st,rfl,R,by omega,hT⟩,?_⟩
  rintro m σ H' ⟨st',rfl,R',hm,hT'⟩
  walk_at "rd1";refine⟨R'.isM (by decide +kernel),bb (R'.sm _ _ g1) (cv _ _ _ _) ?_⟩
  walk_at "rd1";refine⟨_,_,.inr (g2'.same R'.sm),cw,E,H0,st',n,rfl,rfl,R',fun H1 R1=>?_⟩
  walk_at "rd1";refine aJ (fun c1=>?_) (fun c1=>?_)
  ·obtain⟨t1,t2,t3⟩:=oi c1
   cases m with
   | zero=>omega
   | succ m=>
   have hT2:bO (aB E.xs d (l+1) b) E.xs n m (aB E.xs d (l+1) b (ao E.xs n st').2)=last:=by rw[← hT']; show _=(if (ao E.xs n st').1=true then _ else _); rw[if_pos c1]
   have u1:=j4 E.xs d (l+1) b (ao E.xs n st').2;have u2:=nI (f:=aB E.xs d (l+1) b) (j4 E.xs d (l+1) b) E.xs n m (aB E.xs d (l+1) b (ao E.xs n st').2);rw[hT2]at u2
   refine⟨fun σ' H''=>∃ st'',σ'=[some (.ref E.r),some (.ref a)]∧RO K E H0 H'' st''∧E.xs.length≤st''.taken+m∧bO (aB E.xs d (l+1) b) E.xs n m st''=last,fun σ' H'' z=>⟨m,Nat.lt_succ_self _,z⟩,?_⟩
   refine bb (R1.sm _ _ g1) (dM _ _ _ _) ?_
   walk_at "rd1";exact⟨_,_,.inl (SqL.of (R1.sm _ _ g6)),cw,E,H0,_,qb,l+1,b,S,rfl,rfl,gb',spb,R1,by have:=u2.2; omega,fun H2 R2=>⟨_,R2,by have:=u1.1; omega,hT2⟩⟩
  ·refine q _ ?_
   cases m with
   | zero=>
    have e0:ao E.xs n st'=(false,st'):=by unfold ao; rw[List.getElem?_eq_none (by omega)]
    rw[e0]at R1
    have:st'=last:=hT'
    rw[← this]; exact R1
   | succ m=>
    have:(ao E.xs n st').2=last:=by rw[← hT']; show _=(if (ao E.xs n st').1=true then _ else _); rw[if_neg c1]
    rw[← this]; exact R1
 | plain ws=>exact hs.elim
 | lend x y b=>exact hs.elim
 | ite n b c=>exact hs.elim
theorem vg{ws:List Str}(px:eO ws):¬ kindOf (.plain ws) = "lend" ∧ ¬ kindOf (.plain ws) = "if" ∧ ¬ kindOf (.plain ws) = "while" := by
 cases px
 ·show ¬ ("open" : Str) = "lend" ∧ ¬ ("open" : Str) = "if" ∧ ¬ ("open" : Str) = "while"; decide
 ·show ¬ ("drop" : Str) = "lend" ∧ ¬ ("drop" : Str) = "if" ∧ ¬ ("drop" : Str) = "while"; decide
 ·show ¬ ("do" : Str) = "lend" ∧ ¬ ("do" : Str) = "if" ∧ ¬ ("do" : Str) = "while"; decide
 ·show ¬ ("copy" : Str) = "lend" ∧ ¬ ("copy" : Str) = "if" ∧ ¬ ("copy" : Str) = "while"; decide
 ·show ¬ ("tie" : Str) = "lend" ∧ ¬ ("tie" : Str) = "if" ∧ ¬ ("tie" : Str) = "while"; decide
theorem BB(D:DefAt K mg "do_steps" cP) (a_kind:Fl K CN "kind") (c_do_simple:∀ d,aM P w K mg base 4 "do_simple" ["run", "step"] (iG K CR CN d uy))
  (hl:∀ d,aM P w K mg base (2 * d+4) "do_steps" ["run", "steps"] (jU K CR CN d)→aM P w K mg base (2 * d+5) "do_lend" ["run", "step"] (iG K CR CN d yz))
  (hi:∀ d,aM P w K mg base (2 * d+4) "do_steps" ["run", "steps"] (jU K CR CN d)→aM P w K mg base (2 * d+5) "do_if" ["run", "step"] (iG K CR CN d By))
  (hw:∀ d,aM P w K mg base (2 * d+4) "do_steps" ["run", "steps"] (jU K CR CN d)→aM P w K mg base (2 * d+5) "do_while" ["run", "step"] (iG K CR CN d Ba)):∀ d,aM P w K mg base (2 * d+4) "do_steps" ["run", "steps"] (jU K CR CN d)
 | 0=>D.cal (k:=3) sc_do_steps (fun _ _ _ _ _ _ us hl=>match us,hl with | [_,_],_=>rfl) (fun vs H Q E h=>by obtain⟨E,H0,st,p,l,T,S,_,rfl,_⟩:=h; rfl) (fun f cdv A outer s H vs Q _ hr h=>by obtain⟨E,H0,st,p,l,T,S,_,rfl,z,_⟩:=h; exact z.elim)
 | d+1=>by
  have ih:=BB D a_kind c_do_simple hl hi hw d;have c_do_simple:=c_do_simple d;have c_do_lend:=hl d ih;have c_do_if:=hi d ih;have c_do_while:=hw d ih;refine D.cal (k:=2 * d+5) sc_do_steps (fun _ _ _ _ _ _ us hl=>match us,hl with | [_,_],_=>rfl) (fun vs H Q E h=>by obtain⟨E,H0,st,p,l,T,S,_,rfl,_⟩:=h; rfl) (fun f cdv A outer sh H vs Q _ hr h=>?_)
  obtain⟨E,H0,st,p,l,T,S,rfl,rfl,⟨h0,as,h1,h2⟩,shp,R,hz,q⟩:=h
  have eT:aB E.xs (d+1) l T st=(cZ (aR (ai d)) l T).foldl (fun st (z:Nat × Stp)=>bF (ai d) (aB E.xs d) E.xs z.1 z.2 st) st:=rfl
  have hlen:=ay h2
  have hN:∀ z∈cZ (aR (ai d)) l T,nM (fG d) z.2:=fun z hz=>by
   obtain⟨i,hi,rfl⟩:=List.mem_iff_getElem.mp hz
   have hiT:i<T.length:=by rw[fO]at hi; exact hi
   have:=nu (aR (ai d)) l T i T[i] (List.getElem?_eq_getElem hiT)
   rw[List.getElem?_eq_getElem hi]at this
   rw[Option.some.inj this];exact shp _ (List.getElem_mem hiT)
  rw[eT]at hz q
  generalize cZ (aR (ai d)) l T=N at h2 hlen hN hz q;refine⟨_,(ak (cE PassesOwn.never rfl (cr K (pv 1)) (ba 2 sc_do_steps.nd) (ak (bd (aF bz (au a_kind (pv 2)) aw (aL _)) (ak (aD (aA c_do_lend hr (aa (pv 0) (aa (pv 2) ac)) (hle:=by omega)))) (ak (bd (aF bz (au a_kind (pv 2)) aw (aL _)) (ak (aD (aA c_do_if hr (aa (pv 0) (aa (pv 2) ac)) (hle:=by omega)))) (ak (bd (aF bz (au a_kind (pv 2)) aw (aL _)) (ak (aD (aA c_do_while hr (aa (pv 0) (aa (pv 2) ac)) (hle:=by omega)))) (ak (aD (aA c_do_simple hr (aa (pv 0) (aa (pv 2) ac)) (hle:=by omega)))))))))))),?_⟩
  walk_at "rd1";refine⟨⟨_,SqL.of (R.sm _ _ h1)⟩,?_⟩
  refine dh (xs:=as.map V.ref) (fun i σ H'=>∃ o2:Option V,σ=[some (.ref E.r),some (.ref p),o2]∧RO K E H0 H' ((N.take i).foldl (fun st (z:Nat × Stp)=>bF (ai d) (aB E.xs d) E.xs z.1 z.2 st) st))
   ⟨none,rfl,R⟩ (fun i σ H' _ h=>by obtain⟨_,_,R'⟩:=h; exact SqL.of (R'.sm _ _ h1)) ?_ ?_
  ·rintro i v σ H' hv ⟨o2,rfl,R'⟩
   have hi:i<as.length:=by have:=(List.getElem?_eq_some_iff.mp hv).1; simpa using this
   rw[List.getElem?_map,List.getElem?_eq_getElem hi]at hv
   cases hv;obtain⟨z,hz1,hz2⟩:=bw h2 (List.getElem?_eq_getElem hi)
   have hzm:=hN z (List.mem_of_getElem? hz1)
   have es:(N.take (i+1)).foldl (fun st (z:Nat × Stp)=>bF (ai d) (aB E.xs d) E.xs z.1 z.2 st) st=bF (ai d) (aB E.xs d) E.xs z.1 z.2 ((N.take i).foldl (fun st (z:Nat × Stp)=>bF (ai d) (aB E.xs d) E.xs z.1 z.2 st) st):=by
    rw[List.take_add_one,hz1,List.foldl_append]; rfl
   have hup:(bF (ai d) (aB E.xs d) E.xs z.1 z.2 ((N.take i).foldl (fun st (z:Nat × Stp)=>bF (ai d) (aB E.xs d) E.xs z.1 z.2 st) st)).sz≤400000:=by
    have u:=nL (h:=fun st (z:Nat × Stp)=>bF (ai d) (aB E.xs d) E.xs z.1 z.2 st) (fun st z=>uE (f:=ai d) (j4 E.xs d) E.xs z.1 z.2 st) (N.drop (i+1)) ((N.take (i+1)).foldl (fun st (z:Nat × Stp)=>bF (ai d) (aB E.xs d) E.xs z.1 z.2 st) st)
    rw[← List.foldl_append,List.take_append_drop,es]at u
    have:=u.2; omega
   rw[es];generalize (N.take i).foldl (fun st (z:Nat × Stp)=>bF (ai d) (aB E.xs d) E.xs z.1 z.2 st) st=si at R' hup es
   obtain⟨l',s⟩:=z
   have hn:nstpAt K CN (ai d) S (NumAt K CN S d H0) H0 as[i] l' s:=hz2
   obtain⟨dx,pp,lp,bp,bs,g1,_⟩:=id hn
   have k1:=R'.sm _ _ g1;walk_at "rd1";refine bb k1 (bE _ _ _ _) ?_
   walk_at "rd1"
   cases s with
   | plain ws=>
    obtain⟨n1,n2,n3⟩:=vg (show eO ws from hzm)
    refine aJ (fun c=>absurd c n1) (fun _=>?_)
    refine bb k1 (bE _ _ _ _) ?_
    walk_at "rd1";refine aJ (fun c=>absurd c n2) (fun _=>?_)
    refine bb k1 (bE _ _ _ _) ?_
    walk_at "rd1";refine aJ (fun c=>absurd c n3) (fun _=>?_)
    exact⟨E,H0,si,as[i],l',.plain ws,S,rfl,rfl,trivial,hn,hzm,R',hup,fun H2 R2=>⟨_,rfl,R2⟩⟩
   | lend x y b=>
    refine aJ (fun _=>?_) (fun c=>absurd rfl c)
    exact⟨E,H0,si,as[i],l',.lend x y b,S,rfl,rfl,trivial,hn,hzm,R',hup,fun H2 R2=>⟨_,rfl,R2⟩⟩
   | ite n b c=>
    refine aJ (fun c=>absurd c (show ¬ ("if" : Str) = "lend" by decide)) (fun _=>?_)
    refine bb k1 (bE _ _ _ _) ?_
    walk_at "rd1";refine aJ (fun _=>?_) (fun c=>absurd rfl c)
    exact⟨E,H0,si,as[i],l',.ite n b c,S,rfl,rfl,trivial,hn,hzm,R',hup,fun H2 R2=>⟨_,rfl,R2⟩⟩
   | whl n b=>
    refine aJ (fun c=>absurd c (show ¬ ("while" : Str) = "lend" by decide)) (fun _=>?_)
    refine bb k1 (bE _ _ _ _) ?_
    walk_at "rd1";refine aJ (fun c=>absurd c (show ¬ ("while" : Str) = "if" by decide)) (fun _=>?_)
    refine bb k1 (bE _ _ _ _) ?_
    walk_at "rd1";refine aJ (fun _=>?_) (fun c=>absurd rfl c)
    exact⟨E,H0,si,as[i],l',.whl n b,S,rfl,rfl,trivial,hn,hzm,R',hup,fun H2 R2=>⟨_,rfl,R2⟩⟩
  ·rintro σ H' ⟨o2,rfl,R'⟩
   rw[List.length_map,hlen,List.take_length]at R'
   exact q _ R'
def ni(K:PySem.W.Frag)(d:Nat):Sp:=fun vs H Q _=>∃ (p ip:Addr) (T:List Stp) (S:Addr→Prop) (xs:List Int),vs=[.ref p,.ref ip]∧ProgAt S d H p T∧dJ d T∧fG d T∧ai d T≤110∧SqL K H ip (xs.map V.int)∧xs.length≤100∧
 ∀ (q:Addr) (H':Hp) (es:List Addr),Same H H'→H q=none→H' q=some (.lst (es.map V.ref))→Paired (fun a e=>H' a=some (.tup e)) es (dE xs d T).log→(dE xs d T).log.length≤100000→Q (.ref q) H'
theorem DE(D:DefAt K mg "run_plain" cm) (a_log:Fl K CR "log") (k_Run:j_ P w K mg base 1 "Run" CR ["self", "inputs", "watches"] (mR K CR)) (m_Run_end_all:cI P w K mg base 3 CR "end_all" ["self", "line"] (uZ K CR)) (c_line_behind:aM P w K mg base 1 "line_behind" ["steps", "line"] (iq K CN))
  {d:Nat} (c_numbered_steps:aM P w K mg base (2 * (d+1)+4) "numbered_steps" ["steps", "line"] (lT K CN (d+1))) (c_do_steps:aM P w K mg base (2 * (d+1)+4) "do_steps" ["run", "steps"] (jU K CR CN (d+1))):aM P w K mg base (2 * (d+1)+5) "run_plain" ["program", "inputs"] (ni K (d+1)):=by
 refine D.cal (k:=2 * (d+1)+4) sc_run_plain (fun _ _ _ _ _ _ us hl=>match us,hl with | [_,_],_=>rfl) (fun vs H Q E h=>by obtain⟨p,ip,T,S,xs,rfl,_⟩:=h; rfl) (fun f cdv A outer sh H vs Q _ hr h=>?_)
 obtain⟨p,ip,T,S,xs,rfl,hP,ok,shp,hc,hip,hx,q⟩:=h
 have hz:=xD xs (d+1) T;have hz1:3 * ai (d+1) T * (xs.length+1)≤330 * 101:=Nat.mul_le_mul (by omega) (by omega)
 refine⟨_,(af (ax 2 sc_run_plain.nd (aA c_numbered_steps hr (aa (pv 0) (aa ae ac)) (hle:=by omega)))
   (af (ax 3 sc_run_plain.nd (u6 k_Run hr (aa (pv 1) (aa (bA ac) ac)) (hle:=by omega)))
   (af (aD (aA c_do_steps hr (aa (pv 3) (aa (pv 2) ac)) (hle:=by omega)))
   (af (aD (bn m_Run_end_all hr (pv 3) (aa (aA c_line_behind hr (aa (pv 2) (aa ae ac)) (hle:=by omega)) ac) (hle:=by omega)))
   (ak (aG (au a_log (pv 3)))))))),?_⟩
 walk_at "rd1";refine⟨p,0,T,S,rfl,hP,ok,by omega,fun np HA sA hN=>?_⟩
 walk_at "nx";refine⟨by decide,fun wp hwp=>?_⟩
 have sW:=al hwp (.lst []);have eW:upd HA wp (.lst []) wp=some (.lst []):=ah
 have hN:=hN.mono sW;have sA:=sA.trans sW;generalize upd HA wp (.lst [])=HA at hN sA eW ⊢;intro x dx hx0 hdx ndx
 generalize hM:upd (upd HA dx (.own x)) x (.ins CR dx [])=HM
 have sM:Same HA HM:=by rw[← hM]; exact(al hdx (.own x)).upd hx0 _
 have eM:HM x=some (.ins CR dx []):=by rw[← hM,ah]
 refine⟨x,dx,ip,wp,HA,xs,rfl,eM,hx0,sM,sA.seq hip,SqL.of eW,by omega,fun hp lp HB R=>⟨rfl,?_⟩⟩
 walk_at "nx";refine⟨⟨CR,x,ip,hp,lp,xs,wp⟩,HA,rs0,np,0,T,_,rfl,rfl,hN,shp,R,by show (aB xs (d+1) 0 T rs0).sz≤400000; omega,fun HC RC=>?_⟩
 have RC':RO K ⟨CR,x,ip,hp,lp,xs,wp⟩ HA HC (aB xs (d+1) 0 T rs0):=RC
 walk_at "nx";refine⟨RC'.isM (by decide +kernel),np,0,d,T,_,rfl,hN.mono RC'.sm,by omega,?_⟩
 refine⟨⟨CR,x,ip,hp,lp,xs,wp⟩,HA,_,0+ai (d+1) T,rfl,rfl,RC',by omega,fun HD RD=>?_⟩
 walk_at "nx";rw[Nat.zero_add]at RD
 obtain⟨es,l1,l2⟩:=id RD.lg
 refine RD.log (q lp HD es (sA.trans RD.sm) (sA.free RD.fl) l1 l2 ?_)
 show (gQ (ai (d+1) T) (aB xs (d+1) 0 T rs0)).log.length≤100000
 unfold gQ;rw[List.length_append,List.length_map,List.length_range];unfold RS.sz at hz; omega
end
section
variable{P:Program}{w:World}{K:PySem.W.Frag}{mg:Str→Option Value}{base:Heap}
abbrev bJ:=List V
def bR(kv:List (aK × V))(k:aK):V:=(bY kv k).getD .non
def iN(n:Nat):V:=.int (n:Int)
def eX(kv:List (aK × V))(l:Nat)(ws:List Str):bJ:=
 if ws.headD "" = "do" then [.str "do", iN l,bR kv (.inr (ws.getD 2 "")),.str (ws.getD 1 "")] else .str (ws.headD "")::iN l::(ws.drop 1).map fun n=>bR kv (.inr n)
section
variable(kv:List (aK × V))(f:Bool→Nat→Nat→List Stp→List bJ)(cnt:List Stp→Nat)
def fK(t:Bool)(a l:Nat)(x y:Str)(b:List Stp):List bJ:=
 [[.str "copy", iN l,bR kv (.inl l),bR kv (.inr x)],[.str "do", iN l,bR kv (.inl l),.str "lend"],[.str "copy", iN l,bR kv (.inr y),bR kv (.inl l)]]++f t (a+3) (l+1) b ++
 [[.str "do", iN (l+1+cnt b),bR kv (.inl l),.str "back"],[.str "drop", iN (l+1+cnt b),bR kv (.inr y)],[.str "drop", iN (l+1+cnt b),bR kv (.inl l)]]
def jT(t:Bool)(a l:Nat)(n:Int)(b c:List Stp):List bJ:=
 [[.str "test", iN l,.int n,iN (a+1+(f t (a+1) (l+1) b).length+1)]]++f t (a+1) (l+1) b ++
 [[.str "jump", iN (l+1+cnt b),iN (a+1+(f t (a+1) (l+1) b).length+1+(f t (a+1+(f t (a+1) (l+1) b).length+1) (l+1+cnt b+1) c).length)]]++f t (a+1+(f t (a+1) (l+1) b).length+1) (l+1+cnt b+1) c
def dk(a l:Nat)(n:Int)(b:List Stp):List bJ:=
 [[.str "test", iN l,.int n,iN (a+1+(f false (a+1) (l+1) b).length+1)]]++f false (a+1) (l+1) b++[[.str "jump", iN (l+1+cnt b),iN a]]
def em(t:Bool)(a l:Nat)(n:Int)(b:List Stp):List bJ:=
 if t=true then [[.str "test", iN l,.int n,iN (a+1+(f true (a+1) (l+1) b).length+(dk f cnt (a+1+(f true (a+1) (l+1) b).length) l n b).length)]]++f true (a+1) (l+1) b++dk f cnt (a+1+(f true (a+1) (l+1) b).length) l n b
 else dk f cnt a l n b
def fB(t:Bool)(a l:Nat):Stp→List bJ
 | .plain ws=>[eX kv l ws]
 | .lend x y b=>fK kv f cnt t a l x y b
 | .ite n b c=>jT f cnt t a l n b c
 | .whl n b=>em f cnt t a l n b
end
def dB(g:Nat→Nat→Stp→List bJ)(c:Stp→Nat):Nat→Nat→List Stp→List bJ
 | _,_,[]=>[]
 | a,l,s::T=>g a l s++dB g c (a+(g a l s).length) (l+c s) T
theorem lj(g:Nat→Nat→Stp→List bJ)(c:Stp→Nat)(s:Stp):∀ (T:List Stp) (a l:Nat),dB g c a l (T++[s])=dB g c a l T++g (a+(dB g c a l T).length) (l+(T.map c).sum) s
 | [],a,l=>by simp[dB]
 | t::T,a,l=>by
  show g a l t++dB g c _ _ (T++[s])=(g a l t++dB g c _ _ T)++_
  have e:(dB g c a l (t::T)).length=(g a l t).length+(dB g c (a+(g a l t).length) (l+c t) T).length:=List.length_append
  rw[lj g c s T,List.append_assoc,e,List.map_cons,List.sum_cons,Nat.add_assoc,Nat.add_assoc]
def aS(kv:List (aK × V)):Nat→Bool→Nat→Nat→List Stp→List bJ
 | 0,_,_,_,_=>[]
 | d+1,t,a,l,T=>dB (fB kv (aS kv d) (ai d) t) (aR (ai d)) a l T
theorem jz{f:Bool→Nat→Nat→List Stp→List bJ}{cnt:List Stp→Nat}{a l:Nat}{n:Int}{b:List Stp}:(dk f cnt a l n b).length=(f false (a+1) (l+1) b).length+2:=by
 unfold dk; simp
theorem yN{kv:List (aK × V)}{f:Bool→Nat→Nat→List Stp→List bJ}{cnt:List Stp→Nat}{m:Nat}(h0:∀ a l T,(f false a l T).length≤6 * cnt T)(h1:∀ a l T,(f true a l T).length≤6 * m * cnt T)(hm:1≤m):∀ (s:Stp) (t:Bool) (a l:Nat),(fB kv f cnt t a l s).length≤(if t=true then 6 * (m+1) else 6) * aR cnt s
 | .plain ws,t,a,l=>by
  show 1≤_ * 1
  split <;> omega
 | .lend x y b,t,a,l=>by
  cases t with
  | false=>
   have:=h0 (a+3) (l+1) b
   show (fK kv f cnt false a l x y b).length≤6 * (cnt b+2)
   unfold fK;simp only[List.length_append,List.length_cons,List.length_nil]
   omega
  | true=>
   have:=h1 (a+3) (l+1) b
   show (fK kv f cnt true a l x y b).length≤6 * (m+1) * (cnt b+2)
   unfold fK;simp only[List.length_append,List.length_cons,List.length_nil]
   have e:6 * (m+1) * (cnt b+2)=6 * m * cnt b+6 * cnt b+12 * m+12:=by rw[Nat.mul_add 6 m 1,Nat.add_mul,Nat.mul_add,Nat.mul_add]; omega
   omega
 | .ite n b c,t,a,l=>by
  cases t with
  | false=>
   have:=h0 (a+1) (l+1) b
   have:=h0 (a+1+(f false (a+1) (l+1) b).length+1) (l+1+cnt b+1) c
   show (jT f cnt false a l n b c).length≤6 * (cnt b+cnt c+3)
   unfold jT;simp only[List.length_append,List.length_cons,List.length_nil]
   omega
  | true=>
   have:=h1 (a+1) (l+1) b
   have:=h1 (a+1+(f true (a+1) (l+1) b).length+1) (l+1+cnt b+1) c
   show (jT f cnt true a l n b c).length≤6 * (m+1) * (cnt b+cnt c+3)
   unfold jT;simp only[List.length_append,List.length_cons,List.length_nil]
   have e:6 * (m+1) * (cnt b+cnt c+3)=6 * m * cnt b+6 * m * cnt c+18 * m+6 * cnt b+6 * cnt c+18:=by rw[Nat.mul_add 6 m 1,Nat.add_mul,Nat.mul_add,Nat.mul_add,Nat.mul_add,Nat.mul_add]; omega
   omega
 | .whl n b,t,a,l=>by
  cases t with
  | false=>
   have:=h0 (a+1) (l+1) b
   show (em f cnt false a l n b).length≤6 * (cnt b+2)
   unfold em;rw[if_neg (by decide),jz]
   omega
  | true=>
   have:=h1 (a+1) (l+1) b
   have:=h0 (a+1+(f true (a+1) (l+1) b).length+1) (l+1) b
   show (em f cnt true a l n b).length≤6 * (m+1) * (cnt b+2)
   unfold em;rw[if_pos rfl];simp only[List.length_append,List.length_cons,List.length_nil,jz]
   have e:6 * (m+1) * (cnt b+2)=6 * m * cnt b+6 * cnt b+12 * m+12:=by rw[Nat.mul_add 6 m 1,Nat.add_mul,Nat.mul_add,Nat.mul_add]; omega
   omega
theorem rh{g:Nat→Nat→Stp→List bJ}{c:Stp→Nat}{k:Nat}(h:∀ s a l,(g a l s).length≤k * c s):∀ (T:List Stp) (a l:Nat),(dB g c a l T).length≤k * (T.map c).sum
 | [],_,_=>Nat.zero_le _
 | s::T,a,l=>by
  have:=h s a l
  have:=rh h T (a+(g a l s).length) (l+c s)
  show (g a l s++dB g c (a+(g a l s).length) (l+c s) T).length≤k * (c s+(T.map c).sum)
  rw[List.length_append,Nat.mul_add]; omega
theorem qY(kv:List (aK × V)):∀ (d:Nat) (a l:Nat) (T:List Stp),(aS kv d false a l T).length≤6 * ai d T∧(aS kv d true a l T).length≤6 * (d+1) * ai d T
 | 0,_,_,_=>⟨Nat.zero_le _,Nat.zero_le _⟩
 | d+1,a,l,T=>by
  have ih:=qY kv d;have st:=yN (kv:=kv) (f:=aS kv d) (cnt:=ai d) (m:=d+1) (fun a l T=>(ih a l T).1) (fun a l T=>(ih a l T).2) (by omega)
  exact⟨rh (k:=6) (fun s a l=>by have:=st s false a l; simpa using this) T a l,rh (k:=6 * (d+1+1)) (fun s a l=>by have:=st s true a l; simpa using this) T a l⟩
def ci(H:Hp)(c:Addr)(r:bJ):Prop:=H c=some (.tup r)
def gk(ws:List Str):List Str:=if ws.headD "" = "do" then [ws.getD 2 ""] else ws.drop 1
def fw(kv:List (aK × V))(k:aK):Prop:=bY kv k=some (bR kv k)
def nn(kv:List (aK × V))(f:Nat→List Stp→Prop)(cnt:List Stp→Nat)(l:Nat):Stp→Prop
 | .plain ws=>(ws.headD "" = "do" → ws.length=3)∧∀ n∈gk ws,fw kv (.inr n)
 | .lend x y b=>fw kv (.inr x)∧fw kv (.inr y)∧fw kv (.inl (l:Int))∧f (l+1) b
 | .ite _ b c=>f (l+1) b∧f (l+1+cnt b+1) c
 | .whl _ b=>f (l+1) b
def e_(kv:List (aK × V)):Nat→Nat→List Stp→Prop
 | 0,_,_=>False
 | d+1,l,T=>∀ z∈cZ (aR (ai d)) l T,nn kv (e_ kv d) (ai d) z.1 z.2
section
variable{CN:Addr}
def zf(K:PySem.W.Frag)(C:Addr):Sp:=fun vs H Q _=>∃ (a sp:Addr) (l:Nat) (ws:List Str) (kv:List (aK × V)) (S:Addr→Prop) (PA:Addr→Nat→List Stp→Prop) (g:List Stp→Nat) (f:Nat→List Stp→Prop),vs=[.ref a,.ref sp]∧nstpAt K C g S PA H a l (.plain ws)∧iB ws∧H sp=some (.dK kv)∧nn kv f g l (.plain ws)∧
 ∀ (t:Addr) (H':Hp),Same H H'→ci H' t (eX kv l ws)→Q (.ref t) H'
theorem yg(D:DefAt K mg "simple_row" bQ) (z_tuple:mg "tuple" = none) (a_kind:Fl K CN "kind") (a_parts:Fl K CN "parts") (a_lines:Fl K CN "lines"):aM P w K mg base 1 "simple_row" ["step", "slots"] (zf K CN):=by
 refine D.cal (k:=0) sc_simple_row (fun _ _ _ _ _ _ us hl=>match us,hl with | [_,_],_=>rfl) (fun vs H Q E h=>by obtain⟨_,_,_,_,_,_,_,_,_,rfl,_⟩:=h; rfl) (fun f cdv A outer s H vs Q E hr h=>?_)
 obtain⟨a,sp,l,ws,kv,S,PA,g,ff,rfl,⟨dx,pp,lp,bp,bs,g1,g2,g3,g4,g5,g6,g7⟩,ok,esp,⟨hk3,hks⟩,q⟩:=h
 refine⟨_,(af (ax 2 sc_simple_row.nd (av (aI K) (au a_lines (pv 0)) ae (fun _ _=>rfl)))
   (af (bd (aF bz (au a_kind (pv 0)) aw (aL _)) (ak (aG (bB (aa aw (aa (pv 2) (aa (av (qT K) (pv 1 (hv:=Hr)) (av (aI K) (au a_parts (pv 0)) ae (fun _ _=>rfl)) (fun _ _=>rfl)) (aa (av (aI K) (au a_parts (pv 0)) ae (fun _ _=>rfl)) ac))))))) bu)
   (ak (aG (ap (yT K) (bB (aa (au a_kind (pv 0)) (aa (pv 2) ac))) (ga (xL K) z_tuple pQ (aa (fT (CompSc.to (fsc:=(defScope bQ)) (N:=["step", "slots", "line"]) (N0:=["step", "slots", "line"]) (T:=["name"]) ⟨by decide +kernel,by decide +kernel,by decide +kernel,by decide +kernel,by decide +kernel,by decide +kernel,by decide +kernel⟩ rfl rfl) rfl ((kJ K) (au a_parts (pv 0))) (fun _ _ _ _=>(ba 3 (show (["step", "slots", "line", "name"]:List Str).Nodup from by decide +kernel) (hx:=(iu (defScope bQ) (by decide +kernel))) (hf:=km (defScope bQ) (by decide +kernel)))) (dy (show (["step", "slots", "line"]:List Str).length≤3 from by decide)) (fun _ _ _ _=>hU) (fun _ _ _ _=>(av (qT K) (pv 1 (hv:=(dz (defScope bQ) (by decide +kernel)))) (pv 3 (hv:=(dz (defScope bQ) (by decide +kernel)))) (fun _ _=>rfl)))) ac))))))),?_⟩
 walk_at "rd1";refine⟨dx,_,_,g1,cF _ _ _ _,?_⟩
 walk_at "rd1";refine⟨_,_,.inl (SqL.of g4),fz (i:=0) (n:=l) rfl,?_⟩
 walk_at "nx";refine⟨dx,_,_,g1,bE _ _ _ _,?_⟩
 walk_at "rd1";unfold eX at q;unfold gk at hks;refine aJ (fun c=>?_) (fun c=>?_)
 ·have hdo:ws.headD "" = "do" := c
  rw[if_pos hdo]at q hks
  obtain⟨k0,w0,x0,rfl⟩ : ∃ k w x,ws=[k,w,x]:=by
   have:=hk3 hdo
   match ws,this with
   | [k,w,x],_=>exact⟨k,w,x,rfl⟩
  have hx:=hks x0 (by simp)
  refine⟨dx,_,_,g1,cv _ _ _ _,?_⟩
  walk_at "rd1";refine⟨_,_,.inr g2,aT (j:=1) (v:=.str x0) rfl,?_⟩
  refine .inr ⟨sp,kv,.inr x0,_,rfl,rfl,esp,hx,?_⟩
  refine⟨dx,_,_,g1,cv _ _ _ _,?_⟩
  walk_at "rd1";refine⟨_,_,.inr g2,aT (j:=0) (v:=.str w0) rfl,by decide,fun t ht=>?_⟩
  exact q t _ (al ht _) ah
 ·have hdo:¬ ws.headD "" = "do" := c
  rw[if_neg hdo]at q hks
  walk_at "nx";refine⟨dx,_,_,g1,bE _ _ _ _,by decide,fun t1 ht1=>?_⟩
  generalize hH1:upd H t1 _=H1
  have s1:Same H H1:=by rw[← hH1]; exact al ht1 _
  have et1:H1 t1=some (.tup [.str (kindOf (.plain ws)),iN l]):=by rw[← hH1]; exact ah
  refine⟨dx,_,_,s1 _ _ g1,cv _ _ _ _,?_⟩
  refine⟨pp,rfl,⟨_,g2.same s1⟩,fun L hL=>?_⟩
  have g2':SqT K H1 pp ((ws.drop 1).map V.str):=g2.same s1
  have esp1:=s1 _ _ esp;refine n9 (xs:=(ws.drop 1).map V.str) (fun i ys H'=>Same H1 H'∧H' L=some (.lst ys)∧ys=((ws.drop 1).take i).map fun n=>bR kv (.inr n)) ⟨al hL _,ah,rfl⟩ (fun i ys H' _ hh=>g2'.same hh.1) ?_ ?_
  ·rintro i ys H' v hv hi ⟨sm,hl,rfl⟩
   rw[List.length_map]at hi
   rw[List.getElem?_map,List.getElem?_eq_getElem hi]at hv
   cases hv;have hn:=hks _ (List.getElem_mem hi);have h3:=ok.three;have hdl:(ws.drop 1).length≤3:=by rw[List.length_drop]; omega
   walk_at "rd1";refine .inr ⟨sp,kv,.inr (ws.drop 1)[i],_,rfl,rfl,sm _ _ esp1,hn,?_⟩
   refine uV (by rw[List.length_map]; exact hi) (by rw[List.length_map,List.length_take]; omega) (by rw[List.length_map]; exact a_ (by omega)) hl ⟨sm.upd hL _,ah,?_⟩
   rw[List.take_add_one,List.getElem?_eq_getElem hi,List.map_append]; rfl
  ·rintro ys H2 ⟨s2,e2,rfl⟩
   rw[List.length_map,List.take_length]at e2
   have h2:=ok.two;have h3:=ok.three;have hdl:(ws.drop 1).length≤3∧1≤(ws.drop 1).length:=by rw[List.length_drop]; omega
   walk_at "rd1";refine⟨_,.inl ⟨SqL.of e2,fun t2 ht2=>?_⟩⟩
   have s3:=al ht2 (.tup ((ws.drop 1).map fun n=>bR kv (.inr n)))
   have et2:upd H2 t2 (.tup ((ws.drop 1).map fun n=>bR kv (.inr n))) t2=some (.tup ((ws.drop 1).map fun n=>bR kv (.inr n))):=ah
   generalize upd H2 t2 (.tup ((ws.drop 1).map fun n=>bR kv (.inr n)))=H3 at s3 et2 ⊢
   refine⟨_,_,SqT.of (s3 _ _ (s2 _ _ et1)),SqT.of et2,by simp,by rw[List.length_map]; exact a_ (by simp only[List.length_cons,List.length_nil]; omega),fun hz=>?_,fun _ t3 ht3=>?_⟩
   ·have:=congrArg List.length hz
    rw[List.length_map]at this
    simp only[List.length_nil]at this
    omega
   ·exact q t3 _ (((s1.trans s2).trans s3).trans (al ht3 _)) ah
end
def ListR(H:Hp)(q:Addr)(rows:List bJ):Prop:=∃ as:List Addr,H q=some (.lst (as.map V.ref))∧Paired (ci H) as rows
theorem ListR.mono{H H':Hp}{q:Addr}{rows:List bJ}(h:ListR H q rows)(s:Same H H'):ListR H' q rows:=let ⟨as,h1,h2⟩:=h; ⟨as,s _ _ h1,Paired.imp' (fun _ _ z=>s _ _ z) h2⟩
theorem gD{α β : Type}{R:α→β→Prop}:∀ {xs zs:List α} {ys us:List β},Paired R xs ys→Paired R zs us→Paired R (xs++zs) (ys++us)
 | _,_,_,_,.nil,h=>h
 | _,_,_,_,.cons a t,h=>.cons a (gD t h)
theorem fI{H:Hp}{x:Addr}{as bs:List Addr}{r1 r2:List bJ}(a2:Paired (ci H) as r1)(b2:Paired (ci H) bs r2)(hx:H x=none):ListR (upd H x (.lst (as.map V.ref++bs.map V.ref))) x (r1++r2):=by
 have s:=al hx (.lst (as.map V.ref++bs.map V.ref));exact⟨as++bs,by rw[ah,List.map_append],gD (Paired.imp' (fun _ _ z=>s _ _ z) a2) (Paired.imp' (fun _ _ z=>s _ _ z) b2)⟩
theorem eV{H:Hp}{as bs:List Addr}{r1 r2:List bJ}(a2:Paired (ci H) as r1)(b2:Paired (ci H) bs r2)(hl:r1.length+r2.length≤1000000):(as.map V.ref).length+(bs.map V.ref).length≤sizeLine:=by
 rw[List.length_map,List.length_map,ay a2,ay b2]; exact a_ hl
theorem gX{H:Hp}{c x:Addr}{r:bJ}(hc:ci H c r)(hx:H x=none):ListR (upd H x (.lst [.ref c])) x [r]:=⟨[c],ah,.cons (al hx _ _ _ hc) .nil⟩
section
variable{CN:Addr}
def gZ(K:PySem.W.Frag)(C:Addr)(d:Nat):Sp:=fun vs H Q _=>∃ (p sp:Addr) (a l:Nat) (t:Bool) (T:List Stp) (kv:List (aK × V)) (S:Addr→Prop),vs=[.ref p,.int (a:Int),.ref sp,.bl t]∧NumAt K C S d H p l T∧dJ d T∧H sp=some (.dK kv)∧e_ kv d l T∧ai d T≤200∧d≤20∧
 ∀ (q:Addr) (H':Hp),Same H H'→H q=none→ListR H' q (aS kv d t a l T)→Q (.ref q) H'
def yv(K:PySem.W.Frag)(C:Addr)(d:Nat):Sp:=fun vs H Q _=>∃ (x sp:Addr) (a l:Nat) (n:Int) (b:List Stp) (kv:List (aK × V)) (S:Addr→Prop),vs=[.ref x,.int (a:Int),.ref sp]∧nstpAt K C (ai d) S (NumAt K C S d H) H x l (.whl n b)∧dJ d b∧H sp=some (.dK kv)∧e_ kv d (l+1) b∧ai d b≤200∧d≤20∧
 ∀ (q:Addr) (H':Hp),Same H H'→H q=none→ListR H' q (dk (aS kv d) (ai d) a l n b)→Q (.ref q) H'
theorem eh{kv:List (aK × V)}{d a l:Nat}{t:Bool}{T:List Stp}(h:ai d T≤200)(hd:d≤20):(aS kv d t a l T).length≤30000:=by
 have h1:=qY kv d a l T;have h2:6 * (d+1) * ai d T≤6 * 21 * 200:=Nat.mul_le_mul (by omega) h
 cases t with
 | false=>omega
 | true=>omega
theorem BW(D:DefAt K mg "loop_rows" cj) (z_len:mg "len" = none) (a_parts:Fl K CN "parts") (a_lines:Fl K CN "lines") (a_blocks:Fl K CN "blocks") {d:Nat} (c_rows_of:aM P w K mg base (3 * d+2) "rows_of" ["steps", "at", "slots", "turned"] (gZ K CN d)):aM P w K mg base (3 * d+3) "loop_rows" ["step", "at", "slots"] (yv K CN d):=by
 refine D.cal (k:=3 * d+2) sc_loop_rows (fun _ _ _ _ _ _ us hl=>match us,hl with | [_,_,_],_=>rfl) (fun vs H Q E h=>by obtain⟨_,_,_,_,_,_,_,_,rfl,_⟩:=h; rfl) (fun f cdv A outer s H vs Q E hr h=>?_)
 obtain⟨x,sp,a,l,n,b,kv,S,rfl,⟨dx,pp,lp,bp,bs,g1,g2,g3,g4,g5,g6,g7⟩,ok,esp,hk,hc,hd,q⟩:=h
 obtain⟨q0,rfl⟩ : ∃ q0,bs=[q0]:=by
  cases g7 with
  | cons _ t=>cases t; exact⟨_,rfl⟩
 have hb:NumAt K CN S d H q0 (l+1) b:=by
  cases g7 with
  | cons h _=>exact h
 refine⟨_,(af (ax 3 sc_loop_rows.nd (aA c_rows_of hr (aa (av (aI K) (au a_blocks (pv 0)) ae (fun _ _=>rfl)) (aa (ap aC (pv 1) ae) (aa (pv 2) (aa fg ac)))) (hle:=by omega)))
   (af (ax 4 sc_loop_rows.nd (ap aC (ap aC (ap aC (pv 1) ae) (bm (aV K) z_len bL (aa (pv 3) ac))) ae))
   (ak (aG (ap aC (ap aC (bA (aa (bB (aa aw (aa (av (aI K) (au a_lines (pv 0)) ae (fun _ _=>rfl)) (aa (av (aI K) (au a_parts (pv 0)) ae (fun _ _=>rfl)) (aa (pv 4) ac))))) ac)) (pv 3)) (bA (aa (bB (aa aw (aa (av (aI K) (au a_lines (pv 0)) ae (fun _ _=>rfl)) (aa (pv 1) ac)))) ac))))))),?_⟩
 walk_at "rd1";refine⟨dx,_,_,g1,dM _ _ _ _,?_⟩
 walk_at "rd1";refine⟨_,_,.inl (SqL.of g6),aT (j:=0) (v:=V.ref q0) rfl,?_⟩
 refine⟨q0,sp,a+1,l+1,false,b,kv,S,by simp,hb,ok,esp,hk,hc,hd,fun wq H1 s1 hwq hW=>?_⟩
 have hWl:=eh (kv:=kv) (a:=a+1) (l:=l+1) (t:=false) hc hd;generalize hWW:aS kv d false (a+1) (l+1) b=W at hW hWl;obtain⟨was,w1,w2⟩:=id hW
 have wl:=ay w2;walk_at "nx";refine⟨_,.inl (SqL.of w1),?_⟩
 rw[List.length_map,wl];walk_at "nx";refine⟨dx,_,_,s1 _ _ g1,cF _ _ _ _,?_⟩
 walk_at "rd1";refine⟨_,_,.inl (SqL.of (s1 _ _ g4)),fz (i:=0) (n:=l) rfl,?_⟩
 refine⟨dx,_,_,s1 _ _ g1,cv _ _ _ _,?_⟩
 walk_at "rd1";refine⟨_,_,.inr (g2.same s1),aT (j:=0) (v:=V.int n) rfl,by decide,fun t1 ht1=>?_⟩
 generalize hH2:upd H1 t1 _=H2
 have s2:Same H1 H2:=by rw[← hH2]; exact al ht1 _
 have et1:ci H2 t1 [.str "test", iN l,.int n,iN (a+1+W.length+1)]:=by
  show H2 t1=_
  rw[← hH2,ah];simp[iN]
 refine⟨by decide,fun l1 hl1=>?_⟩
 have s3:=al hl1 (.lst [.ref t1]);have L1:=gX et1 hl1;generalize upd H2 l1 (.lst [.ref t1])=H3 at s3 L1 ⊢;have s13:=s2.trans s3;obtain⟨as1,a1,a2⟩:=L1
 obtain⟨bs1,b1,b2⟩:=hW.mono s13
 refine⟨_,_,a1,b1,eV a2 b2 (by simp only[List.length_cons,List.length_nil]; omega),fun l2 hl2=>?_⟩
 have s4:=al hl2 (.lst (as1.map V.ref++bs1.map V.ref));have L2:=fI a2 b2 hl2;generalize upd H3 l2 (.lst (as1.map V.ref++bs1.map V.ref))=H4 at s4 L2 ⊢;have s04:=(s1.trans s13).trans s4;refine⟨dx,_,_,s04 _ _ g1,cF _ _ _ _,?_⟩
 walk_at "rd1";refine⟨_,_,.inl (SqL.of (s04 _ _ g4)),fz (i:=1) (n:=l+1+ai d b) rfl,by decide,fun t2 ht2=>?_⟩
 generalize hH5:upd H4 t2 _=H5
 have s5:Same H4 H5:=by rw[← hH5]; exact al ht2 _
 have et2:ci H5 t2 [.str "jump", iN (l+1+ai d b),iN a]:=by
  show H5 t2=_
  rw[← hH5,ah];simp[iN]
 refine⟨by decide,fun l3 hl3=>?_⟩
 have s6:=al hl3 (.lst [.ref t2]);have L3:=gX et2 hl3;generalize upd H5 l3 (.lst [.ref t2])=H6 at s6 L3 ⊢;obtain⟨as2,c1,c2⟩:=L2.mono (s5.trans s6)
 obtain⟨bs2,d1,d2⟩:=L3
 refine⟨_,_,c1,d1,eV c2 d2 (by simp only[List.length_append,List.length_cons,List.length_nil]; omega),fun l4 hl4=>?_⟩
 have s7:=al hl4 (.lst (as2.map V.ref++bs2.map V.ref));have L4:=fI c2 d2 hl4;generalize upd H6 l4 (.lst (as2.map V.ref++bs2.map V.ref))=H7 at s7 L4 ⊢;refine q l4 H7 (((s04.trans s5).trans s6).trans s7) (((s04.trans s5).trans s6).free hl4) ?_
 unfold dk;rw[hWW];exact L4
end
section
variable{CN:Addr}
def AD(K:PySem.W.Frag)(C:Addr)(d:Nat):Sp:=fun vs H Q _=>∃ (x sp:Addr) (a l:Nat) (t:Bool) (n:Int) (b:List Stp) (kv:List (aK × V)) (S:Addr→Prop),vs=[.ref x,.int (a:Int),.ref sp,.bl t]∧nstpAt K C (ai d) S (NumAt K C S d H) H x l (.whl n b)∧dJ d b∧H sp=some (.dK kv)∧e_ kv d (l+1) b∧ai d b≤200∧d≤20∧
 ∀ (q:Addr) (H':Hp),Same H H'→H q=none→ListR H' q (em (aS kv d) (ai d) t a l n b)→Q (.ref q) H'
theorem zI(D:DefAt K mg "while_rows" bv) (z_len:mg "len" = none) (a_parts:Fl K CN "parts") (a_lines:Fl K CN "lines") (a_blocks:Fl K CN "blocks") {d:Nat} (c_rows_of:aM P w K mg base (3 * d+2) "rows_of" ["steps", "at", "slots", "turned"] (gZ K CN d)) (c_loop_rows:aM P w K mg base (3 * d+3) "loop_rows" ["step", "at", "slots"] (yv K CN d)):aM P w K mg base (3 * d+4) "while_rows" ["step", "at", "slots", "turned"] (AD K CN d):=by
 refine D.cal (k:=3 * d+3) sc_while_rows (fun _ _ _ _ _ _ us hl=>match us,hl with | [_,_,_,_],_=>rfl) (fun vs H Q E h=>by obtain⟨_,_,_,_,_,_,_,_,_,rfl,_⟩:=h; rfl) (fun f cdv A outer s H vs Q E hr h=>?_)
 obtain⟨x,sp,a,l,t,n,b,kv,S,rfl,hN,ok,esp,hk,hc,hd,q⟩:=h
 obtain⟨dx,pp,lp,bp,bs,g1,g2,g3,g4,g5,g6,g7⟩:=id hN
 obtain⟨q0,rfl⟩ : ∃ q0,bs=[q0]:=by
  cases g7 with
  | cons _ t=>cases t; exact⟨_,rfl⟩
 have hb:NumAt K CN S d H q0 (l+1) b:=by
  cases g7 with
  | cons h _=>exact h
 refine⟨_,(af (bd (fm (dC (pv 3))) (ak (aG (aA c_loop_rows hr (aa (pv 0) (aa (pv 1) (aa (pv 2) ac))) (hle:=by omega)))) bu)
   (af (ax 4 sc_while_rows.nd (aA c_rows_of hr (aa (av (aI K) (au a_blocks (pv 0)) ae (fun _ _=>rfl)) (aa (ap aC (pv 1) ae) (aa (pv 2) (aa fg ac)))) (hle:=by omega)))
   (af (ax 5 sc_while_rows.nd (aA c_loop_rows hr (aa (pv 0) (aa (ap aC (ap aC (pv 1) ae) (bm (aV K) z_len bL (aa (pv 4) ac))) (aa (pv 2) ac))) (hle:=by omega)))
   (af (ax 6 sc_while_rows.nd (ap aC (ap aC (ap aC (pv 1) ae) (bm (aV K) z_len bL (aa (pv 4) ac))) (bm (aV K) z_len bL (aa (pv 5) ac))))
   (ak (aG (ap aC (ap aC (bA (aa (bB (aa aw (aa (av (aI K) (au a_lines (pv 0)) ae (fun _ _=>rfl)) (aa (av (aI K) (au a_parts (pv 0)) ae (fun _ _=>rfl)) (aa (pv 6) ac))))) ac)) (pv 4)) (pv 5)))))))),?_⟩
 walk_at "rd1"
 cases t with
 | false=>
  refine aJ (fun _=>?_) (fun c=>absurd rfl c)
  exact⟨x,sp,a,l,n,b,kv,S,rfl,hN,ok,esp,hk,hc,hd,fun q' H' s' hq' L'=>q q' H' s' hq' (by unfold em; rw[if_neg (by decide)]; exact L')⟩
 | true=>
  refine aJ (fun c=>absurd c (by decide)) (fun _=>?_)
  walk_at "nx";refine⟨dx,_,_,g1,dM _ _ _ _,?_⟩
  walk_at "rd1";refine⟨_,_,.inl (SqL.of g6),aT (j:=0) (v:=V.ref q0) rfl,?_⟩
  refine⟨q0,sp,a+1,l+1,true,b,kv,S,by simp,hb,ok,esp,hk,hc,hd,fun wq H1 s1 hwq hW=>?_⟩
  have hWl:=eh (kv:=kv) (a:=a+1) (l:=l+1) (t:=true) hc hd;generalize hWW:aS kv d true (a+1) (l+1) b=W at hW hWl;obtain⟨was,w1,w2⟩:=id hW
  have wl:=ay w2;walk_at "nx";refine⟨_,.inl (SqL.of w1),?_⟩
  rw[List.length_map,wl];walk_at "rd1";refine⟨x,sp,a+1+W.length,l,n,b,kv,S,by simp,hN.mono s1,ok,s1 _ _ esp,hk,hc,hd,fun lq H2 s2 hlq hLp=>?_⟩
  have hLl:(dk (aS kv d) (ai d) (a+1+W.length) l n b).length≤30002:=by
   rw[jz];have:=eh (kv:=kv) (a:=a+1+W.length+1) (l:=l+1) (t:=false) hc hd
   omega
  generalize hLL:dk (aS kv d) (ai d) (a+1+W.length) l n b=LP at hLp hLl;obtain⟨las,l1,l2⟩:=id hLp
  have ll:=ay l2;have s12:=s1.trans s2;walk_at "nx";refine⟨_,.inl (SqL.of (s2 _ _ w1)),?_⟩
  rw[List.length_map,wl];walk_at "rd1";refine⟨_,.inl (SqL.of l1),?_⟩
  rw[List.length_map,ll];walk_at "nx";refine⟨dx,_,_,s12 _ _ g1,cF _ _ _ _,?_⟩
  walk_at "rd1";refine⟨_,_,.inl (SqL.of (s12 _ _ g4)),fz (i:=0) (n:=l) rfl,?_⟩
  refine⟨dx,_,_,s12 _ _ g1,cv _ _ _ _,?_⟩
  walk_at "rd1";refine⟨_,_,.inr (g2.same s12),aT (j:=0) (v:=V.int n) rfl,by decide,fun t1 ht1=>?_⟩
  generalize hH3:upd H2 t1 _=H3
  have s3:Same H2 H3:=by rw[← hH3]; exact al ht1 _
  have et1:ci H3 t1 [.str "test", iN l,.int n,iN (a+1+W.length+LP.length)]:=by
   show H3 t1=_
   rw[← hH3,ah];simp[iN]
  refine⟨by decide,fun m1 hm1=>?_⟩
  have s4:=al hm1 (.lst [.ref t1]);have L1:=gX et1 hm1;generalize upd H3 m1 (.lst [.ref t1])=H4 at s4 L1 ⊢;obtain⟨as1,a1,a2⟩:=L1
  obtain⟨bs1,b1,b2⟩:=hW.mono ((s2.trans s3).trans s4)
  refine⟨_,_,a1,b1,eV a2 b2 (by simp only[List.length_cons,List.length_nil]; omega),fun m2 hm2=>?_⟩
  have s5:=al hm2 (.lst (as1.map V.ref++bs1.map V.ref));have L2:=fI a2 b2 hm2;generalize upd H4 m2 (.lst (as1.map V.ref++bs1.map V.ref))=H5 at s5 L2 ⊢;obtain⟨as2,c1,c2⟩:=L2
  obtain⟨bs2,d1,d2⟩:=hLp.mono ((s3.trans s4).trans s5)
  refine⟨_,_,c1,d1,eV c2 d2 (by simp only[List.length_append,List.length_cons,List.length_nil]; omega),fun m3 hm3=>?_⟩
  have s6:=al hm3 (.lst (as2.map V.ref++bs2.map V.ref));have L4:=fI c2 d2 hm3;generalize upd H5 m3 (.lst (as2.map V.ref++bs2.map V.ref))=H6 at s6 L4 ⊢;have s05:=((s12.trans s3).trans s4).trans s5;refine q m3 H6 (s05.trans s6) (s05.free hm3) ?_
  unfold em;rw[if_pos rfl,hWW,hLL];exact L4
def F4(K:PySem.W.Frag)(C:Addr)(d:Nat):Sp:=fun vs H Q _=>∃ (x sp:Addr) (a l:Nat) (t:Bool) (n:Int) (b c:List Stp) (kv:List (aK × V)) (S:Addr→Prop),vs=[.ref x,.int (a:Int),.ref sp,.bl t]∧nstpAt K C (ai d) S (NumAt K C S d H) H x l (.ite n b c)∧dJ d b∧dJ d c∧H sp=some (.dK kv)∧e_ kv d (l+1) b∧e_ kv d (l+1+ai d b+1) c∧ai d b≤200∧ai d c≤200∧d≤20∧
 ∀ (q:Addr) (H':Hp),Same H H'→H q=none→ListR H' q (jT (aS kv d) (ai d) t a l n b c)→Q (.ref q) H'
theorem FV(D:DefAt K mg "if_rows" bM) (z_len:mg "len" = none) (a_parts:Fl K CN "parts") (a_lines:Fl K CN "lines") (a_blocks:Fl K CN "blocks") {d:Nat} (c_rows_of:aM P w K mg base (3 * d+2) "rows_of" ["steps", "at", "slots", "turned"] (gZ K CN d)):aM P w K mg base (3 * d+3) "if_rows" ["step", "at", "slots", "turned"] (F4 K CN d):=by
 refine D.cal (k:=3 * d+2) sc_if_rows (fun _ _ _ _ _ _ us hl=>match us,hl with | [_,_,_,_],_=>rfl) (fun vs H Q E h=>by obtain⟨_,_,_,_,_,_,_,_,_,_,rfl,_⟩:=h; rfl) (fun f cdv A outer s H vs Q E hr h=>?_)
 obtain⟨x,sp,a,l,t,n,b,c,kv,S,rfl,hN,ok,ok',esp,hk,hk',hc,hc',hd,q⟩:=h
 obtain⟨dx,pp,lp,bp,bs,g1,g2,g3,g4,g5,g6,g7⟩:=id hN
 obtain⟨q0,q1,rfl⟩ : ∃ q0 q1,bs=[q0,q1]:=by
  cases g7 with
  | cons _ t=>cases t with
   | cons _ t=>cases t; exact⟨_,_,rfl⟩
 have hb:NumAt K CN S d H q0 (l+1) b∧NumAt K CN S d H q1 (l+1+ai d b+1) c:=by
  cases g7 with
  | cons h t=>cases t with
   | cons h' _=>exact⟨h,h'⟩
 refine⟨_,(af (ax 4 sc_if_rows.nd (aA c_rows_of hr (aa (av (aI K) (au a_blocks (pv 0)) ae (fun _ _=>rfl)) (aa (ap aC (pv 1) ae) (aa (pv 2) (aa (pv 3) ac)))) (hle:=by omega)))
   (af (ax 5 sc_if_rows.nd (ap aC (ap aC (pv 1) ae) (bm (aV K) z_len bL (aa (pv 4) ac))))
   (af (ax 6 sc_if_rows.nd (aA c_rows_of hr (aa (av (aI K) (au a_blocks (pv 0)) ae (fun _ _=>rfl)) (aa (ap aC (pv 5) ae) (aa (pv 2) (aa (pv 3) ac)))) (hle:=by omega)))
   (af (ax 7 sc_if_rows.nd (ap aC (ap aC (pv 5) ae) (bm (aV K) z_len bL (aa (pv 6) ac))))
   (af (ax 8 sc_if_rows.nd (bB (aa aw (aa (av (aI K) (au a_lines (pv 0)) ae (fun _ _=>rfl)) (aa (av (aI K) (au a_parts (pv 0)) ae (fun _ _=>rfl)) (aa (ap aC (pv 5) ae) ac))))))
   (ak (aG (ap aC (ap aC (ap aC (bA (aa (pv 8) ac)) (pv 4)) (bA (aa (bB (aa aw (aa (av (aI K) (au a_lines (pv 0)) ae (fun _ _=>rfl)) (aa (pv 7) ac)))) ac))) (pv 6))))))))),?_⟩
 walk_at "rd1";refine⟨dx,_,_,g1,dM _ _ _ _,?_⟩
 walk_at "rd1";refine⟨_,_,.inl (SqL.of g6),aT (j:=0) (v:=V.ref q0) rfl,?_⟩
 refine⟨q0,sp,a+1,l+1,t,b,kv,S,by simp,hb.1,ok,esp,hk,hc,hd,fun wq H1 s1 hwq hW=>?_⟩
 have hWl:=eh (kv:=kv) (a:=a+1) (l:=l+1) (t:=t) hc hd;generalize hWW:aS kv d t (a+1) (l+1) b=W at hW hWl;obtain⟨was,w1,w2⟩:=id hW
 have wl:=ay w2;walk_at "nx";refine⟨_,.inl (SqL.of w1),?_⟩
 rw[List.length_map,wl];walk_at "nx";refine⟨dx,_,_,s1 _ _ g1,dM _ _ _ _,?_⟩
 walk_at "rd1";refine⟨_,_,.inl (SqL.of (s1 _ _ g6)),aT (j:=1) (v:=V.ref q1) rfl,?_⟩
 refine⟨q1,sp,a+1+W.length+1,l+1+ai d b+1,t,c,kv,S,by simp,hb.2.mono s1,ok',s1 _ _ esp,hk',hc',hd,fun rq H2 s2 hrq hR=>?_⟩
 have hRl:=eh (kv:=kv) (a:=a+1+W.length+1) (l:=l+1+ai d b+1) (t:=t) hc' hd;generalize hRR:aS kv d t (a+1+W.length+1) (l+1+ai d b+1) c=R at hR hRl;obtain⟨ras,r1,r2⟩:=id hR
 have rl:=ay r2;have s12:=s1.trans s2;walk_at "nx";refine⟨_,.inl (SqL.of r1),?_⟩
 rw[List.length_map,rl];walk_at "nx";refine⟨dx,_,_,s12 _ _ g1,cF _ _ _ _,?_⟩
 walk_at "rd1";refine⟨_,_,.inl (SqL.of (s12 _ _ g4)),fz (i:=0) (n:=l) rfl,?_⟩
 refine⟨dx,_,_,s12 _ _ g1,cv _ _ _ _,?_⟩
 walk_at "rd1";refine⟨_,_,.inr (g2.same s12),aT (j:=0) (v:=V.int n) rfl,by decide,fun t1 ht1=>?_⟩
 generalize hH3:upd H2 t1 _=H3
 have s3:Same H2 H3:=by rw[← hH3]; exact al ht1 _
 have et1:ci H3 t1 [.str "test", iN l,.int n,iN (a+1+W.length+1)]:=by
  show H3 t1=_
  rw[← hH3,ah];simp[iN]
 walk_at "nx";refine⟨by decide,fun m1 hm1=>?_⟩
 have s4:=al hm1 (.lst [.ref t1]);have L1:=gX et1 hm1;generalize upd H3 m1 (.lst [.ref t1])=H4 at s4 L1 ⊢;obtain⟨as1,a1,a2⟩:=L1
 obtain⟨bs1,b1,b2⟩:=hW.mono ((s2.trans s3).trans s4)
 refine⟨_,_,a1,b1,eV a2 b2 (by simp only[List.length_cons,List.length_nil]; omega),fun m2 hm2=>?_⟩
 have s5:=al hm2 (.lst (as1.map V.ref++bs1.map V.ref));have L2:=fI a2 b2 hm2;generalize upd H4 m2 (.lst (as1.map V.ref++bs1.map V.ref))=H5 at s5 L2 ⊢;have s05:=((s12.trans s3).trans s4).trans s5;refine⟨dx,_,_,s05 _ _ g1,cF _ _ _ _,?_⟩
 walk_at "rd1";refine⟨_,_,.inl (SqL.of (s05 _ _ g4)),fz (i:=1) (n:=l+1+ai d b) rfl,by decide,fun t2 ht2=>?_⟩
 generalize hH6:upd H5 t2 _=H6
 have s6:Same H5 H6:=by rw[← hH6]; exact al ht2 _
 have et2:ci H6 t2 [.str "jump", iN (l+1+ai d b),iN (a+1+W.length+1+R.length)]:=by
  show H6 t2=_
  rw[← hH6,ah];simp[iN]
 refine⟨by decide,fun m3 hm3=>?_⟩
 have s7:=al hm3 (.lst [.ref t2]);have L3:=gX et2 hm3;generalize upd H6 m3 (.lst [.ref t2])=H7 at s7 L3 ⊢;obtain⟨as2,c1,c2⟩:=L2.mono (s6.trans s7)
 obtain⟨bs2,d1,d2⟩:=L3
 refine⟨_,_,c1,d1,eV c2 d2 (by simp only[List.length_append,List.length_cons,List.length_nil]; omega),fun m4 hm4=>?_⟩
 have s8:=al hm4 (.lst (as2.map V.ref++bs2.map V.ref));have L4:=fI c2 d2 hm4;generalize upd H7 m4 (.lst (as2.map V.ref++bs2.map V.ref))=H8 at s8 L4 ⊢;obtain⟨as3,e1,e2⟩:=L4
 obtain⟨bs3,f1,f2⟩:=hR.mono (((((s3.trans s4).trans s5).trans s6).trans s7).trans s8)
 refine⟨_,_,e1,f1,eV e2 f2 (by simp only[List.length_append,List.length_cons,List.length_nil]; omega),fun m5 hm5=>?_⟩
 have s9:=al hm5 (.lst (as3.map V.ref++bs3.map V.ref));have L5:=fI e2 f2 hm5;generalize upd H8 m5 (.lst (as3.map V.ref++bs3.map V.ref))=H9 at s9 L5 ⊢;have s08:=((s05.trans s6).trans s7).trans s8;refine q m5 H9 (s08.trans s9) (s08.free hm5) ?_
 unfold jT;rw[hWW,hRR];exact L5
end
section
variable{CN:Addr}
def CT(K:PySem.W.Frag)(C:Addr)(d:Nat):Sp:=fun vs H Q _=>∃ (z sp:Addr) (a l:Nat) (t:Bool) (x y:Str) (b:List Stp) (kv:List (aK × V)) (S:Addr→Prop),vs=[.ref z,.int (a:Int),.ref sp,.bl t]∧nstpAt K C (ai d) S (NumAt K C S d H) H z l (.lend x y b)∧dJ d b∧H sp=some (.dK kv)∧fw kv (.inr x)∧fw kv (.inr y)∧fw kv (.inl (l:Int))∧e_ kv d (l+1) b∧ai d b≤200∧d≤20∧
 ∀ (q:Addr) (H':Hp),Same H H'→H q=none→ListR H' q (fK kv (aS kv d) (ai d) t a l x y b)→Q (.ref q) H'
theorem l8{H:Hp}{c1 c2 c3 x:Addr}{r1 r2 r3:bJ}(h1:ci H c1 r1)(h2:ci H c2 r2)(h3:ci H c3 r3)(hx:H x=none):ListR (upd H x (.lst [.ref c1,.ref c2,.ref c3])) x [r1,r2,r3]:=⟨[c1,c2,c3],ah,.cons (al hx _ _ _ h1) (.cons (al hx _ _ _ h2) (.cons (al hx _ _ _ h3) .nil))⟩
theorem BZ(D:DefAt K mg "lend_rows" aY) (z_len:mg "len" = none) (a_parts:Fl K CN "parts") (a_lines:Fl K CN "lines") (a_blocks:Fl K CN "blocks") {d:Nat} (c_rows_of:aM P w K mg base (3 * d+2) "rows_of" ["steps", "at", "slots", "turned"] (gZ K CN d)):aM P w K mg base (3 * d+3) "lend_rows" ["step", "at", "slots", "turned"] (CT K CN d):=by
 refine D.cal (k:=3 * d+2) sc_lend_rows (fun _ _ _ _ _ _ us hl=>match us,hl with | [_,_,_,_],_=>rfl) (fun vs H Q E h=>by obtain⟨_,_,_,_,_,_,_,_,_,_,rfl,_⟩:=h; rfl) (fun f cdv A outer s H vs Q E hr h=>?_)
 obtain⟨z,sp,a,l,t,x,y,b,kv,S,rfl,hN,ok,esp,kx,ky,kl,hk,hc,hd,q⟩:=h
 obtain⟨dx,pp,lp,bp,bs,g1,g2,g3,g4,g5,g6,g7⟩:=id hN
 obtain⟨q0,rfl⟩ : ∃ q0,bs=[q0]:=by
  cases g7 with
  | cons _ t=>cases t; exact⟨_,rfl⟩
 have hb:NumAt K CN S d H q0 (l+1) b:=by
  cases g7 with
  | cons h _=>exact h
 refine⟨_,(af (ax 4 sc_lend_rows.nd (av (aI K) (au a_lines (pv 0)) ae (fun _ _=>rfl)))
   (af (ax 5 sc_lend_rows.nd (av (aI K) (au a_lines (pv 0)) ae (fun _ _=>rfl)))
   (af (ax 6 sc_lend_rows.nd (av (qT K) (pv 2) (av (aI K) (au a_parts (pv 0)) ae (fun _ _=>rfl)) (fun _ _=>rfl)))
   (af (ax 7 sc_lend_rows.nd (av (qT K) (pv 2) (av (aI K) (au a_parts (pv 0)) ae (fun _ _=>rfl)) (fun _ _=>rfl)))
   (af (ax 8 sc_lend_rows.nd (av (qT K) (pv 2) (pv 4) (fun _ _=>rfl)))
   (af (ax 9 sc_lend_rows.nd (bA (aa (bB (aa aw (aa (pv 4) (aa (pv 8) (aa (pv 6) ac))))) (aa (bB (aa aw (aa (pv 4) (aa (pv 8) (aa aw ac))))) (aa (bB (aa aw (aa (pv 4) (aa (pv 7) (aa (pv 8) ac))))) ac)))))
   (af (ax 10 sc_lend_rows.nd (aA c_rows_of hr (aa (av (aI K) (au a_blocks (pv 0)) ae (fun _ _=>rfl)) (aa (ap aC (pv 1) (bm (aV K) z_len bL (aa (pv 9) ac))) (aa (pv 2) (aa (pv 3) ac)))) (hle:=by omega)))
   (ak (aG (ap aC (ap aC (pv 9) (pv 10)) (bA (aa (bB (aa aw (aa (pv 5) (aa (pv 8) (aa aw ac))))) (aa (bB (aa aw (aa (pv 5) (aa (pv 7) ac)))) (aa (bB (aa aw (aa (pv 5) (aa (pv 8) ac)))) ac)))))))))))))),?_⟩
 walk_at "rd1";refine⟨dx,_,_,g1,cF _ _ _ _,?_⟩
 walk_at "rd1";refine⟨_,_,.inl (SqL.of g4),fz (i:=0) (n:=l) rfl,?_⟩
 walk_at "nx";refine⟨dx,_,_,g1,cF _ _ _ _,?_⟩
 walk_at "rd1";refine⟨_,_,.inl (SqL.of g4),fz (i:=1) (n:=l+1+ai d b) rfl,?_⟩
 walk_at "nx";refine⟨dx,_,_,g1,cv _ _ _ _,?_⟩
 walk_at "rd1";refine⟨_,_,.inr g2,aT (j:=0) (v:=V.str x) rfl,.inr ⟨sp,kv,.inr x,_,rfl,rfl,esp,kx,?_⟩⟩
 walk_at "nx";refine⟨dx,_,_,g1,cv _ _ _ _,?_⟩
 walk_at "rd1";refine⟨_,_,.inr g2,aT (j:=1) (v:=V.str y) rfl,.inr ⟨sp,kv,.inr y,_,rfl,rfl,esp,ky,?_⟩⟩
 walk_at "nx";refine .inr ⟨sp,kv,.inl (l:Int),_,rfl,rfl,esp,kl,?_⟩
 generalize hgx:bR kv (.inr x)=gx
 generalize hgy:bR kv (.inr y)=gy
 generalize hgl:bR kv (.inl (l:Int))=gl
 walk_at "nx";refine⟨by decide,fun t1 ht1=>?_⟩
 generalize hH1:upd H t1 _=H1
 have s1:Same H H1:=by rw[← hH1]; exact al ht1 _
 have r1:ci H1 t1 [.str "copy", iN l,gl,gx]:=by show H1 t1=_; rw[← hH1]; exact ah
 refine⟨by decide,fun t2 ht2=>?_⟩
 generalize hH2:upd H1 t2 _=H2
 have s2:Same H1 H2:=by rw[← hH2]; exact al ht2 _
 have r2:ci H2 t2 [.str "do", iN l,gl,.str "lend"]:=by show H2 t2=_; rw[← hH2]; exact ah
 refine⟨by decide,fun t3 ht3=>?_⟩
 generalize hH3:upd H2 t3 _=H3
 have s3:Same H2 H3:=by rw[← hH3]; exact al ht3 _
 have r3:ci H3 t3 [.str "copy", iN l,gy,gl]:=by show H3 t3=_; rw[← hH3]; exact ah
 refine⟨by decide,fun m1 hm1=>?_⟩
 have s4:=al hm1 (.lst [.ref t1,.ref t2,.ref t3]);have L1:=l8 (s3 _ _ (s2 _ _ r1)) (s3 _ _ r2) r3 hm1;have em1:upd H3 m1 (.lst [.ref t1,.ref t2,.ref t3]) m1=some (.lst [.ref t1,.ref t2,.ref t3]):=ah
 generalize upd H3 m1 (.lst [.ref t1,.ref t2,.ref t3])=H4 at s4 L1 em1 ⊢;have s04:=((s1.trans s2).trans s3).trans s4;walk_at "nx";refine⟨dx,_,_,s04 _ _ g1,dM _ _ _ _,?_⟩
 walk_at "rd1";refine⟨_,_,.inl (SqL.of (s04 _ _ g6)),aT (j:=0) (v:=V.ref q0) rfl,?_⟩
 walk_at "rd1";refine⟨_,.inl (SqL.of em1),?_⟩
 refine⟨q0,sp,a+3,l+1,t,b,kv,S,by simp,hb.mono s04,ok,s04 _ _ esp,hk,hc,hd,fun wq H5 s5 hwq hW=>?_⟩
 have hWl:=eh (kv:=kv) (a:=a+3) (l:=l+1) (t:=t) hc hd;generalize hWW:aS kv d t (a+3) (l+1) b=W at hW hWl;have s05:=s04.trans s5;walk_at "nx";obtain⟨as1,a1,a2⟩:=L1.mono s5
 obtain⟨bs1,b1,b2⟩:=id hW
 refine⟨_,_,a1,b1,eV a2 b2 (by simp only[List.length_cons,List.length_nil]; omega),fun m2 hm2=>?_⟩
 have s6:=al hm2 (.lst (as1.map V.ref++bs1.map V.ref));have L2:=fI a2 b2 hm2;generalize upd H5 m2 (.lst (as1.map V.ref++bs1.map V.ref))=H6 at s6 L2 ⊢;refine⟨by decide,fun t4 ht4=>?_⟩
 generalize hH7:upd H6 t4 _=H7
 have s7:Same H6 H7:=by rw[← hH7]; exact al ht4 _
 have r4:ci H7 t4 [.str "do", iN (l+1+ai d b),gl,.str "back"]:=by show H7 t4=_; rw[← hH7]; exact ah
 refine⟨by decide,fun t5 ht5=>?_⟩
 generalize hH8:upd H7 t5 _=H8
 have s8:Same H7 H8:=by rw[← hH8]; exact al ht5 _
 have r5:ci H8 t5 [.str "drop", iN (l+1+ai d b),gy]:=by show H8 t5=_; rw[← hH8]; exact ah
 refine⟨by decide,fun t6 ht6=>?_⟩
 generalize hH9:upd H8 t6 _=H9
 have s9:Same H8 H9:=by rw[← hH9]; exact al ht6 _
 have r6:ci H9 t6 [.str "drop", iN (l+1+ai d b),gl]:=by show H9 t6=_; rw[← hH9]; exact ah
 refine⟨by decide,fun m3 hm3=>?_⟩
 have s10:=al hm3 (.lst [.ref t4,.ref t5,.ref t6]);have L3:=l8 (s9 _ _ (s8 _ _ r4)) (s9 _ _ r5) r6 hm3;generalize upd H9 m3 (.lst [.ref t4,.ref t5,.ref t6])=H10 at s10 L3 ⊢;obtain⟨as2,c1,c2⟩:=L2.mono (((s7.trans s8).trans s9).trans s10)
 obtain⟨bs2,d1,d2⟩:=L3
 refine⟨_,_,c1,d1,eV c2 d2 (by simp only[List.length_append,List.length_cons,List.length_nil]; omega),fun m4 hm4=>?_⟩
 have s11:=al hm4 (.lst (as2.map V.ref++bs2.map V.ref));have L4:=fI c2 d2 hm4;generalize upd H10 m4 (.lst (as2.map V.ref++bs2.map V.ref))=H11 at s11 L4 ⊢;have s010:=((((s05.trans s6).trans s7).trans s8).trans s9).trans s10;refine q m4 H11 (s010.trans s11) (s010.free hm4) ?_
 unfold fK;rw[hWW,hgx,hgy,hgl];exact L4
theorem ub(D:DefAt K mg "rows_of" bV) (DL:DefAt K mg "lend_rows" aY) (DI:DefAt K mg "if_rows" bM) (DO:DefAt K mg "loop_rows" cj) (DW:DefAt K mg "while_rows" bv) (DS:DefAt K mg "simple_row" bQ) (z_len:mg "len" = none) (z_tuple:mg "tuple" = none) (a_kind:Fl K CN "kind") (a_parts:Fl K CN "parts") (a_lines:Fl K CN "lines") (a_blocks:Fl K CN "blocks"):∀ d:Nat,aM P w K mg base (3 * d+2) "rows_of" ["steps", "at", "slots", "turned"] (gZ K CN d)
 | 0=>D.cal (k:=1) sc_rows_of (fun _ _ _ _ _ _ us hl=>match us,hl with | [_,_,_,_],_=>rfl) (fun vs H Q E h=>by obtain⟨_,_,_,_,_,_,_,_,rfl,_⟩:=h; rfl) (fun f cdv A outer s H vs Q E hr h=>by obtain⟨_,_,_,_,_,_,_,_,rfl,z,_⟩:=h; exact z.elim)
 | d+1=>by
  have ih:=ub D DL DI DO DW DS z_len z_tuple a_kind a_parts a_lines a_blocks d;have c_lend_rows:=BZ DL z_len a_parts a_lines a_blocks ih;have c_if_rows:=FV DI z_len a_parts a_lines a_blocks ih;have c_while_rows:=zI DW z_len a_parts a_lines a_blocks ih (BW DO z_len a_parts a_lines a_blocks ih);have c_simple_row:=yg (P:=P) (w:=w) (base:=base) DS z_tuple a_kind a_parts a_lines;refine D.cal (k:=3 * d+4) sc_rows_of (fun _ _ _ _ _ _ us hl=>match us,hl with | [_,_,_,_],_=>rfl) (fun vs H Q E h=>by obtain⟨_,_,_,_,_,_,_,_,rfl,_⟩:=h; rfl) (fun f cdv A outer s H vs Q E hr h=>?_)
  obtain⟨p,sp,a,l,t,T,kv,S,rfl,⟨h0,as,h1,h2⟩,ok,esp,hk,hc,hd,q⟩:=h
  have hlen:=ay h2;rw[fO]at hlen
  refine⟨_,(af (ax 4 sc_rows_of.nd (bA ac))
   (af (cE PassesOwn.never rfl (cr K (pv 0)) (ba 5 sc_rows_of.nd) (af (ax 6 sc_rows_of.nd (ap aC (pv 1) (bm (aV K) z_len bL (aa (pv 4) ac))))
   (ak (bd (aF bz (au a_kind (pv 5)) aw (aL _)) (ak (aD (bh K PySem.F.plainAttrs_list PySem.F.slot_list_extend PySem.F.type_list_extend f_ (pv 4) (aa (aA c_lend_rows hr (aa (pv 5) (aa (pv 6) (aa (pv 2) (aa (pv 3) ac)))) (hle:=by omega)) ac)))) (ak (bd (aF bz (au a_kind (pv 5)) aw (aL _)) (ak (aD (bh K PySem.F.plainAttrs_list PySem.F.slot_list_extend PySem.F.type_list_extend f_ (pv 4) (aa (aA c_if_rows hr (aa (pv 5) (aa (pv 6) (aa (pv 2) (aa (pv 3) ac)))) (hle:=by omega)) ac)))) (ak (bd (aF bz (au a_kind (pv 5)) aw (aL _)) (ak (aD (bh K PySem.F.plainAttrs_list PySem.F.slot_list_extend PySem.F.type_list_extend f_ (pv 4) (aa (aA c_while_rows hr (aa (pv 5) (aa (pv 6) (aa (pv 2) (aa (pv 3) ac)))) (hle:=by omega)) ac)))) (ak (aD (bh K PySem.F.plainAttrs_list PySem.F.slot_list_append PySem.F.type_list_append aW (pv 4) (aa (aA c_simple_row hr (aa (pv 5) (aa (pv 2) ac)) (hle:=by omega)) ac))))))))))))
   (ak (aG (pv 4))))),?_⟩
  walk_at "rd1";refine⟨by decide,fun R hR=>?_⟩
  have s1:=al hR (.lst []);have eR0:upd H R (.lst []) R=some (.lst (([]:List Addr).map V.ref)):=ah
  generalize upd H R (.lst [])=H1 at s1 eR0 ⊢;walk_at "nx";refine⟨⟨_,SqL.of (s1 _ _ h1)⟩,?_⟩
  have hnR:∀ {z:Addr} {o:HO},H z=some o→z≠R:=fun e=>az e hR
  refine dh (xs:=as.map V.ref) (fun i σ H'=>∃ (o5 o6:Option V),σ=[some (.ref p),some (.int (a:Int)),some (.ref sp),some (.bl t),some (.ref R),o5,o6]∧Same H H'∧ListR H' R (aS kv (d+1) t a l (T.take i)))
   ⟨_,_,rfl,s1,[],eR0,.nil⟩ (fun i σ H' _ hh=>by obtain⟨_,_,_,sm,_⟩:=hh; exact SqL.of (sm _ _ h1)) (fun i v σ H2 hv hh=>?_) (fun σ H2 hh=>?_)
  ·obtain⟨o5,o6,rfl,sm,ras,r1,r2⟩:=hh
   rw[List.getElem?_map]at hv
   cases hi:as[i]? with
   | none=>rw[hi]at hv; cases hv
   | some x=>
    rw[hi]at hv; cases hv
    have hiT:i<T.length:=by have:=(List.getElem?_eq_some_iff.mp hi).1; omega
    have hs:=List.getElem?_eq_getElem hiT;have hz:=nu (aR (ai d)) l T i _ hs;obtain⟨z,hz1,hz2⟩:=bw h2 hi
    rw[hz]at hz1
    have hz1:=Option.some.inj hz1;subst hz1;have hkz:=hk _ (List.mem_of_getElem? hz);have hmem:=List.getElem_mem hiT;generalize T[i]=st at hs hz hz2 hkz hmem;have oks:=ok st hmem;have hcs:=mZ (d:=d) hmem;generalize hl':l+((T.take i).map (aR (ai d))).sum=l' at hz hz2 hkz;have etk:T.take (i+1)=T.take i++[st]:=by rw[List.take_add_one,hs]; rfl
    have erow:aS kv (d+1) t a l (T.take (i+1))=aS kv (d+1) t a l (T.take i)++fB kv (aS kv d) (ai d) t (a+(aS kv (d+1) t a l (T.take i)).length) l' st:=by
     rw[etk];show dB _ _ a l (T.take i++[st])=_
     rw[lj,hl']; rfl
    have hcnt:=qE (d:=d) (i:=i) (T:=T);have hpre:=eh (kv:=kv) (d:=d+1) (a:=a) (l:=l) (t:=t) (T:=T.take i) (by omega) hd
    rw[erow];generalize aS kv (d+1) t a l (T.take i)=pre at r2 hpre;have rl:=ay r2;have hx2:=hz2.mono sm;obtain⟨dx,pp,lp,bp,bs,g1,g2,g3,g4,g5,g6,g7⟩:=id hx2
    have put:∀ {b:Addr} {H3:Hp} {rows:List bJ},Same H2 H3→ListR H3 b rows→b≠R→rows.length≤100000→∃ xs zs,H3 R=some (.lst xs)∧H3 b=some (.lst zs)∧xs.length+zs.length≤sizeLine∧(Same H (upd H3 R (.lst (xs++zs)))∧ListR (upd H3 R (.lst (xs++zs))) R (pre++rows)):=fun {b H3 rows} s3 hL hne hl3=>by
     obtain⟨bas,e1,e2⟩:=hL
     have bl:=ay e2;have eR3:=s3 _ _ r1
     have tp:∀ {c:Addr} {r:bJ},ci H3 c r→ci (upd H3 R (.lst (ras.map V.ref++bas.map V.ref))) c r:=fun {c r} z=>by
      show upd H3 R _ c=_
      rw[aj (b8 z eR3 (fun y=>nomatch y))]; exact z
     refine⟨_,_,eR3,e1,by rw[List.length_map,List.length_map,rl,bl]; exact a_ (by omega),fun c o y=>?_,ras++bas,by rw[ah,List.map_append],gD (Paired.imp' (fun _ _ y=>tp (s3 _ _ y)) r2) (Paired.imp' (fun _ _ y=>tp y) e2)⟩
     rw[aj (hnR y)]; exact s3 _ _ (sm _ _ y)
    walk_at "rd1";refine⟨_,.inl (SqL.of r1),?_⟩
    rw[List.length_map,rl];walk_at "nx";refine⟨dx,_,_,g1,bE _ _ _ _,?_⟩
    walk_at "rd1";have hst200:aR (ai d) st≤200:=by omega
    have hsl:(fB kv (aS kv d) (ai d) t (a+pre.length) l' st).length≤30000:=by
     have:=eh (kv:=kv) (d:=d+1) (a:=a+pre.length) (l:=l') (t:=t) (T:=[st]) (by show aR (ai d) st+0≤200; omega) hd
     have e:aS kv (d+1) t (a+pre.length) l' [st]=fB kv (aS kv d) (ai d) t (a+pre.length) l' st++[]:=rfl
     rw[e,List.append_nil]at this
     exact this
    cases st with
    | lend x0 y0 b0=>
     obtain⟨k1,k2,k3,k4⟩ : fw kv (.inr x0)∧fw kv (.inr y0)∧fw kv (.inl (l':Int))∧e_ kv d (l'+1) b0:=hkz
     have hcb:ai d b0+2≤200:=hst200
     refine aJ (fun _=>?_) (fun c=>absurd rfl c)
     refine⟨⟨_,SqL.of r1⟩,x,sp,a+pre.length,l',t,x0,y0,b0,kv,S,by simp,hx2,oks.2.2,sm _ _ esp,k1,k2,k3,k4,by omega,by omega,fun q' H3 s3 hq' L3=>?_⟩
     dsimp only
     rw[f7];obtain⟨xs,zs,p1,p2,p3,p4,p5⟩:=put s3 L3 (az r1 hq').symm (by have:(fK kv (aS kv d) (ai d) t (a+pre.length) l' x0 y0 b0).length≤30000:=hsl; omega)
     exact⟨xs,zs,p1,p2,p3,_,_,rfl,p4,p5⟩
    | ite n0 b0 c0=>
     obtain⟨k1,k2⟩ : e_ kv d (l'+1) b0∧e_ kv d (l'+1+ai d b0+1) c0:=hkz
     have hcb:ai d b0+ai d c0+3≤200:=hst200
     refine aJ (fun c=>absurd c (by show ¬ (Str.ofString "if" = Str.ofString "lend"); decide +kernel)) (fun _=>?_)
     refine⟨dx,_,_,g1,bE _ _ _ _,?_⟩
     walk_at "rd1";refine aJ (fun _=>?_) (fun c=>absurd rfl c)
     refine⟨⟨_,SqL.of r1⟩,x,sp,a+pre.length,l',t,n0,b0,c0,kv,S,by simp,hx2,oks.2.1,oks.2.2,sm _ _ esp,k1,k2,by omega,by omega,by omega,fun q' H3 s3 hq' L3=>?_⟩
     dsimp only
     rw[f7];obtain⟨xs,zs,p1,p2,p3,p4,p5⟩:=put s3 L3 (az r1 hq').symm (by have:(jT (aS kv d) (ai d) t (a+pre.length) l' n0 b0 c0).length≤30000:=hsl; omega)
     exact⟨xs,zs,p1,p2,p3,_,_,rfl,p4,p5⟩
    | whl n0 b0=>
     have k1:e_ kv d (l'+1) b0:=hkz
     have hcb:ai d b0+2≤200:=hst200
     refine aJ (fun c=>absurd c (by show ¬ (Str.ofString "while" = Str.ofString "lend"); decide +kernel)) (fun _=>?_)
     refine⟨dx,_,_,g1,bE _ _ _ _,?_⟩
     walk_at "rd1";refine aJ (fun c=>absurd c (by show ¬ (Str.ofString "while" = Str.ofString "if"); decide +kernel)) (fun _=>?_)
     refine⟨dx,_,_,g1,bE _ _ _ _,?_⟩
     walk_at "rd1";refine aJ (fun _=>?_) (fun c=>absurd rfl c)
     refine⟨⟨_,SqL.of r1⟩,x,sp,a+pre.length,l',t,n0,b0,kv,S,by simp,hx2,oks.2,sm _ _ esp,k1,by omega,by omega,fun q' H3 s3 hq' L3=>?_⟩
     dsimp only
     rw[f7];obtain⟨xs,zs,p1,p2,p3,p4,p5⟩:=put s3 L3 (az r1 hq').symm (by have:(em (aS kv d) (ai d) t (a+pre.length) l' n0 b0).length≤30000:=hsl; omega)
     exact⟨xs,zs,p1,p2,p3,_,_,rfl,p4,p5⟩
    | plain ws=>
     have hkd:ws.headD "" ∈ dm:=oks.kind
     have nk:∀ {u:Str},u∉dm→¬ kindOf (.plain ws)=u:=fun hu c=>hu (by have c':ws.headD "" = _:=c; rw[← c']; exact hkd)
     refine aJ (fun c=>absurd c (nk (by decide +kernel))) (fun _=>?_)
     refine⟨dx,_,_,g1,bE _ _ _ _,?_⟩
     walk_at "rd1";refine aJ (fun c=>absurd c (nk (by decide +kernel))) (fun _=>?_)
     refine⟨dx,_,_,g1,bE _ _ _ _,?_⟩
     walk_at "rd1";refine aJ (fun c=>absurd c (nk (by decide +kernel))) (fun _=>?_)
     refine⟨⟨_,SqL.of r1⟩,x,sp,l',ws,kv,S,_,ai d,e_ kv d,rfl,hx2,oks,sm _ _ esp,hkz,fun c H3 s3 hc3=>?_⟩
     have eR3:=s3 _ _ r1
     have tp:∀ {c:Addr} {r:bJ},ci H3 c r→∀ zs,ci (upd H3 R (.lst zs)) c r:=fun {c r} z zs=>by
      show upd H3 R _ c=_
      rw[aj (b8 z eR3 (fun y=>nomatch y))]; exact z
     walk_at "rd1";refine⟨_,eR3,bN (by rw[List.length_map]; omega),_,_,rfl,fun c' o y=>?_,ras++[c],by rw[ah,List.map_append]; rfl,gD (Paired.imp' (fun _ _ y=>tp (s3 _ _ y) _) r2) (.cons (tp hc3 _) .nil)⟩
     rw[aj (hnR y)]; exact s3 _ _ (sm _ _ y)
  ·obtain⟨o5,o6,rfl,sm,hL⟩:=hh
   rw[List.length_map,hlen,List.take_length]at hL
   walk_at "nx";exact q R H2 sm hR hL
end
def jc(s:Str):Bool:=decide (0+("lend " : Str).length≤s.length)&&PySem.Builtin.Str.subAt s "lend " 0
def gH(L:List Str):List Nat:=(List.range L.length).filter fun i=>jc (L.getD i "")
def kR(d:Nat):Sp:=fun vs H Q _=>∃ (p:Addr) (L:List Str),vs=[.ref p]∧LinesAt d H p L∧L.length≤1000∧∀ (q:Addr) (H':Hp),Same H H'→H q=none→H' q=some (.lst ((gH L).map iN))→Q (.ref q) H'
theorem lu(f:Nat→Bool)(i:Nat):(List.range (i+1)).filter f=(List.range i).filter f++(if f i=true then [i] else []):=by
 rw[List.range_succ,List.filter_append]
 congr 1
 rw[List.filter_cons];split <;> rfl
theorem rK(D:DefAt K mg "lend_lines" bZ) (z_enumerate:mg "enumerate" = none) {d k:Nat} (c_lines_of:aM P w K mg base k "lines_of" ["program"] (tL d)):aM P w K mg base (k+1) "lend_lines" ["program"] (kR d):=by
 refine D.cal (k:=k) pe (fun _ _ _ _ _ _ us hl=>match us,hl with | [_],_=>rfl) (fun vs H Q E h=>by obtain⟨_,_,rfl,_⟩:=h; rfl) (fun f cdv A outer s H vs Q E hr h=>?_)
 obtain⟨p,L,rfl,hL,hl,q⟩:=h
 refine⟨_,(ak (aG (fT (CompSc.to (fsc:=(defScope bZ)) (N:=["program"]) (N0:=["program"]) (T:=["at", "line"]) ⟨by decide +kernel,by decide +kernel,by decide +kernel,by decide +kernel,by decide +kernel,by decide +kernel,by decide +kernel⟩ rfl rfl) rfl (q8 K L_ z_enumerate (aa (aA c_lines_of hr (aa (pv 0) ac) (hle:=by omega)) ac)) (fun _ _ _ _=>(fW K (n:=2) (cz (ba 1 (show (["program", "at", "line"]:List Str).Nodup from by decide +kernel) (hx:=(iu (defScope bZ) (by decide +kernel))) (hf:=km (defScope bZ) (by decide +kernel))) (cz (ba 2 (show (["program", "at", "line"]:List Str).Nodup from by decide +kernel) (hx:=(iu (defScope bZ) (by decide +kernel))) (hf:=km (defScope bZ) (by decide +kernel))) fU)))) (CK (nZ (dy (show (["program"]:List Str).length≤1 from by decide)) mY (nZ (dy (show (["program"]:List Str).length≤2 from by decide)) mY AL tW) (AR mY tW))) (fun _ _ _ _=>(ia (dC (bh K PySem.F.plainAttrs_str PySem.F.slot_str_startswith PySem.F.type_str_startswith oW (pv 2 (hv:=(dz (defScope bZ) (by decide +kernel)))) (aa aw ac))))) (fun _ _ _ _=>(pv 1 (hv:=(dz (defScope bZ) (by decide +kernel)))))))),?_⟩
 walk_at "rd1";refine⟨p,L,rfl,hL,by omega,fun lq H1 s1 hlq e1=>?_⟩
 refine⟨lq,rfl,⟨_,e1⟩,fun R hR=>?_⟩
 refine vG (xs:=L.map V.str) (fun i ys H'=>∃ ns:List Nat,Same H1 H'∧H' R=some (.lst ys)∧ys=ns.map iN∧ns.length≤i∧ns=(List.range i).filter fun j=>jc (L.getD j "")) ⟨[],al hR _,ah,rfl,Nat.le_refl _,rfl⟩ (fun i ys H' _ hh=>by obtain⟨_,sm,_⟩:=hh; exact SqL.of (sm _ _ e1)) ?_ ?_
 ·rintro i ys H' v t hv hi ⟨ns,sm,hl',rfl,hnl,hns⟩ ht
  rw[List.length_map]at hi
  rw[List.getElem?_map,List.getElem?_eq_getElem hi]at hv
  cases hv;have s2:=al ht (.tup [.int (i:Int),.str L[i]]);have et:upd H' t (.tup [.int (i:Int),.str L[i]]) t=some (.tup [.int (i:Int),.str L[i]]):=ah
  generalize upd H' t (.tup [.int (i:Int),.str L[i]])=H2 at s2 et ⊢;have sm2:=sm.trans s2;have eR2:=s2 _ _ hl'
  have hg:jc (L.getD i "")=(decide (0+("lend " : Str).length≤L[i].length)&&PySem.Builtin.Str.subAt L[i] "lend " 0):=by
   unfold jc;rw[List.getD_eq_getElem?_getD,List.getElem?_eq_getElem hi]; rfl
  walk_at "rd1";refine⟨t,_,rfl,SqT.of et,rfl,?_⟩
  walk_at "rd1";rw[← hg];refine aJ (fun c=>?_) (fun c=>?_)
  ·refine hX (by rw[List.length_map]; exact hi) (by rw[List.length_map]; exact hnl) (by rw[List.length_map]; exact a_ (by omega)) eR2 ⟨ns++[i],sm2.upd hR _,ah,Aj _ _,by simp; omega,?_⟩
   rw[lu,if_pos c,← hns]
  ·refine mq (by rw[List.length_map]; exact hi) ⟨ns,sm2,eR2,rfl,by omega,?_⟩
   rw[lu,if_neg c,← hns,List.append_nil]
 ·rintro ys H2 ⟨ns,s2,e2,rfl,_,hns⟩
  rw[List.length_map]at hns
  refine q R H2 (s1.trans s2) (s1.free hR) ?_
  rw[hns]at e2
  exact e2
def hZ(ks:List aK):List (aK × V):=(List.range ks.length).foldl (fun acc i=>cS acc (ks.getD i (.inl 0)) (iN i)) []
def fP(ks:List aK)(i:Nat):List (aK × V):=(List.range i).foldl (fun acc i=>cS acc (ks.getD i (.inl 0)) (iN i)) []
theorem gP(ks:List aK)(i:Nat):fP ks (i+1)=cS (fP ks i) (ks.getD i (.inl 0)) (iN i):=by
 unfold fP; rw[List.range_succ,List.foldl_append]; rfl
theorem qS(ks:List aK):∀ i,(fP ks i).length≤i
 | 0=>Nat.le_refl _
 | i+1=>by
  have:=qS ks i
  rw[gP];unfold cS;split
  ·rw[List.length_map]; omega
  ·rw[List.length_append]; simp; omega
theorem sf(ks:List aK):∀ (i j:Nat) k,j<i→ks[j]? = some k→(bY (fP ks i) k).isSome=true
 | 0,j,_,h,_=>absurd h (Nat.not_lt_zero _)
 | i+1,j,k,h,hk=>by
  rw[gP,iD];split
  ·rfl
  ·rename_i c
   rcases Nat.lt_or_ge j i with z | z
   ·exact sf ks i j k z hk
   ·have:j=i:=by omega
    subst this;exact absurd (by rw[List.getD_eq_getElem?_getD,hk]; rfl) c
theorem kF{ks:List aK}{k:aK}(h:k∈ks):fw (hZ ks) k:=by
 obtain⟨j,hj⟩:=List.mem_iff_getElem?.mp h
 have:=sf ks ks.length j k (List.getElem?_eq_some_iff.mp hj).1 hj
 show bY (fP ks ks.length) k=some (bR (fP ks ks.length) k)
 unfold bR
 cases e:bY (fP ks ks.length) k with
 | none=>rw[e]at this; cases this
 | some v=>rfl
section
variable{NO:Hp→Addr→List Str→Prop}
def EN(NO:Hp→Addr→List Str→Prop):Sp:=fun vs H Q _=>∃ (p:Addr) (NM:List Str),vs=[.ref p]∧NO H p NM∧∀ (q:Addr) (H':Hp),Same H H'→H q=none→H' q=some (.lst (NM.map V.str))→Q (.ref q) H'
def df(NM:List Str)(L:List Str):List aK:=NM.map Sum.inr++(gH L).map fun (n:Nat)=>Sum.inl (n:Int)
def tG(NO:Hp→Addr→List Str→Prop)(d:Nat):Sp:=fun vs H Q _=>∃ (p:Addr) (NM L:List Str),vs=[.ref p]∧NO H p NM∧LinesAt d H p L∧L.length≤1000∧NM.length≤1000∧∀ (q:Addr) (H':Hp),Same H H'→H q=none→H' q=some (.dK (hZ (df NM L)))→Q (.ref q) H'
theorem zd(noM:∀ {H H':Hp} {p:Addr} {NM:List Str},NO H p NM→Same H H'→NO H' p NM)(D:DefAt K mg "slots_of" cD) (z_enumerate:mg "enumerate" = none) {d k:Nat} (c_names_of:aM P w K mg base k "names_of" ["program"] (EN NO)) (c_lend_lines:aM P w K mg base k "lend_lines" ["program"] (kR d)):aM P w K mg base (k+1) "slots_of" ["program"] (tG NO d):=by
 refine D.cal (k:=k) sc_slots_of (fun _ _ _ _ _ _ us hl=>match us,hl with | [_],_=>rfl) (fun vs H Q E h=>by obtain⟨_,_,_,rfl,_⟩:=h; rfl) (fun f cdv A outer s H vs Q E hr h=>?_)
 obtain⟨p,NM,L,rfl,hN,hL,hl,hnl,q⟩:=h
 refine⟨_,(af (ax 1 sc_slots_of.nd ly)
   (af (cE PassesOwn.never rfl (q8 K J6 z_enumerate (aa (ap aC (aA c_names_of hr (aa (pv 0) ac) (hle:=by omega)) (aA c_lend_lines hr (aa (pv 0) ac) (hle:=by omega))) ac)) (fW K (n:=2) (cz (ba 2 sc_slots_of.nd) (cz (ba 3 sc_slots_of.nd) fU))) (ak (iV (pv 2) (qM (pv 1) (pv 3) (vV hr)))))
   (ak (aG (pv 1))))),?_⟩
 walk_at "rd1";intro RD hRD
 have s1:=al hRD (.dK []);have eRD:upd H RD (.dK []) RD=some (.dK (fP (df NM L) 0)):=ah
 generalize upd H RD (.dK [])=H1 at s1 eRD ⊢;walk_at "nx";refine⟨p,NM,rfl,noM hN s1,fun nq H2 s2 hnq e2=>?_⟩
 have s12:=s1.trans s2;refine⟨p,L,rfl,hL.mono _ s12,hl,fun lq H3 s3 hlq e3=>?_⟩
 have hll:(gH L).length≤1000:=by
  unfold gH;refine Nat.le_trans (List.length_filter_le _ _) ?_
  rw[List.length_range]; exact hl
 dsimp only
 rw[j2];refine⟨_,_,s3 _ _ e2,e3,by rw[List.length_map,List.length_map]; exact a_ (by omega),fun cq hcq=>?_⟩
 have ecat:NM.map V.str++(gH L).map iN=(df NM L).map kV:=by
  unfold df;rw[List.map_append,List.map_map,List.map_map]; rfl
 rw[ecat];have hkl:(df NM L).length≤2000:=by unfold df; rw[List.length_append,List.length_map,List.length_map]; omega
 generalize hks:df NM L=ks at eRD hkl q ⊢;have s4:=al hcq (.lst (ks.map kV));have ecq:upd H3 cq (.lst (ks.map kV)) cq=some (.lst (ks.map kV)):=ah
 generalize upd H3 cq (.lst (ks.map kV))=H4 at s4 ecq ⊢;have s24:=(s2.trans s3).trans s4;have eRD4:=s24 _ _ eRD;have ncR:cq≠RD:=b8 ecq eRD4 (fun z=>nomatch z)
 walk_at "rd1";refine⟨⟨_,ecq⟩,?_⟩
 refine wC (xs:=ks.map kV) (fun i σ H'=>∃ (o2 o3:Option V),σ=[some (.ref p),some (.ref RD),o2,o3]∧(∀ b o,b≠RD→H4 b=some o→H' b=some o)∧H' RD=some (.dK (fP ks i)))
  ⟨_,_,rfl,fun _ _ _ z=>z,eRD4⟩ (fun i σ H' _ hh=>by obtain⟨_,_,_,sb,_⟩:=hh; exact SqL.of (sb _ _ ncR ecq)) (fun i v t σ H5 hv hh ht=>?_) (fun σ H5 hh=>?_)
 ·obtain⟨o2,o3,rfl,sb,e5⟩:=hh
  rw[List.getElem?_map]at hv
  cases hi:ks[i]? with
  | none=>rw[hi]at hv; cases hv
  | some k0=>
   rw[hi]at hv; cases hv
   have hil:=(List.getElem?_eq_some_iff.mp hi).1;have s6:=al ht (.tup [.int (i:Int),kV k0]);have et:upd H5 t (.tup [.int (i:Int),kV k0]) t=some (.tup [.int (i:Int),kV k0]):=ah
   generalize upd H5 t (.tup [.int (i:Int),kV k0])=H6 at s6 et ⊢;have hkt:=qS ks i;walk_at "rd1";refine⟨t,_,rfl,SqT.of et,rfl,?_⟩
   walk_at "rd1";refine⟨RD,_,k0,rfl,rfl,s6 _ _ e5,bN (by omega),_,_,rfl,fun b o hb z=>by rw[aj hb]; exact s6 _ _ (sb b o hb z),?_⟩
   rw[ah,gP,List.getD_eq_getElem?_getD,hi]; rfl
 ·obtain⟨o2,o3,rfl,sb,e5⟩:=hh
  rw[List.length_map]at e5
  walk_at "nx";refine q RD H5 (fun b o z=>sb b o (az z hRD) (s4 _ _ (s3 _ _ (s12 _ _ z)))) hRD e5
end
theorem qd{f:List Stp→List Str}{g:List Stp→Nat}(h:∀ T,(f T).length=g T):∀ s:Stp,(bU f s).length=aR g s
 | .plain _=>rfl
 | .lend _ _ b=>by simp[bU,aR,h]
 | .ite _ b c=>by simp[bU,aR,h]; omega
 | .whl _ b=>by simp[bU,aR,h]
theorem i0:∀ (d:Nat) (T:List Stp),(b5 d T).length=ai d T
 | 0,_=>rfl
 | d+1,T=>by
  show (T.flatMap (bU (b5 d))).length=(T.map (aR (ai d))).sum
  induction T with
  | nil=>rfl
  | cons s T ih=>rw[List.flatMap_cons,List.length_append,List.map_cons,List.sum_cons,ih,qd (i0 d)]
def Sub(L:List Str)(l:Nat)(X:List Str):Prop:=∀ (i:Nat) s,X[i]? = some s→L[l+i]? = some s
theorem Sub.left{L X Y:List Str}{l:Nat}(h:Sub L l (X++Y)):Sub L l X:=fun i s e=>h i s (by rw[List.getElem?_append_left (List.getElem?_eq_some_iff.mp e).1]; exact e)
theorem Sub.right{L X Y:List Str}{l:Nat}(h:Sub L l (X++Y)):Sub L (l+X.length) Y:=fun i s e=>by
 have:=h (X.length+i) s (by rw[List.getElem?_append_right (by omega),Nat.add_sub_cancel_left]; exact e)
 rw[← Nat.add_assoc]at this; exact this
def BD(f:List Stp→Prop)(N:Str→Prop):Stp→Prop
 | .plain ws=>(ws.headD "" = "do" → ws.length=3)∧∀ n∈gk ws,N n
 | .lend x y b=>N x∧N y∧f b
 | .ite _ b c=>f b∧f c
 | .whl _ b=>f b
def pL(N:Str→Prop):Nat→List Stp→Prop
 | 0,_=>False
 | d+1,T=>∀ s∈T,BD (pL N d) N s
theorem yE(x y:Str):jc (Txt.join " " ["lend", x,y])=true:=by
 have e:Txt.join " " ["lend", x,y]=("lend " : Str)++(x++((" " : Str)++y)):=by
  apply m_
  have h1:("lend " : Str).cps.toList=("lend" : Str).cps.toList++(" " : Str).cps.toList:=by decide +kernel
  rw[fQ,fQ,fQ,h1];show ((("lend" : Str).cps++(" " : Str).cps++x.cps)++(" " : Str).cps++y.cps).toList=_
  simp only[Array.toList_append,List.append_assoc]
 rw[e];unfold jc;have hl:("lend " : Str).length=5:=by decide +kernel
 rw[Str.length_append,hl,decide_eq_true (by omega),Bool.true_and]
 unfold PySem.Builtin.Str.subAt;rw[hl,beq_iff_eq]
 apply Array.ext'
 rw[Array.toList_extract,fQ];have h5:("lend " : Str).cps.toList.length=5:=by decide +kernel
 simp[List.extract_eq_drop_take,List.take_append,h5]
theorem xM{L:List Str}{i:Nat}{s:Str}(h:L[i]? = some s)(hs:jc s=true):i∈gH L:=by
 unfold gH;rw[List.mem_filter];refine⟨List.mem_range.mpr (List.getElem?_eq_some_iff.mp h).1,?_⟩
 rw[List.getD_eq_getElem?_getD,h]; exact hs
section
variable{NM L:List Str}
theorem Ak{f:Nat→List Stp→Prop}{g:List Stp→Prop}{d l:Nat}(hf:∀ l b,Sub L l (b5 d b)→g b→f l b):∀ (s:Stp),Sub L l (bU (b5 d) s)→BD g (fun n=>n∈NM) s→nn (hZ (df NM L)) f (ai d) l s
 | .plain ws,_,⟨h1,h2⟩=>⟨h1,fun n hn=>kF (by unfold df; exact List.mem_append_left _ (List.mem_map.mpr ⟨n,h2 n hn,rfl⟩))⟩
 | .lend x y b,hS,⟨hx,hy,hb⟩=>by
  have hh:L[l]? = some (Txt.join " " ["lend", x,y]):=hS 0 _ rfl
  refine⟨kF (by unfold df; exact List.mem_append_left _ (List.mem_map.mpr ⟨x,hx,rfl⟩)),kF (by unfold df; exact List.mem_append_left _ (List.mem_map.mpr ⟨y,hy,rfl⟩)),kF (by unfold df; exact List.mem_append_right _ (List.mem_map.mpr ⟨l,xM hh (yE x y),rfl⟩)),hf _ _ ?_ hb⟩
  have:Sub L l ([Txt.join " " ["lend", x,y]]++(b5 d b++[("back" : Str)])):=hS
  exact this.right.left
 | .ite n b c,hS,⟨hb,hc⟩=>by
  have:Sub L l ([Txt.join " " ["if", bG n]]++((b5 d b++[("else" : Str)])++(b5 d c++[("fi" : Str)]))):=hS
  refine⟨hf _ _ this.right.left.left hb,hf _ _ ?_ hc⟩
  have h2:=this.right.right.left;rw[List.length_append,i0,List.length_singleton,List.length_singleton]at h2
  rw[show l+1+ai d b+1=l+1+(ai d b+1) by omega]; exact h2
 | .whl n b,hS,hb=>by
  have:Sub L l ([Txt.join " " ["while", bG n]]++(b5 d b++[("done" : Str)])):=hS
  exact hf _ _ this.right.left hb
theorem mT:∀ (d l:Nat) (T:List Stp),Sub L l (b5 d T)→pL (fun n=>n∈NM) d T→e_ (hZ (df NM L)) d l T
 | 0,_,_,_,h=>h
 | d+1,l,T,hS,hN=>by
  have go:∀ (T:List Stp) (l:Nat),Sub L l (T.flatMap (bU (b5 d)))→(∀ s∈T,BD (pL (fun n=>n∈NM) d) (fun n=>n∈NM) s)→∀ z∈cZ (aR (ai d)) l T,nn (hZ (df NM L)) (e_ (hZ (df NM L)) d) (ai d) z.1 z.2:=fun T=>by
   induction T with
   | nil=>intro l _ _ z hz; cases hz
   | cons s T ih=>
    intro l hS hN z hz
    rw[List.flatMap_cons]at hS
    rcases List.mem_cons.mp hz with rfl | hz
    ·exact Ak (fun l b h1 h2=>mT d l b h1 h2) s hS.left (hN s List.mem_cons_self)
    ·have h2:=hS.right
     rw[qd (i0 d)]at h2
     exact ih (l+aR (ai d) s) h2 (fun s hs=>hN s (List.mem_cons_of_mem _ hs)) z hz
  exact go T l hS hN
end
section
variable{CN:Addr}{NO:Hp→Addr→List Str→Prop}
def fM(NM:List Str)(d:Nat)(t:Bool)(T:List Stp):List bJ:=aS (hZ (df NM (b5 d T))) d t 0 0 T++[[.str "end", iN (ai d T)]]
structure qp (NO:Hp→Addr→List Str→Prop) (H:Hp) (p:Addr) (d:Nat) (T:List Stp) (NM:List Str):Prop where
 prog:∃ S,ProgAt S d H p T
 ok:dJ d T
 no:NO H p NM
 ln:LinesAt d H p (b5 d T)
 nm:pL (fun n=>n∈NM) d T
 cnt:ai d T≤200
 nl:NM.length≤1000
 d20:d≤20
def tO(NO:Hp→Addr→List Str→Prop)(d:Nat):Sp:=fun vs H Q _=>∃ (p:Addr) (t:Bool) (T:List Stp) (NM:List Str),vs=[.ref p,.bl t]∧qp NO H p d T NM∧∀ (q:Addr) (H':Hp),Same H H'→H q=none→ListR H' q (fM NM d t T)→Q (.ref q) H'
theorem wa(noM:∀ {H H':Hp} {p:Addr} {NM:List Str},NO H p NM→Same H H'→NO H' p NM)(D:DefAt K mg "rows_and_end" b6) {d k:Nat} (hk1:1≤k) (c_numbered_steps:aM P w K mg base (2 * d+4) "numbered_steps" ["steps", "line"] (lT K CN d)) (c_rows_of:aM P w K mg base (3 * d+2) "rows_of" ["steps", "at", "slots", "turned"] (gZ K CN d)) (c_slots_of:aM P w K mg base k "slots_of" ["program"] (tG NO d)) (c_line_behind:aM P w K mg base 1 "line_behind" ["steps", "line"] (iq K CN)) (h1:2 * d+4≤k) (h2:3 * d+2≤k):aM P w K mg base (k+1) "rows_and_end" ["program", "turned"] (tO NO d):=by
 refine D.cal (k:=k) sc_rows_and_end (fun _ _ _ _ _ _ us hl=>match us,hl with | [_,_],_=>rfl) (fun vs H Q E h=>by obtain⟨_,_,_,_,rfl,_⟩:=h; rfl) (fun f cdv A outer s H vs Q E hr h=>?_)
 obtain⟨p,t,T,NM,rfl,I,q⟩:=h
 obtain⟨S,hP⟩:=I.prog
 have hcnt:=I.cnt
 refine⟨_,(af (ax 2 sc_rows_and_end.nd (aA c_numbered_steps hr (aa (pv 0) (aa ae ac)) (hle:=by omega)))
   (ak (aG (ap aC (aA c_rows_of hr (aa (pv 2) (aa ae (aa (aA c_slots_of hr (aa (pv 0) ac) (hle:=by omega)) (aa (pv 1) ac)))) (hle:=by omega)) (bA (aa (bB (aa aw (aa (aA c_line_behind hr (aa (pv 2) (aa ae ac)) (hle:=by omega)) ac))) ac)))))),?_⟩
 walk_at "rd1";refine⟨p,0,T,S,rfl,hP,I.ok,by omega,fun nq H1 s1 hN=>?_⟩
 walk_at "nx";refine⟨p,NM,b5 d T,rfl,noM I.no s1,I.ln.mono _ s1,by rw[i0]; omega,I.nl,fun sq H2 s2 hsq e2=>?_⟩
 refine⟨nq,sq,0,0,t,T,_,_,rfl,hN.mono s2,I.ok,e2,mT d 0 T (fun i s e=>by rw[Nat.zero_add]; exact e) I.nm,I.cnt,I.d20,fun rq H3 s3 hrq hR=>?_⟩
 have hRl:=eh (kv:=hZ (df NM (b5 d T))) (a:=0) (l:=0) (t:=t) I.cnt I.d20;generalize hRR:aS (hZ (df NM (b5 d T))) d t 0 0 T=R at hR hRl;have s23:=s2.trans s3
 cases d with
 | zero=>exact hN.elim
 | succ d=>
  refine⟨nq,0,d,T,_,rfl,hN.mono s23,by omega,?_⟩
  walk_at "rd1";refine⟨by decide,fun t1 ht1=>?_⟩
  generalize hH4:upd H3 t1 _=H4
  have s4:Same H3 H4:=by rw[← hH4]; exact al ht1 _
  have et1:ci H4 t1 [.str "end", iN (ai (d+1) T)]:=by
   show H4 t1=_
   rw[← hH4,ah,Nat.zero_add]; rfl
  refine⟨by decide,fun m1 hm1=>?_⟩
  have s5:=al hm1 (.lst [.ref t1]);have L1:=gX et1 hm1;generalize upd H4 m1 (.lst [.ref t1])=H5 at s5 L1 ⊢;obtain⟨as1,a1,a2⟩:=hR.mono (s4.trans s5)
  obtain⟨bs1,b1,b2⟩:=L1
  refine⟨_,_,a1,b1,eV a2 b2 (by simp only[List.length_cons,List.length_nil]; omega),fun m2 hm2=>?_⟩
  have s6:=al hm2 (.lst (as1.map V.ref++bs1.map V.ref));have L2:=fI a2 b2 hm2;generalize upd H5 m2 (.lst (as1.map V.ref++bs1.map V.ref))=H6 at s6 L2 ⊢;have s05:=((s1.trans s23).trans s4).trans s5;refine q m2 H6 (s05.trans s6) (s05.free hm2) ?_
  unfold fM;rw[hRR];exact L2
def xa(NO:Hp→Addr→List Str→Prop)(d:Nat):Sp:=fun vs H Q _=>∃ (p:Addr) (T:List Stp) (NM:List Str),vs=[.ref p]∧qp NO H p d T NM∧∀ (q:Addr) (H':Hp),Same H H'→H q=none→ListR H' q (fM NM d false T)→Q (.ref q) H'
theorem CG(D:DefAt K mg "code_of" gK) {d k:Nat} (c_rows_and_end:aM P w K mg base k "rows_and_end" ["program", "turned"] (tO NO d)):aM P w K mg base (k+1) "code_of" ["program"] (xa NO d):=by
 refine D.cal (k:=k) uS (fun _ _ _ _ _ _ us hl=>match us,hl with | [_],_=>rfl) (fun vs H Q E h=>by obtain⟨_,_,_,rfl,_⟩:=h; rfl) (fun f cdv A outer s H vs Q E hr h=>?_)
 obtain⟨p,T,NM,rfl,I,q⟩:=h
 refine⟨_,(ak (aG (aA c_rows_and_end hr (aa (pv 0) (aa fg ac)) (hle:=by omega)))),?_⟩
 walk_at "rd1";exact⟨p,false,T,NM,rfl,I,q⟩
end
end
def ef:Stp→List (List Stp)
 | .plain _=>[]
 | .lend _ _ b=>[b]
 | .ite _ b c=>[b,c]
 | .whl _ b=>[b]
def gf(f:List Stp→List Stp)(s:Stp):List Stp:=s::(ef s).flatMap f
def cO:Nat→List Stp→List Stp
 | 0,_=>[]
 | d+1,T=>T.flatMap (gf (cO d))
inductive fZ:List Str→Prop
 | opn (x:Str):fZ ["open", x]
 | drp (x:Str):fZ ["drop", x]
 | cpy (x y:Str):fZ ["copy", x,y]
 | tie (x y:Str):fZ ["tie", x,y]
 | doo (u x:Str):fZ ["do", u,x]
def cn:Stp→List Str
 | .plain ws=>if ws.headD "" = "do" then ws.drop 2 else ws.drop 1
 | .lend x y _=>[x,y]
 | .ite _ _ _=>[]
 | .whl _ _=>[]
def gj(f:List Stp→Prop):Stp→Prop
 | .plain ws=>fZ ws
 | .lend _ _ b=>f b
 | .ite _ b c=>f b∧f c
 | .whl _ b=>f b
def kg:Nat→List Stp→Prop
 | 0,_=>False
 | d+1,T=>∀ s∈T,gj (kg d) s
def headAt(H:Hp)(a:Addr)(s:Stp):Prop:=stpAt (fun _ _=>True) H a s
theorem headAt.mono{H H':Hp}{a:Addr}{s:Stp}(h:headAt H a s)(sm:Same H H'):headAt H' a s:=stpAt.imp (fun b xs e=>sm _ _ e) (fun _ _ _=>trivial) h
theorem wc{PA:Addr→List Stp→Prop}{H:Hp}{a:Addr}{g:List Stp→Prop}:∀ {s:Stp},stpAt PA H a s→gj g s→∃ (kind:Str) (hs:List V) (bs:List Addr),H a=some (.tup (.str kind::hs++bs.map V.ref))∧bs.length=(bj kind).length∧Paired PA bs (ef s)∧∀ b∈ef s,g b
 | .plain ws,h,ok=>by
  cases ok with
  | opn x=>exact⟨"open", [.str x],[],h,by show 0=(bj "open").length; decide,.nil,by simp[ef]⟩
  | drp x=>exact⟨"drop", [.str x],[],h,by show 0=(bj "drop").length; decide,.nil,by simp[ef]⟩
  | cpy x y=>exact⟨"copy", [.str x,.str y],[],h,by show 0=(bj "copy").length; decide,.nil,by simp[ef]⟩
  | tie x y=>exact⟨"tie", [.str x,.str y],[],h,by show 0=(bj "tie").length; decide,.nil,by simp[ef]⟩
  | doo u x=>exact⟨"do", [.str u,.str x],[],h,by show 0=(bj "do").length; decide,.nil,by simp[ef]⟩
 | .lend x y b,⟨q,h,z⟩,ok=>⟨"lend", [.str x,.str y],[q],h,by show 1=(bj "lend").length; decide,.cons z .nil,by simpa [ef,gj] using ok⟩
 | .ite n b c,⟨q,r,h,z,y⟩,ok=>⟨"if", [.int n],[q,r],h,by show 2=(bj "if").length; decide,.cons z (.cons y .nil),by simpa [ef,gj] using ok⟩
 | .whl n b,⟨q,h,z⟩,ok=>⟨"while", [.int n],[q],h,by show 1=(bj "while").length; decide,.cons z .nil,by simpa [ef,gj] using ok⟩
def qX(d:Nat):Sp:=fun vs H Q _=>∃ (p:Addr) (T:List Stp) (S:Addr→Prop),vs=[.ref p]∧ProgAt S d H p T∧kg d T∧(cO d T).length≤5000∧
 ∀ (q:Addr) (H':Hp) (ads:List Addr),Same H H'→H q=none→H' q=some (.lst (ads.map V.ref))→Paired (headAt H') ads (cO d T)→Q (.ref q) H'
theorem vS{α β : Type}(f:α→List β)(T:List α)(i:Nat):((T.take i).flatMap f).length≤(T.flatMap f).length:=by
 rw[List.flatMap_def,List.flatMap_def,List.map_take]; exact nD _ _
theorem nt{α β : Type}(f:α→List β){T:List α}{i:Nat}{x:α}(h:T[i]? = some x):(T.take (i+1)).flatMap f=(T.take i).flatMap f++f x:=by
 rw[List.take_add_one,h,List.flatMap_append]; simp
theorem mE{α β : Type}{R:α→β→Prop}:∀ {xs zs:List α} {ys us:List β},Paired R xs ys→Paired R zs us→Paired R (xs++zs) (ys++us)
 | _,_,_,_,.nil,h=>h
 | _,_,_,_,.cons h t,h'=>.cons h (mE t h')
section
variable{P:Program}{w:World}{K:PySem.W.Frag}{mg:Str→Option Value}{base:Heap}
theorem oC(D:DefAt K mg "steps_within" bP) (c_blocks_of:aM P w K mg base 3 "blocks_of" ["step"] (ii K)):∀ d:Nat,aM P w K mg base (d+4) "steps_within" ["program"] (qX d)
 | 0=>D.cal (k:=3) sc_steps_within (fun _ _ _ _ _ _ us hl=>match us,hl with | [_],_=>rfl) (fun vs H Q E h=>by obtain⟨p,T,S,rfl,_⟩:=h; rfl) (fun f cdv A outer s H vs Q E hr h=>by obtain⟨p,T,S,rfl,z,_⟩:=h; exact z.elim)
 | d+1=>by
  have c_steps_within:=oC D c_blocks_of d;refine D.cal (k:=d+4) sc_steps_within (fun _ _ _ _ _ _ us hl=>match us,hl with | [_],_=>rfl) (fun vs H Q E h=>by obtain⟨p,T,S,rfl,_⟩:=h; rfl) (fun f cdv A outer s H vs Q E hr h=>?_)
  obtain⟨p,T,S,rfl,⟨hS,as,h1,h2⟩,ok,hL,q⟩:=h
  have hlen:=ay h2
  refine⟨_,(af (ax 1 sc_steps_within.nd (bA ac))
   (af (cE PassesOwn.never rfl (cr K (pv 0)) (ba 2 sc_steps_within.nd) (af (aD (bh K PySem.F.plainAttrs_list PySem.F.slot_list_append PySem.F.type_list_append aW (pv 1) (aa (pv 2) ac)))
   (ak (cE PassesOwn.never rfl (kJ K (aA c_blocks_of hr (aa (pv 2) ac) (hle:=by omega))) (ba 3 sc_steps_within.nd) (ak (aD (bh K PySem.F.plainAttrs_list PySem.F.slot_list_extend PySem.F.type_list_extend f_ (pv 1) (aa (aA c_steps_within hr (aa (pv 3) ac) (hle:=by omega)) ac))))))))
   (ak (aG (pv 1))))),?_⟩
  walk_at "rd1";refine⟨by decide,fun lp hlp=>?_⟩
  generalize hH1:upd H lp _=H1
  have sm1:=cV hH1 hlp;have e1:=dU hH1;walk_at "nx";refine⟨⟨_,SqL.of (sm1 _ _ h1)⟩,?_⟩
  refine dh (xs:=as.map V.ref) (fun i σ H'=>∃ (ads:List Addr) (o2 o3:Option V),σ=[some (.ref p),some (.ref lp),o2,o3]∧Same H H'∧H' lp=some (.lst (ads.map V.ref))∧Paired (headAt H') ads ((T.take i).flatMap (gf (cO d))))
   ⟨[],none,none,rfl,sm1,e1,.nil⟩ (fun i σ H' _ h=>by obtain⟨_,_,_,_,sm,_⟩:=h; exact SqL.of (sm _ _ h1)) ?_ ?_
  ·rintro i v σ H' hv ⟨ads,o2,o3,rfl,sm,hl,hp⟩
   have hi:i<as.length:=by have:=(List.getElem?_eq_some_iff.mp hv).1; simpa using this
   rw[List.getElem?_map,List.getElem?_eq_getElem hi]at hv
   cases hv;obtain⟨s,hs,st⟩:=bw h2 (List.getElem?_eq_getElem hi)
   have oks:=ok s (List.mem_of_getElem? hs);obtain⟨kind,hds,bs,ha,hbl,hbp,hbo⟩:=wc st oks
   have hflat:=nt (gf (cO d)) hs;have hfl:=vS (gf (cO d)) T (i+1);have hL':(T.flatMap (gf (cO d))).length≤5000:=hL
   rw[hflat]at hfl ⊢
   have hpl:=ay hp;generalize (T.take i).flatMap (gf (cO d))=pre at hp hfl hpl ⊢;have hps:(gf (cO d) s).length=1+((ef s).flatMap (cO d)).length:=by show (s::_).length=_; rw[List.length_cons]; omega
   rw[List.length_append,hps]at hfl
   have hhd:headAt H as[i] s:=stpAt.imp (fun b xs e=>e) (fun _ _ _=>trivial) st
   walk_at "rd1";refine⟨⟨_,SqL.of hl⟩,_,hl,by rw[List.length_map]; exact bN (by omega),?_⟩
   have upl:∀ {X:Hp} {o:HO} {l:List Addr} {us:List Stp} {ys:List V},X lp=some (.lst ys)→Paired (headAt X) l us→Paired (headAt (upd X lp o)) l us:=fun {X o l us ys} e h=>Paired.imp' (fun a s z=>stpAt.imp (fun b xs e'=>by rw[aj (b8 e' e (fun z=>nomatch z))]; exact e') (fun _ _ _=>trivial) z) h
   have hp2:=upl (o:=.lst (ads.map V.ref++[.ref as[i]])) hl hp;have sm2:Same H (upd H' lp (.lst (ads.map V.ref++[.ref as[i]]))):=sm.upd hlp _
   have e2:upd H' lp (.lst (ads.map V.ref++[.ref as[i]])) lp=some (.lst ((ads++[as[i]]).map V.ref)):=by rw[ah,List.map_append]; rfl
   generalize upd H' lp (.lst (ads.map V.ref++[.ref as[i]]))=H2 at hp2 sm2 e2 ⊢;have hat:SqT K H2 as[i] (.str kind::(hds++bs.map V.ref)):=SqT.of (sm2 _ _ ha)
   have hcl:(bj kind).length≤(hds++bs.map V.ref).length+1:=by rw[List.length_append,List.length_map,hbl]; omega
   have hcut:(hds++bs.map V.ref).length+1 - (bj kind).length=hds.length+1:=by rw[List.length_append,List.length_map,hbl]; omega
   walk_at "nx";refine⟨as[i],kind,hds++bs.map V.ref,rfl,hat,hcl,fun bp H3 sm3 hbp3=>?_⟩
   rw[hcut]at hbp3
   have edr:(V.str kind::(hds++bs.map V.ref)).drop (hds.length+1)=bs.map V.ref:=by rw[List.drop_succ_cons,List.drop_left']; rfl
   rw[edr]at hbp3
   walk_at "rd1";refine⟨⟨_,hbp3⟩,?_⟩
   have hil:=ay hbp
   refine qw (xs:=bs.map V.ref) (fun j σ H'=>∃ (ads':List Addr) (o3:Option V),σ=[some (.ref p),some (.ref lp),some (.ref as[i]),o3]∧Same H H'∧SqT K H' bp (bs.map V.ref)∧H' lp=some (.lst (ads'.map V.ref))∧Paired (headAt H') ads' (pre++(s::((ef s).take j).flatMap (cO d))))
    ⟨ads++[as[i]],o3,rfl,sm2.trans sm3,hbp3,sm3 _ _ e2,?_⟩ (fun j σ H' _ h=>by obtain⟨_,_,_,_,z1,_⟩:=h; exact z1) ?_ ?_
   ·exact cA (R:=headAt H3) (hhd.mono (sm2.trans sm3)) (Paired.imp' (fun a s z=>headAt.mono z sm3) hp2)
   ·rintro j x σ H4 hx ⟨ads',o3,rfl,sm4,hb4,hl4,hp4⟩
    have hj:j<bs.length:=by have:=(List.getElem?_eq_some_iff.mp hx).1; simpa using this
    rw[List.getElem?_map,List.getElem?_eq_getElem hj]at hx
    cases hx;obtain⟨b,hb,hpb⟩:=bw hbp (List.getElem?_eq_getElem hj)
    have hsn:=nt (cO d) hb;have hle:=vS (cO d) (ef s) (j+1);rw[hsn]at hle ⊢
    rw[List.length_append]at hle
    have hpl4:=ay hp4;rw[List.length_append,List.length_cons]at hpl4
    walk_at "rd1";refine⟨⟨_,SqL.of hl4⟩,bs[j],b,S,rfl,hpb.mono sm4,hbo b (List.mem_of_getElem? hb),by omega,fun r H5 ads5 sm5 hr5 hl5 hp5=>?_⟩
    have hpl5:=ay hp5;walk_at "rd1";refine⟨_,_,sm5 _ _ hl4,hl5,a_ (by rw[List.length_map,List.length_map]; omega),?_⟩
    refine⟨ads'++ads5,_,rfl,(sm4.trans sm5).upd hlp _,(hb4.same sm5).updL (sm5 _ _ hl4),by rw[ah,List.map_append],?_⟩
    rw[← List.cons_append,← List.append_assoc];exact mE (upl (sm5 _ _ hl4) (Paired.imp' (fun a s z=>headAt.mono z sm5) hp4)) (upl (sm5 _ _ hl4) hp5)
   ·rintro σ H4 ⟨ads',o3,rfl,sm4,hb4,hl4,hp4⟩
    rw[List.length_map,List.take_of_length_le (by omega)]at hp4
    exact⟨ads',_,_,rfl,sm4,hl4,hp4⟩
  ·rintro σ H' ⟨ads,o2,o3,rfl,sm,hl,hp⟩
   walk_at "nx";rw[List.length_map,List.take_of_length_le (by omega)]at hp
   exact q lp H' ads sm hlp hl hp
def gq(acc:List Str)(x:Str):List Str:=if x∈acc then acc else acc++[x]
def fS(l:List Str):List Str:=l.foldl gq []
def jK(l:List Str):List (aK × V):=l.map fun x=>(Sum.inr x,V.bl true)
theorem Cj(acc:List Str)(x:Str):cS (jK acc) (.inr x) (.bl true)=jK (gq acc x):=by
 unfold cS gq
 by_cases h:x∈acc
 ·rw[if_pos h]
  have ha:((jK acc).any fun kv=>decide (kv.1=(Sum.inr x:aK)))=true:=by
   rw[List.any_eq_true];exact⟨(.inr x,.bl true),List.mem_map.mpr ⟨x,h,rfl⟩,by simp⟩
  rw[if_pos ha];unfold jK;rw[List.map_map];refine List.map_congr_left fun y _=>?_
  by_cases e:y=x
  ·subst e; simp
  ·have:¬ ((Sum.inr y:aK)=Sum.inr x):=fun z=>e (Sum.inr.inj z)
   simp[this]
 ·rw[if_neg h]
  have ha:((jK acc).any fun kv=>decide (kv.1=(Sum.inr x:aK)))=false:=by
   rw[List.any_eq_false];intro kv hkv
   obtain⟨y,hy,rfl⟩:=List.mem_map.mp hkv
   have:¬ ((Sum.inr y:aK)=Sum.inr x):=fun z=>h (Sum.inr.inj z ▸ hy)
   simp[this]
  rw[if_neg (by rw[ha]; exact Bool.false_ne_true)]
  unfold jK;rw[List.map_append]; rfl
theorem i9:∀ (l acc:List Str),(l.foldl gq acc).length≤acc.length+l.length
 | [],acc=>by simp
 | x::l,acc=>by
  have:=i9 l (gq acc x)
  have h2:(gq acc x).length≤acc.length+1:=by unfold gq; split <;> simp
  rw[List.foldl_cons,List.length_cons]; omega
def cG:List V→List Str→List Str
 | .str x::xs,k::ks=>if k = "name" then x::cG xs ks else cG xs ks
 | _::xs,_::ks=>cG xs ks
 | _,_=>[]
def eK:List (Str × List Str):=[("open", ["name"]),("do", ["word", "name"]),("copy", ["name", "name"]),("drop", ["name"]),("tie", ["name", "name"]),("lend", ["name", "name", "steps"]),("if", ["bound", "steps", "steps"]),("while", ["bound", "steps"])]
structure Lp (H:Hp) (a:Addr) (s:Stp) (kind:Str) (xs:List V) (ks:List Str):Prop where
 at':H a=some (.tup (.str kind::xs))
 kd:(kind,ks)∈eK
 len:xs.length=ks.length
 txt:∀ (i:Nat) (x:V),xs[i]? = some x→ks[i]? = some "name" → ∃ y,x = .str y
 names:cG xs ks=cn s
theorem qh{α : Type}{a b x:α}{i:Nat}(h:[a,b][i]? = some x):(i=0∧x=a)∨(i=1∧x=b):=by
 match i,h with
 | 0,h=>exact .inl ⟨rfl,by simpa using h.symm⟩
 | 1,h=>exact .inr ⟨rfl,by simpa using h.symm⟩
 | i+2,h=>simp at h
theorem v3{H:Hp}{a:Addr}{g:List Stp→Prop}:∀ {s:Stp},headAt H a s→gj g s→∃ kind xs ks,Lp H a s kind xs ks
 | .plain ws,h,ok=>by
  cases ok with
  | opn x=>exact⟨"open", [.str x],["name"],h,by simp[eK],rfl,fun i y e _=>by match i,e with | 0,e=>exact⟨x,by simpa using e.symm⟩ | i+1,e=>simp at e,by simp[cG,cn]; decide⟩
  | drp x=>exact⟨"drop", [.str x],["name"],h,by simp[eK],rfl,fun i y e _=>by match i,e with | 0,e=>exact⟨x,by simpa using e.symm⟩ | i+1,e=>simp at e,by simp[cG,cn]; decide⟩
  | cpy x y=>exact⟨"copy", [.str x,.str y],["name", "name"],h,by simp[eK],rfl,fun i z e _=>by rcases qh e with ⟨_,rfl⟩ | ⟨_,rfl⟩ <;> exact⟨_,rfl⟩,by simp[cG,cn]; decide⟩
  | tie x y=>exact⟨"tie", [.str x,.str y],["name", "name"],h,by simp[eK],rfl,fun i z e _=>by rcases qh e with ⟨_,rfl⟩ | ⟨_,rfl⟩ <;> exact⟨_,rfl⟩,by simp[cG,cn]; decide⟩
  | doo u x=>exact⟨"do", [.str u,.str x],["word", "name"],h,by simp[eK],rfl,fun i z e _=>by rcases qh e with ⟨_,rfl⟩ | ⟨_,rfl⟩ <;> exact⟨_,rfl⟩,by simp[cG,cn]; decide⟩
 | .lend x y b,⟨q,h,_⟩,ok=>⟨"lend", [.str x,.str y,.ref q],["name", "name", "steps"],h,by simp[eK],rfl,fun i z e e2=>by match i,e,e2 with | 0,e,e2=>exact⟨_,by simpa using e.symm⟩ | 1,e,e2=>exact⟨_,by simpa using e.symm⟩ | 2,e,e2=>exact absurd (by simpa using e2) (show ¬ (("steps" : Str) = "name") from by decide) | i+3,e,e2=>simp at e,by simp[cG,cn]⟩
 | .ite n b c,⟨q,r,h,_,_⟩,ok=>⟨"if", [.int n,.ref q,.ref r],["bound", "steps", "steps"],h,by simp[eK],rfl,fun i z e e2=>by match i,e,e2 with | 0,e,e2=>exact absurd (by simpa using e2) (show ¬ (("bound" : Str) = "name") from by decide) | 1,e,e2=>exact absurd (by simpa using e2) (show ¬ (("steps" : Str) = "name") from by decide) | 2,e,e2=>exact absurd (by simpa using e2) (show ¬ (("steps" : Str) = "name") from by decide) | i+3,e,e2=>simp at e,by simp[cG,cn]⟩
 | .whl n b,⟨q,h,_⟩,ok=>⟨"while", [.int n,.ref q],["bound", "steps"],h,by simp[eK],rfl,fun i z e e2=>by match i,e,e2 with | 0,e,e2=>exact absurd (by simpa using e2) (show ¬ (("bound" : Str) = "name") from by decide) | 1,e,e2=>exact absurd (by simpa using e2) (show ¬ (("steps" : Str) = "name") from by decide) | i+2,e,e2=>simp at e,by simp[cG,cn]⟩
theorem rH:∀ {xs:List V} {ks:List Str} (x:V) (k:Str),xs.length=ks.length→cG (xs++[x]) (ks++[k])=cG xs ks++cG [x] [k]
 | [],[],x,k,_=>rfl
 | [],_::_,_,_,h=>by simp at h
 | _::_,[],_,_,h=>by simp at h
 | y::xs,c::ks,x,k,h=>by
  have ih:=rH (xs:=xs) (ks:=ks) x k (by simpa using h)
  cases y <;> simp only[List.cons_append,cG,ih]
  split <;> simp
theorem oX(xs:List V)(ks:List Str)(j:Nat)(h:xs.length=ks.length):(cG (xs.take j) (ks.take j)).length≤(cG xs ks).length:=by
 induction xs generalizing ks j with
 | nil=>simp[cG]
 | cons y xs ih=>
  cases ks with
  | nil=>simp at h
  | cons c ks=>
   cases j with
   | zero=>simp[cG]
   | succ j=>
    have:=ih ks j (by simpa using h)
    rw[List.take_succ_cons,List.take_succ_cons]
    cases y <;> simp only[cG] <;> (try split) <;> (try simp only[List.length_cons]) <;> omega
theorem Ax{K:PySem.W.Frag}{H:Hp}{a l:Addr}{xs:List V}{kvs:List (aK × V)}{o:HO}(h:SqT K H a xs)(hl:H l=some (.dK kvs)):SqT K (upd H l o) a xs:=by
 rcases h with (h | ⟨o',h⟩) | h
 ·exact .inl (.inl (by rw[aj (b8 h hl (fun z=>nomatch z))]; exact h))
 ·exact .inl (.inr ⟨o',by rw[aj (b8 h hl (fun z=>nomatch z))]; exact h⟩)
 ·exact .inr h
def nX:Sp:=fun vs H Q _=>∃ (sp:Addr) (ads:List Addr) (Ps:List Stp) (g:List Stp→Prop),vs=[.ref sp]∧H sp=some (.lst (ads.map V.ref))∧Paired (headAt H) ads Ps∧(∀ s∈Ps,gj g s)∧(Ps.flatMap cn).length≤5000∧
 ∀ (q:Addr) (H':Hp),Same H H'→H q=none→H' q=some (.lst ((fS (Ps.flatMap cn)).map V.str))→Q (.ref q) H'
theorem wj(D:DefAt K mg "names_in" b9) (z_zip:mg "zip" = none) (z_list:mg "list" = none) {dP:Addr} {kvs:List (Str × V)} (g_PARTS:mg "PARTS" = some (.ref dP)) (m:ModD w K dP kvs)
  (qk:∀ kind ks,(kind,ks)∈eK→∃ a,bY kvs kind=some (.ref a)∧∀ H:Hp,SqT K H a (ks.map V.str)):aM P w K mg base 1 "names_in" ["steps"] nX:=by
 refine D.cal sc_names_in (fun _ _ _ _ _ _ us hl=>match us,hl with | [_],_=>rfl) (fun vs H Q E h=>by obtain⟨_,_,_,_,rfl,_⟩:=h; rfl) (fun f cdv A outer s H vs Q E hr h=>?_)
 obtain⟨sp,ads,Ps,g,rfl,hsp,hp,hok,hL,q⟩:=h
 have hlen:=ay hp
 refine⟨_,(af (ax 1 sc_names_in.nd ly)
   (af (cE PassesOwn.never rfl (cr K (pv 0)) (ba 2 sc_names_in.nd) (ak (cE PassesOwn.never rfl (tw K L6 z_zip (aa (bS (iR K) (pv 2) (b4 ae) cB) (aa (av (G6 w K) (ua g_PARTS) (av (aI K) (pv 2) ae (fun _ _=>rfl)) (fun _ _=>rfl)) ac))) (fW K (n:=2) (cz (ba 3 sc_names_in.nd) (cz (ba 4 sc_names_in.nd) fU))) (ak (bd (aF bz (pv 4) aw (aL _)) (ak (iV fg (qM (pv 1) (pv 3) (vV hr)))) bu)))))
   (ak (aG (ga (vy hr) z_list tT (aa (pv 1) ac)))))),?_⟩
 walk_at "rd1";refine fun dp hdp=>?_
 generalize hH1:upd H dp _=H1
 have sm1:=cV hH1 hdp;have e1:=dU hH1;walk_at "nx";refine⟨⟨_,SqL.of (sm1 _ _ hsp)⟩,?_⟩
 refine dh (xs:=ads.map V.ref) (fun i σ H'=>∃ o2 o3 o4:Option V,σ=[some (.ref sp),some (.ref dp),o2,o3,o4]∧Same H H'∧H' dp=some (.dK (jK (fS ((Ps.take i).flatMap cn)))))
  ⟨none,none,none,rfl,sm1,e1⟩ (fun i σ H' _ h=>by obtain⟨_,_,_,_,sm,_⟩:=h; exact SqL.of (sm _ _ hsp)) ?_ ?_
 ·rintro i v σ H' hv ⟨o2,o3,o4,rfl,sm,hd⟩
  have hi:i<ads.length:=by have:=(List.getElem?_eq_some_iff.mp hv).1; simpa using this
  rw[List.getElem?_map,List.getElem?_eq_getElem hi]at hv
  cases hv;obtain⟨s,hs,st⟩:=bw hp (List.getElem?_eq_getElem hi)
  obtain⟨kind,xs,ks,hd1,hd2,hd3,hd4,hd5⟩:=v3 st (hok s (List.mem_of_getElem? hs))
  obtain⟨ka,hka,hks⟩:=qk kind ks hd2
  have hsn:=nt cn hs;have hfl:=vS cn Ps (i+1);rw[hsn]at hfl ⊢
  have hded:fS ((Ps.take i).flatMap cn++cn s)=(cn s).foldl gq (fS ((Ps.take i).flatMap cn)):=by unfold fS; rw[List.foldl_append]
  rw[hded];have hac:=i9 ((Ps.take i).flatMap cn) [];rw[List.length_append]at hfl
  rw[List.length_nil]at hac
  have hac':(fS ((Ps.take i).flatMap cn)).length≤((Ps.take i).flatMap cn).length:=by unfold fS; omega
  generalize fS ((Ps.take i).flatMap cn)=acc at hd hac' ⊢;have hat:SqT K H' ads[i] (.str kind::xs):=SqT.of (sm _ _ hd1)
  walk_at "rd1";refine hJ hat fun p2 H2 sm2 h2=>?_
  have e1:dY (V.str kind::xs) (some 1) none=xs:=gJ _ 1
  rw[e1]at h2
  walk_at "rd1";refine⟨_,_,.inr (hat.same sm2),cw,dP,kvs,kind,.ref ka,rfl,rfl,m,hka,?_⟩
  refine⟨p2,ka,rfl,⟨_,h2⟩,⟨_,hks _⟩,?_⟩
  refine ow (xs:=xs) (ys:=ks.map V.str) (fun j σ H'=>∃ o3 o4:Option V,σ=[some (.ref sp),some (.ref dp),some (.ref ads[i]),o3,o4]∧Same H H'∧SqT K H' p2 xs∧H' dp=some (.dK (jK ((cG (xs.take j) (ks.take j)).foldl gq acc))))
   (by rw[List.length_map]; exact hd3) ⟨o3,o4,rfl,sm.trans sm2,h2,sm2 _ _ hd⟩ (fun j σ H' _ h=>by obtain⟨_,_,_,_,z1,_⟩:=h; exact⟨z1,hks _⟩) ?_ ?_
  ·rintro j x y t σ H3 hx hy ⟨o3,o4,rfl,sm3,h3,hd3'⟩ ht
   have hjx:j<xs.length:=(List.getElem?_eq_some_iff.mp hx).1
   have hjk:j<ks.length:=by omega
   have hkj:ks[j]? = some ks[j]:=List.getElem?_eq_getElem hjk
   rw[List.getElem?_map,hkj]at hy
   cases hy;have ht1:xs.take (j+1)=xs.take j++[x]:=by rw[List.take_add_one,hx]; rfl
   have ht2:ks.take (j+1)=ks.take j++[ks[j]]:=by rw[List.take_add_one,hkj]; rfl
   have hpa:=rH (xs:=xs.take j) (ks:=ks.take j) x ks[j] (by rw[List.length_take,List.length_take,hd3])
   have hpl:=oX xs ks j hd3;rw[hd5]at hpl
   have hfl2:=i9 (cG (xs.take j) (ks.take j)) acc;rw[ht1,ht2,hpa];have htx:=hd4 j x hx;rw[hkj]at htx
   generalize ks[j]=kj at hpa htx ⊢;generalize cG (xs.take j) (ks.take j)=pk at hd3' hpl hfl2 ⊢;have st:=al ht (.tup [x,V.str kj]);have et:upd H3 t (.tup [x,V.str kj]) t=some (.tup [x,V.str kj]):=ah
   generalize upd H3 t (.tup [x,V.str kj])=H4 at st et ⊢;walk_at "rd1";refine⟨t,_,rfl,SqT.of et,rfl,?_⟩
   walk_at "rd1";refine aJ (fun c=>?_) (fun c=>?_)
   ·subst c
    obtain⟨z,rfl⟩:=htx rfl
    have hd4':=st _ _ hd3';refine⟨dp,_,.inr z,rfl,rfl,hd4',by unfold jK; rw[List.length_map]; exact bN (by omega),?_⟩
    rw[Cj];refine⟨_,_,rfl,(sm3.trans st).upd hdp _,Ax (h3.same st) hd4',?_⟩
    rw[ah,List.foldl_append]; rfl
   ·have hno:cG [x] [kj]=[]:=by
     cases x <;> simp[cG,c]
    rw[hno,List.append_nil];exact⟨_,_,rfl,sm3.trans st,h3.same st,st _ _ hd3'⟩
  ·rintro σ H3 ⟨o3,o4,rfl,sm3,h3,hd3'⟩
   rw[List.take_length,List.take_of_length_le (by omega),hd5]at hd3'
   exact⟨_,_,_,rfl,sm3,hd3'⟩
 ·rintro σ H' ⟨o2,o3,o4,rfl,sm,hd⟩
  walk_at "nx";rw[List.length_map,List.take_of_length_le (by omega)]at hd
  have hac:=i9 (Ps.flatMap cn) [];rw[List.length_nil]at hac
  refine⟨_,hd,by unfold jK fS; rw[List.length_map]; omega,fun l hl=>q l _ (sm.trans (al hl _)) (sm.free hl) ?_⟩
  rw[ah];unfold jK;rw[List.map_map]; rfl
def oy:Sp:=fun vs H Q _=>∃ (p:Addr) (T:List Stp) (S:Addr→Prop),vs=[.ref p]∧ProgAt S 10 H p T∧kg 10 T∧(cO 10 T).length≤1000∧((cO 10 T).flatMap cn).length≤5000∧
 ∀ (q:Addr) (H':Hp),Same H H'→H q=none→H' q=some (.lst ((fS ((cO 10 T).flatMap cn)).map V.str))→Q (.ref q) H'
theorem rm:∀ (d:Nat) {T:List Stp},kg d T→∀ s∈cO d T,∃ g:List Stp→Prop,gj g s
 | 0,_,h,_,_=>h.elim
 | d+1,T,ok,s,hs=>by
  obtain⟨u,hu,hs⟩:=List.mem_flatMap.mp hs
  have o:=ok u hu;rcases List.mem_cons.mp hs with rfl | hs
  ·exact⟨_,o⟩
  obtain⟨b,hb,hs⟩:=List.mem_flatMap.mp hs
  refine rm d (T:=b) ?_ s hs
  cases u with
  | plain ws=>simp[ef]at hb
  | lend x y c=>
   have:b=c:=by simpa [ef] using hb
   subst this; exact o
  | ite n c e=>
   obtain⟨o1,o2⟩:=o
   have:b=c∨b=e:=by simpa [ef] using hb
   rcases this with rfl | rfl
   ·exact o1
   ·exact o2
  | whl n c=>
   have:b=c:=by simpa [ef] using hb
   subst this; exact o
theorem Az:∀ {s:Stp} {g:List Stp→Prop},gj g s→gj (fun _=>True) s
 | .plain _,_,h=>h
 | .lend _ _ _,_,_=>trivial
 | .ite _ _ _,_,_=>⟨trivial,trivial⟩
 | .whl _ _,_,_=>trivial
theorem vO(D:DefAt K mg "names_of" fC) (c_names_in:aM P w K mg base 1 "names_in" ["steps"] nX) (c_steps_within:aM P w K mg base 14 "steps_within" ["program"] (qX 10)):aM P w K mg base 15 "names_of" ["program"] oy:=by
 refine D.cal sx (fun _ _ _ _ _ _ us hl=>match us,hl with | [_],_=>rfl) (fun vs H Q E h=>by obtain⟨_,_,_,rfl,_⟩:=h; rfl) (fun f cdv A outer s H vs Q E hr h=>?_)
 obtain⟨p,T,S,rfl,hp,ok,h1,h2,q⟩:=h
 refine⟨_,(ak (aG (aA c_names_in hr (aa (aA c_steps_within hr (aa (pv 0) ac) (hle:=by omega)) ac) (hle:=by omega)))),?_⟩
 walk_at "rd1";refine⟨p,T,S,rfl,hp,ok,by omega,fun sp H1 ads sm1 hsp hl1 hp1=>?_⟩
 walk_at "rd1";refine⟨sp,ads,cO 10 T,fun _=>True,rfl,hl1,hp1,fun s hs=>let ⟨g,z⟩:=rm 10 ok s hs; Az z,h2,fun r H2 sm2 hr2 hl2=>?_⟩
 exact q r H2 (sm1.trans sm2) (sm1.free hr2) hl2
theorem pM{ws:List Str}(h:fZ ws):(ws.headD "" = "do" → ws.length=3)∧gk ws=cn (.plain ws):=by
 cases h with
 | opn x=>exact⟨fun c=>absurd c (by show ¬ (Str.ofString "open" = Str.ofString "do"); decide +kernel),by unfold gk; simp only[cn]; rw[if_neg (by show ¬ (Str.ofString "open" = Str.ofString "do"); decide +kernel),if_neg (by show ¬ (Str.ofString "open" = Str.ofString "do"); decide +kernel)]⟩
 | drp x=>exact⟨fun c=>absurd c (by show ¬ (Str.ofString "drop" = Str.ofString "do"); decide +kernel),by unfold gk; simp only[cn]; rw[if_neg (by show ¬ (Str.ofString "drop" = Str.ofString "do"); decide +kernel),if_neg (by show ¬ (Str.ofString "drop" = Str.ofString "do"); decide +kernel)]⟩
 | cpy x y=>exact⟨fun c=>absurd c (by show ¬ (Str.ofString "copy" = Str.ofString "do"); decide +kernel),by unfold gk; simp only[cn]; rw[if_neg (by show ¬ (Str.ofString "copy" = Str.ofString "do"); decide +kernel),if_neg (by show ¬ (Str.ofString "copy" = Str.ofString "do"); decide +kernel)]⟩
 | tie x y=>exact⟨fun c=>absurd c (by show ¬ (Str.ofString "tie" = Str.ofString "do"); decide +kernel),by unfold gk; simp only[cn]; rw[if_neg (by show ¬ (Str.ofString "tie" = Str.ofString "do"); decide +kernel),if_neg (by show ¬ (Str.ofString "tie" = Str.ofString "do"); decide +kernel)]⟩
 | doo u x=>exact⟨fun _=>rfl,by unfold gk; simp only[cn]; rw[if_pos (by rfl),if_pos (by rfl)]; rfl⟩
theorem B9{f g:List Stp→Prop}{N:Str→Prop}{pr:List Stp→List Stp}(hf:∀ b,g b→(∀ n∈(pr b).flatMap cn,N n)→f b):∀ (s:Stp),gj g s→(∀ n∈(gf pr s).flatMap cn,N n)→BD f N s
 | .plain ws,ok,h=>by
  obtain⟨h1,h2⟩:=pM ok
  refine⟨h1,fun n hn=>h n ?_⟩
  rw[h2]at hn
  exact List.mem_flatMap.mpr ⟨.plain ws,List.mem_cons_self,hn⟩
 | .lend x y b,ok,h=>by
  refine⟨h x (List.mem_flatMap.mpr ⟨.lend x y b,List.mem_cons_self,by simp[cn]⟩),h y (List.mem_flatMap.mpr ⟨.lend x y b,List.mem_cons_self,by simp[cn]⟩),hf b ok fun n hn=>h n ?_⟩
  obtain⟨s,hs,hn⟩:=List.mem_flatMap.mp hn
  exact List.mem_flatMap.mpr ⟨s,List.mem_cons_of_mem _ (List.mem_flatMap.mpr ⟨b,by simp[ef],hs⟩),hn⟩
 | .ite m b c,ok,h=>by
  refine⟨hf b ok.1 fun n hn=>h n ?_,hf c ok.2 fun n hn=>h n ?_⟩
  ·obtain⟨s,hs,hn⟩:=List.mem_flatMap.mp hn
   exact List.mem_flatMap.mpr ⟨s,List.mem_cons_of_mem _ (List.mem_flatMap.mpr ⟨b,by simp[ef],hs⟩),hn⟩
  ·obtain⟨s,hs,hn⟩:=List.mem_flatMap.mp hn
   exact List.mem_flatMap.mpr ⟨s,List.mem_cons_of_mem _ (List.mem_flatMap.mpr ⟨c,by simp[ef],hs⟩),hn⟩
 | .whl m b,ok,h=>hf b ok fun n hn=>h n (by
   obtain⟨s,hs,hn⟩:=List.mem_flatMap.mp hn
   exact List.mem_flatMap.mpr ⟨s,List.mem_cons_of_mem _ (List.mem_flatMap.mpr ⟨b,by simp[ef],hs⟩),hn⟩)
theorem yF{N:Str→Prop}:∀ (d:Nat) (T:List Stp),kg d T→(∀ n∈(cO d T).flatMap cn,N n)→pL N d T
 | 0,_,h,_=>h
 | d+1,T,ok,h=>fun s hs=>B9 (fun b hb hn=>yF d b hb hn) s (ok s hs) fun n hn=>h n (by
   obtain⟨s',hs',hn⟩:=List.mem_flatMap.mp hn
   exact List.mem_flatMap.mpr ⟨s',List.mem_flatMap.mpr ⟨s,hs,hs'⟩,hn⟩)
end
set_option genSizeOf false in
inductive Frm where
 | lend (x y:Str) (up:List Stp)
 | whl (n:Int) (up:List Stp)
 | inB (n:Int) (up:List Stp)
 | inC (n:Int) (b up:List Stp)
inductive Ctx (H:Hp) (S:Addr→Prop) (root:Addr):List Frm→List (Str × Addr)→Nat→Addr→Prop
 | nil:Ctx H S root [] [] 9 root
 | lend {x y:Str} {us:List Stp} {r:List Frm} {pr:List (Str × Addr)} {d:Nat} {here up t:Addr} {as:List Addr}:H up=some (.lst (as.map V.ref++[.ref t]))→Paired (stpAt (ProgAt S (d+1) H) H) as us→H t=some (.tup [.str "lend", .str x,.str y,.ref here])→Ctx H S root r pr (d+1) up→Ctx H S root (.lend x y us::r) (("back", up)::pr) d here
 | whl {n:Int} {us:List Stp} {r:List Frm} {pr:List (Str × Addr)} {d:Nat} {here up t:Addr} {as:List Addr}:H up=some (.lst (as.map V.ref++[.ref t]))→Paired (stpAt (ProgAt S (d+1) H) H) as us→H t=some (.tup [.str "while", .int n,.ref here])→Ctx H S root r pr (d+1) up→Ctx H S root (.whl n us::r) (("done", up)::pr) d here
 | inB {n:Int} {us:List Stp} {r:List Frm} {pr:List (Str × Addr)} {d:Nat} {here up t oth:Addr} {as:List Addr}:H up=some (.lst (as.map V.ref++[.ref t]))→Paired (stpAt (ProgAt S (d+1) H) H) as us→H t=some (.tup [.str "if", .int n,.ref here,.ref oth])→H oth=some (.lst [])→Ctx H S root r pr (d+1) up→Ctx H S root (.inB n us::r) (("else", oth)::("fi", up)::pr) d here
 | inC {n:Int} {b us:List Stp} {r:List Frm} {pr:List (Str × Addr)} {d:Nat} {here up t bq:Addr} {as:List Addr}:H up=some (.lst (as.map V.ref++[.ref t]))→Paired (stpAt (ProgAt S (d+1) H) H) as us→H t=some (.tup [.str "if", .int n,.ref bq,.ref here])→ProgAt S (d+1) H bq b→Ctx H S root r pr (d+1) up→Ctx H S root (.inC n b us::r) (("fi", up)::pr) d here
theorem Ctx.imp{H H':Hp}{S S':Addr→Prop}{root:Addr}(ht:∀ b xs,H b=some (.tup xs)→H' b=some (.tup xs))(hl:∀ b xs,S b→H b=some (.lst xs)→H' b=some (.lst xs))(hS:∀ b,S b→S' b){fs:List Frm}{pr:List (Str × Addr)}{d:Nat}{here:Addr}
  (h:Ctx H S root fs pr d here):(∀ q∈pr,∀ xs,H q.2=some (.lst xs)→H' q.2=some (.lst xs))→Ctx H' S' root fs pr d here:=by
 have st:∀ {d:Nat} {as:List Addr} {us:List Stp},Paired (stpAt (ProgAt S d H) H) as us→Paired (stpAt (ProgAt S' d H') H') as us:=fun {d as us} h=>Paired.imp' (fun a s z=>z.imp ht fun q b y=>y.imp ht hl hS d) h
 induction h with
 | nil=>intro _; exact .nil
 | lend h1 h2 h3 _ ih=>intro hu; exact .lend (hu _ List.mem_cons_self _ h1) (st h2) (ht _ _ h3) (ih fun q hq=>hu q (List.mem_cons_of_mem _ hq))
 | whl h1 h2 h3 _ ih=>intro hu; exact .whl (hu _ List.mem_cons_self _ h1) (st h2) (ht _ _ h3) (ih fun q hq=>hu q (List.mem_cons_of_mem _ hq))
 | inB h1 h2 h3 h4 _ ih=>intro hu; exact .inB (hu _ (List.mem_cons_of_mem _ List.mem_cons_self) _ h1) (st h2) (ht _ _ h3) (hu _ List.mem_cons_self _ h4) (ih fun q hq=>hu q (List.mem_cons_of_mem _ (List.mem_cons_of_mem _ hq)))
 | inC h1 h2 h3 h4 _ ih=>intro hu; exact .inC (hu _ List.mem_cons_self _ h1) (st h2) (ht _ _ h3) (h4.imp ht hl hS _) (ih fun q hq=>hu q (List.mem_cons_of_mem _ hq))
def dv(pr:List (Str × Addr)):Nat:=(pr.filter fun q=>decide (q.1≠("else" : Str))).length
theorem iY{w:Str}(h:w ≠ "else") (a:Addr) (pr:List (Str × Addr)):dv ((w,a)::pr)=dv pr+1:=by
 unfold dv;rw[List.filter_cons,if_pos (by simpa using h)]; rfl
theorem t7(a:Addr)(pr:List (Str × Addr)):dv (("else", a)::pr)=dv pr:=by
 unfold dv;rw[List.filter_cons,if_neg (by simp)]
theorem Ctx.deep{H:Hp}{S:Addr→Prop}{root:Addr}{fs:List Frm}{pr:List (Str × Addr)}{d:Nat}{here:Addr}(h:Ctx H S root fs pr d here):d+fs.length=9∧dv pr=fs.length∧pr.length≤2 * fs.length:=by
 induction h with
 | nil=>exact⟨rfl,rfl,Nat.le_refl _⟩
 | lend _ _ _ _ ih=>obtain⟨a,b,c⟩:=ih; refine⟨by rw[List.length_cons]; omega,by rw[iY (by decide),List.length_cons]; omega,by simp only[List.length_cons]; omega⟩
 | whl _ _ _ _ ih=>obtain⟨a,b,c⟩:=ih; refine⟨by rw[List.length_cons]; omega,by rw[iY (by decide),List.length_cons]; omega,by simp only[List.length_cons]; omega⟩
 | inB _ _ _ _ _ ih=>obtain⟨a,b,c⟩:=ih; refine⟨by rw[List.length_cons]; omega,by rw[t7,iY (by decide),List.length_cons]; omega,by simp only[List.length_cons]; omega⟩
 | inC _ _ _ _ _ ih=>obtain⟨a,b,c⟩:=ih; refine⟨by rw[List.length_cons]; omega,by rw[iY (by decide),List.length_cons]; omega,by simp only[List.length_cons]; omega⟩
set_option genInjectivity false in
set_option genSizeOf false in
structure BS where
 cur:List Stp
 stk:List Frm
 L:List Str
 left:Int
 lends:Int
def fc(st:BS):BS:=match st.stk with
 | []=>st
 | .lend x y up::r=>{ st with cur:=up++[.lend x y st.cur],stk:=r,L:=st.L++[("back" : Str)] }
 | .whl n up::r=>{ st with cur:=up++[.whl n st.cur],stk:=r,L:=st.L++[("done" : Str)] }
 | .inB n up::r=>{ st with cur:=[],stk:=.inC n st.cur up::r,L:=st.L++[("else" : Str)] }
 | .inC n b up::r=>{ st with cur:=up++[.ite n b st.cur],stk:=r,L:=st.L++[("fi" : Str)] }
def e6:List Frm→Nat→List Str
 | [],_=>[]
 | .lend x y up::r,d=>e6 r (d+1)++b5 (d+2) up++[Txt.join " " ["lend", x,y]]
 | .whl n up::r,d=>e6 r (d+1)++b5 (d+2) up++[Txt.join " " ["while", bG n]]
 | .inB n up::r,d=>e6 r (d+1)++b5 (d+2) up++[Txt.join " " ["if", bG n]]
 | .inC n b up::r,d=>e6 r (d+1)++b5 (d+2) up++[Txt.join " " ["if", bG n]]++b5 (d+1) b++[("else" : Str)]
def tm:List Frm→Nat→Prop
 | [],_=>True
 | .lend x y up::r,d=>x.length≤20∧y.length≤20∧dJ (d+2) up∧tm r (d+1)
 | .whl n up::r,d=>n.natAbs.log2<1920∧dJ (d+2) up∧tm r (d+1)
 | .inB n up::r,d=>n.natAbs.log2<1920∧dJ (d+2) up∧tm r (d+1)
 | .inC n b up::r,d=>n.natAbs.log2<1920∧dJ (d+1) b∧dJ (d+2) up∧tm r (d+1)
def fL:Frm→Nat
 | .lend _ _ up=>up.length
 | .whl _ up=>up.length
 | .inB _ up=>up.length
 | .inC _ _ up=>up.length
structure ij (st:BS) (d:Nat):Prop where
 dep:d+st.stk.length=9
 lines:st.L=e6 st.stk d++b5 (d+1) st.cur
 ok:dJ (d+1) st.cur
 okf:tm st.stk d
 size:st.cur.length+(st.stk.map fL).sum≤st.L.length
theorem l_(d:Nat)(T U:List Stp):b5 (d+1) (T++U)=b5 (d+1) T++b5 (d+1) U:=by show List.flatMap _ _=_; rw[List.flatMap_append]; rfl
theorem mz{d:Nat}{T U:List Stp}(h:dJ (d+1) T)(h':dJ (d+1) U):dJ (d+1) (T++U):=fun s hs=>(List.mem_append.mp hs).elim (h s) (h' s)
theorem mj{d:Nat}{s:Stp}(h:qg (dJ d) s):dJ (d+1) [s]:=fun u hu=>by rw[List.mem_singleton.mp hu]; exact h
theorem CU{st:BS}{d:Nat}(h:ij st d)(hne:st.stk≠[]):∃ d',ij (fc st) d':=by
 obtain⟨cur,stk,L,left,lends⟩:=st
 obtain⟨h1,h2,h3,h4,h5⟩:=h
 dsimp only at h1 h2 h3 h4 h5 hne
 cases stk with
 | nil=>exact absurd rfl hne
 | cons f r=>
  rw[List.map_cons,List.sum_cons]at h5
  rw[List.length_cons]at h1
  cases f with
  | lend x y up=>
   obtain⟨k1,k2,k3,k4⟩:=h4
   refine⟨d+1,⟨by show d+1+r.length=9; omega,?_,mz k3 (mj ⟨k1,k2,h3⟩),k4,?_⟩⟩
   ·show L++[("back" : Str)]=e6 r (d+1)++b5 (d+2) (up++[.lend x y cur])
    rw[l_,h2];simp[e6,b5,bU,List.append_assoc]
   ·show (up++[Stp.lend x y cur]).length+(r.map fL).sum≤(L++[("back" : Str)]).length
    simp only[List.length_append,List.length_cons,List.length_nil]
    have:fL (.lend x y up)=up.length:=rfl
    omega
  | whl n up=>
   obtain⟨k1,k3,k4⟩:=h4
   refine⟨d+1,⟨by show d+1+r.length=9; omega,?_,mz k3 (mj ⟨k1,h3⟩),k4,?_⟩⟩
   ·show L++[("done" : Str)]=e6 r (d+1)++b5 (d+2) (up++[.whl n cur])
    rw[l_,h2];simp[e6,b5,bU,List.append_assoc]
   ·show (up++[Stp.whl n cur]).length+(r.map fL).sum≤(L++[("done" : Str)]).length
    simp only[List.length_append,List.length_cons,List.length_nil]
    have:fL (.whl n up)=up.length:=rfl
    omega
  | inB n up=>
   obtain⟨k1,k3,k4⟩:=h4
   refine⟨d,⟨by show d+(r.length+1)=9; omega,?_,fun s hs=>absurd hs (by show ¬ s∈([]:List Stp); simp),⟨k1,h3,k3,k4⟩,?_⟩⟩
   ·show L++[("else" : Str)]=e6 (.inC n cur up::r) d++b5 (d+1) []
    rw[h2];simp[e6,b5,List.append_assoc]
   ·show 0+(((Frm.inC n cur up)::r).map fL).sum≤(L++[("else" : Str)]).length
    rw[List.map_cons,List.sum_cons];simp only[List.length_append,List.length_cons,List.length_nil]
    have:fL (.inC n cur up)=up.length:=rfl
    have:fL (.inB n up)=up.length:=rfl
    omega
  | inC n b up=>
   obtain⟨k1,k2,k3,k4⟩:=h4
   refine⟨d+1,⟨by show d+1+r.length=9; omega,?_,mz k3 (mj ⟨k1,k2,h3⟩),k4,?_⟩⟩
   ·show L++[("fi" : Str)]=e6 r (d+1)++b5 (d+2) (up++[.ite n b cur])
    rw[l_,h2];simp[e6,b5,bU,List.append_assoc]
   ·show (up++[Stp.ite n b cur]).length+(r.map fL).sum≤(L++[("fi" : Str)]).length
    simp only[List.length_append,List.length_cons,List.length_nil]
    have:fL (.inC n b up)=up.length:=rfl
    omega
def iH(H:Hp)(e:Addr)(q:Str × Addr):Prop:=H e=some (.tup [.str q.1,.ref q.2])
structure BInv (H0 H:Hp) (root lp pp here:Addr) (st:BS) (d:Nat) (pr:List (Str × Addr)) (S:Addr→Prop) (as es:List Addr):Prop where
 ctx:Ctx H S root st.stk pr d here
 pile:H pp=some (.lst (es.map V.ref))
 ents:Paired (iH H) es pr.reverse
 cur:H here=some (.lst (as.map V.ref))
 steps:Paired (stpAt (ProgAt S d H) H) as st.cur
 lines:H lp=some (.lst (st.L.map V.str))
 nd:(here::pr.map (·.2)).Nodup
 apart:∀ a∈here::pr.map (·.2),¬ S a∧a≠lp∧a≠pp∧H0 a=none∧∃ xs,H a=some (.lst xs)
 lpp:lp≠pp
 off:¬ S lp∧¬ S pp∧H0 lp=none∧H0 pp=none
 sin:∀ b,S b→∃ xs,H b=some (.lst xs)
 sm:Same H0 H
section
variable{H0 H H':Hp}{root lp pp here:Addr}{st:BS}{d:Nat}{pr:List (Str × Addr)}{S:Addr→Prop}{as es:List Addr}
theorem BInv.fr(I:BInv H0 H root lp pp here st d pr S as es)(fr:∀ b o,H b=some o→b≠here→b≠pp→b≠lp→H' b=some o) :
  (∀ b xs,H b=some (.tup xs)→H' b=some (.tup xs))∧(∀ b xs,S b→H b=some (.lst xs)→H' b=some (.lst xs))∧(∀ q∈pr,∀ xs,H q.2=some (.lst xs)→H' q.2=some (.lst xs))∧Same H0 H':=by
 have hh:=I.apart here List.mem_cons_self;refine⟨fun b xs e=>fr b _ e ?_ ?_ ?_,fun b xs hs e=>fr b _ e ?_ ?_ ?_,fun q hq xs e=>fr _ _ e ?_ ?_ ?_,fun b o e=>fr b o (I.sm b o e) ?_ ?_ ?_⟩
 ·rintro rfl; rw[I.cur]at e; cases e
 ·rintro rfl; rw[I.pile]at e; cases e
 ·rintro rfl; rw[I.lines]at e; cases e
 ·rintro rfl; exact hh.1 hs
 ·rintro rfl; exact I.off.2.1 hs
 ·rintro rfl; exact I.off.1 hs
 ·intro z
  have:=(List.nodup_cons.mp I.nd).1
  exact this (z ▸ List.mem_map_of_mem hq)
 ·exact(I.apart _ (List.mem_cons_of_mem _ (List.mem_map_of_mem hq))).2.2.1
 ·exact(I.apart _ (List.mem_cons_of_mem _ (List.mem_map_of_mem hq))).2.1
 ·rintro rfl; rw[hh.2.2.2.1]at e; cases e
 ·rintro rfl; rw[I.off.2.2.2]at e; cases e
 ·rintro rfl; rw[I.off.2.2.1]at e; cases e
theorem BInv.new(I:BInv H0 H root lp pp here st d pr S as es){a:Addr}(ha:H a=none):a≠lp∧a≠pp∧¬ S a∧H0 a=none∧a∉here::pr.map (·.2):=by
 refine⟨?_,?_,fun z=>?_,I.sm.free ha,fun z=>?_⟩
 ·rintro rfl; rw[I.lines]at ha; cases ha
 ·rintro rfl; rw[I.pile]at ha; cases ha
 ·obtain⟨xs,e⟩:=I.sin a z; rw[ha]at e; cases e
 ·obtain⟨_,_,_,_,xs,e⟩:=I.apart a z; rw[ha]at e; cases e
theorem BInv.alloc(I:BInv H0 H root lp pp here st d pr S as es)(sm:Same H H'):BInv H0 H' root lp pp here st d pr S as es:=
 ⟨I.ctx.imp (fun b xs e=>sm _ _ e) (fun b xs _ e=>sm _ _ e) (fun _ z=>z) (fun q _ xs e=>sm _ _ e),sm _ _ I.pile,Paired.imp' (fun e q z=>sm _ _ z) I.ents,sm _ _ I.cur,Paired.imp' (fun a s z=>z.imp (fun b xs e=>sm _ _ e) fun q b y=>y.mono sm) I.steps,sm _ _ I.lines,I.nd,
  fun a ha=>let ⟨z1,z2,z3,z4,xs,z5⟩:=I.apart a ha; ⟨z1,z2,z3,z4,xs,sm _ _ z5⟩,I.lpp,I.off,fun b hb=>let ⟨xs,e⟩:=I.sin b hb; ⟨xs,sm _ _ e⟩,I.sm.trans sm⟩
theorem BInv.plain(I:BInv H0 H root lp pp here st d pr S as es)(fr:∀ b o,H b=some o→b≠here→b≠pp→b≠lp→H' b=some o){t:Addr}{ws:List Str}{L':List Str}(hh:H' here=some (.lst ((as++[t]).map V.ref)))(ht:H' t=some (.tup (ws.map V.str)))
  (hl:H' lp=some (.lst (L'.map V.str))) (hp:H' pp=some (.lst (es.map V.ref))) {lf ld:Int}:BInv H0 H' root lp pp here ⟨st.cur++[.plain ws],st.stk,L',lf,ld⟩ d pr S (as++[t]) es:=by
 obtain⟨f1,f2,f3,f4⟩:=I.fr fr
 refine⟨I.ctx.imp f1 f2 (fun _ z=>z) f3,hp,Paired.imp' (fun e q z=>f1 _ _ z) I.ents,hh,cA (R:=stpAt (ProgAt S d H') H') (show stpAt _ H' t (.plain ws) from ht) (Paired.imp' (fun a s z=>stpAt.imp f1 (fun q b y=>ProgAt.imp f1 f2 (fun _ z=>z) d y) z) I.steps),hl,I.nd,fun a ha=>?_,I.lpp,I.off,fun b hb=>let ⟨xs,e⟩:=I.sin b hb; ⟨xs,f2 _ _ hb e⟩,f4⟩
 obtain⟨z1,z2,z3,z4,xs,z5⟩:=I.apart a ha
 refine⟨z1,z2,z3,z4,?_⟩
 rcases List.mem_cons.mp ha with rfl | ha
 ·exact⟨_,hh⟩
 ·obtain⟨q,hq,rfl⟩:=List.mem_map.mp ha
  exact⟨xs,f3 q hq _ z5⟩
theorem BInv.open1(I:BInv H0 H root lp pp here st (d+1) pr S as es)(fr:∀ b o,H b=some o→b≠here→b≠pp→b≠lp→H' b=some o){t e inner:Addr}{word:Str}{L':List Str}{f:Frm}(hh:H' here=some (.lst ((as++[t]).map V.ref)))(hin:H inner=none)(hi:H' inner=some (.lst []))
  (hl:H' lp=some (.lst (L'.map V.str))) (hp:H' pp=some (.lst ((es++[e]).map V.ref))) (he:H' e=some (.tup [.str word,.ref here]))
  (hc:Ctx H' S root st.stk pr (d+1) here→Paired (stpAt (ProgAt S (d+1) H') H') as st.cur→Ctx H' S root (f::st.stk) ((word,here)::pr) d inner) {lf ld:Int} :
  BInv H0 H' root lp pp inner ⟨[],f::st.stk,L',lf,ld⟩ d ((word,here)::pr) S [] (es++[e]):=by
 obtain⟨f1,f2,f3,f4⟩:=I.fr fr
 obtain⟨n1,n2,n3,n4,n5⟩:=I.new hin
 refine⟨hc (I.ctx.imp f1 f2 (fun _ z=>z) f3) (Paired.imp' (fun a s z=>z.imp f1 fun q b y=>y.imp f1 f2 (fun _ z=>z) _) I.steps),hp,?_,hi,.nil,hl,?_,fun a ha=>?_,I.lpp,I.off,fun b hb=>let ⟨xs,e⟩:=I.sin b hb; ⟨xs,f2 _ _ hb e⟩,f4⟩
 ·rw[List.reverse_cons]
  exact cA (R:=iH H') (show iH H' e (word,here) from he) (Paired.imp' (fun e q z=>f1 _ _ z) I.ents)
 ·rw[List.map_cons]
  exact List.nodup_cons.mpr ⟨n5,I.nd⟩
 ·rw[List.map_cons]at ha
  rcases List.mem_cons.mp ha with rfl | ha
  ·exact⟨n3,n1,n2,n4,_,hi⟩
  obtain⟨z1,z2,z3,z4,xs,z5⟩:=I.apart a ha
  refine⟨z1,z2,z3,z4,?_⟩
  rcases List.mem_cons.mp ha with rfl | ha
  ·exact⟨_,hh⟩
  ·obtain⟨q,hq,rfl⟩:=List.mem_map.mp ha
   exact⟨xs,f3 q hq _ z5⟩
theorem BInv.open2(I:BInv H0 H root lp pp here st (d+1) pr S as es)(fr:∀ b o,H b=some o→b≠here→b≠pp→b≠lp→H' b=some o){t e e2 inner oth:Addr}{L':List Str}{n:Int}(hh:H' here=some (.lst ((as++[t]).map V.ref)))(hin:H inner=none)(hi:H' inner=some (.lst []))(hon:H oth=none)(ho:H' oth=some (.lst []))(hio:inner≠oth)
  (hl:H' lp=some (.lst (L'.map V.str))) (hp:H' pp=some (.lst ((es++[e,e2]).map V.ref))) (he:H' e=some (.tup [.str "fi", .ref here])) (he2:H' e2=some (.tup [.str "else", .ref oth])) (ht:H' t=some (.tup [.str "if", .int n,.ref inner,.ref oth])) {lf ld:Int} :
  BInv H0 H' root lp pp inner ⟨[],.inB n st.cur::st.stk,L',lf,ld⟩ d (("else", oth)::("fi", here)::pr) S [] (es++[e,e2]):=by
 obtain⟨f1,f2,f3,f4⟩:=I.fr fr
 obtain⟨n1,n2,n3,n4,n5⟩:=I.new hin
 obtain⟨m1,m2,m3,m4,m5⟩:=I.new hon
 refine⟨.inB (by rw[hh,List.map_append]; rfl) (Paired.imp' (fun a s z=>z.imp f1 fun q b y=>y.imp f1 f2 (fun _ z=>z) _) I.steps) ht ho (I.ctx.imp f1 f2 (fun _ z=>z) f3),hp,?_,hi,.nil,hl,?_,fun a ha=>?_,I.lpp,I.off,fun b hb=>let ⟨xs,e⟩:=I.sin b hb; ⟨xs,f2 _ _ hb e⟩,f4⟩
 ·rw[List.reverse_cons,List.reverse_cons,show es++[e,e2]=(es++[e])++[e2] by simp]
  exact cA (R:=iH H') (show iH H' e2 ("else", oth) from he2) (cA (R:=iH H') (show iH H' e ("fi", here) from he) (Paired.imp' (fun e q z=>f1 _ _ z) I.ents))
 ·rw[List.map_cons,List.map_cons]
  refine List.nodup_cons.mpr ⟨fun z=>?_,List.nodup_cons.mpr ⟨m5,I.nd⟩⟩
  rcases List.mem_cons.mp z with z | z
  ·exact hio z
  ·exact n5 z
 ·rw[List.map_cons,List.map_cons]at ha
  rcases List.mem_cons.mp ha with rfl | ha
  ·exact⟨n3,n1,n2,n4,_,hi⟩
  rcases List.mem_cons.mp ha with rfl | ha
  ·exact⟨m3,m1,m2,m4,_,ho⟩
  obtain⟨z1,z2,z3,z4,xs,z5⟩:=I.apart a ha
  refine⟨z1,z2,z3,z4,?_⟩
  rcases List.mem_cons.mp ha with rfl | ha
  ·exact⟨_,hh⟩
  ·obtain⟨q,hq,rfl⟩:=List.mem_map.mp ha
   exact⟨xs,f3 q hq _ z5⟩
theorem iP{α β : Type}{R:α→β→Prop}{x:α}{y:β}:∀ {xs:List α} {ys:List β},Paired R (xs++[x]) (ys++[y])→Paired R xs ys∧R x y
 | [],[],.cons h _=>⟨.nil,h⟩
 | [],b::ys,.cons h t=>by have:=ay t; simp at this
 | a::xs,[],.cons h t=>by have:=ay t; simp at this
 | a::xs,b::ys,.cons h t=>let ⟨z1,z2⟩:=iP t; ⟨.cons h z1,z2⟩
theorem BInv.pop{w:Str}{up e:Addr}{pr':List (Str × Addr)}(I:BInv H0 H root lp pp here st d ((w,up)::pr') S as (es++[e]))(fr:∀ b o,H b=some o→b≠pp→b≠lp→H' b=some o)(hp:H' pp=some (.lst (es.map V.ref)))(hl:H' lp=some (.lst ((st.L++[w]).map V.str))) :
  ∃ d' as',BInv H0 H' root lp pp up (fc st) d' pr' (fun b=>S b∨b=here) as' es:=by
 obtain⟨f1,f2,f3,f4⟩:=I.fr fun b o e _ n1 n2=>fr b o e n1 n2
 have hh:=I.apart here List.mem_cons_self;have hcur:H' here=some (.lst (as.map V.ref)):=fr _ _ I.cur hh.2.2.1 hh.2.1
 have hS:∀ b,S b→S b∨b=here:=fun b z=>.inl z
 have hents:Paired (iH H') es pr'.reverse:=by
  have:=I.ents
  rw[List.reverse_cons]at this
  exact Paired.imp' (fun e q z=>f1 _ _ z) (iP this).1
 have hnd:=I.nd;rw[List.map_cons]at hnd
 have hnd2:=(List.nodup_cons.mp hnd).2;have hnh:=(List.nodup_cons.mp hnd).1
 have hap:∀ a∈up::pr'.map (·.2),¬ (S a∨a=here)∧a≠lp∧a≠pp∧H0 a=none∧∃ xs,H' a=some (.lst xs):=fun a ha=>by
  obtain⟨z1,z2,z3,z4,xs,z5⟩:=I.apart a (by rw[List.map_cons]; exact List.mem_cons_of_mem _ ha)
  refine⟨fun z=>z.elim z1 fun z=>hnh (z ▸ ha),z2,z3,z4,xs,fr _ _ z5 z3 z2⟩
 have hoff:¬ (S lp∨lp=here)∧¬ (S pp∨pp=here)∧H0 lp=none∧H0 pp=none:=⟨fun z=>z.elim I.off.1 fun z=>hh.2.1 z.symm,fun z=>z.elim I.off.2.1 fun z=>hh.2.2.1 z.symm,I.off.2.2⟩
 have hsin:∀ b,S b∨b=here→∃ xs,H' b=some (.lst xs):=fun b z=>by
  rcases z with z | rfl
  ·obtain⟨xs,e⟩:=I.sin b z; exact⟨xs,f2 _ _ z e⟩
  ·exact⟨_,hcur⟩
 have hst:∀ {d:Nat} {as:List Addr} {us:List Stp},Paired (stpAt (ProgAt S d H) H) as us→Paired (stpAt (ProgAt (fun b=>S b∨b=here) d H') H') as us:=fun {d as us} h=>Paired.imp' (fun a s z=>stpAt.imp f1 (fun q b y=>ProgAt.imp f1 f2 hS d y) z) h
 have hprog:∀ d',d'=d→ProgAt (fun b=>S b∨b=here) (d'+1) H' here st.cur:=fun d' e=>by subst e; exact⟨.inr rfl,as,hcur,hst I.steps⟩
 have f3':∀ q∈pr',∀ xs,H q.2=some (.lst xs)→H' q.2=some (.lst xs):=fun q hq=>f3 q (List.mem_cons_of_mem _ hq)
 have hup:∀ xs,H up=some (.lst xs)→H' up=some (.lst xs):=fun xs=>f3 (w,up) List.mem_cons_self xs
 have hctx:=I.ctx;have hsm:=f4;have hlpp:=I.lpp;clear I;obtain⟨cur,stk,L,left,lends⟩:=st
 dsimp only at hctx hl hprog
 cases hctx with
 | @lend x y us r _ _ _ _ t aus h1 h2 h3 h4=>
  refine⟨d+1,aus++[t],⟨h4.imp f1 f2 hS f3',hp,hents,by rw[hup _ h1,List.map_append]; rfl,?_,hl,hnd2,hap,hlpp,hoff,hsin,hsm⟩⟩
  exact cA (R:=stpAt (ProgAt (fun b=>S b∨b=here) (d+1) H') H') (x:=t) (y:=.lend x y cur) ⟨here,f1 _ _ h3,hprog d rfl⟩ (hst h2)
 | @whl n us r _ _ _ _ t aus h1 h2 h3 h4=>
  refine⟨d+1,aus++[t],⟨h4.imp f1 f2 hS f3',hp,hents,by rw[hup _ h1,List.map_append]; rfl,?_,hl,hnd2,hap,hlpp,hoff,hsin,hsm⟩⟩
  exact cA (R:=stpAt (ProgAt (fun b=>S b∨b=here) (d+1) H') H') (x:=t) (y:=.whl n cur) ⟨here,f1 _ _ h3,hprog d rfl⟩ (hst h2)
 | @inB n us r pr2 _ _ up2 t _ aus h1 h2 h3 h4 h5=>
  refine⟨d,[],⟨.inC (f3' (_,up2) List.mem_cons_self _ h1) (hst h2) (f1 _ _ h3) (hprog d rfl) (h5.imp f1 f2 hS fun q hq=>f3' q (List.mem_cons_of_mem _ hq)),hp,hents,hup _ h4,.nil,hl,hnd2,hap,hlpp,hoff,hsin,hsm⟩⟩
 | @inC n b us r _ _ _ _ t bq aus h1 h2 h3 h4 h5=>
  refine⟨d+1,aus++[t],⟨h5.imp f1 f2 hS f3',hp,hents,by rw[hup _ h1,List.map_append]; rfl,?_,hl,hnd2,hap,hlpp,hoff,hsin,hsm⟩⟩
  exact cA (R:=stpAt (ProgAt (fun b=>S b∨b=here) (d+1) H') H') (x:=t) (y:=.ite n b cur) ⟨bq,here,f1 _ _ h3,h4.imp f1 f2 hS _,hprog d rfl⟩ (hst h2)
theorem BInv.line(I:BInv H0 H root lp pp here st d pr S as es)(L':List Str){lf ld:Int}:BInv H0 (upd H lp (.lst (L'.map V.str))) root lp pp here ⟨st.cur,st.stk,L',lf,ld⟩ d pr S as es:=by
 obtain⟨_,hhl,hhp,_,_⟩:=I.apart here List.mem_cons_self
 have fr:∀ b o,H b=some o→b≠lp→upd H lp (.lst (L'.map V.str)) b=some o:=fun b o e n=>by rw[aj n]; exact e
 obtain⟨f1,f2,f3,f4⟩:=I.fr (H':=upd H lp (.lst (L'.map V.str))) fun b o e _ _ n=>fr b o e n
 refine⟨I.ctx.imp f1 f2 (fun _ z=>z) f3,fr _ _ I.pile (Ne.symm I.lpp),Paired.imp' (fun e q z=>f1 _ _ z) I.ents,fr _ _ I.cur hhl,Paired.imp' (fun a s z=>stpAt.imp f1 (fun q b y=>ProgAt.imp f1 f2 (fun _ z=>z) d y) z) I.steps,ah,I.nd,fun a ha=>?_,I.lpp,I.off,fun b hb=>let ⟨xs,e⟩:=I.sin b hb; ⟨xs,f2 _ _ hb e⟩,f4⟩
 obtain⟨z1,z2,z3,z4,xs,z5⟩:=I.apart a ha
 exact⟨z1,z2,z3,z4,xs,fr _ _ z5 z2⟩
end
section
variable{P:Program}{w:World}{K:PySem.W.Frag}{mg:Str→Option Value}{base:Heap}
theorem kZ{ss:List Str}{z:Int}{n:Nat}(h0:1≤z)(h1:z≤n)(hn:ss.length=n)(hb:∀ x∈ss,x.length≤20):1≤(ss.take z.toNat).length∧((ss.take z.toNat).length:Int)=z∧∀ x∈ss.take z.toNat,x.length≤20:=by
 refine⟨?_,?_,fun x hx=>hb x (List.mem_of_mem_take hx)⟩ <;> rw[List.length_take] <;> omega
theorem jX{x:Str}{lo hi:Option Int}{P:Nat→Prop}(h:∀ c∈x.cps.toList,P c):∀ c∈(Txt.slice x lo hi).cps.toList,P c:=fun c hc=>by
 rw[xS]at hc
 exact h c (List.mem_of_mem_drop (List.mem_of_mem_take hc))
theorem tP{x:Str}(h:∀ c∈x.cps.toList,c∈letters.cps.toList):32∉x.cps.toList:=fun z=>absurd (h 32 z) (by decide)
def lB(z:Int):Nat:=letters.cps.toList.getD (z % 26).toNat 0
theorem jB(z:Int):letters.length≤sizeLine∧eP letters.cps.toList (z % 26)=some (lB z)∧lB z∈letters.cps.toList:=by
 obtain⟨c,h1,h2,h3⟩:=xf z
 have hz:(z % 26).toNat<letters.cps.toList.length:=by show (z % 26).toNat<26; omega
 have q:=aT (List.getElem?_eq_getElem hz);rw[show (((z % 26).toNat:Nat):Int)=z % 26 by omega,h2]at q
 have e:lB z=c:=by
  unfold lB;rw[List.getD_eq_getElem?_getD,List.getElem?_eq_getElem hz];exact(Option.some.inj q).symm
 rw[e];exact⟨h1,h2,h3⟩
def jg(c:Int)(k:Nat):Nat:=lB (c / (0+(k:Int)+1)+(0+(k:Int)) * (0+(k:Int)) * c)
def jf(c:Int):Str:=Txt.join "" (((List.range 8).map (jg c)).map fun c=>(⟨#[c]⟩ : Str))
def Bl(c:Int)(k:Nat):Str:=Txt.slice (jf c) none (some (c / 32 % (1+c / 4 % 8)))++(⟨#[lB (c / 256+9 * (0+(k:Int)))]⟩ : Str)++Txt.slice (jf c) (some (c / 32 % (1+c / 4 % 8)+1)) (some (1+c / 4 % 8))
def iC(c:Int):List Str:=if c % 4=1 then (["open", "lend", "back", "end"]:List Str).take (1+c / 3 % 4).toNat
 else if c % 4=2 then [Txt.slice (jf c) none (some 2),Txt.slice (jf c) none (some 3),Txt.slice (jf c) none (some 8),Txt.slice (jf c) none (some 7)].take (1+c / 3 % 4).toNat
 else (List.range (1+c / 3 % 4).toNat).map (Bl c)
def rJ:Sp:=fun vs H Q _=>∃ c:Int,vs=[.int c]∧∀ (L:Addr) (H':Hp),Same H H'→H L=none→H' L=some (.lst ((iC c).map V.str))→1≤(iC c).length→(iC c).length≤7→(∀ x∈iC c,x.length≤20)→(∀ x∈iC c,32∉x.cps.toList)→Q (.ref L) H'
theorem Ae(D:DefAt K mg "_law_names" aO) (z_range:mg "range" = none):aM P w K mg base 1 "_law_names" ["_law_cell"] rJ:=by
 refine D.cal sc_law_names (fun _ _ _ _ _ _ us hl=>match us,hl with | [_],_=>rfl) (fun vs H Q E h=>by obtain⟨c,rfl,_⟩:=h; rfl) (fun f cdv A outer s H vs Q E hr h=>?_)
 obtain⟨c,rfl,q0⟩:=h
 have q:∀ (L:Addr) (H':Hp) (ns:List Str),ns=iC c→Same H H'→H L=none→H' L=some (.lst (ns.map V.str))→1≤ns.length→ns.length≤7→(∀ x∈ns,x.length≤20)→(∀ x∈ns,32∉x.cps.toList)→Q (.ref L) H':=fun L H' ns e=>by subst e; exact q0 L H'
 refine⟨_,(af (ax 1 sc_law_names.nd aw (hx:=Gu))
   (af (ax 2 sc_law_names.nd (bh K PySem.F.plainAttrs_str PySem.F.slot_str_join PySem.F.type_str_join (pS K) aw (aa (fT (CompSc.to (fsc:=(defScope aO)) (N:=["_law_cell", "_law_letters", "_law_base", "_law_many", "_law_size", "_law_at", "_law_found", "_law_k", "_law_sign"]) (N0:=["_law_cell", "_law_letters", "_law_base", "_law_many", "_law_size", "_law_at", "_law_found", "_law_k'", "_law_sign"]) (T:=["_law_k"]) ⟨by decide +kernel,by decide +kernel,by decide +kernel,by decide +kernel,by decide +kernel,by decide +kernel,by decide +kernel⟩ rfl rfl) rfl (gM EU z_range (aa ae ac)) (fun _ _ _ _=>(ba 9 (show (["_law_cell", "_law_letters", "_law_base", "_law_many", "_law_size", "_law_at", "_law_found", "_law_k'", "_law_sign", "_law_k"]:List Str).Nodup from by decide +kernel) (hx:=(iu (defScope aO) (by decide +kernel))) (hf:=km (defScope aO) (by decide +kernel)))) (dy (show (["_law_cell", "_law_letters", "_law_base", "_law_many", "_law_size", "_law_at", "_law_found", "_law_k", "_law_sign"]:List Str).length≤9 from by decide)) (fun _ _ _ _=>hU) (fun _ _ _ _=>(av (aI K) (pv 1 (hv:=(dz (defScope aO) (by decide +kernel)))) (ap bI (ap aC (ap fV (pv 0 (hv:=(dz (defScope aO) (by decide +kernel)))) (ap aC (pv 9 (hv:=(dz (defScope aO) (by decide +kernel)))) ae)) (ap eZ (ap eZ (pv 9 (hv:=(dz (defScope aO) (by decide +kernel)))) (pv 9 (hv:=(dz (defScope aO) (by decide +kernel))))) (pv 0 (hv:=(dz (defScope aO) (by decide +kernel)))))) ae) (fun _ _=>rfl)))) ac)))
   (af (ax 3 sc_law_names.nd (ap aC ae (ap bI (ap fV (pv 0 (hv:=nG)) ae) ae)))
   (af (bd (aF bz (ap bI (pv 0 (hv:=nG)) ae) ae (aL _)) (ak (aG (bS (dO K) (bA (aa aw (aa aw (aa aw (aa aw ac))))) cB (b4 (pv 3))))) bu)
   (af (bd (aF bz (ap bI (pv 0 (hv:=nG)) ae) ae (aL _)) (ak (aG (bS (dO K) (bA (aa (bS iT (pv 2) cB (b4 ae)) (aa (bS iT (pv 2) cB (b4 ae)) (aa (bS iT (pv 2) cB (b4 ae)) (aa (bS iT (pv 2) cB (b4 ae)) ac))))) cB (b4 (pv 3))))) bu)
   (af (ax 4 sc_law_names.nd (ap aC ae (ap bI (ap fV (pv 0 (hv:=nG)) ae) ae)))
   (af (ax 5 sc_law_names.nd (ap bI (ap fV (pv 0 (hv:=nG)) ae) (pv 4)))
   (af (ax 6 sc_law_names.nd (bA ac))
   (af (cE PassesOwn.never rfl (gM EU z_range (aa (pv 3) ac)) (ba 7 sc_law_names.nd) (af (ax 8 sc_law_names.nd (av (aI K) (pv 1 (hv:=Ho)) (ap bI (ap aC (ap fV (pv 0 (hv:=nG)) ae) (ap eZ ae (pv 7))) ae) (fun _ _=>rfl)))
   (ak (aD (bh K PySem.F.plainAttrs_list PySem.F.slot_list_append PySem.F.type_list_append aW (pv 6) (aa (ap aC (ap aC (bS iT (pv 2) cB (b4 (pv 5))) (pv 8)) (bS iT (pv 2) (b4 (ap aC (pv 5) ae)) (b4 (pv 4)))) ac))))))
   (ak (aG (pv 6)))))))))))),?_⟩
 walk_at "rd1";walk_at "nx";refine⟨by decide,by decide,fun C hC=>?_⟩
 refine sQ (fun i ys H'=>Same H H'∧H' C=some (.lst ys)∧ys=((List.range i).map (jg c)).map (fun c=>V.str ⟨#[c]⟩)) ⟨al hC _,ah,rfl⟩ ?_ ?_
 ·rintro i ys H' hi ⟨sm,hl,rfl⟩
  have hi8:i<8:=hi
  walk_at "rd1";obtain⟨z1,z2,z3⟩:=jB (c / (0+(i:Int)+1)+(0+(i:Int)) * (0+(i:Int)) * c)
  have h49:(0+(i:Int)) * (0+(i:Int))≤49:=by
   have:=Nat.mul_le_mul (show i≤7 by omega) (show i≤7 by omega)
   have e:(0+(i:Int)) * (0+(i:Int))=((i * i:Nat):Int):=by rw[Int.zero_add]; push_cast; rfl
   rw[e]; omega
  have h0:0≤(0+(i:Int)) * (0+(i:Int)):=Int.mul_nonneg (by omega) (by omega)
  refine⟨⟨by omega,by omega⟩,.inl ⟨by omega,by omega⟩,.inl ⟨by omega,by omega⟩,by decide,_,z1,z2,?_⟩
  refine uV hi (by simp) (a_ (by show 8≤1000000; decide)) hl ⟨sm.upd hC _,ah,by rw[List.range_succ,List.map_append,List.map_append]; rfl⟩
 ·rintro ys H1 ⟨sm1,hl1,rfl⟩
  have hlt:∀ d∈(List.range 8).map (jg c),d∈letters.cps.toList:=fun d hd=>by obtain⟨k,_,rfl⟩:=List.mem_map.mp hd; exact(jB _).2.2
  have hn8:((List.range 8).map (jg c)).length=8:=by simp
  have hl1:H1 C=some (.lst (((List.range 8).map (jg c)).map (fun c=>V.str ⟨#[c]⟩))):=hl1
  have hbF:Txt.join "" (((List.range 8).map (jg c)).map fun c=>(⟨#[c]⟩ : Str))=jf c:=rfl
  generalize (List.range 8).map (jg c)=cs at hl1 hlt hn8 hbF ⊢;walk_at "rd1";have hmm:cs.map (fun c=>V.str ⟨#[c]⟩)=(cs.map fun c=>(⟨#[c]⟩ : Str)).map V.str:=by rw[List.map_map]; rfl
  rw[hmm]at hl1
  have h1l:(Str.ofString "").length=0:=by decide
  refine⟨_,SqL.of hl1,?_,?_⟩
  ·rw[h1l]
   have:=gT 1 (cs.map fun c=>(⟨#[c]⟩ : Str)) (fun s hs=>by obtain⟨c,_,rfl⟩:=List.mem_map.mp hs; exact Nat.le_refl _)
   rw[List.length_map]at this ⊢
   omega
  have hbl:(Txt.join "" (cs.map fun c=>(⟨#[c]⟩ : Str))).length=8:=by rw[yR]; exact hn8
  have hbm:∀ c∈(Txt.join "" (cs.map fun c=>(⟨#[c]⟩ : Str))).cps.toList,c∈letters.cps.toList:=by rw[ra]; exact hlt
  generalize Txt.join "" (cs.map fun c=>(⟨#[c]⟩ : Str))=bs at hbl hbm hbF ⊢
  have bsz:bs.length≤sizeLine:=by rw[hbl]; exact a_ (by decide)
  have hsl:∀ l u,(Txt.slice bs l u).length≤8:=fun l u=>hbl ▸ Txt.slice_le bs l u
  walk_at "nx";refine⟨⟨by decide,by decide⟩,by decide,?_⟩
  generalize hmy:1+c / 3 % 4=many
  have m1:1≤many:=by omega
  have m4:many≤4:=by omega
  walk_at "nx";refine⟨by decide,aJ (fun c1=>?_) (fun c1=>?_)⟩
  ·refine⟨by decide,fun l hl=>⟨_,SqL.of ah,fun r hr'=>?_⟩⟩
   have sl:=al hl (.lst [V.str "open", .str "lend", .str "back", .str "end"]);obtain⟨t1,t2,t3⟩:=kZ (ss:=["open", "lend", "back", "end"]) (n:=4) m1 m4 rfl (by decide)
   exact q r _ _ (by unfold iC; rw[if_pos c1,hmy]) (sm1.trans (sl.trans (al hr' _))) (sm1.free (sl.free hr')) (by rw[ah]; exact congrArg (fun z=>some (HO.lst z)) (qr ["open", "lend", "back", "end"] (by omega))) t1 (by omega) t3 (fun x hx=>(by decide:∀ x∈(["open", "lend", "back", "end"]:List Str),32∉x.cps.toList) x (List.mem_of_mem_take hx))
  walk_at "nx";refine⟨by decide,aJ (fun c2=>?_) (fun c2=>?_)⟩
  ·refine⟨bsz,bsz,bsz,bsz,by decide,fun l hl=>⟨_,SqL.of ah,fun r hr'=>?_⟩⟩
   have sl:=al hl (.lst ([Txt.slice bs none (some 2),Txt.slice bs none (some 3),Txt.slice bs none (some 8),Txt.slice bs none (some 7)].map V.str))
   obtain⟨t1,t2,t3⟩:=kZ (ss:=[Txt.slice bs none (some 2),Txt.slice bs none (some 3),Txt.slice bs none (some 8),Txt.slice bs none (some 7)]) (n:=4) m1 m4 rfl (by
    intro x hx
    simp only[List.mem_cons,List.mem_nil_iff,or_false]at hx
    rcases hx with rfl | rfl | rfl | rfl <;> exact Nat.le_trans (hsl _ _) (by decide))
   exact q r _ _ (by unfold iC; rw[if_neg c1,if_pos c2,hmy,← hbF]) (sm1.trans (sl.trans (al hr' _))) (sm1.free (sl.free hr')) (by rw[ah]; exact congrArg (fun z=>some (HO.lst z)) (qr [Txt.slice bs none (some 2),Txt.slice bs none (some 3),Txt.slice bs none (some 8),Txt.slice bs none (some 7)] (by omega))) t1 (by omega) t3 (fun x hx=>by
    have hx:=List.mem_of_mem_take hx;simp only[List.mem_cons,List.mem_nil_iff,or_false]at hx
    rcases hx with rfl | rfl | rfl | rfl <;> exact tP (jX hbm))
  walk_at "nx";refine⟨⟨by decide,by decide⟩,by decide,?_⟩
  generalize hsz:1+c / 4 % 8=sz
  have s1:1≤sz:=by omega
  walk_at "nx";refine⟨⟨by decide,by decide⟩,by omega,?_⟩
  generalize hat9:c / 32 % sz=at9
  walk_at "nx";refine⟨by decide,fun fp hfp=>?_⟩
  generalize hH2:upd H1 fp _=H2
  have sm2:=cV hH2 hfp;have e2:=dU hH2;walk_at "nx";refine⟨by omega,by omega,?_⟩
  refine jC (fun i σ H'=>∃ (ss:List Str) (o7 o8:Option V),σ=[some (.int c),some (.str letters),some (.str bs),some (.int many),some (.int sz),some (.int at9),some (.ref fp),o7,o8]∧Same H H'∧H' fp=some (.lst (ss.map V.str))∧ss=(List.range i).map (Bl c)∧ss.length=i∧(∀ x∈ss,x.length≤20)∧∀ x∈ss,32∉x.cps.toList)
   ⟨[],none,none,rfl,sm1.trans sm2,e2,rfl,rfl,by simp,by simp⟩ ?_ ?_
  ·rintro i σ H' hi ⟨ss,o7,o8,rfl,sm,hl,hss,hn',hb,hf⟩
   walk_at "rd1";obtain⟨z1,z2,z3⟩:=jB (c / 256+9 * (0+(i:Int)))
   generalize hc':lB (c / 256+9 * (0+(i:Int)))=c' at z2 z3;have hel:Txt.slice bs none (some at9)++(⟨#[c']⟩ : Str)++Txt.slice bs (some (at9+1)) (some sz)=Bl c i:=by unfold Bl; rw[← hbF,hsz,hat9,hc']
   refine⟨⟨by decide,by decide⟩,.inl ⟨by decide,by decide⟩,by decide,c',z1,z2,?_⟩
   walk_at "nx";have l1:=hsl none (some at9);have l2:=hsl (some (at9+1)) (some sz);have la:((Txt.slice bs none (some at9))++(⟨#[c']⟩ : Str)).length≤9:=by rw[zL]; omega
   have lb:((Txt.slice bs none (some at9))++(⟨#[c']⟩ : Str)++Txt.slice bs (some (at9+1)) (some sz)).length≤17:=by rw[Str.length_append]; omega
   refine⟨⟨_,SqL.of hl⟩,bsz,?_,bsz,?_,_,hl,by rw[List.length_map]; exact bN (by omega),?_⟩
   ·rw[Str.length_append]at la; exact a_ (by omega)
   ·rw[Str.length_append]at lb; exact a_ (by omega)
   refine⟨ss++[_],_,_,rfl,sm.upd (sm1.free hfp) _,by rw[ah,List.map_append]; rfl,by rw[List.range_succ,List.map_append,← hss,hel]; rfl,by simp[hn'],fun x hx=>?_,fun x hx=>?_⟩
   ·rcases List.mem_append.mp hx with z | z
    ·exact hb x z
    ·rw[List.mem_singleton.mp z]; omega
   ·rcases List.mem_append.mp hx with z | z
    ·exact hf x z
    ·rw[List.mem_singleton.mp z]
     refine tP fun d hd=>?_
     rw[fQ,fQ,List.mem_append,List.mem_append]at hd
     rcases hd with (hd | hd) | hd
     ·exact jX hbm d hd
     ·have:d=c':=by simpa using hd
      rw[this]; exact z3
     ·exact jX hbm d hd
  ·rintro σ H' ⟨ss,o7,o8,rfl,sm,hl,hss,hn',hb,hf⟩
   walk_at "nx";exact q fp H' ss (by rw[hss]; unfold iC; rw[if_neg c1,if_neg c2,hmy]) sm (sm1.free hfp) hl (by omega) (by omega) hb hf
def cY(c:Int):Int:=if c * 16807 % 65537 % 4<2 then c / 15 % 9 - 4 else if c * 16807 % 65537 % 4=2 then c % 10 ^ 60 else 0 - c % 10 ^ 60
theorem pJ{n:Int}(h:-(10 ^ 61)<n)(h':n<10 ^ 61):n.natAbs.log2<1920:=by
 have hb:n.natAbs<2 ^ 1920:=Nat.lt_of_lt_of_le (show n.natAbs<10 ^ 61 by omega) (by decide)
 by_cases h0:n.natAbs=0
 ·rw[h0]; decide
 ·exact(Nat.log2_lt h0).mpr hb
theorem lM(c:Int):(cY c).natAbs.log2<1920:=by
 unfold cY;split
 ·exact pJ (by omega) (by omega)
 split
 ·exact pJ (by omega) (by omega)
 ·exact pJ (by omega) (by omega)
def tJ:Sp:=fun vs H Q _=>∃ c:Int,vs=[.int c]∧Q (.int (cY c)) H
theorem zj(D:DefAt K mg "_law_bound" eY):aM P w K mg base 1 "_law_bound" ["_law_cell"] tJ:=by
 refine D.cal sc_law_bound (fun _ _ _ _ _ _ us hl=>match us,hl with | [_],_=>rfl) (fun vs H Q E h=>by obtain⟨c,rfl,_⟩:=h; rfl) (fun f cdv A outer s H vs Q E hr h=>?_)
 obtain⟨c,rfl,q⟩:=h
 refine⟨_,(af (ax 1 sc_law_bound.nd (ap bI (ap bI (ap eZ (pv 0) ae) ae) ae))
   (af (bd (aF j6 (pv 1) ae (aL _)) (ak (aG (ap eJ (ap bI (ap fV (pv 0) ae) ae) ae))) bu)
   (af (bd (aF bz (pv 1) ae (aL _)) (ak (aG (ap bI (pv 0) (ap mJ ae ae)))) bu)
   (ak (aG (ap eJ ae (ap bI (pv 0) (ap mJ ae ae)))))))),?_⟩
 unfold cY at q;walk_at "rd1";refine⟨.inr ⟨by decide,by decide⟩,by decide,by decide,?_⟩
 walk_at "nx";refine aJ (fun c1=>?_) (fun c1=>?_)
 ·rw[if_pos c1]at q
  exact⟨⟨by decide,by decide⟩,by decide,q⟩
 rw[if_neg c1]at q
 walk_at "nx";refine aJ (fun c1=>?_) (fun c1=>?_)
 ·rw[if_pos c1]at q
  exact⟨⟨by decide,by decide,by decide⟩,by decide,q⟩
 rw[if_neg c1]at q
 walk_at "nx";exact⟨⟨by decide,by decide,by decide⟩,by decide,q⟩
abbrev li:List Str:=["read", "lend", "back", "open", "end", "write"]
def pk(nm:List Str)(z:Int):Str:=nm.getD (z % (nm.length:Int)).toNat ""
theorem gg{nm:List Str}(hn:1≤nm.length)(z:Int):pk nm z∈nm∧eP (nm.map V.str) (z % (nm.length:Int))=some (.str (pk nm z)):=by
 have h0:0≤z % (nm.length:Int):=Int.emod_nonneg _ (by omega)
 have h1:z % (nm.length:Int)<nm.length:=Int.emod_lt_of_pos _ (by omega)
 have hlt:(z % (nm.length:Int)).toNat<nm.length:=by omega
 have e:pk nm z=nm[(z % (nm.length:Int)).toNat]:=by unfold pk; rw[List.getD_eq_getElem?_getD,List.getElem?_eq_getElem hlt]; rfl
 rw[e];exact⟨List.getElem_mem hlt,sn h0 (List.getElem?_eq_getElem hlt)⟩
def xB(nm:List Str)(c:Int):Str:=pk nm (c * 48271 % 1009)
def yB(nm:List Str)(c:Int):Str:=pk nm (c * 69621 % 2003)
def dL(nm:List Str)(c:Int):List Str:=
 if c % 15<3 then ["open", xB nm c] else if c % 15=3 then ["copy", xB nm c,yB nm c] else if c % 15=4 then ["drop", xB nm c] else if c % 15=5 then ["tie", xB nm c,yB nm c] else ["do", pk (li++nm) (c * 40692 % 4001),xB nm c]
structure NmOk (nm:List Str):Prop where
 n1:1≤nm.length
 n7:nm.length≤7
 len:∀ x∈nm,x.length≤20
theorem NmOk.xl{nm:List Str}(h:NmOk nm)(c:Int):(xB nm c).length≤20:=h.len _ (gg h.n1 _).1
theorem NmOk.yl{nm:List Str}(h:NmOk nm)(c:Int):(yB nm c).length≤20:=h.len _ (gg h.n1 _).1
theorem NmOk.ex{nm:List Str}(h:NmOk nm):1≤(li++nm).length∧∀ u∈li++nm,u.length≤20:=by
 refine⟨by rw[List.length_append]; have:=h.n1; omega,fun u hu=>?_⟩
 rcases List.mem_append.mp hu with z | z
 ·exact(by decide:∀ u∈li,u.length≤20) u z
 ·exact h.len u z
theorem zg{nm:List Str}(h:NmOk nm)(c:Int):iB (dL nm c):=by
 have xl:=h.xl c;have yl:=h.yl c;have wl:=h.ex.2 _ (gg h.ex.1 (c * 40692 % 4001)).1
 have two:∀ (k:Str),k∈dm→k.length≤20→iB [k,xB nm c]:=fun k h1 h2=>⟨by simp,by simp,h1,fun z hz=>by
  simp only[List.mem_cons,List.mem_nil_iff,or_false]at hz
  rcases hz with rfl | rfl <;> assumption⟩
 have three:∀ (k u v:Str),k∈dm→k.length≤20→u.length≤20→v.length≤20→iB [k,u,v]:=fun k u v h1 h2 h3 h4=>⟨by simp,by simp,h1,fun z hz=>by
  simp only[List.mem_cons,List.mem_nil_iff,or_false]at hz
  rcases hz with rfl | rfl | rfl <;> assumption⟩
 unfold dL;split
 ·exact two "open" (by decide) (by decide)
 split
 ·exact three "copy" _ _ (by decide) (by decide) xl yl
 split
 ·exact two "drop" (by decide) (by decide)
 split
 ·exact three "tie" _ _ (by decide) (by decide) xl yl
 ·exact three "do" _ _ (by decide) (by decide) wl xl
def xi:Sp:=fun vs H Q _=>∃ (c:Int) (a:Addr) (nm:List Str),vs=[.int c,.str (xB nm c),.str (yB nm c),.ref a]∧H a=some (.lst (nm.map V.str))∧NmOk nm∧
 ∀ (t:Addr) (H':Hp),Same H H'→H t=none→H' t=some (.tup ((dL nm c).map V.str))→Q (.ref t) H'
theorem Cf(D:DefAt K mg "_law_step" cL) (z_len:mg "len" = none):aM P w K mg base 1 "_law_step" ["_law_cell", "_law_x", "_law_y", "_law_names_here"] xi:=by
 refine D.cal sc_law_step (fun _ _ _ _ _ _ us hl=>match us,hl with | [_,_,_,_],_=>rfl) (fun vs H Q E h=>by obtain⟨c,a,ns,rfl,_⟩:=h; rfl) (fun f cdv A outer s H vs Q E hr h=>?_)
 obtain⟨c,a,ns,rfl,ha,ok,q⟩:=h
 obtain⟨n1,n7,hb⟩:=id ok
 refine⟨_,(af (ax 4 sc_law_step.nd (ap bI (pv 0) ae))
   (af (bd (aF j6 (pv 4) ae (aL _)) (ak (aG (bB (aa aw (aa (pv 1) ac))))) bu)
   (af (bd (aF bz (pv 4) ae (aL _)) (ak (aG (bB (aa aw (aa (pv 1) (aa (pv 2) ac)))))) bu)
   (af (bd (aF bz (pv 4) ae (aL _)) (ak (aG (bB (aa aw (aa (pv 1) ac))))) bu)
   (af (bd (aF bz (pv 4) ae (aL _)) (ak (aG (bB (aa aw (aa (pv 1) (aa (pv 2) ac)))))) bu)
   (af (ax 5 sc_law_step.nd (ap aC (bA (aa aw (aa aw (aa aw (aa aw (aa aw (aa aw ac))))))) (pv 3)))
   (ak (aG (bB (aa aw (aa (av (aI K) (pv 5) (ap bI (ap bI (ap eZ (pv 0) ae) ae) (bm (aV K) z_len bL (aa (pv 5) ac))) (fun _ _=>rfl)) (aa (pv 1) ac)))))))))))),?_⟩
 walk_at "rd1";refine⟨by decide,?_⟩
 unfold dL at q;walk_at "nx";refine aJ (fun c1=>?_) (fun c1=>?_)
 ·rw[if_pos c1]at q
  exact⟨by decide,fun p hp=>q p _ (al hp _) hp ah⟩
 rw[if_neg c1]at q
 walk_at "nx";refine aJ (fun c1=>?_) (fun c1=>?_)
 ·rw[if_pos c1]at q
  exact⟨by decide,fun p hp=>q p _ (al hp _) hp ah⟩
 rw[if_neg c1]at q
 walk_at "nx";refine aJ (fun c1=>?_) (fun c1=>?_)
 ·rw[if_pos c1]at q
  exact⟨by decide,fun p hp=>q p _ (al hp _) hp ah⟩
 rw[if_neg c1]at q
 walk_at "nx";refine aJ (fun c1=>?_) (fun c1=>?_)
 ·rw[if_pos c1]at q
  exact⟨by decide,fun p hp=>q p _ (al hp _) hp ah⟩
 rw[if_neg c1]at q
 walk_at "nx";refine⟨by decide,fun p hp=>⟨_,_,ah,by rw[aj (az ha hp)]; exact ha,a_ (by rw[List.length_map]; simp only[List.length_cons,List.length_nil]; omega),fun r hr'=>?_⟩⟩
 have sp:=al hp (.lst [V.str "read", .str "lend", .str "back", .str "open", .str "end", .str "write"]);have smr:=sp.trans (al hr' (.lst ([V.str "read", .str "lend", .str "back", .str "open", .str "end", .str "write"]++ns.map V.str)));have er:[V.str "read", .str "lend", .str "back", .str "open", .str "end", .str "write"]++ns.map V.str=(li++ns).map V.str:=by rw[List.map_append]; rfl
 have hat:upd (upd H p (.lst [V.str "read", .str "lend", .str "back", .str "open", .str "end", .str "write"])) r (.lst ([V.str "read", .str "lend", .str "back", .str "open", .str "end", .str "write"]++ns.map V.str)) r=some (.lst ((li++ns).map V.str)):=by rw[ah,er]
 generalize upd (upd H p (.lst [V.str "read", .str "lend", .str "back", .str "open", .str "end", .str "write"])) r (.lst ([V.str "read", .str "lend", .str "back", .str "open", .str "end", .str "write"]++ns.map V.str))=H2 at hat smr ⊢;have hwl:=ok.ex.1;generalize li++ns=wl at hat hwl q ⊢;walk_at "nx";have eu:=(gg hwl (c * 40692 % 4001)).2;refine⟨.inr ⟨by decide,by decide⟩,by decide,_,.inl (SqL.of hat),?_⟩
 rw[List.length_map];walk_at "rd1";refine⟨by omega,_,_,.inl (SqL.of hat),eu,by decide,fun t ht=>?_⟩
 exact q t _ (smr.trans (al ht _)) (smr.free ht) ah
theorem Ce(nm:List Str)(c:Int):eO (dL nm c):=by
 unfold dL;split
 ·exact .op _
 split
 ·exact .cp _ _
 split
 ·exact .dr _
 split
 ·exact .ti _ _
 ·exact .dd _ _
theorem cC{H:Hp}{a b:Addr}{o:HO}(h:upd H a o b=none):b≠a∧H b=none:=by
 have n:b≠a:=fun z=>by rw[z,ah]at h; cases h
 exact⟨n,by rw[aj n]at h; exact h⟩
theorem Bo{H1:Hp}{t here e pp lp:Addr}{T L1 E L2 L3:HO}(ht:H1 t=none)(he:H1 e=none)(hht:here≠t)(hpt:pp≠t)(hlt:lp≠t)(e1:e≠here)(e2:e≠t)(e3:e≠pp)(e4:e≠lp)(hhl:here≠lp)(hhp:here≠pp)(hpl:pp≠lp) :
  let H':=upd (upd (upd (upd (upd H1 t T) here L1) e E) pp L2) lp L3
  H' t=some T∧H' here=some L1∧H' e=some E∧H' pp=some L2∧H' lp=some L3∧∀ b o,H1 b=some o→b≠here→b≠pp→b≠lp→H' b=some o:=by
 refine⟨?_,?_,?_,?_,ah,fun b o eb n1 n2 n3=>?_⟩
 ·rw[aj hlt.symm,aj hpt.symm,aj e2.symm,aj hht.symm,ah]
 ·rw[aj hhl,aj hhp,aj e1.symm,ah]
 ·rw[aj e4,aj e3,ah]
 ·rw[aj hpl,ah]
 ·rw[aj n3,aj n2,aj (az eb he),aj n1,aj (az eb ht)]; exact eb
theorem FL{H1:Hp}{t here e e' pp lp:Addr}{T L1 E L2 E' L2' L3:HO}(ht:H1 t=none)(he:H1 e=none)(he':H1 e'=none)(hht:here≠t)(hpt:pp≠t)(hlt:lp≠t)(e1:e≠here)(e2:e≠t)(e3:e≠pp)(e4:e≠lp)(d1:e'≠here)(d2:e'≠t)(d3:e'≠pp)(d4:e'≠lp)(d5:e'≠e)(hhl:here≠lp)(hhp:here≠pp)(hpl:pp≠lp) :
  let H':=upd (upd (upd (upd (upd (upd (upd H1 t T) here L1) e E) pp L2) e' E') pp L2') lp L3
  H' t=some T∧H' here=some L1∧H' e=some E∧H' e'=some E'∧H' pp=some L2'∧H' lp=some L3∧∀ b o,H1 b=some o→b≠here→b≠pp→b≠lp→H' b=some o:=by
 refine⟨?_,?_,?_,?_,?_,ah,fun b o eb n1 n2 n3=>?_⟩
 ·rw[aj hlt.symm,aj hpt.symm,aj d2.symm,aj hpt.symm,aj e2.symm,aj hht.symm,ah]
 ·rw[aj hhl,aj hhp,aj d1.symm,aj hhp,aj e1.symm,ah]
 ·rw[aj e4,aj e3,aj d5.symm,aj e3,ah]
 ·rw[aj d4,aj d3,ah]
 ·rw[aj hpl,ah]
 ·rw[aj n3,aj n2,aj (az eb he'),aj n2,aj (az eb he),aj n1,aj (az eb ht)]; exact eb
theorem F2(x y:Str):Str.ofString "lend " ++ x++Str.ofString " " ++ y=Txt.join " " ["lend", x,y]:=by
 rw[iL];show _=Str.ofString "lend" ++ Str.ofString " " ++ x++Str.ofString " " ++ y
 rw[show Str.ofString "lend" ++ Str.ofString " " = Str.ofString "lend " from by decide]
theorem Dq(n:Int):Str.ofString "while " ++ Str.ofString (toString n)=Txt.join " " ["while", bG n]:=by
 rw[iL];show _=Str.ofString "while" ++ Str.ofString " " ++ bG n
 rw[show Str.ofString "while" ++ Str.ofString " " = Str.ofString "while " from by decide]; rfl
theorem KB(n:Int):Str.ofString "if " ++ Str.ofString (toString n)=Txt.join " " ["if", bG n]:=by
 rw[iL];show _=Str.ofString "if" ++ Str.ofString " " ++ bG n
 rw[show Str.ofString "if" ++ Str.ofString " " = Str.ofString "if " from by decide]; rfl
def dS(nm:List Str)(c:Int)(st:BS):BS:=
 if c % 15=9 then ⟨[],.lend (xB nm c) (yB nm c) st.cur::st.stk,st.L++[Txt.join " " ["lend", xB nm c,yB nm c]],st.left,st.lends⟩
 else if c % 15=11 then ⟨[],.whl (cY c) st.cur::st.stk,st.L++[Txt.join " " ["while", bG (cY c)]],st.left,st.lends⟩
 else ⟨[],.inB (cY c) st.cur::st.stk,st.L++[Txt.join " " ["if", bG (cY c)]],st.left,st.lends⟩
def tX:Sp:=fun vs H Q _=>∃ (here pp lp:Addr) (c:Int) (nm:List Str) (H0:Hp) (root:Addr) (st:BS) (d:Nat) (pr:List (Str × Addr)) (S:Addr→Prop) (as es:List Addr),vs=[.ref here,.ref pp,.ref lp,.int c,.str (xB nm c),.str (yB nm c)]∧
 BInv H0 H root lp pp here st (d+1) pr S as es∧NmOk nm∧as.length≤1000∧es.length≤1000∧st.L.length≤1000∧
 ∀ (inner:Addr) (H':Hp) (pr':List (Str × Addr)) (es':List Addr),BInv H0 H' root lp pp inner (dS nm c st) d pr' S [] es'→Q (.ref inner) H'
theorem AQ(D:DefAt K mg "_law_begun" bH) (z_len:mg "len" = none) (z_str:mg "str" = none) (c_law_bound:aM P w K mg base 1 "_law_bound" ["_law_cell"] tJ):aM P w K mg base 2 "_law_begun" ["_law_here", "_law_pile", "_law_lines", "_law_cell", "_law_x", "_law_y"] tX:=by
 refine D.cal sc_law_begun (fun _ _ _ _ _ _ us hl=>match us,hl with | [_,_,_,_,_,_],_=>rfl) (fun vs H Q E h=>by obtain⟨_,_,_,_,_,_,_,_,_,_,_,_,_,rfl,_⟩:=h; rfl) (fun f cdv A outer s H vs Q E hr h=>?_)
 obtain⟨here,pp,lp,c,nm,H0,root,st,d,pr,S,as,es,rfl,I,ok,ha1,he1,hl1,q⟩:=h
 refine⟨_,(af (ax 6 sc_law_begun.nd (bA ac))
   (af (ax 7 sc_law_begun.nd (aA c_law_bound hr (aa (pv 3) ac)))
   (af (bd (aF bz (ap bI (pv 3) ae) ae (aL _)) (af (aD (bh K PySem.F.plainAttrs_list PySem.F.slot_list_append PySem.F.type_list_append aW (pv 0) (aa (bB (aa aw (aa (pv 4) (aa (pv 5) (aa (pv 6) ac))))) ac)))
   (af (aD (bh K PySem.F.plainAttrs_list PySem.F.slot_list_append PySem.F.type_list_append aW (pv 1) (aa (bB (aa aw (aa (pv 0) ac))) ac)))
   (af (aD (bh K PySem.F.plainAttrs_list PySem.F.slot_list_append PySem.F.type_list_append aW (pv 2) (aa (ap aC (ap aC (ap aC aw (pv 4)) aw) (pv 5)) ac)))
   (ak (aG (pv 6)))))) bu)
   (af (bd (aF bz (ap bI (pv 3) ae) ae (aL _)) (af (aD (bh K PySem.F.plainAttrs_list PySem.F.slot_list_append PySem.F.type_list_append aW (pv 0) (aa (bB (aa aw (aa (pv 7) (aa (pv 6) ac)))) ac)))
   (af (aD (bh K PySem.F.plainAttrs_list PySem.F.slot_list_append PySem.F.type_list_append aW (pv 1) (aa (bB (aa aw (aa (pv 0) ac))) ac)))
   (af (aD (bh K PySem.F.plainAttrs_list PySem.F.slot_list_append PySem.F.type_list_append aW (pv 2) (aa (ap aC aw (ga nP z_str mv (aa (pv 7) ac))) ac)))
   (ak (aG (pv 6)))))) bu)
   (af (ax 8 sc_law_begun.nd (bA ac))
   (af (aD (bh K PySem.F.plainAttrs_list PySem.F.slot_list_append PySem.F.type_list_append aW (pv 0) (aa (bB (aa aw (aa (pv 7) (aa (pv 6) (aa (pv 8) ac))))) ac)))
   (af (aD (bh K PySem.F.plainAttrs_list PySem.F.slot_list_append PySem.F.type_list_append aW (pv 1) (aa (bB (aa aw (aa (pv 0) ac))) ac)))
   (af (aD (bh K PySem.F.plainAttrs_list PySem.F.slot_list_append PySem.F.type_list_append aW (pv 1) (aa (bB (aa aw (aa (pv 8) ac))) ac)))
   (af (aD (bh K PySem.F.plainAttrs_list PySem.F.slot_list_append PySem.F.type_list_append aW (pv 2) (aa (ap aC aw (ga nP z_str mv (aa (pv 7) ac))) ac)))
   (ak (aG (pv 6)))))))))))),?_⟩
 walk_at "rd1";refine⟨by decide,fun inn hinn=>?_⟩
 have sm1:=al hinn (.lst []);have ei:upd H inn (.lst []) inn=some (.lst []):=ah
 generalize upd H inn (.lst [])=H1 at sm1 ei ⊢;have I1:=I.alloc sm1;obtain⟨_,hhl,hhp,_,_⟩:=I.apart here List.mem_cons_self
 have hph:=Ne.symm hhp;have hlh:=Ne.symm hhl;have hlp:=I.lpp;have hpl:=Ne.symm hlp;obtain⟨i1,i2,i3,i4,i5⟩:=I.new hinn
 have i6:inn≠here:=fun z=>i5 (z ▸ List.mem_cons_self)
 walk_at "nx";refine⟨c,rfl,?_⟩
 have hlog:=lM c;have hnl:=iW hlog;unfold bG at hnl;walk_at "nx";refine⟨by decide,aJ (fun c1=>?_) (fun c1=>?_)⟩
 ·refine⟨⟨_,SqL.of I1.cur⟩,by decide,fun t ht=>⟨_,by rw[aj (az I1.cur ht)]; exact I1.cur,by rw[List.length_map]; exact bN (by omega),?_⟩⟩
  walk_at "nx";have hpt:=az I1.pile ht;have hlt:=az I1.lines ht;have hht:=az I1.cur ht;have hit:=az ei ht;have pile3:∀ o1 o2,upd (upd H1 t o1) here o2 pp=some (.lst (es.map V.ref)):=fun o1 o2=>by rw[aj hph,aj hpt]; exact I1.pile
  refine⟨⟨_,SqL.of (pile3 _ _)⟩,by decide,fun e he=>?_⟩
  obtain⟨e1,he⟩:=cC he
  obtain⟨e2,he⟩:=cC he
  have e3:=Ne.symm (az I1.pile he);have e4:=Ne.symm (az I1.lines he);have e5:=Ne.symm (az ei he);refine⟨_,by rw[aj (Ne.symm e3)]; exact pile3 _ _,by rw[List.length_map]; exact bN (by omega),?_⟩
  walk_at "nx";obtain⟨g1,g2,g3,g4,g5,g6⟩:=Bo (T:=.tup [.str "lend", .str (xB nm c),.str (yB nm c),.ref inn]) (L1:=.lst (as.map V.ref++[.ref t])) (E:=.tup [.str "back", .ref here]) (L2:=.lst (es.map V.ref++[.ref e])) (L3:=.lst (st.L.map V.str++[.str (Str.ofString "lend " ++ xB nm c++Str.ofString " " ++ yB nm c)])) ht he hht hpt hlt e1 e2 e3 e4 hhl hhp hpl
  have lines5:∀ o1 o2 o3 o4,upd (upd (upd (upd H1 t o1) here o2) e o3) pp o4 lp=some (.lst (st.L.map V.str)):=fun o1 o2 o3 o4=>by rw[aj hlp,aj (Ne.symm e4),aj hlh,aj hlt]; exact I1.lines
  have xl:=ok.xl c;have yl:=ok.yl c;have l5:(Str.ofString "lend ").length=5:=by decide
  have l1:(Str.ofString " ").length=1:=by decide
  refine⟨⟨_,SqL.of (lines5 _ _ _ _)⟩,a_ (by omega),a_ (by rw[Str.length_append]; omega),a_ (by rw[Str.length_append,Str.length_append]; omega),_,lines5 _ _ _ _,by rw[List.length_map]; exact bN (by omega),?_⟩
  walk_at "nx";refine q inn _ (("back", here)::pr) (es++[e]) ?_
  have eq:dS nm c st=⟨[],.lend (xB nm c) (yB nm c) st.cur::st.stk,st.L++[Txt.join " " ["lend", xB nm c,yB nm c]],st.left,st.lends⟩:=if_pos c1
  rw[eq];refine BInv.open1 (e:=e) I (fun b o eb n1 n2 n3=>g6 b o (sm1 _ _ eb) n1 n2 n3) (t:=t) (by rw[List.map_append]; exact g2) hinn (g6 _ _ ei i6 i2 i1) (by rw[List.map_append,← F2]; exact g5) (by rw[List.map_append]; exact g4) g3 (fun z1 z2=>.lend g2 z2 g1 z1)
 walk_at "nx";refine⟨by decide,aJ (fun c2=>?_) (fun c2=>?_)⟩
 ·refine⟨⟨_,SqL.of I1.cur⟩,by decide,fun t ht=>⟨_,by rw[aj (az I1.cur ht)]; exact I1.cur,by rw[List.length_map]; exact bN (by omega),?_⟩⟩
  walk_at "nx";have hpt:=az I1.pile ht;have hlt:=az I1.lines ht;have hht:=az I1.cur ht;have hit:=az ei ht;have pile3:∀ o1 o2,upd (upd H1 t o1) here o2 pp=some (.lst (es.map V.ref)):=fun o1 o2=>by rw[aj hph,aj hpt]; exact I1.pile
  refine⟨⟨_,SqL.of (pile3 _ _)⟩,by decide,fun e he=>?_⟩
  obtain⟨e1,he⟩:=cC he
  obtain⟨e2,he⟩:=cC he
  have e3:=Ne.symm (az I1.pile he);have e4:=Ne.symm (az I1.lines he);refine⟨_,by rw[aj (Ne.symm e3)]; exact pile3 _ _,by rw[List.length_map]; exact bN (by omega),?_⟩
  walk_at "nx";obtain⟨g1,g2,g3,g4,g5,g6⟩:=Bo (T:=.tup [.str "while", .int (cY c),.ref inn]) (L1:=.lst (as.map V.ref++[.ref t])) (E:=.tup [.str "done", .ref here]) (L2:=.lst (es.map V.ref++[.ref e])) (L3:=.lst (st.L.map V.str++[.str (Str.ofString "while " ++ Str.ofString (toString (cY c)))])) ht he hht hpt hlt e1 e2 e3 e4 hhl hhp hpl
  have lines5:∀ o1 o2 o3 o4,upd (upd (upd (upd H1 t o1) here o2) e o3) pp o4 lp=some (.lst (st.L.map V.str)):=fun o1 o2 o3 o4=>by rw[aj hlp,aj (Ne.symm e4),aj hlh,aj hlt]; exact I1.lines
  have l5:(Str.ofString "while ").length=6:=by decide
  refine⟨⟨_,SqL.of (lines5 _ _ _ _)⟩,hlog,a_ (by omega),_,lines5 _ _ _ _,by rw[List.length_map]; exact bN (by omega),?_⟩
  walk_at "nx";refine q inn _ (("done", here)::pr) (es++[e]) ?_
  have eq:dS nm c st=⟨[],.whl (cY c) st.cur::st.stk,st.L++[Txt.join " " ["while", bG (cY c)]],st.left,st.lends⟩:=(if_neg c1).trans (if_pos c2)
  rw[eq];refine BInv.open1 (e:=e) I (fun b o eb n1 n2 n3=>g6 b o (sm1 _ _ eb) n1 n2 n3) (t:=t) (by rw[List.map_append]; exact g2) hinn (g6 _ _ ei i6 i2 i1) (by rw[List.map_append,← Dq]; exact g5) (by rw[List.map_append]; exact g4) g3 (fun z1 z2=>.whl g2 z2 g1 z1)
 walk_at "nx";refine⟨by decide,fun oth hoth=>?_⟩
 have sm2:=al hoth (.lst []);have eo:upd H1 oth (.lst []) oth=some (.lst []):=ah
 generalize upd H1 oth (.lst [])=H2 at sm2 eo ⊢;have I2:=I1.alloc sm2;have ei2:=sm2 _ _ ei;obtain⟨o1,o2,o3,o4,o5⟩:=I1.new hoth
 have o6:oth≠here:=fun z=>o5 (z ▸ List.mem_cons_self)
 have hio:inn≠oth:=az ei hoth
 walk_at "nx";refine⟨⟨_,SqL.of I2.cur⟩,by decide,fun t ht=>⟨_,by rw[aj (az I2.cur ht)]; exact I2.cur,by rw[List.length_map]; exact bN (by omega),?_⟩⟩
 walk_at "nx";have hpt:=az I2.pile ht;have hlt:=az I2.lines ht;have hht:=az I2.cur ht;have pile3:∀ o1 o2,upd (upd H2 t o1) here o2 pp=some (.lst (es.map V.ref)):=fun o1 o2=>by rw[aj hph,aj hpt]; exact I2.pile
 refine⟨⟨_,SqL.of (pile3 _ _)⟩,by decide,fun e he=>?_⟩
 obtain⟨e1,he⟩:=cC he
 obtain⟨e2,he⟩:=cC he
 have e3:=Ne.symm (az I2.pile he);have e4:=Ne.symm (az I2.lines he);refine⟨_,by rw[aj (Ne.symm e3)]; exact pile3 _ _,by rw[List.length_map]; exact bN (by omega),?_⟩
 walk_at "nx";refine⟨⟨_,SqL.of ah⟩,by decide,fun e' he'=>?_⟩
 obtain⟨d3,he'⟩:=cC he'
 obtain⟨d5,he'⟩:=cC he'
 obtain⟨d1,he'⟩:=cC he'
 obtain⟨d2,he'⟩:=cC he'
 have d4:=Ne.symm (az I2.lines he');refine⟨_,by rw[aj (Ne.symm d3)]; exact ah,by rw[List.length_append,List.length_map]; exact bN (by simp only[List.length_cons,List.length_nil]; omega),?_⟩
 walk_at "nx";obtain⟨g1,g2,g3,g3',g4,g5,g6⟩:=FL (T:=.tup [.str "if", .int (cY c),.ref inn,.ref oth]) (L1:=.lst (as.map V.ref++[.ref t])) (E:=.tup [.str "fi", .ref here]) (L2:=.lst (es.map V.ref++[.ref e])) (E':=.tup [.str "else", .ref oth]) (L2':=.lst (es.map V.ref++[.ref e]++[.ref e'])) (L3:=.lst (st.L.map V.str++[.str (Str.ofString "if " ++ Str.ofString (toString (cY c)))])) ht he he' hht hpt hlt e1 e2 e3 e4 d1 d2 d3 d4 d5 hhl hhp hpl
 have lines7:∀ o1 o2 o3 o4 o5 o6,upd (upd (upd (upd (upd (upd H2 t o1) here o2) e o3) pp o4) e' o5) pp o6 lp=some (.lst (st.L.map V.str)):=fun o1 o2 o3 o4 o5 o6=>by rw[aj hlp,aj (Ne.symm d4),aj hlp,aj (Ne.symm e4),aj hlh,aj hlt]; exact I2.lines
 have l3:(Str.ofString "if ").length=3:=by decide
 refine⟨⟨_,SqL.of (lines7 _ _ _ _ _ _)⟩,hlog,a_ (by omega),_,lines7 _ _ _ _ _ _,by rw[List.length_map]; exact bN (by omega),?_⟩
 walk_at "nx";refine q inn _ (("else", oth)::("fi", here)::pr) (es++[e,e']) ?_
 have eq:dS nm c st=⟨[],.inB (cY c) st.cur::st.stk,st.L++[Txt.join " " ["if", bG (cY c)]],st.left,st.lends⟩:=(if_neg c1).trans (if_neg c2)
 rw[eq];exact BInv.open2 (e:=e) (e2:=e') (oth:=oth) I (fun b o eb n1 n2 n3=>g6 b o (sm2 _ _ (sm1 _ _ eb)) n1 n2 n3) (t:=t) (by rw[List.map_append]; exact g2) hinn (g6 _ _ ei2 i6 i2 i1) (sm1.free hoth) (g6 _ _ eo o6 o2 o1) hio (by rw[List.map_append,← KB]; exact g5) (by rw[List.map_append]; rw[g4,List.append_assoc]; rfl) g3 g3' g1
def dD(nm:List Str)(st:BS)(c:Int):BS:=
 if c % 15>11∧st.stk≠[] then fc st
 else if (9≤c % 15∧c % 15≤11)∧st.left>2∧(st.stk.length:Int)<8∧(c % 15≠9∨st.lends>0) then dS nm c ⟨st.cur,st.stk,st.L,st.left - 3+(if (!decide (c % 15=10))=true then 1 else 0),st.lends - (if c % 15=9 then 1 else 0)⟩
 else if c % 15<9∧st.left>0 then ⟨st.cur++[.plain (dL nm c)],st.stk,st.L++[Txt.join " " (dL nm c)],st.left - 1,st.lends⟩
 else st
def cH:List Frm→Nat
 | []=>0
 | .inB _ _::r=>cH r+2
 | _::r=>cH r+1
def fe:Nat→BS→BS
 | 0,st=>st
 | n+1,st=>fc (fe n st)
def jQ(left:Int):BS:=⟨[],[],[],left,3⟩
def dN(left:Int)(nm:List Str)(cs:List Int):BS:=fe (cH (cs.foldl (dD nm) (jQ left)).stk) (cs.foldl (dD nm) (jQ left))
theorem Ctx.pile{H:Hp}{S:Addr→Prop}{root:Addr}{fs:List Frm}{pr:List (Str × Addr)}{d:Nat}{here:Addr}(h:Ctx H S root fs pr d here):pr.length=cH fs:=by
 induction h with
 | nil=>rfl
 | lend _ _ _ _ ih=>rw[List.length_cons,ih]; rfl
 | whl _ _ _ _ ih=>rw[List.length_cons,ih]; rfl
 | inB _ _ _ _ _ ih=>rw[List.length_cons,List.length_cons,ih]; rfl
 | inC _ _ _ _ _ ih=>rw[List.length_cons,ih]; rfl
theorem qL{nm:List Str}(hn:NmOk nm){st:BS}{d:Nat}(c:Int)(h:ij st (d+1)):ij (dS nm c st) d:=by
 obtain⟨cur,stk,L,left,lends⟩:=st
 obtain⟨h1,h2,h3,h4,h5⟩:=h
 dsimp only at h1 h2 h3 h4 h5
 have go:∀ (f:Frm) (x:Str),e6 (f::stk) d=e6 stk (d+1)++b5 (d+2) cur++[x]→tm (f::stk) d→fL f=cur.length→ij ⟨[],f::stk,L++[x],left,lends⟩ d:=fun f x e1 e2 e3=>by
  refine⟨by show d+(stk.length+1)=9; omega,?_,fun s hs=>absurd hs (by show ¬ s∈([]:List Stp); simp),e2,?_⟩
  ·show L++[x]=e6 (f::stk) d++b5 (d+1) []
   rw[e1,h2];simp[b5]
  ·show 0+((f::stk).map fL).sum≤(L++[x]).length
   rw[List.map_cons,List.sum_cons,List.length_append,e3];omega
 unfold dS;split
 ·exact go _ _ rfl ⟨hn.xl c,hn.yl c,h3,h4⟩ rfl
 split
 ·exact go _ _ rfl ⟨lM c,h3,h4⟩ rfl
 ·exact go _ _ rfl ⟨lM c,h3,h4⟩ rfl
theorem xZ{ws:List Str}(hw:iB ws){st:BS}{d:Nat}(h:ij st d)(l:Int):ij ⟨st.cur++[.plain ws],st.stk,st.L++[Txt.join " " ws],l,st.lends⟩ d:=by
 obtain⟨cur,stk,L,left,lends⟩:=st
 obtain⟨h1,h2,h3,h4,h5⟩:=h
 dsimp only at h1 h2 h3 h4 h5
 refine⟨h1,?_,mz h3 (mj hw),h4,?_⟩
 ·show L++[Txt.join " " ws]=e6 stk d++b5 (d+1) (cur++[.plain ws])
  rw[l_,h2];simp[b5,bU]
 ·show (cur++[Stp.plain ws]).length+_≤(L++[_]).length
  simp only[List.length_append,List.length_cons,List.length_nil]
  omega
theorem qo{st:BS}{d:Nat}(h:ij st d)(l l':Int):ij ⟨st.cur,st.stk,st.L,l,l'⟩ d:=⟨h.dep,h.lines,h.ok,h.okf,h.size⟩
theorem zq(st:BS):(fc st).L.length≤st.L.length+1:=by
 obtain⟨cur,stk,L,left,lends⟩:=st
 cases stk with
 | nil=>exact Nat.le_succ _
 | cons f r=>cases f <;> (show (L++[_]).length≤L.length+1; rw[List.length_append]; exact Nat.le_refl _)
theorem j0{H0 H:Hp}{root lp pp here:Addr}{st:BS}{d:Nat}{pr:List (Str × Addr)}{S:Addr→Prop}{as es:List Addr}(I:BInv H0 H root lp pp here st d pr S as es)(l l':Int):BInv H0 H root lp pp here ⟨st.cur,st.stk,st.L,l,l'⟩ d pr S as es:=
 ⟨I.ctx,I.pile,I.ents,I.cur,I.steps,I.lines,I.nd,I.apart,I.lpp,I.off,I.sin,I.sm⟩
theorem t0(st:BS):(fc st).left=st.left∧(fc st).lends=st.lends:=by
 obtain⟨cur,stk,L,left,lends⟩:=st
 cases stk with
 | nil=>exact⟨rfl,rfl⟩
 | cons f r=>cases f <;> exact⟨rfl,rfl⟩
theorem rs(nm:List Str)(c:Int)(st:BS):(dS nm c st).left=st.left∧(dS nm c st).lends=st.lends∧(dS nm c st).L.length=st.L.length+1:=by
 unfold dS;split
 ·exact⟨rfl,rfl,by simp⟩
 split
 ·exact⟨rfl,rfl,by simp⟩
 ·exact⟨rfl,rfl,by simp⟩
theorem fY{nm:List Str}{st:BS}{c:Int}(h1:¬ (c % 15>11∧st.stk≠[]))(h2:¬ ((9≤c % 15∧c % 15≤11)∧st.left>2∧(st.stk.length:Int)<8∧(c % 15≠9∨st.lends>0)))(h3:¬ (c % 15<9∧st.left>0)):dD nm st c=st:=by
 unfold dD;rw[if_neg h1,if_neg h2,if_neg h3]
theorem pO{st:BS}{d d':Nat}(h:ij st d)(hne:st.stk≠[])(e:d'+(fc st).stk.length=9):ij (fc st) d':=by
 obtain⟨d2,z⟩:=CU h hne
 have:=z.dep
 have:d'=d2:=by omega
 rw[this]; exact z
theorem lW{nm:List Str}{st:BS}{c:Int}(h1:¬ (c % 15>11∧st.stk≠[]))(h2:(9≤c % 15∧c % 15≤11)∧st.left>2∧(st.stk.length:Int)<8∧(c % 15≠9∨st.lends>0)):dD nm st c=dS nm c ⟨st.cur,st.stk,st.L,st.left - 3+(if (!decide (c % 15=10))=true then 1 else 0),st.lends - (if c % 15=9 then 1 else 0)⟩:=by
 unfold dD;rw[if_neg h1,if_pos h2]
theorem sO{nm:List Str}{st:BS}{c:Int}(h1:¬ (c % 15>11∧st.stk≠[]))(h2:¬ ((9≤c % 15∧c % 15≤11)∧st.left>2∧(st.stk.length:Int)<8∧(c % 15≠9∨st.lends>0)))(h3:c % 15<9∧st.left>0):dD nm st c=⟨st.cur++[.plain (dL nm c)],st.stk,st.L++[Txt.join " " (dL nm c)],st.left - 1,st.lends⟩:=by
 unfold dD;rw[if_neg h1,if_neg h2,if_pos h3]
theorem gN(st:BS):∀ n,fe (n+1) st=fe n (fc st)
 | 0=>rfl
 | n+1=>by show fc (fe (n+1) st)=fc (fe n (fc st)); rw[gN st n]
theorem xw{H:Hp}{S:Addr→Prop}{root:Addr}{st:BS}{w:Str}{up:Addr}{pr:List (Str × Addr)}{d:Nat}{here:Addr}(h:Ctx H S root st.stk ((w,up)::pr) d here):(fc st).L=st.L++[w]:=by
 obtain⟨cur,stk,L,left,lends⟩:=st
 dsimp only at h
 cases h <;> rfl
theorem xO{H0:Hp}{root lp pp:Addr}:∀ (n:Nat) {H:Hp} {here:Addr} {st:BS} {d:Nat} {pr:List (Str × Addr)} {S:Addr→Prop} {as es:List Addr},pr.length=n→BInv H0 H root lp pp here st d pr S as es→ij st d→
  ∃ S' as',ij (fe n st) 9∧(fe n st).stk=[]∧(fe n st).L=st.L++pr.map (·.1)∧¬ S' root∧¬ S' lp∧¬ S' pp∧H root=some (.lst (as'.map V.ref))∧Paired (stpAt (ProgAt S' 9 H) H) as' (fe n st).cur∧(∀ b,S' b→∃ xs,H b=some (.lst xs))∧root≠lp∧root≠pp∧H0 root=none
 | 0,H,here,st,d,pr,S,as,es,hn,I,B=>by
  have:pr=[]:=List.length_eq_zero_iff.mp hn
  subst this
  have hc:st.stk=[]∧d=9∧here=root:=by
   have hcx:=I.ctx;generalize st.stk=fs at hcx ⊢
   cases hcx;exact⟨rfl,rfl,rfl⟩
  obtain⟨k1,k2,k3⟩:=hc
  subst k2 k3;obtain⟨y1,y2,y3,y4,_⟩:=I.apart here List.mem_cons_self
  exact⟨S,as,B,k1,by simp[fe],y1,I.off.1,I.off.2.1,I.cur,I.steps,I.sin,y2,y3,y4⟩
 | n+1,H,here,st,d,pr,S,as,es,hn,I,B=>by
  rcases pr with _ | ⟨⟨wd,up⟩,pr'⟩
  ·simp at hn
  have hsk:st.stk≠[]:=fun z=>by have:=I.ctx.pile; rw[z]at this; simp[cH]at this
  have hes:=ay I.ents;rw[List.length_reverse]at hes
  rcases List.eq_nil_or_concat es with z | ⟨es0,e,z⟩
  ·rw[z]at hes; simp at hes
  rw[List.concat_eq_append]at z
  subst z;obtain⟨d',as',I4⟩:=I.pop (H':=upd (upd H pp (.lst (es0.map V.ref))) lp (.lst (st.L.map V.str++[.str wd]))) (fun b o eb n1 n2=>by rw[aj n2,aj n1]; exact eb) (by rw[aj (Ne.symm I.lpp)]; exact ah) (by rw[ah,List.map_append]; rfl)
  have B4:=pO B hsk I4.ctx.deep.1;obtain⟨S',as2,z1,z2,z3,z4,z5,z6,z7,z8,z9,z10,z11,z12⟩:=xO n (by simpa using hn) I4 B4
  have back:∀ b o,upd (upd H pp (.lst (es0.map V.ref))) lp (.lst (st.L.map V.str++[.str wd])) b=some o→b≠lp→b≠pp→H b=some o:=fun b o e n1 n2=>by rw[aj n1,aj n2]at e; exact e
  have ht:∀ b xs,upd (upd H pp (.lst (es0.map V.ref))) lp (.lst (st.L.map V.str++[.str wd])) b=some (.tup xs)→H b=some (.tup xs):=fun b xs e=>back b _ e (fun z=>by rw[z,ah]at e; cases e) (fun z=>by rw[z,aj (Ne.symm I.lpp),ah]at e; cases e)
  have hl:∀ b xs,S' b→upd (upd H pp (.lst (es0.map V.ref))) lp (.lst (st.L.map V.str++[.str wd])) b=some (.lst xs)→H b=some (.lst xs):=fun b xs hb e=>back b _ e (fun z=>z5 (z ▸ hb)) (fun z=>z6 (z ▸ hb))
  refine⟨S',as2,by rw[gN]; exact z1,by rw[gN]; exact z2,?_,z4,z5,z6,back _ _ z7 z10 z11,?_,fun b hb=>?_,z10,z11,z12⟩
  ·rw[gN,z3,xw I.ctx,List.append_assoc]; rfl
  ·rw[gN]
   exact Paired.imp' (fun a s z=>stpAt.imp ht (fun q b y=>ProgAt.imp ht hl (fun _ z=>z) 9 y) z) z8
  ·obtain⟨xs,e⟩:=z9 b hb
   exact⟨xs,hl _ _ hb e⟩
theorem ny{α : Type}(xs:List α)(x:α):eP (xs++[x]) (-1)=some x:=by
 have e:kW (xs++[x]).length (-1)=some xs.length:=by
  unfold kW;simp only[List.length_append,List.length_cons,List.length_nil]
  split <;> simp_all <;> omega
 unfold eP;rw[e];simp
def n6:Sp:=fun vs H Q _=>∃ (ca na:Addr) (cs:List Int) (nm:List Str),vs=[.ref ca,.ref na]∧H ca=some (.lst (cs.map V.int))∧H na=some (.lst (nm.map V.str))∧NmOk nm∧cs.length≤63∧
 ∀ (t root lp:Addr) (H':Hp) (S:Addr→Prop) (as:List Addr),Same H H'→H' t=some (.tup [.ref root,.ref lp])→H root=none→H lp=none→root≠lp→¬ S root→¬ S lp→H' root=some (.lst (as.map V.ref))→Paired (stpAt (ProgAt S 9 H') H') as (dN 60 nm cs).cur→dJ 10 (dN 60 nm cs).cur→
  H' lp=some (.lst ((b5 10 (dN 60 nm cs).cur).map V.str))→(b5 10 (dN 60 nm cs).cur).length≤100→as.length≤500→Q (.ref t) H'
theorem v_(D:DefAt K mg "_law_program" ar) (z_len:mg "len" = none) (z_int:mg "int" = none) (z_reversed:mg "reversed" = none) (c_law_begun:aM P w K mg base 2 "_law_begun" ["_law_here", "_law_pile", "_law_lines", "_law_cell", "_law_x", "_law_y"] tX) (c_law_step:aM P w K mg base 1 "_law_step" ["_law_cell", "_law_x", "_law_y", "_law_names_here"] xi):aM P w K mg base 3 "_law_program" ["_law_cells", "_law_names_here"] n6:=by
 refine D.cal sc_law_program (fun _ _ _ _ _ _ us hl=>match us,hl with | [_,_],_=>rfl) (fun vs H Q E h=>by obtain⟨_,_,_,_,rfl,_⟩:=h; rfl) (fun f cdv A outer s H vs Q E hr h=>?_)
 obtain⟨ca,na,cs,nm,rfl,hca,hna,ok,h63,q⟩:=h
 refine⟨_,(af (ax 2 sc_law_program.nd (bA ac))
   (af (ax 3 sc_law_program.nd (bA ac))
   (af (ax 4 sc_law_program.nd (bA ac))
   (af (ax 5 sc_law_program.nd (pv 2))
   (af (ax 6 sc_law_program.nd ae)
   (af (ax 7 sc_law_program.nd ae)
   (af (cE PassesOwn.never rfl (cr K (pv 0)) (ba 8 sc_law_program.nd) (af (ax 9 sc_law_program.nd (ap bI (pv 8) ae))
   (af (ax 10 sc_law_program.nd (av (aI K) (pv 1) (ap bI (ap bI (ap eZ (pv 8) ae) ae) (bm (aV K) z_len bL (aa (pv 1) ac))) (fun _ _=>rfl)))
   (af (ax 11 sc_law_program.nd (av (aI K) (pv 1) (ap bI (ap bI (ap eZ (pv 8) ae) ae) (bm (aV K) z_len bL (aa (pv 1) ac))) (fun _ _=>rfl)))
   (af (ax 12 sc_law_program.nd (bm (aV K) z_len bL (aa (fT (CompSc.to (fsc:=(defScope ar)) (N:=["_law_cells", "_law_names_here", "_law_program_here", "_law_lines", "_law_pile", "_law_here", "_law_left", "_law_lends", "_law_cell", "_law_kind", "_law_x", "_law_y", "_law_deep", "_law_line", "_law_there"]) (N0:=["_law_cells", "_law_names_here", "_law_program_here", "_law_lines", "_law_pile", "_law_here", "_law_left", "_law_lends", "_law_cell", "_law_kind", "_law_x", "_law_y", "_law_deep", "_law_line", "_law_there"]) (T:=["_law_one"]) ⟨by decide +kernel,by decide +kernel,by decide +kernel,by decide +kernel,by decide +kernel,by decide +kernel,by decide +kernel⟩ rfl rfl) rfl (cr K (pv 4)) (fun _ _ _ _=>(ba 15 (show (["_law_cells", "_law_names_here", "_law_program_here", "_law_lines", "_law_pile", "_law_here", "_law_left", "_law_lends", "_law_cell", "_law_kind", "_law_x", "_law_y", "_law_deep", "_law_line", "_law_there", "_law_one"]:List Str).Nodup from by decide +kernel) (hx:=(iu (defScope ar) (by decide +kernel))) (hf:=km (defScope ar) (by decide +kernel)))) (dy (show (["_law_cells", "_law_names_here", "_law_program_here", "_law_lines", "_law_pile", "_law_here", "_law_left", "_law_lends", "_law_cell", "_law_kind", "_law_x", "_law_y", "_law_deep", "_law_line", "_law_there"]:List Str).length≤15 from by decide)) (fun _ _ _ _=>(ia (aF ki (av (aI K) (pv 15 (hv:=(dz (defScope ar) (by decide +kernel)))) ae (fun _ _=>rfl)) aw (aL _)))) (fun _ _ _ _=>(pv 15 (hv:=(dz (defScope ar) (by decide +kernel)))))) ac)))
   (ak (bd (PW.pt' (gh (aF jx (pv 9) ae (aL _)) (gW (aF (kB K hr) (pv 4) (bA ac) (aL _))))) (af (iV (C0 K PySem.F.plainAttrs_list PySem.F.slot_list_pop PySem.F.type_list_pop CB (pv 4)) (fW K (n:=2) (cz (ba 13 sc_law_program.nd) (cz (ba 5 sc_law_program.nd) fU))))
   (ak (aD (bh K PySem.F.plainAttrs_list PySem.F.slot_list_append PySem.F.type_list_append aW (pv 3) (aa (pv 13) ac))))) (ak (bd (PW.pt' (gh (zv Bp Bp ae (pv 9) ae) (gh (aF jx (pv 6) ae (aL _)) (gh (aF j6 (pv 12) ae (aL _)) (gW (PW.pt' (gS (aF ki (pv 9) ae (aL _)) (g_ (aF jx (pv 7) ae (aL _)))))))))) (af (ax 6 sc_law_program.nd (ap aC (ap eJ (pv 6) ae) (ga oM z_int j5 (aa (kE ki (pv 9) ae (aL _)) ac))))
   (af (ax 7 sc_law_program.nd (ap eJ (pv 7) (ga oM z_int j5 (aa (kE bz (pv 9) ae (aL _)) ac))))
   (ak (ax 5 sc_law_program.nd (aA c_law_begun hr (aa (pv 5) (aa (pv 4) (aa (pv 3) (aa (pv 8) (aa (pv 10) (aa (pv 11) ac))))))))))) (ak (bd (PW.pt' (gh (aF j6 (pv 9) ae (aL _)) (gW (aF jx (pv 6) ae (aL _))))) (af (ax 6 sc_law_program.nd (ap eJ (pv 6) ae))
   (af (aD (bh K PySem.F.plainAttrs_list PySem.F.slot_list_append PySem.F.type_list_append aW (pv 5) (aa (aA c_law_step hr (aa (pv 8) (aa (pv 10) (aa (pv 11) (aa (pv 1) ac))))) ac)))
   (ak (aD (bh K PySem.F.plainAttrs_list PySem.F.slot_list_append PySem.F.type_list_append aW (pv 3) (aa (bh K PySem.F.plainAttrs_str PySem.F.slot_str_join PySem.F.type_str_join (yV K) aw (aa (av (aI K) (pv 5) (ku i8 ae) (fun _ _=>rfl)) ac)) ac)))))) bu)))))))))))
   (af (cE PassesOwn.never rfl (DK K JM z_reversed (aa (pv 4) ac)) (fW K (n:=2) (cz (ba 13 sc_law_program.nd) (cz (ba 14 sc_law_program.nd) fU))) (ak (aD (bh K PySem.F.plainAttrs_list PySem.F.slot_list_append PySem.F.type_list_append aW (pv 3) (aa (pv 13) ac)))))
   (ak (aG (bB (aa (pv 2) (aa (pv 3) ac))))))))))))),?_⟩
 walk_at "rd1";refine⟨by decide,fun root hroot=>?_⟩
 walk_at "nx";refine⟨by decide,fun lp hlp=>?_⟩
 walk_at "nx";refine⟨by decide,fun pp hpp=>?_⟩
 obtain⟨p1,hpp⟩:=cC hpp
 obtain⟨p2,hpp⟩:=cC hpp
 obtain⟨l1,hlp⟩:=cC hlp
 have I0:BInv H (upd (upd (upd H root (.lst [])) lp (.lst [])) pp (.lst [])) root lp pp root (jQ 60) 9 [] (fun _=>False) [] []:=by
  refine⟨.nil,ah,.nil,by rw[aj (Ne.symm p2),aj (Ne.symm l1)]; exact ah,.nil,by rw[aj (Ne.symm p1)]; exact ah,by simp,fun a ha=>?_,Ne.symm p1,⟨id,id,hlp,hpp⟩,fun b hb=>hb.elim,?_⟩
  ·have:a=root:=by simpa using ha
   subst this;exact⟨id,Ne.symm l1,Ne.symm p2,hroot,_,by rw[aj (Ne.symm p2),aj (Ne.symm l1)]; exact ah⟩
  ·exact(((al hroot _).upd hlp _).upd hpp _)
 have B0:ij (jQ 60) 9:=⟨rfl,rfl,fun s hs=>absurd hs (by show ¬ s∈([]:List Stp); simp),trivial,Nat.le_refl _⟩
 generalize upd (upd (upd H root (.lst [])) lp (.lst [])) pp (.lst [])=H1 at I0 ⊢;walk_at "nx";walk_at "nx";walk_at "nx";walk_at "nx";refine⟨⟨_,SqL.of (I0.sm _ _ hca)⟩,?_⟩
 refine dh (xs:=cs.map V.int) (fun i σ H'=>∃ (here:Addr) (d:Nat) (pr:List (Str × Addr)) (S:Addr→Prop) (as es:List Addr) (st:BS) (o8 o9 o10 o11 o12 o13 o14:Option V),σ=[some (.ref ca),some (.ref na),some (.ref root),some (.ref lp),some (.ref pp),some (.ref here),some (.int st.left),some (.int st.lends),o8,o9,o10,o11,o12,o13,o14]∧
   st=(cs.take i).foldl (dD nm) (jQ 60)∧BInv H H' root lp pp here st d pr S as es∧ij st d∧st.L.length≤i)
  ⟨root,9,[],_,[],[],jQ 60,none,none,none,none,none,none,none,rfl,rfl,I0,B0,Nat.le_refl _⟩ (fun i σ H' _ h=>by obtain⟨_,_,_,_,_,_,_,_,_,_,_,_,_,_,_,_,I,_⟩:=h; exact SqL.of (I.sm _ _ hca)) ?_ ?_
 ·rintro i v σ H' hv ⟨here,d,pr,S,as,es,st,o8,o9,o10,o11,o12,o13,o14,rfl,hst,I,B,hL⟩
  have hi:i<cs.length:=by have:=(List.getElem?_eq_some_iff.mp hv).1; simpa using this
  rw[List.getElem?_map,List.getElem?_eq_getElem hi]at hv
  cases hv
  have hfold:(cs.take (i+1)).foldl (dD nm) (jQ 60)=dD nm st cs[i]:=by
   rw[List.take_add_one,List.getElem?_eq_getElem hi,List.foldl_append,← hst]; rfl
  generalize cs[i]=c at hfold ⊢;obtain⟨dd1,dd2,dd3⟩:=I.ctx.deep
  have hes:=ay I.ents;rw[List.length_reverse]at hes
  have hal:=ay I.steps;have hsz:=B.size;have n1:=ok.n1;have ha:=I.sm _ _ hna;walk_at "rd1";refine⟨by decide,?_⟩
  walk_at "nx";refine⟨.inr ⟨by decide,by decide⟩,by decide,_,.inl (SqL.of ha),?_⟩
  rw[List.length_map];walk_at "rd1";refine⟨by omega,_,_,.inl (SqL.of ha),(gg n1 (c * 48271 % 1009)).2,?_⟩
  rw[show pk nm (c * 48271 % 1009)=xB nm c from rfl];walk_at "nx";refine⟨.inr ⟨by decide,by decide⟩,by decide,_,.inl (SqL.of ha),?_⟩
  rw[List.length_map];walk_at "rd1";refine⟨by omega,_,_,.inl (SqL.of ha),(gg n1 (c * 69621 % 2003)).2,?_⟩
  rw[show pk nm (c * 69621 % 2003)=yB nm c from rfl];walk_at "nx";refine⟨⟨_,SqL.of I.pile⟩,fun C hC=>?_⟩
  refine gi (xs:=es.map V.ref) (fun j ys H2=>Same H' H2∧H2 C=some (.lst ys)∧ys.length=dv (pr.reverse.take j)) ⟨al hC _,ah,rfl⟩ (fun j ys H2 _ h=>SqL.of (h.1 _ _ I.pile)) ?_ ?_
  ·rintro j ys H2 x hx hj ⟨sm2,hl2,hn2⟩
   rw[List.length_map]at hj
   rw[List.getElem?_map,List.getElem?_eq_getElem hj]at hx
   cases hx;obtain⟨qq,hqq,hent⟩:=bw I.ents (List.getElem?_eq_getElem hj)
   have htk:pr.reverse.take (j+1)=pr.reverse.take j++[qq]:=by rw[List.take_add_one,hqq]; rfl
   have hns:dv (pr.reverse.take j++[qq])=dv (pr.reverse.take j)+dv [qq]:=by unfold dv; rw[List.filter_append,List.length_append]
   have hle:dv (pr.reverse.take j)≤j:=by
    unfold dv;have:=List.length_filter_le (fun q:Str × Addr=>decide (q.1≠("else" : Str))) (pr.reverse.take j)
    rw[List.length_take]at this
    omega
   walk_at "rd1";refine⟨_,_,.inr (SqT.of (sm2 _ _ hent)),cw,?_⟩
   walk_at "rd1";refine aJ (fun c1=>?_) (fun c1=>?_)
   ·have hq1:qq.1 ≠ "else" := by simpa using c1
    refine hX (by rw[List.length_map]; exact hj) (by rw[hn2]; exact hle) (by rw[List.length_map]; exact a_ (by omega)) hl2 ⟨sm2.upd hC _,ah,?_⟩
    obtain⟨q1,q2⟩:=qq
    rw[htk,hns,iY hq1,List.length_append,hn2]; rfl
   ·have hq1:qq.1 = "else" := by simpa using c1
    refine mq (by rw[List.length_map]; exact hj) ⟨sm2,hl2,?_⟩
    obtain⟨q1,q2⟩:=qq
    dsimp only at hq1
    subst hq1;rw[htk,hns,t7,hn2]; rfl
  rintro ys H2 ⟨sm2,hl2,hn2⟩
  have hdeep:ys.length=st.stk.length:=by
   rw[hn2,List.length_map,List.take_of_length_le (by rw[List.length_reverse]; omega),← dd2]
   unfold dv;rw[List.filter_reverse,List.length_reverse]
  have I2:=I.alloc sm2;walk_at "rd1";refine⟨_,.inl (SqL.of hl2),?_⟩
  rw[hdeep];walk_at "nx";refine aJ (fun c1=>?_) (fun c1=>?_)
  ·refine⟨by decide,fun np hnp=>?_⟩
   have sm3:=al hnp (.lst []);have e3:upd H2 np (.lst []) np=some (.lst []):=ah
   generalize upd H2 np (.lst [])=H3 at sm3 e3 ⊢;have I3:=I2.alloc sm3;rcases pr with _ | ⟨⟨wd,up⟩,pr'⟩
   ·have hes0:es=[]:=List.length_eq_zero_iff.mp hes
    have hsk:st.stk=[]:=by have:=dd2; exact List.length_eq_zero_iff.mp this.symm
    subst hes0;refine⟨0,true,by decide,EqN.seqFlat (.inl ⟨SqL.of I3.pile,SqL.of e3⟩) (by simp),?_⟩
    walk_at "rd1";refine aJ (fun c2=>?_) (fun c2=>absurd c2 (by omega))
    refine aJ (fun c3=>absurd c3 (by omega)) (fun c3=>?_)
    refine aJ (fun c4=>absurd c4 (by omega)) (fun c4=>?_)
    exact⟨here,d,_,S,as,_,st,_,_,_,_,_,_,_,rfl,by rw[hfold,fY (by rw[hsk]; simp) (by omega) (by omega)],I3,B,by omega⟩
   ·have hsk:st.stk≠[]:=fun z=>by have:=I.ctx.pile; rw[z]at this; simp[cH]at this
    rcases List.eq_nil_or_concat es with z | ⟨es0,e,z⟩
    ·rw[z]at hes; simp at hes
    rw[List.concat_eq_append]at z
    subst z
    have hent:H3 e=some (.tup [.str wd,.ref up]):=by
     have:=I3.ents
     rw[List.reverse_cons]at this
     exact(iP this).2
    have npe:e≠pp:=b8 hent I3.pile (fun z=>nomatch z)
    refine⟨0,false,by decide,.inr ⟨pp,np,_,_,rfl,rfl,.inl ⟨SqL.of I3.pile,SqL.of e3⟩,.inr ⟨SqL.of I3.pile,SqL.of e3,by simp,rfl⟩⟩,?_⟩
    walk_at "rd1";refine⟨⟨_,SqL.of I3.pile⟩,_,.ref e,I3.pile,by simp,e,[.str wd,.ref up],rfl,SqT.of (by rw[aj npe]; exact hent),rfl,_,_,rfl,_,_,rfl,rfl,?_⟩
    walk_at "nx";have hl4:∀ o,upd H3 pp o lp=some (.lst (st.L.map V.str)):=fun o=>by rw[aj I.lpp]; exact I3.lines
    refine⟨⟨_,SqL.of (hl4 _)⟩,_,hl4 _,by rw[List.length_map]; exact bN (by omega),?_⟩
    have hdl:(List.map V.ref (es0++[e])).dropLast=es0.map V.ref:=by rw[List.map_append]; exact List.dropLast_concat
    rw[hdl];obtain⟨d',as',I4⟩:=I3.pop (H':=upd (upd H3 pp (.lst (es0.map V.ref))) lp (.lst (st.L.map V.str++[.str wd]))) (fun b o eb n1 n2=>by rw[aj n2,aj n1]; exact eb) (by rw[aj (Ne.symm I.lpp)]; exact ah) (by rw[ah,List.map_append]; rfl)
    have hpl:=zq st;refine⟨up,d',pr',_,as',es0,fc st,some (.int c),some (.int (c % 15)),some (.str (xB nm c)),some (.str (yB nm c)),some (.int (st.stk.length:Int)),some (.str wd),o14,?_,?_,I4,pO B hsk I4.ctx.deep.1,by omega⟩
    ·rw[(t0 st).1,(t0 st).2]
    ·rw[hfold]; unfold dD; rw[if_pos ⟨c1,hsk⟩]
  ·refine aJ (fun c2=>?_) (fun c2=>?_)
   ·refine aJ (fun c3=>?_) (fun c3=>absurd c3 (by omega))
    refine aJ (fun c4=>?_) (fun c4=>?_)
    rotate_left
    ·refine aJ (fun c9=>absurd c9 (by omega)) (fun c9=>?_)
     exact⟨here,d,pr,S,as,es,st,_,_,_,_,_,_,_,rfl,by rw[hfold,fY (by omega) (by omega) (by omega)],I2,B,by omega⟩
    refine aJ (fun c5=>?_) (fun c5=>?_)
    rotate_left
    ·refine aJ (fun c9=>absurd c9 (by omega)) (fun c9=>?_)
     exact⟨here,d,pr,S,as,es,st,_,_,_,_,_,_,_,rfl,by rw[hfold,fY (by omega) (by omega) (by omega)],I2,B,by omega⟩
    obtain⟨d',rfl⟩ : ∃ d',d=d'+1:=⟨d - 1,by omega⟩
    refine aJ (fun c6=>?_) (fun c6=>?_)
    ·walk_at "nx"
     walk_at "nx";refine⟨here,pp,lp,c,nm,H,root,⟨st.cur,st.stk,st.L,st.left - 3+(if (!decide (c % 15=10))=true then 1 else 0),st.lends - (if c % 15=9 then 1 else 0)⟩,d',pr,S,as,es,rfl,j0 I2 _ _,ok,by omega,by omega,by show st.L.length≤1000; omega,fun inner H3 pr3 es3 I3=>?_⟩
     obtain⟨y1,y2,y3⟩:=rs nm c ⟨st.cur,st.stk,st.L,st.left - 3+(if (!decide (c % 15=10))=true then 1 else 0),st.lends - (if c % 15=9 then 1 else 0)⟩
     refine⟨inner,d',pr3,S,[],es3,dS nm c ⟨st.cur,st.stk,st.L,st.left - 3+(if (!decide (c % 15=10))=true then 1 else 0),st.lends - (if c % 15=9 then 1 else 0)⟩,some (.int c),some (.int (c % 15)),some (.str (xB nm c)),some (.str (yB nm c)),some (.int (st.stk.length:Int)),o13,o14,?_,?_,I3,qL ok c (qo B _ _),?_⟩
     ·rw[y1,y2]
     ·rw[hfold,lW (by omega) ⟨⟨c2,c3⟩,c4,c5,.inl (by simpa using c6)⟩]
     ·rw[y3]; show st.L.length+1≤i+1; omega
    refine aJ (fun c7=>?_) (fun c7=>?_)
    ·walk_at "nx"
     walk_at "nx";refine⟨here,pp,lp,c,nm,H,root,⟨st.cur,st.stk,st.L,st.left - 3+(if (!decide (c % 15=10))=true then 1 else 0),st.lends - (if c % 15=9 then 1 else 0)⟩,d',pr,S,as,es,rfl,j0 I2 _ _,ok,by omega,by omega,by show st.L.length≤1000; omega,fun inner H3 pr3 es3 I3=>?_⟩
     obtain⟨y1,y2,y3⟩:=rs nm c ⟨st.cur,st.stk,st.L,st.left - 3+(if (!decide (c % 15=10))=true then 1 else 0),st.lends - (if c % 15=9 then 1 else 0)⟩
     refine⟨inner,d',pr3,S,[],es3,dS nm c ⟨st.cur,st.stk,st.L,st.left - 3+(if (!decide (c % 15=10))=true then 1 else 0),st.lends - (if c % 15=9 then 1 else 0)⟩,some (.int c),some (.int (c % 15)),some (.str (xB nm c)),some (.str (yB nm c)),some (.int (st.stk.length:Int)),o13,o14,?_,?_,I3,qL ok c (qo B _ _),?_⟩
     ·rw[y1,y2]
     ·rw[hfold,lW (by omega) ⟨⟨c2,c3⟩,c4,c5,.inr c7⟩]
     ·rw[y3]; show st.L.length+1≤i+1; omega
    have c8:c % 15=9:=by simpa using c6
    refine aJ (fun c9=>absurd c9 (by omega)) (fun c9=>?_)
    exact⟨here,d'+1,pr,S,as,es,st,_,_,_,_,_,_,_,rfl,by rw[hfold,fY (by omega) (by omega) (by omega)],I2,B,by omega⟩
   ·refine aJ (fun c3=>?_) (fun c3=>absurd c3 (by omega))
    refine aJ (fun c4=>?_) (fun c4=>?_)
    rotate_left
    ·exact⟨here,d,pr,S,as,es,st,_,_,_,_,_,_,_,rfl,by rw[hfold,fY (by omega) (by omega) (by omega)],I2,B,by omega⟩
    walk_at "nx";refine⟨⟨_,SqL.of I2.cur⟩,c,na,nm,rfl,I2.sm _ _ hna,ok,fun t H3 sm3 ht hat=>?_⟩
    have I3:=I2.alloc sm3;walk_at "rd1";refine⟨_,I3.cur,by rw[List.length_map]; exact bN (by omega),?_⟩
    obtain⟨_,hhl,hhp,_,_⟩:=I.apart here List.mem_cons_self
    have nth:t≠here:=b8 hat I3.cur (fun z=>nomatch z)
    have hl4:∀ o,upd H3 here o lp=some (.lst (st.L.map V.str)):=fun o=>by rw[aj (Ne.symm hhl)]; exact I3.lines
    have pw:=zg ok c;have hsum:=gT 20 (dL nm c) pw.len;have p3:=pw.three;have h1l:(Str.ofString " ").length=1:=by decide
    walk_at "nx";refine⟨⟨_,SqL.of (hl4 _)⟩,_,_,.inl (SqL.of ah),ny _ _,?_⟩
    walk_at "rd1";refine⟨dL nm c,SqT.of (by rw[aj nth]; exact hat),by rw[h1l]; omega,?_⟩
    refine⟨_,hl4 _,by rw[List.length_map]; exact bN (by omega),?_⟩
    have I5:=I3.plain (H':=upd (upd H3 here (.lst (as.map V.ref++[.ref t]))) lp (.lst (st.L.map V.str++[.str (Txt.join " " (dL nm c))]))) (t:=t) (ws:=dL nm c) (L':=st.L++[Txt.join " " (dL nm c)]) (lf:=st.left - 1) (ld:=st.lends) (fun b o eb n1 n2 n3=>by rw[aj n3,aj n1]; exact eb) (by rw[aj hhl,ah,List.map_append]; rfl) (by rw[aj (b8 hat I3.lines (fun z=>nomatch z)),aj nth]; exact hat) (by rw[ah,List.map_append]; rfl) (by rw[aj (Ne.symm I.lpp),aj (Ne.symm hhp)]; exact I3.pile)
    refine⟨here,d,pr,S,as++[t],es,_,some (.int c),some (.int (c % 15)),some (.str (xB nm c)),some (.str (yB nm c)),some (.int (st.stk.length:Int)),o13,o14,rfl,?_,I5,xZ pw B _,?_⟩
    ·rw[hfold,sO (by omega) (by omega) ⟨c3,c4⟩]
    ·show (st.L++[_]).length≤i+1
     rw[List.length_append]; simp only[List.length_cons,List.length_nil]; omega
 ·rintro σ H' ⟨here,d,pr,S,as,es,st,o8,o9,o10,o11,o12,o13,o14,rfl,hst,I,B,hL⟩
  rw[List.length_map,List.take_length]at hst
  rw[List.length_map]at hL
  have hplen:=I.ctx.pile;obtain⟨dd1,_,dd3⟩:=I.ctx.deep
  have hes:=ay I.ents;rw[List.length_reverse]at hes
  walk_at "nx";refine⟨_,SqL.of I.pile,?_⟩
  refine AE (xs:=es.map V.ref) (fun j σ H2=>∃ o13 o14:Option V,σ=[some (.ref ca),some (.ref na),some (.ref root),some (.ref lp),some (.ref pp),some (.ref here),some (.int st.left),some (.int st.lends),o8,o9,o10,o11,o12,o13,o14]∧BInv H H2 root lp pp here ⟨st.cur,st.stk,st.L++(pr.take j).map (·.1),st.left,st.lends⟩ d pr S as es)
   ⟨o13,o14,rfl,by simpa using j0 I st.left st.lends⟩ (fun j σ H2 _ h=>by obtain⟨_,_,_,I⟩:=h; exact SqL.of I.pile) ?_ ?_
  ·rintro j x σ H2 hj hx ⟨o13,o14,rfl,I2⟩
   rw[List.length_map]at hj hx
   have hj':es.length - 1 - j<es.length:=by omega
   rw[List.getElem?_map,List.getElem?_eq_getElem hj']at hx
   cases hx;obtain⟨qq,hqq,hent⟩:=bw I2.ents (List.getElem?_eq_getElem hj')
   rw[List.getElem?_reverse (by omega)]at hqq
   have hix:pr.length - 1 - (es.length - 1 - j)=j:=by omega
   rw[hix]at hqq
   have htk:(pr.take (j+1)).map (·.1)=(pr.take j).map (·.1)++[qq.1]:=by rw[List.take_add_one,hqq,List.map_append]; rfl
   have hll:((pr.take j).map (·.1)).length≤20:=by rw[List.length_map,List.length_take]; omega
   walk_at "rd1";refine⟨_,_,rfl,SqT.of hent,rfl,?_⟩
   walk_at "rd1";refine⟨⟨_,SqL.of I2.lines⟩,_,I2.lines,by rw[List.length_map]; exact bN (by show (st.L++_).length≤1000000; rw[List.length_append]; omega),?_⟩
   have I3:=I2.line (st.L++(pr.take (j+1)).map (·.1)) (lf:=st.left) (ld:=st.lends);refine⟨_,_,rfl,?_⟩
   rw[htk,← List.append_assoc,List.map_append]at I3
   rw[htk,← List.append_assoc];exact I3
  ·rintro σ H2 ⟨o13,o14,rfl,I2⟩
   rw[List.length_map,List.take_of_length_le (by omega)]at I2
   walk_at "nx";refine⟨by decide,fun t ht=>?_⟩
   have I4:=I2.alloc (al ht (.tup [.ref root,.ref lp]));have ett:upd H2 t (.tup [.ref root,.ref lp]) t=some (.tup [.ref root,.ref lp]):=ah
   generalize upd H2 t (.tup [.ref root,.ref lp])=H3 at I4 ett ⊢;have Ig:BInv H (upd H3 lp (.lst (st.L.map V.str))) root lp pp here st d pr S as es:=I4.line st.L (lf:=st.left) (ld:=st.lends)
   obtain⟨S',as',z1,z2,z3,z4,z5,z6,z7,z8,z9,z10,z11,z12⟩:=xO pr.length rfl Ig B
   have back:∀ b o,upd H3 lp (.lst (st.L.map V.str)) b=some o→b≠lp→H3 b=some o:=fun b o e n1=>by rw[aj n1]at e; exact e
   have htp:∀ b xs,upd H3 lp (.lst (st.L.map V.str)) b=some (.tup xs)→H3 b=some (.tup xs):=fun b xs e=>back b _ e (fun z=>by rw[z,ah]at e; cases e)
   have hlq:∀ b xs,S' b→upd H3 lp (.lst (st.L.map V.str)) b=some (.lst xs)→H3 b=some (.lst xs):=fun b xs hb e=>back b _ e (fun z=>z5 (z ▸ hb))
   have hb:dN 60 nm cs=fe pr.length st:=by
    unfold dN;rw[← hst,hplen]
   have hlines:(fe pr.length st).L=b5 10 (fe pr.length st).cur:=by
    have:=z1.lines
    rw[z2]at this
    simpa [e6] using this
   have hal:=ay z8;have hsz:=z1.size;have hll:(st.L++pr.map (·.1)).length≤100:=by rw[List.length_append,List.length_map]; omega
   rw[z3]at hlines hsz
   refine q t root lp H3 S' as' I4.sm ett z12 I4.off.2.2.1 z10 z4 z5 (back _ _ z7 z10) ?_ (by rw[hb]; exact z1.ok) ?_ ?_ (by omega)
   ·rw[hb]
    exact Paired.imp' (fun a s z=>stpAt.imp htp (fun q b y=>ProgAt.imp htp hlq (fun _ z=>z) 9 y) z) z8
   ·rw[hb,← hlines]; exact I4.lines
   ·rw[hb,← hlines]; omega
end
def cR(x:Str):Prop:=32∉x.cps.toList
def mH(f:List Stp→Prop):Stp→Prop
 | .plain ws=>eO ws∧∀ x∈ws,cR x
 | .lend x y b=>cR x∧cR y∧f b
 | .ite n b c=>n.natAbs<10 ^ 61∧f b∧f c
 | .whl n b=>n.natAbs<10 ^ 61∧f b
def dq:Nat→List Stp→Prop
 | 0,_=>False
 | d+1,T=>∀ s∈T,mH (dq d) s
theorem w9{f g:List Stp→Prop}(h:∀ b,f b→g b):∀ {s:Stp},mH f s→nM g s
 | .plain _,z=>z.1
 | .lend _ _ _,z=>h _ z.2.2
 | .ite _ _ _,z=>⟨h _ z.2.1,h _ z.2.2⟩
 | .whl _ _,z=>h _ z.2
theorem jE:∀ {d:Nat} {T:List Stp},dq d T→fG d T
 | 0,_,h=>h
 | _+1,_,h=>fun s hs=>w9 (fun _ z=>jE z) (h s hs)
def lV:List Frm→Nat→Prop
 | [],_=>True
 | .lend x y up::r,d=>cR x∧cR y∧dq (d+2) up∧lV r (d+1)
 | .whl n up::r,d=>n.natAbs<10 ^ 61∧dq (d+2) up∧lV r (d+1)
 | .inB n up::r,d=>n.natAbs<10 ^ 61∧dq (d+2) up∧lV r (d+1)
 | .inC n b up::r,d=>n.natAbs<10 ^ 61∧dq (d+1) b∧dq (d+2) up∧lV r (d+1)
structure kT (st:BS) (d:Nat):Prop where
 dep:d+st.stk.length=9
 fine:dq (d+1) st.cur
 finef:lV st.stk d
theorem jt{d:Nat}{T:List Stp}{s:Stp}(h:dq (d+1) T)(hs:mH (dq d) s):dq (d+1) (T++[s]):=fun u hu=>(List.mem_append.mp hu).elim (h u) (fun z=>by rw[List.mem_singleton.mp z]; exact hs)
theorem iw(d:Nat):dq (d+1) []:=fun s hs=>by cases hs
theorem oI{st:BS}{d:Nat}(h:kT st d):∃ d',kT (fc st) d':=by
 obtain⟨cur,stk,L,left,lends⟩:=st
 obtain⟨h1,h2,h3⟩:=h
 dsimp only at h1 h2 h3
 cases stk with
 | nil=>exact⟨d,h1,h2,h3⟩
 | cons f r=>
  rw[List.length_cons]at h1
  cases f with
  | lend x y up=>
   obtain⟨k1,k2,k3,k4⟩:=h3
   exact⟨d+1,by show d+1+r.length=9; omega,jt k3 ⟨k1,k2,h2⟩,k4⟩
  | whl n up=>
   obtain⟨k1,k3,k4⟩:=h3
   exact⟨d+1,by show d+1+r.length=9; omega,jt k3 ⟨k1,h2⟩,k4⟩
  | inB n up=>
   obtain⟨k1,k3,k4⟩:=h3
   exact⟨d,by show d+(r.length+1)=9; omega,iw _,k1,h2,k3,k4⟩
  | inC n b up=>
   obtain⟨k1,k2,k3,k4⟩:=h3
   exact⟨d+1,by show d+1+r.length=9; omega,jt k3 ⟨k1,k2,h2⟩,k4⟩
theorem rV(c:Int):(cY c).natAbs<10 ^ 61:=by
 unfold cY;split
 ·omega
 split
 ·omega
 ·omega
theorem v5{nm:List Str}(n1:1≤nm.length)(hn:∀ x∈nm,cR x){st:BS}{d:Nat}(c:Int)(h:kT st (d+1)):kT (dS nm c st) d:=by
 obtain⟨cur,stk,L,left,lends⟩:=st
 obtain⟨h1,h2,h3⟩:=h
 dsimp only at h1 h2 h3
 have hx:=hn _ (gg n1 (c * 48271 % 1009)).1;have hy:=hn _ (gg n1 (c * 69621 % 2003)).1;unfold dS;split
 ·exact⟨by show d+(stk.length+1)=9; omega,iw _,hx,hy,h2,h3⟩
 split
 ·exact⟨by show d+(stk.length+1)=9; omega,iw _,rV c,h2,h3⟩
 ·exact⟨by show d+(stk.length+1)=9; omega,iw _,rV c,h2,h3⟩
theorem yf{nm:List Str}(n1:1≤nm.length)(hn:∀ x∈nm,cR x)(c:Int):∀ x∈dL nm c,cR x:=by
 have hx:cR (xB nm c):=hn _ (gg n1 (c * 48271 % 1009)).1
 have hy:cR (yB nm c):=hn _ (gg n1 (c * 69621 % 2003)).1
 have he:∀ u∈li++nm,cR u:=fun u hu=>by
  rcases List.mem_append.mp hu with z | z
  ·exact(by decide:∀ u∈li,32∉u.cps.toList) u z
  ·exact hn u z
 have hw:cR (pk (li++nm) (c * 40692 % 4001)):=he _ (gg (by rw[List.length_append]; omega) _).1
 have k1:cR "open" := by unfold cR; decide
 have k2:cR "copy" := by unfold cR; decide
 have k3:cR "drop" := by unfold cR; decide
 have k4:cR "tie" := by unfold cR; decide
 have k5:cR "do" := by unfold cR; decide
 intro x hxm
 unfold dL at hxm;split at hxm
 ·simp only[List.mem_cons,List.mem_nil_iff,or_false]at hxm; rcases hxm with rfl | rfl <;> assumption
 split at hxm
 ·simp only[List.mem_cons,List.mem_nil_iff,or_false]at hxm; rcases hxm with rfl | rfl | rfl <;> assumption
 split at hxm
 ·simp only[List.mem_cons,List.mem_nil_iff,or_false]at hxm; rcases hxm with rfl | rfl <;> assumption
 split at hxm
 ·simp only[List.mem_cons,List.mem_nil_iff,or_false]at hxm; rcases hxm with rfl | rfl | rfl <;> assumption
 ·simp only[List.mem_cons,List.mem_nil_iff,or_false]at hxm; rcases hxm with rfl | rfl | rfl <;> assumption
theorem uX{nm:List Str}(n1:1≤nm.length)(hn:∀ x∈nm,cR x){st:BS}(c:Int)(h:∃ d,kT st d):∃ d,kT (dD nm st c) d:=by
 obtain⟨d,h⟩:=h
 unfold dD;split
 ·exact oI h
 split
 ·rename_i z
  have h1:=h.dep;obtain⟨d',rfl⟩ : ∃ d',d=d'+1:=⟨d - 1,by have:=z.2.2.1; omega⟩
  exact⟨d',v5 n1 hn c ⟨h.dep,h.fine,h.finef⟩⟩
 split
 ·exact⟨d,h.dep,jt h.fine ⟨Ce nm c,yf n1 hn c⟩,h.finef⟩
 ·exact⟨d,h⟩
theorem oS{nm:List Str}(n1:1≤nm.length)(hn:∀ x∈nm,cR x):∀ (cs:List Int) (st:BS),(∃ d,kT st d)→∃ d,kT (cs.foldl (dD nm) st) d
 | [],_,h=>h
 | c::cs,st,h=>oS n1 hn cs _ (uX n1 hn c h)
theorem oU:∀ (n:Nat) (st:BS),(∃ d,kT st d)→∃ d,kT (fe n st) d
 | 0,_,h=>h
 | n+1,st,h=>by obtain⟨d,z⟩:=oU n st h; exact oI z
theorem wB(st:BS):cH (fc st).stk=cH st.stk - 1:=by
 obtain⟨cur,stk,L,left,lends⟩:=st
 cases stk with
 | nil=>rfl
 | cons f r=>cases f <;> rfl
theorem ox(st:BS):∀ n,cH (fe n st).stk=cH st.stk - n
 | 0=>rfl
 | n+1=>by show cH (fc (fe n st)).stk=_; rw[wB,ox st n]; omega
theorem AG:∀ {fs:List Frm},cH fs=0→fs=[]
 | [],_=>rfl
 | .lend _ _ _::r,h=>by simp[cH]at h
 | .whl _ _::r,h=>by simp[cH]at h
 | .inB _ _::r,h=>by simp[cH]at h
 | .inC _ _ _::r,h=>by simp[cH]at h
theorem vb{nm:List Str}(n1:1≤nm.length)(hn:∀ x∈nm,cR x)(l:Int)(cs:List Int):dq 10 (dN l nm cs).cur:=by
 obtain⟨d,h⟩:=oU (cH (cs.foldl (dD nm) (jQ l)).stk) _ (oS n1 hn cs (jQ l) ⟨9,rfl,iw _,trivial⟩)
 have e:(dN l nm cs).stk=[]:=AG (by unfold dN; rw[ox]; omega)
 have h1:=h.dep;have e':(fe (cH (cs.foldl (dD nm) (jQ l)).stk) (cs.foldl (dD nm) (jQ l))).stk=[]:=e
 rw[e']at h1
 have:d=9:=by simpa using h1
 subst this;exact h.fine
def gL(f:List Stp→List (List Str)):Stp→List (List Str)
 | .plain ws=>[ws]
 | .lend x y b=>["lend", x,y]::(f b++[[("back" : Str)]])
 | .ite n b c=>["if", bG n]::(f b++[[("else" : Str)]]++(f c++[[("fi" : Str)]]))
 | .whl n b=>["while", bG n]::(f b++[[("done" : Str)]])
def lx:Nat→List Stp→List (List Str)
 | 0,_=>[]
 | d+1,T=>T.flatMap (gL (lx d))
theorem Fp{f:List Stp→List Str}{g:List Stp→List (List Str)}(h:∀ b,f b=(g b).map (Txt.join " ")):∀ s:Stp,bU f s=(gL g s).map (Txt.join " ")
 | .plain ws=>rfl
 | .lend x y b=>by simp[bU,gL,h]; rfl
 | .ite n b c=>by simp[bU,gL,h]; exact⟨rfl,rfl⟩
 | .whl n b=>by simp[bU,gL,h]; rfl
theorem vA:∀ (d:Nat) (T:List Stp),b5 d T=(lx d T).map (Txt.join " ")
 | 0,_=>rfl
 | d+1,T=>by
  show T.flatMap (bU (b5 d))=(T.flatMap (gL (lx d))).map _
  rw[List.map_flatMap]
  congr 1
  funext s
  exact Fp (vA d) s
theorem Cm{g:List Stp→List (List Str)}{f:List Stp→Nat}(h:∀ b,(g b).length=f b):∀ s:Stp,(gL g s).length=aR f s
 | .plain ws=>rfl
 | .lend x y b=>by simp[gL,aR,h]
 | .ite n b c=>by simp[gL,aR,h]; omega
 | .whl n b=>by simp[gL,aR,h]
theorem xK:∀ (d:Nat) (T:List Stp),(lx d T).length=ai d T
 | 0,_=>rfl
 | d+1,T=>by
  show (T.flatMap (gL (lx d))).length=(T.map (aR (ai d))).sum
  rw[List.length_flatMap]
  congr 1
  exact List.map_congr_left fun s _=>Cm (xK d) s
structure WOk (ws:List Str):Prop where
 ne:ws≠[]
 free:∀ x∈ws,cR x
 num:(ws.headD "" = "if" ∨ ws.headD "" = "while")→∃ n:Int,ws[1]? = some (bG n)∧n.natAbs<10 ^ 61
theorem p8(n:Int):cR (bG n):=by
 unfold cR bG
 cases n with
 | ofNat m=>
  have e:(Str.ofString (toString (Int.ofNat m))).cps.toList=(Nat.toDigits 10 m).map Char.toNat:=PySem.W.KIN.signs_num m
  rw[e];intro z
  have:=(jh m).1 32 z
  omega
 | negSucc m=>
  have e:(Str.ofString (toString (Int.negSucc m))).cps.toList=45::(Nat.toDigits 10 (m+1)).map Char.toNat:=by
   rw[signs_ofString];show ("-" ++ Nat.repr (m+1)).toList.map Char.toNat=_
   rw[String.toList_append,List.map_append,Nat.toList_repr]; rfl
  rw[e];intro z
  rcases List.mem_cons.mp z with z | z
  ·cases z
  ·have:=(jh (m+1)).1 32 z
   omega
theorem kI{x:Str}(h:cR x)(h1:¬ x = "if") (h2:¬ x = "while"):WOk [x]:=⟨by simp,by simpa using h,fun z=>z.elim (fun z=>absurd z h1) (fun z=>absurd z h2)⟩
theorem E9{g:List Stp→List (List Str)}{f:List Stp→Prop}(h:∀ b,f b→∀ ws∈g b,WOk ws):∀ {s:Stp},mH f s→∀ ws∈gL g s,WOk ws
 | .plain us,⟨px,hf⟩,ws,hw=>by
  have e:ws=us:=by simpa [gL] using hw
  subst e;refine⟨fun z=>(by subst z; cases px),hf,fun z=>?_⟩
  exfalso
  cases px with
  | op x=>rcases z with z | z <;> exact absurd z (show ¬ ("open" : Str)=_ by decide)
  | dr x=>rcases z with z | z <;> exact absurd z (show ¬ ("drop" : Str)=_ by decide)
  | dd u x=>rcases z with z | z <;> exact absurd z (show ¬ ("do" : Str)=_ by decide)
  | cp x y=>rcases z with z | z <;> exact absurd z (show ¬ ("copy" : Str)=_ by decide)
  | ti x y=>rcases z with z | z <;> exact absurd z (show ¬ ("tie" : Str)=_ by decide)
 | .lend x y b,⟨hx,hy,hb⟩,ws,hw=>by
  simp only[gL,List.mem_cons,List.mem_append,List.not_mem_nil,or_false]at hw
  rcases hw with rfl | hw | rfl
  ·refine⟨by simp,fun u hu=>?_,fun z=>?_⟩
   ·simp only[List.mem_cons,List.not_mem_nil,or_false]at hu
    rcases hu with rfl | rfl | rfl
    ·show 32∉_; decide
    ·exact hx
    ·exact hy
   ·exfalso; rcases z with z | z <;> exact absurd z (show ¬ ("lend" : Str)=_ by decide)
  ·exact h b hb ws hw
  ·exact kI (show 32∉_ by decide) (by decide) (by decide)
 | .ite n b c,⟨hn,hb,hc⟩,ws,hw=>by
  simp only[gL,List.mem_cons,List.mem_append,List.not_mem_nil,or_false]at hw
  rcases hw with rfl | (hw | rfl) | hw | rfl
  ·refine⟨by simp,fun u hu=>?_,fun _=>⟨n,rfl,hn⟩⟩
   simp only[List.mem_cons,List.not_mem_nil,or_false]at hu
   rcases hu with rfl | rfl
   ·show 32∉_; decide
   ·exact p8 n
  ·exact h b hb ws hw
  ·exact kI (show 32∉_ by decide) (by decide) (by decide)
  ·exact h c hc ws hw
  ·exact kI (show 32∉_ by decide) (by decide) (by decide)
 | .whl n b,⟨hn,hb⟩,ws,hw=>by
  simp only[gL,List.mem_cons,List.mem_append,List.not_mem_nil,or_false]at hw
  rcases hw with rfl | hw | rfl
  ·refine⟨by simp,fun u hu=>?_,fun _=>⟨n,rfl,hn⟩⟩
   simp only[List.mem_cons,List.not_mem_nil,or_false]at hu
   rcases hu with rfl | rfl
   ·show 32∉_; decide
   ·exact p8 n
  ·exact h b hb ws hw
  ·exact kI (show 32∉_ by decide) (by decide) (by decide)
theorem va:∀ {d:Nat} {T:List Stp},dq d T→∀ ws∈lx d T,WOk ws
 | 0,_,h,_,_=>h.elim
 | d+1,T,h,ws,hw=>by
  obtain⟨s,hs,hw⟩:=List.mem_flatMap.mp hw
  exact E9 (fun b z=>va z) (h s hs) ws hw
theorem WOk.split{ws:List Str}(h:WOk ws):Txt.split (Txt.join " " ws) " " = ws:=vN h.ne h.free
section
variable{P:Program}{w:World}{K:PySem.W.Frag}{mg:Str→Option Value}{base:Heap}
def rX(K:PySem.W.Frag):Sp:=fun vs H Q _=>∃ (ca la:Addr) (cs:List Int) (Wl:List (List Str)),vs=[.ref ca,.ref la]∧SqL K H ca (cs.map V.int)∧SqL K H la ((Wl.map (Txt.join " ")).map V.str)∧(∀ ws∈Wl,WOk ws)∧cs.length≤63∧Wl.length≤1000∧(∀ ws∈Wl,(Txt.join " " ws).length≤5000)∧
 ∀ (q:Addr) (H':Hp) (xs:List Int),Same H H'→H q=none→H' q=some (.lst (xs.map V.int))→xs.length=cs.length→Q (.ref q) H'
theorem yj(D:DefAt K mg "_law_inputs" br) (z_len:mg "len" = none) (z_int:mg "int" = none):aM P w K mg base 1 "_law_inputs" ["_law_cells", "_law_lines"] (rX K):=by
 refine D.cal (k:=0) sc_law_inputs (fun _ _ _ _ _ _ us hl=>match us,hl with | [_,_],_=>rfl) (fun vs H Q E h=>by obtain⟨ca,la,cs,Wl,rfl,_⟩:=h; rfl) (fun f cdv A outer s H vs Q E hr h=>?_)
 obtain⟨ca,la,cs,Wl,rfl,hca,hla,hw,h63,hWl,hlen,q⟩:=h
 refine⟨_,(af (ax 2 sc_law_inputs.nd (ap aC (bA (aa ae ac)) (fT (CompSc.to (fsc:=(defScope br)) (N:=["_law_cells", "_law_lines", "_law_bounds", "_law_found", "_law_cell"]) (N0:=["_law_cells", "_law_lines", "_law_bounds", "_law_found", "_law_cell"]) (T:=["_law_line"]) ⟨by decide +kernel,by decide +kernel,by decide +kernel,by decide +kernel,by decide +kernel,by decide +kernel,by decide +kernel⟩ rfl rfl) rfl (cr K (pv 1)) (fun _ _ _ _=>(ba 5 (show (["_law_cells", "_law_lines", "_law_bounds", "_law_found", "_law_cell", "_law_line"]:List Str).Nodup from by decide +kernel) (hx:=(iu (defScope br) (by decide +kernel))) (hf:=km (defScope br) (by decide +kernel)))) (dy (show (["_law_cells", "_law_lines", "_law_bounds", "_law_found", "_law_cell"]:List Str).length≤5 from by decide)) (fun _ _ _ _=>(ia (aF (xn K) (av (aI K) (bh K PySem.F.plainAttrs_str PySem.F.slot_str_split PySem.F.type_str_split jm (pv 5 (hv:=(dz (defScope br) (by decide +kernel)))) (aa aw ac)) ae (fun _ _=>rfl)) (bA (aa aw (aa aw ac))) (by with_unfolding_all rfl)))) (fun _ _ _ _=>(ga oH z_int j5 (aa (av (aI K) (bh K PySem.F.plainAttrs_str PySem.F.slot_str_split PySem.F.type_str_split jm (pv 5 (hv:=(dz (defScope br) (by decide +kernel)))) (aa aw ac)) ae (fun _ _=>rfl)) ac) (hg:=(Bg (defScope br) (by decide +kernel))))))))
   (af (ax 3 sc_law_inputs.nd (bA ac))
   (af (cE PassesOwn.never rfl (cr K (pv 0)) (ba 4 sc_law_inputs.nd) (ak (bd (aF bz (ap bI (pv 4) ae) ae (aL _)) (ak (aD (bh K PySem.F.plainAttrs_list PySem.F.slot_list_append PySem.F.type_list_append aW (pv 3) (aa (ap aC (ap eJ (ap bI (ap fV (pv 4) ae) (ap eJ (ap eZ ae (ap mJ ae ae)) ae)) (ap mJ ae ae)) ae) ac)))) (ak (aD (bh K PySem.F.plainAttrs_list PySem.F.slot_list_append PySem.F.type_list_append aW (pv 3) (aa (ap eJ (ap aC (av (aI K) (pv 2) (ap bI (ap bI (ap eZ (pv 4) ae) ae) (bm (aV K) z_len bL (aa (pv 2) ac))) (fun _ _=>rfl)) (ap bI (ap bI (ap eZ (pv 4) ae) ae) ae)) ae) ac)))))))
   (ak (aG (pv 3)))))),?_⟩
 walk_at "rd1";refine⟨by decide,fun l0 hl0=>?_⟩
 generalize hA:upd H l0 _=HA
 have sA:=cV hA hl0;have eA:=dU hA;refine⟨⟨_,sA.seq hla⟩,fun C hC=>?_⟩
 refine gi (xs:=(Wl.map (Txt.join " ")).map V.str) (fun j ys H2=>Same HA H2∧H2 C=some (.lst ys)∧∃ bs:List Int,ys=bs.map V.int∧bs.length≤j) ⟨al hC _,ah,[],rfl,Nat.le_refl _⟩ (fun j ys H2 _ h=>(sA.trans h.1).seq hla) ?_ ?_
 ·rintro j ys H2 x hx hj ⟨sm2,hl2,bs,rfl,hbn⟩
  rw[List.length_map,List.length_map]at hj
  rw[List.getElem?_map,List.getElem?_map,List.getElem?_eq_getElem hj]at hx
  cases hx;have hwj:=List.getElem_mem hj;generalize Wl[j]=ws at hwj ⊢;have ho:=hw ws hwj;have hl:=hlen ws hwj;walk_at "rd1";refine⟨by decide,by omega,fun sp hsp=>?_⟩
  rw[ho.split];have s3:=al hsp (.lst (ws.map V.str));have e3:upd H2 sp (.lst (ws.map V.str)) sp=some (.lst (ws.map V.str)):=ah
  generalize upd H2 sp (.lst (ws.map V.str))=H3 at s3 e3 ⊢;obtain⟨w0,wr,rfl⟩:=List.exists_cons_of_ne_nil ho.ne
  refine⟨_,_,.inl (SqL.of e3),cw,by decide,fun lp hlp=>?_⟩
  have s4:=al hlp (.lst [V.str "if", V.str "while"])
  have e4:upd H3 lp (.lst [V.str "if", V.str "while"]) lp=some (.lst [V.str "if", V.str "while"]):=ah
  generalize upd H3 lp (.lst [V.str "if", V.str "while"])=H4 at s4 e4 ⊢
  have s24:=(sm2.trans s3).trans s4;have hl4:H4 C=some (.lst (bs.map V.int)):=s4 _ _ (s3 _ _ hl2)
  refine⟨_,.inl (SqL.of e4),rfl,rfl,aJ (fun c=>?_) (fun c=>?_)⟩
  ·have hwd:w0 = "if" ∨ w0 = "while" := by
    have c':iK (V.str w0) [V.str "if", V.str "while"]=true:=c
    simp[iK,fH]at c'
    rcases c' with z | z
    ·exact .inl z.symm
    ·exact .inr z.symm
   obtain⟨n,hn1,hn2⟩:=ho.num hwd
   rw[List.getElem?_cons_succ]at hn1
   obtain⟨wr0,wr',rfl⟩ : ∃ a r,wr=a::r:=by
    cases wr with
    | nil=>simp at hn1
    | cons a r=>exact⟨a,r,rfl⟩
   have hn1':wr0=bG n:=by simpa using hn1
   subst hn1';obtain⟨nb1,nb2⟩:=jr hn2
   refine⟨by decide,by omega,fun sq hsq=>?_⟩
   have s5:=al hsq (.lst ((w0::bG n::wr').map V.str));have e5:upd H4 sq (.lst ((w0::bG n::wr').map V.str)) sq=some (.lst ((w0::bG n::wr').map V.str)):=ah
   generalize upd H4 sq (.lst ((w0::bG n::wr').map V.str))=H5 at s5 e5 ⊢;refine⟨_,_,.inl (SqL.of e5),jW,?_⟩
   refine⟨bG n,n,rfl,nb1,nb2,?_⟩
   refine hX (by rw[List.length_map,List.length_map]; exact hj) (by rw[List.length_map]; exact hbn) (by rw[List.length_map,List.length_map]; exact a_ (by omega)) (s5 _ _ hl4) ⟨(s24.trans s5).upd hC _,ah,bs++[n],by rw[List.map_append]; rfl,by rw[List.length_append]; simp; omega⟩
  ·exact mq (by rw[List.length_map,List.length_map]; exact hj) ⟨s24,hl4,bs,rfl,by omega⟩
 rintro ys H2 ⟨sm2,hl2,bs,rfl,hbn⟩
 rw[List.length_map,List.length_map]at hbn
 walk_at "rd1";refine⟨_,_,sm2 _ _ eA,hl2,a_ (by rw[List.length_map]; simp; omega),fun bp hbp=>?_⟩
 generalize hB:upd H2 bp _=HB
 have sB:=cV hB hbp;have eB:HB bp=some (.lst ((0::bs).map V.int)):=dU hB
 have sHB:=(sA.trans sm2).trans sB;walk_at "nx";refine⟨by decide,fun fp hfp=>?_⟩
 generalize hC':upd HB fp _=HC
 have sC:=cV hC' hfp;have eC:=dU hC';have sHC:=sHB.trans sC;walk_at "nx";refine⟨⟨_,sHC.seq hca⟩,?_⟩
 refine dh (xs:=cs.map V.int) (fun i σ H'=>∃ (o4:Option V) (xs:List Int),σ=[some (.ref ca),some (.ref la),some (.ref bp),some (.ref fp),o4]∧Same HB H'∧H' fp=some (.lst (xs.map V.int))∧xs.length=i)
  ⟨none,[],rfl,sC,eC,rfl⟩ (fun i σ H' _ h=>by obtain⟨_,_,_,sm,_⟩:=h; exact(sHB.trans sm).seq hca) ?_ ?_
 ·rintro i v σ H' hv ⟨o4,xs,rfl,sm,hf,hn⟩
  have hi:i<cs.length:=by have:=(List.getElem?_eq_some_iff.mp hv).1; simpa using this
  rw[List.getElem?_map,List.getElem?_eq_getElem hi]at hv
  cases hv;generalize cs[i]=c
  walk_at "rd1";refine⟨by decide,aJ (fun c1=>?_) (fun c1=>?_)⟩
  ·exact⟨⟨_,SqL.of hf⟩,⟨by decide,by decide⟩,⟨by decide,by decide,by decide⟩,.inl ⟨by decide,by decide⟩,by decide,⟨by decide,by decide,by decide⟩,_,hf,by rw[List.length_map]; exact bN (by omega),_,xs++[_],rfl,sm.upd hfp _,by rw[ah,List.map_append]; rfl,by rw[List.length_append,hn]; rfl⟩
  ·have hbp':=SqL.of (K:=K) (sm _ _ eB)
   refine⟨⟨_,SqL.of hf⟩,.inr ⟨by decide,by decide⟩,by decide,_,.inl hbp',?_⟩
   rw[List.length_map];have h0:0≤c * 31 % 8191 % ((0::bs).length:Int):=Int.emod_nonneg _ (by rw[List.length_cons]; omega)
   have h1:c * 31 % 8191 % ((0::bs).length:Int)<(0::bs).length:=Int.emod_lt_of_pos _ (by rw[List.length_cons]; omega)
   have hlt:(c * 31 % 8191 % ((0::bs).length:Int)).toNat<(0::bs).length:=by omega
   have hat:=sn (f:=V.int) h0 (List.getElem?_eq_getElem hlt);refine⟨by rw[List.length_cons]; omega,_,_,.inl hbp',hat,?_⟩
   walk_at "rd1";exact⟨.inr ⟨by decide,by decide⟩,by decide,by decide,_,hf,by rw[List.length_map]; exact bN (by omega),_,xs++[_],rfl,sm.upd hfp _,by rw[ah,List.map_append]; rfl,by rw[List.length_append,hn]; rfl⟩
 ·rintro σ H' ⟨o4,xs,rfl,sm,hf,hn⟩
  rw[List.length_map]at hn
  walk_at "nx";exact q fp H' xs (sHB.trans sm) (sHB.free hfp) hf hn
def kt(ns:List Int):Int:=2+ns.getD (Int.toNat 1) 0 % (if ((ns.length:Nat):Int) - 1>1 then ((ns.length:Nat):Int) - 1 else 1)
def fJ(ns:List Int):List Int:=jk (jk ns (some 2) (some (kt ns))) none (some 200)
def fF(ns:List Int):List Stp:=(dN 60 (iC (ns.getD (Int.toNat 0) 0)) (fJ ns)).cur
structure Drawn (H':Hp) (ns:List Int) (root lp ip:Addr) (xs:List Int):Prop where
 prog:ProgAt (fun _=>True) 10 H' root (fF ns)
 ok:dJ 10 (fF ns)
 fine:dq 10 (fF ns)
 lines:H' lp=some (.lst ((b5 10 (fF ns)).map V.str))
 few:(b5 10 (fF ns)).length≤100
 inp:H' ip=some (.lst (xs.map V.int))
 ifew:xs.length≤63
def uM(K:PySem.W.Frag):Sp:=fun vs H Q _=>∃ (a:Addr) (ns:List Int),vs=[.ref a]∧SqL K H a (ns.map V.int)∧ns.length≤63∧
 ∀ (t root lp ip:Addr) (H':Hp) (xs:List Int),Same H H'→H' t=some (.tup [.ref root,.ref lp,.ref ip])→Drawn H' ns root lp ip xs→Q (.ref t) H'
theorem rA(B:Nat):∀ (ws:List Str) (k:Str),(∀ x∈ws,x.length≤B)→(ws.foldl (fun a x=>a++(" " : Str)++x) k).length≤k.length+ws.length * (B+1)
 | [],k,_=>by simp
 | x::ws,k,h=>by
  have ih:=rA B ws (k++(" " : Str)++x) fun z hz=>h z (List.mem_cons_of_mem _ hz)
  have hx:=h x List.mem_cons_self;have h1:(Str.ofString " ").length=1:=by decide
  rw[Str.length_append,Str.length_append,h1]at ih
  rw[List.foldl_cons,List.length_cons,Nat.succ_mul];omega
theorem kz(B:Nat){k:Str}{ws:List Str}(h:∀ x∈k::ws,x.length≤B):(Txt.join " " (k::ws)).length≤B+ws.length * (B+1):=by
 rw[iL];have:=rA B ws k fun z hz=>h z (List.mem_cons_of_mem _ hz)
 have:=h k List.mem_cons_self
 omega
theorem sJ{f:List Stp→List Str}{g:List Stp→Prop}(h:∀ b,g b→∀ x∈f b,x.length≤5000):∀ {s:Stp},qg g s→∀ x∈bU f s,x.length≤5000
 | .plain ws,ok,x,hx=>by
  have e:x=Txt.join " " ws:=by simpa [bU] using hx
  subst e
  cases ws with
  | nil=>have:=ok.two; simp at this
  | cons k ws=>
   have:=kz 20 ok.len
   have h3:=ok.three;rw[List.length_cons]at h3
   have:ws.length * 21≤2 * 21:=Nat.mul_le_mul (by omega) (Nat.le_refl _)
   omega
 | .lend u v b,⟨o1,o2,o3⟩,x,hx=>by
  simp only[bU,List.mem_cons,List.mem_append,List.not_mem_nil,or_false]at hx
  rcases hx with rfl | hx | rfl
  ·have:=kz 20 (k := "lend") (ws:=[u,v]) (fun z hz=>by
    simp only[List.mem_cons,List.not_mem_nil,or_false]at hz
    rcases hz with rfl | rfl | rfl
    ·decide
    ·exact o1
    ·exact o2)
   simp only[List.length_cons,List.length_nil]at this
   omega
  ·exact h b o3 x hx
  ·decide
 | .ite n b c,⟨o1,o2,o3⟩,x,hx=>by
  simp only[bU,List.mem_cons,List.mem_append,List.not_mem_nil,or_false]at hx
  rcases hx with rfl | (hx | rfl) | hx | rfl
  ·have:=kz 1921 (k := "if") (ws:=[bG n]) (fun z hz=>by
    simp only[List.mem_cons,List.not_mem_nil,or_false]at hz
    rcases hz with rfl | rfl
    ·decide
    ·exact iW o1)
   simp only[List.length_cons,List.length_nil]at this
   omega
  ·exact h b o2 x hx
  ·decide
  ·exact h c o3 x hx
  ·decide
 | .whl n b,⟨o1,o2⟩,x,hx=>by
  simp only[bU,List.mem_cons,List.mem_append,List.not_mem_nil,or_false]at hx
  rcases hx with rfl | hx | rfl
  ·have:=kz 1921 (k := "while") (ws:=[bG n]) (fun z hz=>by
    simp only[List.mem_cons,List.not_mem_nil,or_false]at hz
    rcases hz with rfl | rfl
    ·decide
    ·exact iW o1)
   simp only[List.length_cons,List.length_nil]at this
   omega
  ·exact h b o2 x hx
  ·decide
theorem nE:∀ {d:Nat} {T:List Stp},dJ d T→∀ x∈b5 d T,x.length≤5000
 | 0,_,h,_,_=>h.elim
 | d+1,T,h,x,hx=>by
  obtain⟨s,hs,hx⟩:=List.mem_flatMap.mp hx
  exact sJ (fun b z=>nE z) (h s hs) x hx
theorem Aa(D:DefAt K mg "_law_drawn" bC) (z_len:mg "len" = none) (z_max:mg "max" = none) (c_law_cell_at:aM P w K mg base 1 "_law_cell_at" ["_law_script", "_law_k"] (qt K)) (c_law_names:aM P w K mg base 1 "_law_names" ["_law_cell"] rJ) (c_law_program:aM P w K mg base 3 "_law_program" ["_law_cells", "_law_names_here"] n6) (c_law_inputs:aM P w K mg base 1 "_law_inputs" ["_law_cells", "_law_lines"] (rX K)) :
  aM P w K mg base 4 "_law_drawn" ["_law_script"] (uM K):=by
 refine D.cal (k:=3) sc_law_drawn (fun _ _ _ _ _ _ us hl=>match us,hl with | [_],_=>rfl) (fun vs H Q E h=>by obtain⟨a,ns,rfl,_⟩:=h; rfl) (fun f cdv A outer s H vs Q E hr h=>?_)
 obtain⟨a,ns,rfl,hS,hn,q⟩:=h
 refine⟨_,(af (ax 1 sc_law_drawn.nd (aA c_law_names hr (aa (aA c_law_cell_at hr (aa (pv 0) (aa ae ac))) ac)))
   (af (ax 2 sc_law_drawn.nd (ap aC ae (ap bI (aA c_law_cell_at hr (aa (pv 0) (aa ae ac))) (bm xk z_max Fm (aa ae (aa (ap eJ (bm (aV K) z_len bL (aa (pv 0) ac)) ae) ac))))))
   (af (iV (aA c_law_program hr (aa (bS (dO K) (bS (dO K) (pv 0) (b4 ae) (b4 (pv 2))) cB (b4 ae)) (aa (pv 1) ac))) (fW K (n:=2) (cz (ba 3 sc_law_drawn.nd) (cz (ba 4 sc_law_drawn.nd) fU))))
   (ak (aG (bB (aa (pv 3) (aa (pv 4) (aa (aA c_law_inputs hr (aa (bS (dO K) (bS (dO K) (pv 0) (b4 (pv 2)) cB) cB (b4 ae)) (aa (pv 4) ac))) ac))))))))),?_⟩
 walk_at "rd1";refine⟨a,ns,0,rfl,hS,by decide,?_⟩
 walk_at "rd1";refine⟨_,rfl,fun np H1 sm1 hnp hl1 n1 n7 hb hf=>?_⟩
 walk_at "nx";refine⟨a,ns,1,rfl,sm1.seq hS,by decide,?_⟩
 walk_at "rd1";refine⟨_,.inl (sm1.seq hS),?_⟩
 rw[List.length_map];walk_at "rd1";refine⟨by split <;> omega,?_⟩
 rw[show 2+ns.getD (Int.toNat 1) 0 % (if ((ns.length:Nat):Int) - 1>1 then ((ns.length:Nat):Int) - 1 else 1)=kt ns from rfl]
 walk_at "nx";refine⟨_,sm1.seq hS,fun c1 hc1=>?_⟩
 rw[kD];generalize hA:upd H1 c1 _=HA
 have sA:=cV hA hc1;have eA:=dU hA;refine⟨_,SqL.of eA,fun c2 hc2=>?_⟩
 rw[kD];generalize hB:upd HA c2 _=HB
 have sB:=cV hB hc2;have eB:HB c2=some (.lst ((fJ ns).map V.int)):=dU hB
 have sAB:=sA.trans sB
 have hcl:(fJ ns).length≤63:=by
  unfold fJ;have:=gA (jk ns (some 2) (some (kt ns))) none (some 200)
  have:=gA ns (some 2) (some (kt ns))
  omega
 refine⟨c2,np,fJ ns,iC (ns.getD (Int.toNat 0) 0),rfl,eB,sAB _ _ hl1,⟨n1,n7,hb⟩,hcl,fun t root lp HC S as sC htt hro hlp nrl nSr nSl hroot hst okp hlines hfew has=>?_⟩
 have fine:=vb n1 hf 60 (fJ ns);walk_at "rd1";refine⟨t,_,rfl,SqT.of htt,rfl,?_⟩
 have s1C:=(sm1.trans sAB).trans sC;walk_at "rd1";walk_at "nx";refine⟨_,s1C.seq hS,fun c3 hc3=>?_⟩
 rw[kD];generalize hD:upd HC c3 _=HD
 have sD:=cV hD hc3;have eD:=dU hD;refine⟨_,SqL.of eD,fun c4 hc4=>?_⟩
 rw[kD];generalize hE:upd HD c4 _=HE
 have sE:=cV hE hc4;have eE:=dU hE;have sCE:=sD.trans sE;have hwl:=vA 10 (dN 60 (iC (ns.getD (Int.toNat 0) 0)) (fJ ns)).cur;have hsz:=nE okp;rw[hwl]at hlines hfew hsz
 refine⟨c4,lp,_,lx 10 (dN 60 (iC (ns.getD (Int.toNat 0) 0)) (fJ ns)).cur,rfl,SqL.of eE,SqL.of (sCE _ _ hlines),va fine,?_,by rw[List.length_map]at hfew; omega,fun ws hw=>hsz _ (List.mem_map.mpr ⟨ws,hw,rfl⟩),fun ip HF xs sF hip hipF hxl=>?_⟩
 ·have:=gA (jk ns (some (kt ns)) none) none (some 40)
  have:=gA ns (some (kt ns)) none
  omega
 refine⟨by decide,fun t2 ht2=>?_⟩
 have s2:=al ht2 (.tup [V.ref root,V.ref lp,V.ref ip]);have e2:upd HF t2 (.tup [V.ref root,V.ref lp,V.ref ip]) t2=some (.tup [V.ref root,V.ref lp,V.ref ip]):=ah
 generalize upd HF t2 (.tup [V.ref root,V.ref lp,V.ref ip])=HG at s2 e2 ⊢;have sCG:=(sCE.trans sF).trans s2;refine q t2 root lp ip HG xs (s1C.trans sCG) e2 ⟨?_,okp,fine,?_,?_,s2 _ _ hipF,?_⟩
 ·refine⟨trivial,as,sCG _ _ hroot,Paired.imp' (fun a s z=>stpAt.imp (fun b xs e=>sCG _ _ e) (fun q b y=>ProgAt.imp (fun b xs e=>sCG _ _ e) (fun b xs _ e=>sCG _ _ e) (fun _ _=>trivial) 9 y) z) hst⟩
 ·show HG lp=some (.lst ((b5 10 (dN 60 (iC (ns.getD (Int.toNat 0) 0)) (fJ ns)).cur).map V.str))
  rw[hwl]; exact sCG _ _ hlines
 ·show (b5 10 (dN 60 (iC (ns.getD (Int.toNat 0) 0)) (fJ ns)).cur).length≤100
  rw[hwl]; exact hfew
 ·have:=gA (jk ns (some (kt ns)) none) none (some 40)
  have:=gA ns (some (kt ns)) none
  omega
end
theorem xA(l:List Str):(fS l).Nodup:=by
 unfold fS
 have go:∀ (l acc:List Str),acc.Nodup→(l.foldl gq acc).Nodup:=fun l=>by
  induction l with
  | nil=>intro acc h; exact h
  | cons x l ih=>
   intro acc h
   refine ih _ ?_
   unfold gq;split
   ·exact h
   ·rename_i c
    rw[List.nodup_append];exact⟨h,by simp,fun a ha b hb=>by rw[List.mem_singleton.mp hb]; exact fun z=>c (z ▸ ha)⟩
 exact go l [] List.nodup_nil
theorem uu{ks:List aK}(hn:ks.Nodup):∀ (i j:Nat) k,j<i→i≤ks.length→ks[j]? = some k→bY (fP ks i) k=some (iN j)
 | 0,j,_,h,_,_=>absurd h (Nat.not_lt_zero _)
 | i+1,j,k,h,hi,hk=>by
  rw[gP,iD];have hil:i<ks.length:=by omega
  have e:ks.getD i (.inl 0)=ks[i]:=by rw[List.getD_eq_getElem?_getD,List.getElem?_eq_getElem hil]; rfl
  rw[e];obtain⟨hjl,hk'⟩:=List.getElem?_eq_some_iff.mp hk
  rcases Nat.lt_or_ge j i with z | z
  ·rw[if_neg (fun c=>by rw[← hk']at c; exact List.pairwise_iff_getElem.mp hn j i hjl hil z c)]
   exact uu hn i j k z (by omega) hk
  ·have:j=i:=by omega
   subst this;rw[if_pos hk'.symm]
theorem D9{ks:List aK}(hn:ks.Nodup){j:Nat}{k:aK}(h:ks[j]? = some k):bR (hZ ks) k=iN j:=by
 have:=uu hn ks.length j k (List.getElem?_eq_some_iff.mp h).1 (Nat.le_refl _) h
 show bR (fP ks ks.length) k=_
 unfold bR;rw[this]; rfl
theorem sT(L:List Str):(gH L).Nodup:=List.Nodup.sublist List.filter_sublist List.nodup_range
theorem v8{NM L:List Str}(hn:NM.Nodup):(df NM L).Nodup:=by
 unfold df;rw[List.nodup_append];refine⟨List.pairwise_map.mpr (List.Pairwise.imp (fun h e=>h (Sum.inr.inj e)) hn),List.pairwise_map.mpr (List.Pairwise.imp (fun h e=>h (by have:=Sum.inl.inj e; omega)) (sT L)),fun a ha b hb=>?_⟩
 obtain⟨x,_,rfl⟩:=List.mem_map.mp ha
 obtain⟨y,_,rfl⟩:=List.mem_map.mp hb
 exact fun z=>nomatch z
theorem wO{f g:List Stp→Prop}(h:∀ b,f b→g b):∀ {s:Stp},mH f s→gj g s
 | .plain ws,⟨px,_⟩=>by
  show fZ ws
  cases px with
  | op x=>exact .opn x
  | dr x=>exact .drp x
  | dd u x=>exact .doo u x
  | cp x y=>exact .cpy x y
  | ti x y=>exact .tie x y
 | .lend _ _ _,z=>h _ z.2.2
 | .ite _ _ _,z=>⟨h _ z.2.1,h _ z.2.2⟩
 | .whl _ _,z=>h _ z.2
theorem qf:∀ {d:Nat} {T:List Stp},dq d T→kg d T
 | 0,_,h=>h
 | _+1,_,h=>fun s hs=>wO (fun _ z=>qf z) (h s hs)
theorem CM{l:List Str}{n:Str}(h:n∈l):n∈fS l:=by
 unfold fS
 have go:∀ (l acc:List Str),n∈acc∨n∈l→n∈l.foldl gq acc:=fun l=>by
  induction l with
  | nil=>intro acc h; exact h.elim id (fun z=>by cases z)
  | cons x l ih=>
   intro acc h
   refine ih _ ?_
   unfold gq;rcases h with h | h
   ·left; split
    ·exact h
    ·exact List.mem_append_left _ h
   ·rcases List.mem_cons.mp h with rfl | h
    ·left; split
     ·assumption
     ·exact List.mem_append_right _ List.mem_cons_self
    ·exact .inr h
 exact go l [] (.inr h)
def SitsR{α : Type}(R X:List α)(a:Nat):Prop:=∀ i r,X[i]? = some r→R[a+i]? = some r
theorem SitsR.left{α : Type}{R X Y:List α}{a:Nat}(h:SitsR R (X++Y) a):SitsR R X a:=fun i r e=>h i r (by rw[List.getElem?_append_left (List.getElem?_eq_some_iff.mp e).1]; exact e)
theorem SitsR.right{α : Type}{R X Y:List α}{a:Nat}(h:SitsR R (X++Y) a):SitsR R Y (a+X.length):=fun i r e=>by
 rw[Nat.add_assoc];exact h _ r (by rw[List.getElem?_append_right (by omega),Nat.add_sub_cancel_left]; exact e)
theorem SitsR.c0{α : Type}{R Y:List α}{x:α}{a:Nat}(h:SitsR R (x::Y) a):R[a]? = some x:=h 0 x rfl
theorem SitsR.cs{α : Type}{R Y:List α}{x:α}{a:Nat}(h:SitsR R (x::Y) a):SitsR R Y (a+1):=fun i r e=>by
 rw[show a+1+i=a+(i+1) by omega]
 exact h (i+1) r e
def jS(kv:List (aK × V))(k:aK):Nat:=match bR kv k with
 | .int n=>n.toNat
 | _=>0
structure jN (kv:List (aK × V)):Prop where
 is:∀ k,fw kv k→bR kv k=iN (jS kv k)
 inj:∀ k k',fw kv k→fw kv k'→jS kv k=jS kv k'→k=k'
def sK(n:Nat):aK:=.inl (n:Int)
theorem j7{n m:Nat}(h:sK n=sK m):n=m:=by
 have:=Sum.inl.inj h
 omega
def cT(n:Nat)(st:RS):RS:={ st with pc:=n }
inductive gE (st:RS):bJ→RS→Prop
 | opn (l k:Nat):gE st [.str "open", iN l,iN k] (dj l (sK k) st)
 | deed (l k:Nat) (w:Str):gE st [.str "do", iN l,iN k,.str w] (aQ l (aH st (sK k)) w st)
 | copy (l k j:Nat):gE st [.str "copy", iN l,iN k,iN j] (aN (sK k) (aH st (sK j)) st)
 | drop (l k:Nat):gE st [.str "drop", iN l,iN k] (aN (sK k) none st)
 | tie (l k j:Nat):gE st [.str "tie", iN l,iN k,iN j] (cJ l (aH st (sK k)) (aH st (sK j)) st)
inductive RowGo (xs:List Int) (st:RS):bJ→RS→Prop
 | pl {r:bJ} {s1:RS} (h:gE st r s1):RowGo xs st r (cT (st.pc+1) s1)
 | jump (l j:Nat):RowGo xs st [.str "jump", iN l,iN j] (cT j st)
 | test (l:Nat) (n:Int) (j:Nat):RowGo xs st [.str "test", iN l,.int n,iN j] (cT (if (ao xs n st).1=true then st.pc+1 else j) (ao xs n st).2)
inductive GoC (R:List bJ) (xs:List Int):Nat→RS→RS→Prop
 | nil (st:RS):GoC R xs 0 st st
 | step {r:bJ} {st s1 s2:RS} {n:Nat}:R[st.pc]? = some r→RowGo xs st r s1→GoC R xs n s1 s2→GoC R xs (n+1) st s2
theorem GoC.app{R:List bJ}{xs:List Int}{n m:Nat}{a b c:RS}(h:GoC R xs n a b)(k:GoC R xs m b c):GoC R xs (n+m) a c:=by
 induction h with
 | nil st=>rw[Nat.zero_add]; exact k
 | step e r _ ih=>rw[show ∀ i:Nat,i+1+m=i+m+1 by omega]; exact .step e r (ih k)
theorem GoC.one{R:List bJ}{xs:List Int}{r:bJ}{a b:RS}{i:Nat}(hp:a.pc=i)(e:R[i]? = some r)(h:RowGo xs a r b):GoC R xs 1 a b:=.step (by rw[hp]; exact e) h (.nil b)
structure Sm (kv:List (aK × V)) (st u:RS):Prop where
 tk:u.taken=st.taken
 ls:u.last=st.last
 op:u.opened=st.opened
 lg:u.log=st.log
 hd:∀ n:Str,fw kv (.inr n)→aH u (sK (jS kv (.inr n)))=aH st (.inr n)
def Frl(kv:List (aK × V))(lo hi:Nat)(u v:RS):Prop:=∀ l:Nat,fw kv (sK l)→(l<lo∨hi≤l)→aH v (sK (jS kv (sK l)))=aH u (sK (jS kv (sK l)))
section
variable{kv:List (aK × V)}{st u v x:RS}{lo hi:Nat}
theorem Sm.pc(h:Sm kv st u)(n:Nat):Sm kv st (cT n u):=⟨h.tk,h.ls,h.op,h.lg,h.hd⟩
theorem Frl.trans(h:Frl kv lo hi u v)(k:Frl kv lo hi v x):Frl kv lo hi u x:=fun l a b=>(k l a b).trans (h l a b)
theorem Frl.wide{lo' hi':Nat}(h:Frl kv lo hi u v)(h1:lo'≤lo)(h2:hi≤hi'):Frl kv lo' hi' u v:=fun l a b=>h l a (by omega)
theorem Frl.same(h:v.held=u.held):Frl kv lo hi u v:=fun l _ _=>by unfold aH; rw[h]
theorem Sm.hold(ok:jN kv)(h:Sm kv st u){n:Str}(hn:fw kv (.inr n))(o:Option Nat):Sm kv (aN (.inr n) o st) (aN (sK (jS kv (.inr n))) o u):=⟨h.tk,h.ls,h.op,h.lg,fun m hm=>by
 rw[ft,ft]
 by_cases e:m=n
 ·rw[if_pos (by rw[e]),if_pos (by rw[e])]
 ·rw[if_neg (fun z=>e (Sum.inr.inj (ok.inj _ _ hm hn (j7 z)))),if_neg (fun z=>e (Sum.inr.inj z))]
  exact h.hd m hm⟩
theorem Sm.holdL(ok:jN kv)(h:Sm kv st u){l:Nat}(hl:fw kv (sK l))(o:Option Nat):Sm kv st (aN (sK (jS kv (sK l))) o u):=⟨h.tk,h.ls,h.op,h.lg,fun m hm=>by
 rw[ft,if_neg (fun z=>by have:=ok.inj _ _ hm hl (j7 z); cases this)]
 exact h.hd m hm⟩
theorem Frl.hold(ok:jN kv){n:Str}(hn:fw kv (.inr n))(o:Option Nat):Frl kv lo hi u (aN (sK (jS kv (.inr n))) o u):=fun l hl _=>by
 rw[ft,if_neg (fun z=>by have:=ok.inj _ _ hl hn (j7 z); cases this)]
theorem Frl.holdL(ok:jN kv){l:Nat}(hl:fw kv (sK l))(o:Option Nat)(h1:lo≤l)(h2:l<hi):Frl kv lo hi u (aN (sK (jS kv (sK l))) o u):=fun m hm hb=>by
 rw[ft,if_neg (fun z=>by have:=j7 (ok.inj _ _ hm hl (j7 z)); omega)]
theorem Sm.deed(h:Sm kv st u)(l:Nat)(o:Option Nat)(w:Str):Sm kv (aQ l o w st) (aQ l o w u):=by
 cases o with
 | none=>exact h
 | some n=>exact⟨h.tk,h.ls,h.op,by show u.log++_=st.log++_; rw[h.lg,h.ls],h.hd⟩
theorem Sm.tie(h:Sm kv st u)(l:Nat)(a b:Option Nat):Sm kv (cJ l a b st) (cJ l a b u):=by
 unfold cJ;split
 ·split
  ·exact h
  ·exact⟨h.tk,h.ls,h.op,by show u.log++_=st.log++_; rw[h.lg],h.hd⟩
 ·exact h
theorem Sm.opn(ok:jN kv)(h:Sm kv st u){n:Str}(hn:fw kv (.inr n))(l:Nat):Sm kv (dj l (.inr n) st) (dj l (sK (jS kv (.inr n))) u):=by
 unfold dj;rw[h.op];exact Sm.hold ok (Sm.deed (st:={ st with opened:=st.opened+1 }) (u:={ u with opened:=st.opened+1 }) ⟨h.tk,h.ls,rfl,h.lg,h.hd⟩ l _ _) hn _
theorem Sm.take(h:Sm kv st u)(xs:List Int)(n:Int):(ao xs n u).1=(ao xs n st).1∧Sm kv (ao xs n st).2 (ao xs n u).2:=by
 unfold ao;rw[h.tk]
 cases xs[st.taken]? with
 | none=>exact⟨rfl,h⟩
 | some v=>exact⟨rfl,rfl,rfl,h.op,h.lg,h.hd⟩
theorem B1(l:Nat)(o:Option Nat)(w:Str):(aQ l o w u).pc=u.pc:=by cases o <;> rfl
theorem DX(l:Nat)(a b:Option Nat):(cJ l a b u).pc=u.pc:=by
 unfold cJ;split
 ·split <;> rfl
 ·rfl
theorem Cz(xs:List Int)(n:Int):(ao xs n u).2.pc=u.pc:=by unfold ao; split <;> rfl
theorem As(l:Nat)(o:Option Nat)(w:Str)(k:aK):aH (aQ l o w u) k=aH u k:=by unfold aH; rw[gm]
end
def wG(f:List Stp→Nat):Stp→Nat
 | .plain _=>1
 | .lend _ _ b=>f b+6
 | .ite _ b c=>f b+f c+2
 | .whl _ b=>f b+2
def d_:Nat→List Stp→Nat
 | 0,_=>0
 | d+1,T=>(T.map (wG (d_ d))).sum
theorem CI{f g:List Stp→Nat}(h:∀ T,f T≤6 * g T):∀ s:Stp,wG f s≤6 * aR g s
 | .plain _=>by show 1≤6 * 1; omega
 | .lend _ _ b=>by have:=h b; show f b+6≤6 * (g b+2); omega
 | .ite _ b c=>by have:=h b; have:=h c; show f b+f c+2≤6 * (g b+g c+3); omega
 | .whl _ b=>by have:=h b; show f b+2≤6 * (g b+2); omega
theorem yb:∀ (d:Nat) (T:List Stp),d_ d T≤6 * ai d T
 | 0,_=>Nat.zero_le _
 | d+1,T=>by
  show (T.map (wG (d_ d))).sum≤6 * (T.map (aR (ai d))).sum
  induction T with
  | nil=>exact Nat.zero_le _
  | cons s T ih=>
   have:=CI (yb d) s
   simp only[List.map_cons,List.sum_cons]
   omega
theorem jb{a b W V t1 t2 t:Nat}(h1:a≤W * (1+t1))(h2:b≤V * (1+t2))(ht:t1+t2≤t):a+b≤(W+V) * (1+t):=by
 have e1:=Nat.mul_le_mul_left W (show 1+t1≤1+t by omega)
 have e2:=Nat.mul_le_mul_left V (show 1+t2≤1+t by omega)
 rw[Nat.add_mul];omega
theorem gY{a W V t:Nat}(h:a≤W * (1+t)):a+V≤(W+V) * (1+t):=by
 have e:=Nat.mul_le_mul_left V (show 1≤1+t by omega)
 rw[Nat.add_mul];omega
theorem zc(l:Nat)(ws:List Str)(st:RS):(cf l ws st).taken=st.taken:=by
 have c:ClosedR [] (fun s=>s.taken=st.taken):=⟨fun _ _ _ z=>z,fun l h w s z=>by cases h <;> exact z,fun l a b s z=>by
  unfold cJ; split
  ·split <;> exact z
  ·exact z,fun _ _ _ z=>z,fun n s z=>z⟩
 exact c.plain l ws st rfl
theorem kM(xs:List Int)(n:Int)(st:RS):st.taken≤(ao xs n st).2.taken:=by
 unfold ao;split
 ·exact Nat.le_refl _
 ·exact Nat.le_succ _
theorem nw{xs:List Int}{n:Int}{st:RS}(h:(ao xs n st).1=true):(ao xs n st).2.taken=st.taken+1∧st.taken<xs.length:=by
 unfold ao at h ⊢
 cases e:xs[st.taken]? with
 | none=>rw[e]at h; cases h
 | some v=>exact⟨rfl,(List.getElem?_eq_some_iff.mp e).1⟩
theorem ix{xs:List Int}{n:Int}{st:RS}(h:xs.length≤st.taken):ao xs n st=(false,st):=by
 unfold ao;rw[List.getElem?_eq_none_iff.mpr h]
def ms(kv:List (aK × V))(R:List bJ)(xs:List Int)(X:List bJ)(a lo hi W:Nat)(f:RS→RS):Prop:=
 ∀ st u,Sm kv st u→u.pc=a→∃ n v,GoC R xs n u v∧v.pc=a+X.length∧Sm kv (f st) v∧Frl kv lo hi u v∧st.taken≤(f st).taken∧n≤W * (1+((f st).taken - st.taken))
section
variable{kv:List (aK × V)}{R:List bJ}{xs:List Int}
theorem qe{f:Bool→Nat→Nat→List Stp→List bJ}{cnt:List Stp→Nat}{a l hi W:Nat}{n:Int}{b:List Stp}{g:RS→RS}(sit:SitsR R (dk f cnt a l n b) a)(hb:ms kv R xs (f false (a+1) (l+1) b) (a+1) l hi W g) :
  ∀ (m:Nat) (st u:RS),xs.length - st.taken≤m→Sm kv st u→u.pc=a→∃ k v,GoC R xs k u v∧v.pc=a+(dk f cnt a l n b).length∧Sm kv (bO g xs n m st) v∧Frl kv l hi u v∧st.taken≤(bO g xs n m st).taken∧k≤(W+2) * (1+((bO g xs n m st).taken - st.taken)):=by
 have hlen:(dk f cnt a l n b).length=(f false (a+1) (l+1) b).length+2:=jz
 rw[hlen];unfold dk at sit;have e0:=sit.left.left.c0;have e1:=sit.right.c0;rw[List.length_append,List.length_singleton]at e1
 generalize f false (a+1) (l+1) b=B at hb e0 e1
 have out:∀ (st u:RS),Sm kv st u→u.pc=a→(ao xs n st).1=false→∃ k v,GoC R xs k u v∧v.pc=a+(B.length+2)∧Sm kv (ao xs n st).2 v∧Frl kv l hi u v∧st.taken≤(ao xs n st).2.taken∧k≤(W+2) * (1+((ao xs n st).2.taken - st.taken)):=by
  intro st u hS hp hf
  obtain⟨t1,t2⟩:=hS.take xs n
  rw[hf]at t1
  refine⟨1,_,GoC.one hp e0 (.test l n _),?_,t2.pc _,Frl.same (fA _ _ _),kM _ _ _,?_⟩
  ·show (if (ao xs n u).1=true then _ else _)=_
   rw[if_neg (by rw[t1]; decide)]
   omega
  ·exact Nat.le_trans (by omega) (Nat.mul_le_mul_left (W+2) (show 1≤1+((ao xs n st).2.taken - st.taken) by omega))
 intro m
 induction m with
 | zero=>
  intro st u hm hS hp
  have te:=ix (n:=n) (show xs.length≤st.taken by omega)
  have:=out st u hS hp (by rw[te])
  rw[te]at this
  exact this
 | succ m ih=>
  intro st u hm hS hp
  unfold bO
  cases hf:(ao xs n st).1 with
  | false=>
   rw[if_neg (by decide)]
   exact out st u hS hp hf
  | true=>
   rw[if_pos rfl];obtain⟨t1,t2⟩:=hS.take xs n
   rw[hf]at t1
   obtain⟨k1,k2⟩:=nw hf
   obtain⟨n1,v1,g1,p1,s1,f1,l1,c1⟩:=hb (ao xs n st).2 (cT (a+1) (ao xs n u).2) (t2.pc _) rfl
   obtain⟨n2,v2,g2,p2,s2,f2,l2,c2⟩:=ih (g (ao xs n st).2) (cT a v1) (by omega) (s1.pc _) rfl
   have r0:RowGo xs u [.str "test", iN l,.int n,iN (a+1+B.length+1)] (cT (a+1) (ao xs n u).2):=by
    have:=RowGo.test (xs:=xs) (st:=u) l n (a+1+B.length+1)
    rw[if_pos t1,hp]at this
    exact this
   refine⟨1+n1+1+n2,v2,(((GoC.one hp e0 r0).app g1).app (GoC.one (by rw[p1]; omega) e1 (.jump _ a))).app g2,p2,s2,?_,by omega,?_⟩
   ·exact((Frl.same (fA _ _ _)).trans f1).trans f2
   ·generalize (bO g xs n m (g (ao xs n st).2)).taken=z at l2 c2 ⊢
    generalize (g (ao xs n st).2).taken=y at l1 c1 l2 c2;rw[k1]at c1 l1
    have h2:=jb (gY (V:=2) c1) c2 (t:=y - (st.taken+1)+(z - y)) (Nat.le_refl _)
    have h3:(W+2) * (1+(y - (st.taken+1)))+(W+2) * (1+(z - y))=(W+2) * (1+(z - st.taken)):=by
     rw[← Nat.mul_add]
     congr 1
     omega
    have h4:=gY (V:=2) c1;omega
theorem Ay(ok:jN kv){d:Nat}(ih:∀ t a l b,fG d b→e_ kv d l b→SitsR R (aS kv d t a l b) a→ms kv R xs (aS kv d t a l b) a l (l+ai d b) (d_ d b) (aB xs d l b))(t:Bool)(a l:Nat) :
  ∀ s:Stp,nM (fG d) s→nn kv (e_ kv d) (ai d) l s→SitsR R (fB kv (aS kv d) (ai d) t a l s) a→ms kv R xs (fB kv (aS kv d) (ai d) t a l s) a l (l+aR (ai d) s) (wG (d_ d) s) (bF (ai d) (aB xs d) xs l s)
 | .plain ws,hs,hk,sit=>fun st u hS hp=>by
  have fin:∀ v,RowGo xs u (eX kv l ws) v→v.pc=u.pc+1→Sm kv (cf l ws st) v→Frl kv l (l+1) u v→∃ n v,GoC R xs n u v∧v.pc=a+[eX kv l ws].length∧Sm kv (cf l ws st) v∧Frl kv l (l+1) u v∧st.taken≤(cf l ws st).taken∧n≤1 * (1+((cf l ws st).taken - st.taken)):=fun v h1 h2 h3 h4=>
   ⟨1,v,GoC.one hp sit.c0 h1,by rw[h2,hp]; rfl,h3,h4,by rw[zc]; exact Nat.le_refl _,by omega⟩
  have hs':eO ws:=hs
  obtain⟨hk1,hk2⟩:=hk
  cases hs' with
  | op x=>
   have hx:=hk2 x (show x∈[x] from List.mem_cons_self);refine fin _ ?_ ?_ ((hS.opn ok hx l).pc (u.pc+1)) ?_
   ·rw[show eX kv l ["open", x]=[.str "open", iN l,bR kv (.inr x)] from rfl,ok.is _ hx]
    exact .pl (.opn l _)
   ·rfl
   ·exact(Frl.same (v:=aQ l (some u.opened) "open" { u with opened:=u.opened+1 }) (gm _ _ _ _)).trans (Frl.hold ok hx _)
  | dr x=>
   have hx:=hk2 x (show x∈[x] from List.mem_cons_self);refine fin _ ?_ ?_ ((hS.hold ok hx none).pc (u.pc+1)) ?_
   ·rw[show eX kv l ["drop", x]=[.str "drop", iN l,bR kv (.inr x)] from rfl,ok.is _ hx]
    exact .pl (.drop l _)
   ·rfl
   ·exact Frl.hold ok hx _
  | dd w x=>
   have hx:=hk2 x (show x∈[x] from List.mem_cons_self);refine fin _ ?_ ?_ ((hS.deed l (aH st (.inr x)) w).pc (u.pc+1)) ?_
   ·rw[show eX kv l ["do", w,x]=[.str "do", iN l,bR kv (.inr x),.str w] from rfl,ok.is _ hx,← hS.hd x hx]
    exact .pl (.deed l _ w)
   ·rfl
   ·exact Frl.same (gm _ _ _ _)
  | cp x y=>
   have hx:=hk2 x (show x∈[x,y] from List.mem_cons_self);have hy:=hk2 y (show y∈[x,y] from List.mem_cons_of_mem _ List.mem_cons_self);refine fin _ ?_ ?_ ((hS.hold ok hx (aH st (.inr y))).pc (u.pc+1)) ?_
   ·rw[show eX kv l ["copy", x,y]=[.str "copy", iN l,bR kv (.inr x),bR kv (.inr y)] from rfl,ok.is _ hx,ok.is _ hy,← hS.hd y hy]
    exact .pl (.copy l _ _)
   ·rfl
   ·exact Frl.hold ok hx _
  | ti x y=>
   have hx:=hk2 x (show x∈[x,y] from List.mem_cons_self);have hy:=hk2 y (show y∈[x,y] from List.mem_cons_of_mem _ List.mem_cons_self);refine fin _ ?_ ?_ ((hS.tie l (aH st (.inr x)) (aH st (.inr y))).pc (u.pc+1)) ?_
   ·rw[show eX kv l ["tie", x,y]=[.str "tie", iN l,bR kv (.inr x),bR kv (.inr y)] from rfl,ok.is _ hx,ok.is _ hy,← hS.hd x hx,← hS.hd y hy]
    exact .pl (.tie l _ _)
   ·rfl
   ·exact Frl.same (wR _ _ _ _)
 | .lend x y b,hs,hk,sit=>fun st u hS hp=>by
  obtain⟨hx,hy,hl,hb⟩:=hk
  have hl':fw kv (sK l):=hl
  have sit':SitsR R (fK kv (aS kv d) (ai d) t a l x y b) a:=sit
  unfold fK at sit';have sb:=sit'.left.right;have se:=sit'.right;simp only[List.length_append,List.length_cons,List.length_nil]at sb se
  have ex:=ok.is _ hx;have ey:=ok.is _ hy;have el:bR kv (.inl (l:Int))=iN (jS kv (sK l)):=ok.is _ hl'
  rw[ex,ey,el]at sit'
  rw[ey,el]at se
  have q0:=sit'.left.left.c0;have q1:=sit'.left.left.cs.c0;have q2:=sit'.left.left.cs.cs.c0;have q3:=se.c0;have q4:=se.cs.c0;have q5:=se.cs.cs.c0;have hgx:=hS.hd x hx;generalize ho:aH st (.inr x)=o at hgx;have g0:=GoC.one (R:=R) (xs:=xs) hp q0 (.pl (.copy l _ _));rw[hgx,hp]at g0
  have s0:=(hS.holdL ok hl' o).pc (a+1)
  have z0:aH (cT (a+1) (aN (sK (jS kv (sK l))) o u)) (sK (jS kv (sK l)))=o:=by
   show aH (aN _ o u) _=o
   rw[ft,if_pos rfl]
  generalize hu0:cT (a+1) (aN (sK (jS kv (sK l))) o u)=u0 at g0 s0 z0;have f0:Frl kv l (l+(ai d b+2)) u u0:=by rw[← hu0]; exact Frl.holdL ok hl' o (Nat.le_refl _) (by omega)
  have g1:=GoC.one (R:=R) (xs:=xs) (a:=u0) (by rw[← hu0]; rfl) q1 (.pl (.deed l _ "lend"))
  rw[z0,show u0.pc=a+1 by rw[← hu0]; rfl]at g1
  have s1:=(s0.deed l o "lend").pc (a+1+1);have z1:aH (cT (a+1+1) (aQ l o "lend" u0)) (sK (jS kv (sK l)))=o:=(As _ _ _ _).trans z0
  have f1:Frl kv l (l+(ai d b+2)) u0 (cT (a+1+1) (aQ l o "lend" u0)):=Frl.same (gm _ _ _ _)
  have p1:(cT (a+1+1) (aQ l o "lend" u0)).pc=a+1+1:=rfl
  generalize cT (a+1+1) (aQ l o "lend" u0)=u1 at g1 s1 z1 f1 p1;have g2:=GoC.one (R:=R) (xs:=xs) (a:=u1) p1 q2 (.pl (.copy l _ _));rw[z1,p1]at g2
  have s2:=(s1.hold ok hy o).pc (a+1+1+1);have z2:aH (cT (a+1+1+1) (aN (sK (jS kv (.inr y))) o u1)) (sK (jS kv (sK l)))=o:=(Frl.hold (lo:=l+1) (hi:=l+1) ok hy o l hl' (by omega)).trans z1
  have f2:Frl kv l (l+(ai d b+2)) u1 (cT (a+1+1+1) (aN (sK (jS kv (.inr y))) o u1)):=Frl.hold ok hy o
  have p2:(cT (a+1+1+1) (aN (sK (jS kv (.inr y))) o u1)).pc=a+3:=rfl
  generalize cT (a+1+1+1) (aN (sK (jS kv (.inr y))) o u1)=u2 at g2 s2 z2 f2 p2;obtain⟨n3,u3,g3,p3,s3,f3,l3,c3⟩:=ih t (a+3) (l+1) b hs hb sb _ _ s2 p2
  have z3:=(f3 l hl' (by omega)).trans z2
  have f3':=f3.wide (lo':=l) (hi':=l+(ai d b+2)) (by omega) (by omega)
  generalize hst3:aB xs d (l+1) b (aN (.inr y) o (aQ l o "lend" st))=st3 at s3 l3 c3;generalize hB:aS kv d t (a+3) (l+1) b=B at p3 sit' se q3 q4 q5;have g4:=GoC.one (R:=R) (xs:=xs) (a:=u3) (i:=a+(3+B.length)) (by rw[p3]; omega) (by simpa using q3) (.pl (.deed _ _ "back"))
  rw[z3,show u3.pc=a+3+B.length from p3]at g4
  have s4:=(s3.deed (l+1+ai d b) o "back").pc (a+3+B.length+1);have f4:Frl kv l (l+(ai d b+2)) u3 (cT (a+3+B.length+1) (aQ (l+1+ai d b) o "back" u3)):=Frl.same (gm _ _ _ _)
  have p4:(cT (a+3+B.length+1) (aQ (l+1+ai d b) o "back" u3)).pc=a+3+B.length+1:=rfl
  generalize cT (a+3+B.length+1) (aQ (l+1+ai d b) o "back" u3)=u4 at g4 s4 f4 p4;have g5:=GoC.one (R:=R) (xs:=xs) (a:=u4) (i:=a+(3+B.length)+1) (by rw[p4]; omega) (by simpa using q4) (.pl (.drop _ _))
  rw[p4]at g5
  have s5:=(s4.hold ok hy none).pc (a+3+B.length+1+1);have f5:Frl kv l (l+(ai d b+2)) u4 (cT (a+3+B.length+1+1) (aN (sK (jS kv (.inr y))) none u4)):=Frl.hold ok hy none
  have p5:(cT (a+3+B.length+1+1) (aN (sK (jS kv (.inr y))) none u4)).pc=a+3+B.length+1+1:=rfl
  generalize cT (a+3+B.length+1+1) (aN (sK (jS kv (.inr y))) none u4)=u5 at g5 s5 f5 p5;have g6:=GoC.one (R:=R) (xs:=xs) (a:=u5) (i:=a+(3+B.length)+1+1) (by rw[p5]; omega) (by simpa using q5) (.pl (.drop _ _))
  have f6:Frl kv l (l+(ai d b+2)) u5 (cT (u5.pc+1) (aN (sK (jS kv (sK l))) none u5)):=Frl.holdL ok hl' none (Nat.le_refl _) (by omega)
  refine⟨_,_,(((((g0.app g1).app g2).app g3).app g4).app g5).app g6,?_,?_,(((((f0.trans f1).trans f2).trans f3').trans f4).trans f5).trans f6,?_,?_⟩
  ·show u5.pc+1=a+(fK kv (aS kv d) (ai d) t a l x y b).length
   rw[p5];unfold fK;simp only[List.length_append,List.length_cons,List.length_nil,hB]
   omega
  ·show Sm kv (aN (.inr y) none (aQ (l+1+ai d b) (aH st (.inr x)) "back" (aB xs d (l+1) b (aN (.inr y) (aH st (.inr x)) (aQ l (aH st (.inr x)) "lend" st))))) _
   rw[ho,hst3];exact(s5.holdL ok hl' none).pc _
  ·show st.taken≤(aN (.inr y) none (aQ (l+1+ai d b) (aH st (.inr x)) "back" (aB xs d (l+1) b (aN (.inr y) (aH st (.inr x)) (aQ l (aH st (.inr x)) "lend" st))))).taken
   rw[ho,hst3];have e1:(aN (.inr y) o (aQ l o "lend" st)).taken=st.taken:=by cases o <;> rfl
   have e2:(aN (.inr y) none (aQ (l+1+ai d b) o "back" st3)).taken=st3.taken:=by cases o <;> rfl
   omega
  ·show _≤(d_ d b+6) * (1+((aN (.inr y) none (aQ (l+1+ai d b) (aH st (.inr x)) "back" (aB xs d (l+1) b (aN (.inr y) (aH st (.inr x)) (aQ l (aH st (.inr x)) "lend" st))))).taken - st.taken))
   rw[ho,hst3];have e1:(aN (.inr y) o (aQ l o "lend" st)).taken=st.taken:=by cases o <;> rfl
   have e2:(aN (.inr y) none (aQ (l+1+ai d b) o "back" st3)).taken=st3.taken:=by cases o <;> rfl
   rw[e1]at c3
   rw[e2];have:=gY (V:=6) c3
   omega
 | .ite n b c,hs,hk,sit=>fun st u hS hp=>by
  obtain⟨hb,hc⟩:=hk
  obtain⟨sb,sc⟩:=hs
  have sit':SitsR R (jT (aS kv d) (ai d) t a l n b c) a:=sit
  have hlen:(fB kv (aS kv d) (ai d) t a l (.ite n b c)).length=(jT (aS kv d) (ai d) t a l n b c).length:=rfl
  rw[hlen];unfold jT at sit' ⊢
  have ib:=ih t (a+1) (l+1) b sb hb;generalize aS kv d t (a+1) (l+1) b=B at sit' ib ⊢;have ic:=ih t (a+1+B.length+1) (l+1+ai d b+1) c sc hc;generalize aS kv d t (a+1+B.length+1) (l+1+ai d b+1) c=C at sit' ic ⊢;have q0:=sit'.left.left.left.c0;have q1:=sit'.left.left.right;have q2:=sit'.left.right.c0;have q3:=sit'.right;simp only[List.length_append,List.length_cons,List.length_nil]at q1 q2 q3 ⊢
  have ib:=ib (by simpa using q1)
  have ic:=ic (by rw[show a+1+B.length+1=a+(0+1+B.length+(0+1)) by omega]; exact q3)
  obtain⟨t1,t2⟩:=hS.take xs n
  have hle:=kM xs n st;have r0:=RowGo.test (xs:=xs) (st:=u) l n (a+1+B.length+1);show ∃ k v,GoC R xs k u v∧v.pc=_∧Sm kv (if (ao xs n st).1=true then aB xs d (l+1) b (ao xs n st).2 else aB xs d (l+1+ai d b+1) c (ao xs n st).2) v∧Frl kv l (l+(ai d b+ai d c+3)) u v∧st.taken≤(if (ao xs n st).1=true then aB xs d (l+1) b (ao xs n st).2 else aB xs d (l+1+ai d b+1) c (ao xs n st).2).taken∧k≤(d_ d b+d_ d c+2) * (1+((if (ao xs n st).1=true then aB xs d (l+1) b (ao xs n st).2 else aB xs d (l+1+ai d b+1) c (ao xs n st).2).taken - st.taken))
  cases hf:(ao xs n st).1 with
  | true=>
   rw[if_pos rfl];rw[hf]at t1
   rw[if_pos t1,hp]at r0
   obtain⟨n1,v1,g1,p1,s1,f1,l1,c1⟩:=ib _ _ (t2.pc (a+1)) rfl
   refine⟨1+n1+1,_,((GoC.one hp q0 r0).app g1).app (GoC.one (by rw[p1]; omega) q2 (.jump _ _)),?_,s1.pc _,?_,by omega,?_⟩
   ·show a+1+B.length+1+C.length=_
    omega
   ·exact((Frl.same (fA _ _ _)).trans f1).wide (by omega) (by omega) |>.trans (Frl.same rfl)
   ·generalize (aB xs d (l+1) b (ao xs n st).2).taken=z at l1 c1 ⊢
    have h2:=jb (gY (V:=2) c1) (show 0≤d_ d c * (1+0) by omega) (t:=z - st.taken) (by omega)
    rw[show d_ d b+d_ d c+2=d_ d b+2+d_ d c by omega]
    omega
  | false=>
   rw[if_neg (by decide)]
   rw[hf]at t1
   rw[if_neg (by rw[t1]; decide)]at r0
   obtain⟨n1,v1,g1,p1,s1,f1,l1,c1⟩:=ic _ _ (t2.pc (a+1+B.length+1)) rfl
   refine⟨1+n1,_,(GoC.one hp q0 r0).app g1,?_,s1,?_,by omega,?_⟩
   ·rw[p1]
    omega
   ·exact((Frl.same (fA _ _ _)).trans f1).wide (by omega) (by omega)
   ·generalize (aB xs d (l+1+ai d b+1) c (ao xs n st).2).taken=z at l1 c1 ⊢
    have h2:=jb (gY (V:=2) c1) (show 0≤d_ d b * (1+0) by omega) (t:=z - st.taken) (by omega)
    rw[show d_ d b+d_ d c+2=d_ d c+2+d_ d b by omega]
    omega
 | .whl n b,hs,hk,sit=>by
  cases t with
  | false=>
   have sit':SitsR R (dk (aS kv d) (ai d) a l n b) a:=sit
   refine fun st u hS hp=>?_
   have hb:=ih false (a+1) (l+1) b hs hk (by
    unfold dk at sit'
    simpa using sit'.left.right)
   exact qe sit' (fun st u h1 h2=>by
    obtain⟨n1,v1,g1,p1,s1,f1,r1⟩:=hb st u h1 h2
    exact⟨n1,v1,g1,p1,s1,f1.wide (by omega) (show l+1+ai d b≤l+(ai d b+2) by omega),r1⟩) xs.length st u (by omega) hS hp
  | true=>
   have sit':SitsR R (em (aS kv d) (ai d) true a l n b) a:=sit
   have hlen:(fB kv (aS kv d) (ai d) true a l (.whl n b)).length=(em (aS kv d) (ai d) true a l n b).length:=rfl
   refine fun st u hS hp=>?_
   rw[hlen];unfold em at sit' ⊢
   rw[if_pos rfl]at sit' ⊢
   have q0:=sit'.left.left.c0;have hb:=ih true (a+1) (l+1) b hs hk (by simpa using sit'.left.right)
   have sl:=sit'.right;rw[List.length_append,List.length_singleton,show a+(1+(aS kv d true (a+1) (l+1) b).length)=a+1+(aS kv d true (a+1) (l+1) b).length by omega]at sl
   generalize aS kv d true (a+1) (l+1) b=B at sit' hb sl q0 ⊢
   have hc:=ih false (a+1+B.length+1) (l+1) b hs hk (by
    have:=sl
    unfold dk at this
    simpa using this.left.right)
   obtain⟨t1,t2⟩:=hS.take xs n
   have hle:=kM xs n st;have r0:=RowGo.test (xs:=xs) (st:=u) l n (a+1+B.length+(dk (aS kv d) (ai d) (a+1+B.length) l n b).length);show ∃ k v,GoC R xs k u v∧v.pc=_∧Sm kv (bO (aB xs d (l+1) b) xs n xs.length st) v∧Frl kv l (l+(ai d b+2)) u v∧st.taken≤(bO (aB xs d (l+1) b) xs n xs.length st).taken∧k≤(d_ d b+2) * (1+((bO (aB xs d (l+1) b) xs n xs.length st).taken - st.taken))
   have out:(ao xs n st).1=false→∃ k v,GoC R xs k u v∧v.pc=a+([[V.str "test", iN l,V.int n,iN (a+1+B.length+(dk (aS kv d) (ai d) (a+1+B.length) l n b).length)]]++B++dk (aS kv d) (ai d) (a+1+B.length) l n b).length∧Sm kv (ao xs n st).2 v∧Frl kv l (l+(ai d b+2)) u v∧st.taken≤(ao xs n st).2.taken∧k≤(d_ d b+2) * (1+((ao xs n st).2.taken - st.taken)):=fun hf=>by
    rw[hf]at t1
    rw[if_neg (by rw[t1]; decide)]at r0
    refine⟨1,_,GoC.one hp q0 r0,?_,t2.pc _,Frl.same (fA _ _ _),hle,?_⟩
    ·show a+1+B.length+_=_
     simp only[List.length_append,List.length_singleton]
     omega
    ·exact Nat.le_trans (by omega) (Nat.mul_le_mul_left (d_ d b+2) (show 1≤1+((ao xs n st).2.taken - st.taken) by omega))
   cases hm:xs.length with
   | zero=>
    have te:=ix (n:=n) (show xs.length≤st.taken by omega)
    have:=out (by rw[te])
    rw[te]at this
    exact this
   | succ m=>
    unfold bO
    cases hf:(ao xs n st).1 with
    | false=>
     rw[if_neg (by decide)]
     exact out hf
    | true=>
     rw[if_pos rfl];rw[hf]at t1
     rw[if_pos t1,hp]at r0
     obtain⟨k1,k2⟩:=nw hf
     obtain⟨n1,v1,g1,p1,s1,f1,l1,c1⟩:=hb _ _ (t2.pc (a+1)) rfl
     obtain⟨n2,v2,g2,p2,s2,f2,l2,c2⟩:=qe sl (fun st u h1 h2=>by
      obtain⟨n1,v1,g1,p1,s1,f1,r1⟩:=hc st u h1 h2
      exact⟨n1,v1,g1,p1,s1,f1.wide (by omega) (show l+1+ai d b≤l+(ai d b+2) by omega),r1⟩) m (aB xs d (l+1) b (ao xs n st).2) v1 (by omega) s1 p1
     refine⟨1+n1+n2,v2,((GoC.one hp q0 r0).app g1).app g2,?_,s2,?_,by omega,?_⟩
     ·rw[p2]
      simp only[List.length_append,List.length_singleton]
      omega
     ·exact((Frl.same (fA _ _ _)).trans (f1.wide (by omega) (by omega))).trans f2
     ·generalize (bO (aB xs d (l+1) b) xs n m (aB xs d (l+1) b (ao xs n st).2)).taken=z at l2 c2 ⊢
      generalize (aB xs d (l+1) b (ao xs n st).2).taken=y at l1 c1 l2 c2;rw[k1]at c1 l1
      have h3:(d_ d b+2) * (1+(y - (st.taken+1)))+(d_ d b+2) * (1+(z - y))=(d_ d b+2) * (1+(z - st.taken)):=by
       rw[← Nat.mul_add]
       congr 1
       omega
      have h4:=gY (V:=2) c1;omega
theorem uv(ok:jN kv):∀ (d:Nat) (t:Bool) (a l:Nat) (T:List Stp),fG d T→e_ kv d l T→SitsR R (aS kv d t a l T) a→ms kv R xs (aS kv d t a l T) a l (l+ai d T) (d_ d T) (aB xs d l T)
 | 0,_,_,_,_,h,_,_=>h.elim
 | d+1,t,a,l,T,hs,hk,sit=>by
  have st:=Ay ok (xs:=xs) (uv ok d) t
  have key:∀ (T:List Stp) (a l:Nat),(∀ s∈T,nM (fG d) s)→(∀ z∈cZ (aR (ai d)) l T,nn kv (e_ kv d) (ai d) z.1 z.2)→SitsR R (dB (fB kv (aS kv d) (ai d) t) (aR (ai d)) a l T) a→
    ms kv R xs (dB (fB kv (aS kv d) (ai d) t) (aR (ai d)) a l T) a l (l+(T.map (aR (ai d))).sum) (T.map (wG (d_ d))).sum (fun st=>(cZ (aR (ai d)) l T).foldl (fun st z=>bF (ai d) (aB xs d) xs z.1 z.2 st) st):=by
   intro T
   induction T with
   | nil=>exact fun a l _ _ _ st u hS hp=>⟨0,u,.nil u,hp,hS,fun _ _ _=>rfl,Nat.le_refl _,by omega⟩
   | cons s T ih=>
    intro a l hs hk sit st1 u hS hp
    obtain⟨n1,v1,g1,p1,s1,f1,l1,c1⟩:=st a l s (hs s List.mem_cons_self) (hk (l,s) List.mem_cons_self) sit.left st1 u hS hp
    obtain⟨n2,v2,g2,p2,s2,f2,l2,c2⟩:=ih (a+(fB kv (aS kv d) (ai d) t a l s).length) (l+aR (ai d) s) (fun x hx=>hs x (List.mem_cons_of_mem _ hx)) (fun x hx=>hk x (List.mem_cons_of_mem _ hx)) sit.right _ v1 s1 p1
    dsimp only at l2 c2
    simp only[List.map_cons,List.sum_cons]
    refine⟨n1+n2,v2,g1.app g2,?_,s2,(f1.wide (Nat.le_refl _) (by omega)).trans (f2.wide (by omega) (by omega)),Nat.le_trans l1 l2,jb c1 c2 ?_⟩
    ·rw[p2]
     show _=a+(fB kv (aS kv d) (ai d) t a l s++_).length
     rw[List.length_append];omega
    ·show _≤(List.foldl (fun st (z:Nat × Stp)=>bF (ai d) (aB xs d) xs z.1 z.2 st) (bF (ai d) (aB xs d) xs l s st1) _).taken - st1.taken
     omega
  exact key T a l hs hk sit
end
section
variable{P:Program}{w:World}{K:PySem.W.Frag}{mg:Str→Option Value}{base:Heap}
theorem BP{st s1:RS}{r:bJ}(h:gE st r s1):s1.sz≤st.sz+3:=by
 have hh:∀ (k:aK) (o:Option Nat) (z:RS),(aN k o z).sz≤z.sz+1:=fun k o z=>by
  unfold RS.sz aN;have:(cS z.held k (hV o)).length≤z.held.length+1:=by unfold cS; split <;> simp
  show z.log.length+(cS z.held k (hV o)).length+z.opened≤_
  omega
 have hd:∀ (l:Nat) (o:Option Nat) (w:Str) (z:RS),(aQ l o w z).sz≤z.sz+1:=fun l o w z=>by
  cases o with
  | none=>exact Nat.le_succ _
  | some n=>
   show (z.log++_).length+z.held.length+z.opened≤z.log.length+z.held.length+z.opened+1
   simp
   omega
 cases h with
 | opn l k=>
  have h1:=hh (sK k) (some st.opened) (aQ l (some st.opened) "open" { st with opened:=st.opened+1 });have h2:=hd l (some st.opened) "open" { st with opened:=st.opened+1 };have h3:RS.sz { st with opened:=st.opened+1 }=st.sz+1:=rfl
  unfold dj;omega
 | deed l k w=>have:=hd l (aH st (sK k)) w st; omega
 | copy l k j=>have:=hh (sK k) (aH st (sK j)) st; omega
 | drop l k=>have:=hh (sK k) none st; omega
 | tie l k j=>
  unfold cJ;split
  ·split
   ·omega
   ·show (st.log++_).length+st.held.length+st.opened≤st.log.length+st.held.length+st.opened+3
    simp
    omega
  ·omega
theorem tj{st s1:RS}{r:bJ}(h:gE st r s1):∃ kd rest,r = .str kd::rest∧kd ≠ "jump" ∧ kd ≠ "test" ∧ kd ≠ "end" := by
 cases h <;> exact⟨_,_,rfl,by decide,by decide,by decide⟩
theorem F_{st s1:RS}{r:bJ}(h:gE st r s1):s1.pc=st.pc:=by
 cases h with
 | opn=>rfl
 | deed=>exact B1 _ _ _
 | copy=>rfl
 | drop=>rfl
 | tie=>exact DX _ _ _
theorem BX{xs:List Int}{st s1:RS}{r:bJ}(h:RowGo xs st r s1):∃ kd rest,r = .str kd::rest∧kd ≠ "end" := by
 cases h with
 | pl h=>
  obtain⟨kd,rest,e,_,_,n⟩:=tj h
  exact⟨kd,rest,e,n⟩
 | jump l j=>exact⟨_,_,rfl,by decide⟩
 | test l n j=>exact⟨_,_,rfl,by decide⟩
theorem qJ{H:Hp}{as:List Addr}{R:List bJ}(h:Paired (ci H) as R){i:Nat}{r:bJ}(e:R[i]? = some r):∃ a,as[i]? = some a∧ci H a r:=by
 have hi:i<as.length:=by rw[ay h]; exact(List.getElem?_eq_some_iff.mp e).1
 obtain⟨y,e1,e2⟩:=bw h (List.getElem?_eq_getElem hi)
 rw[e]at e1
 cases e1;exact⟨_,List.getElem?_eq_getElem hi,e2⟩
theorem F9{xs:List Int}{st s1:RS}{r:bJ}(h:RowGo xs st r s1):s1.sz≤st.sz+3:=by
 cases h with
 | pl h=>
  have:=BP h
  exact this
 | jump l j=>exact Nat.le_add_right _ _
 | test l n j=>
  show (ao xs n st).2.sz≤st.sz+3
  unfold ao;split <;> exact Nat.le_add_right _ _
section
variable{CR:Addr}
def yp(K:PySem.W.Frag)(C:Addr):Sp:=fun vs H Q _=>∃ (E:RE) (H0:Hp) (st:RS) (n:Nat),E.C=C∧vs=[.ref E.r,.int (n:Int)]∧RO K E H0 H st∧∀ H',RO K E H0 H' (cT n st)→Q .non H'
theorem CY(D:MethAt K CR "come_to" "Run.come_to" cK) (a_at:Fl K CR "at"):cI P w K mg base 1 CR "come_to" ["self", "at"] (yp K CR):=by
 refine D.mcal (k:=0) mK (fun _ _ _ _ _ _ us hl=>match us,hl with | [_,_],_=>rfl) (fun vs H Q E h=>by obtain⟨E,H0,st,n,_,rfl,_⟩:=h; rfl) (fun f cdv A outer sh H vs Q _ hr h=>?_)
 obtain⟨E,H0,st,n,rfl,rfl,R,q⟩:=h
 refine⟨_,(ak (cW a_at (pv 0) (pv 1))),?_⟩
 walk_at "rd1";exact R.put (st':=cT n st) rfl rfl R.tk _ _ (zJ E st n) q
def ud(K:PySem.W.Frag)(C:Addr):Sp:=fun vs H Q _=>∃ (E:RE) (H0:Hp) (st s1:RS) (a:Addr) (r:bJ),E.C=C∧vs=[.ref E.r,.ref a]∧ci H0 a r∧gE st r s1∧RO K E H0 H st∧st.sz+3≤400000∧∀ H',RO K E H0 H' s1→Q .non H'
theorem Al(D:DefAt K mg "do_row" fN) (m_Run_new_handle:cI P w K mg base 3 CR "new_handle" ["self", "line", "holder"] (qG K CR)) (m_Run_deed:cI P w K mg base 2 CR "deed" ["self", "line", "handle", "word"] (iS K CR)) (m_Run_handle_of:cI P w K mg base 1 CR "handle_of" ["self", "holder"] (js K CR))
  (m_Run_hold:cI P w K mg base 1 CR "hold" ["self", "holder", "handle"] (jV K CR)) (m_Run_tie:cI P w K mg base 2 CR "tie" ["self", "line", "one", "other"] (ve K CR)):aM P w K mg base 4 "do_row" ["run", "row"] (ud K CR):=by
 refine D.cal (k:=3) sc_do_row (fun _ _ _ _ _ _ us hl=>match us,hl with | [_,_],_=>rfl) (fun vs H Q E h=>by obtain⟨E,H0,st,s1,a,r,_,rfl,_⟩:=h; rfl) (fun f cdv A outer sh H vs Q _ hr h=>?_)
 obtain⟨E,H0,st,s1,a,r,rfl,rfl,hr0,hp,R,hz,q⟩:=h
 have hs:=BP hp
 refine⟨_,(af (ax 2 sc_do_row.nd (av (aI K) (pv 1) ae (fun _ _=>rfl)))
   (ak (bd (aF bz (av (aI K) (pv 1) ae (fun _ _=>rfl)) aw (aL _)) (ak (aD (bn m_Run_new_handle hr (pv 0) (aa (pv 2) (aa (av (aI K) (pv 1) ae (fun _ _=>rfl)) ac))))) (ak (bd (aF bz (av (aI K) (pv 1) ae (fun _ _=>rfl)) aw (aL _)) (ak (aD (bn m_Run_deed hr (pv 0) (aa (pv 2) (aa (bn m_Run_handle_of hr (pv 0) (aa (av (aI K) (pv 1) ae (fun _ _=>rfl)) ac)) (aa (av (aI K) (pv 1) ae (fun _ _=>rfl)) ac)))))) (ak (bd (aF bz (av (aI K) (pv 1) ae (fun _ _=>rfl)) aw (aL _)) (ak (aD (bn m_Run_hold hr (pv 0) (aa (av (aI K) (pv 1) ae (fun _ _=>rfl)) (aa (bn m_Run_handle_of hr (pv 0) (aa (av (aI K) (pv 1) ae (fun _ _=>rfl)) ac)) ac))))) (ak (bd (aF bz (av (aI K) (pv 1) ae (fun _ _=>rfl)) aw (aL _)) (ak (aD (bn m_Run_hold hr (pv 0) (aa (av (aI K) (pv 1) ae (fun _ _=>rfl)) (aa gG ac))))) (ak (aD (bn m_Run_tie hr (pv 0) (aa (pv 2) (aa (bn m_Run_handle_of hr (pv 0) (aa (av (aI K) (pv 1) ae (fun _ _=>rfl)) ac)) (aa (bn m_Run_handle_of hr (pv 0) (aa (av (aI K) (pv 1) ae (fun _ _=>rfl)) ac)) ac))))))))))))))),?_⟩
 have k1:SqT K H a r:=SqT.of (R.sm _ _ hr0)
 cases hp with
 | opn l k=>
  walk_at "rd1";refine⟨_,_,.inr k1,aT (j:=1) (v:=iN l) rfl,?_⟩
  walk_at "nx";refine⟨_,_,.inr k1,cw,?_⟩
  walk_at "rd1";exact⟨R.isM (by decide +kernel),_,_,.inr k1,aT (j:=2) (v:=iN k) rfl,E,H0,st,l,sK k,rfl,rfl,R,by omega,q⟩
 | deed l k w=>
  walk_at "rd1";refine⟨_,_,.inr k1,aT (j:=1) (v:=iN l) rfl,?_⟩
  walk_at "nx";refine⟨_,_,.inr k1,cw,?_⟩
  walk_at "rd1";refine⟨_,_,.inr k1,cw,?_⟩
  walk_at "rd1";exact⟨R.isM (by decide +kernel),R.isM (by decide +kernel),_,_,.inr k1,aT (j:=2) (v:=iN k) rfl,E,H0,st,sK k,rfl,rfl,R,_,_,.inr k1,aT (j:=3) (v:=.str w) rfl,E,H0,st,l,aH st (sK k),w,rfl,rfl,R,by omega,q⟩
 | copy l k j=>
  walk_at "rd1";refine⟨_,_,.inr k1,aT (j:=1) (v:=iN l) rfl,?_⟩
  walk_at "nx";refine⟨_,_,.inr k1,cw,?_⟩
  walk_at "rd1";refine⟨_,_,.inr k1,cw,?_⟩
  walk_at "rd1";refine⟨_,_,.inr k1,cw,?_⟩
  walk_at "rd1";exact⟨R.isM (by decide +kernel),_,_,.inr k1,aT (j:=2) (v:=iN k) rfl,R.isM (by decide +kernel),_,_,.inr k1,aT (j:=3) (v:=iN j) rfl,E,H0,st,sK j,rfl,rfl,R,E,H0,st,sK k,aH st (sK j),rfl,rfl,R,by omega,q⟩
 | drop l k=>
  walk_at "rd1";refine⟨_,_,.inr k1,aT (j:=1) (v:=iN l) rfl,?_⟩
  walk_at "nx";refine⟨_,_,.inr k1,cw,?_⟩
  walk_at "rd1";refine⟨_,_,.inr k1,cw,?_⟩
  walk_at "rd1";refine⟨_,_,.inr k1,cw,?_⟩
  walk_at "rd1";refine⟨_,_,.inr k1,cw,?_⟩
  walk_at "rd1";exact⟨R.isM (by decide +kernel),_,_,.inr k1,aT (j:=2) (v:=iN k) rfl,E,H0,st,sK k,none,rfl,rfl,R,by omega,q⟩
 | tie l k j=>
  walk_at "rd1";refine⟨_,_,.inr k1,aT (j:=1) (v:=iN l) rfl,?_⟩
  walk_at "nx";refine⟨_,_,.inr k1,cw,?_⟩
  walk_at "rd1";refine⟨_,_,.inr k1,cw,?_⟩
  walk_at "rd1";refine⟨_,_,.inr k1,cw,?_⟩
  walk_at "rd1";refine⟨_,_,.inr k1,cw,?_⟩
  walk_at "rd1";exact⟨R.isM (by decide +kernel),R.isM (by decide +kernel),_,_,.inr k1,aT (j:=2) (v:=iN k) rfl,E,H0,st,sK k,rfl,rfl,R,R.isM (by decide +kernel),_,_,.inr k1,aT (j:=3) (v:=iN j) rfl,E,H0,st,sK j,rfl,rfl,R,E,H0,st,l,aH st (sK k),aH st (sK j),rfl,rfl,R,by omega,q⟩
def lc(K:PySem.W.Frag)(C:Addr):Sp:=fun vs H Q _=>∃ (E:RE) (H0:Hp) (st s1:RS) (a:Addr) (r:bJ),E.C=C∧vs=[.ref E.r,.ref a]∧ci H0 a r∧RowGo E.xs st r s1∧RO K E H0 H st∧st.sz+3≤400000∧∀ H' s2,RO K E H0 H' s2→s1=cT s1.pc s2→Q (.int (s1.pc:Int)) H'
theorem rQ(D:DefAt K mg "row_behind" dX) (a_at:Fl K CR "at") (m_Run_takes_more:cI P w K mg base 1 CR "takes_more" ["self", "bound"] (kA K CR)) (c_do_row:aM P w K mg base 4 "do_row" ["run", "row"] (ud K CR)):aM P w K mg base 5 "row_behind" ["run", "row"] (lc K CR):=by
 refine D.cal (k:=4) pj (fun _ _ _ _ _ _ us hl=>match us,hl with | [_,_],_=>rfl) (fun vs H Q E h=>by obtain⟨E,H0,st,s1,a,r,_,rfl,_⟩:=h; rfl) (fun f cdv A outer sh H vs Q _ hr h=>?_)
 obtain⟨E,H0,st,s1,a,r,rfl,rfl,hr0,hp,R,hz,q⟩:=h
 refine⟨_,(af (bd (aF bz (av (aI K) (pv 1) ae (fun _ _=>rfl)) aw (aL _)) (ak (aG (av (aI K) (pv 1) ae (fun _ _=>rfl)))) bu)
   (af (bd (aF bz (av (aI K) (pv 1) ae (fun _ _=>rfl)) aw (aL _)) (ak (aG (qB (dC (bn m_Run_takes_more hr (pv 0) (aa (av (aI K) (pv 1) ae (fun _ _=>rfl)) ac))) (ap aC (au a_at (pv 0)) ae) (av (aI K) (pv 1) ae (fun _ _=>rfl))))) bu)
   (af (aD (aA c_do_row hr (aa (pv 0) (aa (pv 1) ac))))
   (ak (aG (ap aC (au a_at (pv 0)) ae)))))),?_⟩
 have k1:SqT K H a r:=SqT.of (R.sm _ _ hr0)
 cases hp with
 | pl hp=>
  rename_i s1
  obtain⟨kd,rest,rfl,n1,n2,_⟩:=tj hp
  walk_at "rd1";refine⟨_,_,.inr k1,cw,?_⟩
  walk_at "rd1";refine aJ (fun c=>absurd c n1) (fun _=>?_)
  walk_at "nx";refine⟨_,_,.inr k1,cw,?_⟩
  walk_at "rd1";refine aJ (fun c=>absurd c n2) (fun _=>?_)
  walk_at "nx";refine⟨E,H0,st,_,a,_,rfl,rfl,hr0,hp,R,hz,fun H1 R1=>?_⟩
  walk_at "nx";refine R1.at ?_
  have z:=q H1 _ R1 rfl;rw[show (((cT (st.pc+1) s1).pc:Nat):Int)=(s1.pc:Int)+1 by rw[F_ hp]; rfl]at z
  exact z
 | jump l j=>
  walk_at "rd1";refine⟨_,_,.inr k1,cw,?_⟩
  walk_at "rd1";exact⟨_,_,.inr k1,aT (j:=2) (v:=iN j) rfl,q H st R rfl⟩
 | test l n j=>
  walk_at "rd1";refine⟨_,_,.inr k1,cw,?_⟩
  walk_at "rd1";walk_at "nx";refine⟨_,_,.inr k1,cw,?_⟩
  walk_at "rd1";refine⟨R.isM (by decide +kernel),_,_,.inr k1,aT (j:=2) (v:=.int n) rfl,E,H0,st,n,rfl,rfl,R,fun H1 R1=>⟨_,rfl,aJ (fun c=>?_) (fun c=>?_)⟩⟩
  ·rw[if_pos c]at q
   refine R1.at ?_
   have z:=q H1 _ R1 rfl;rw[show (((cT (st.pc+1) (ao E.xs n st).2).pc:Nat):Int)=(((ao E.xs n st).2.pc:Nat):Int)+1 by rw[Cz]; rfl]at z
   exact z
  ·rw[if_neg c]at q
   exact⟨_,_,.inr (SqT.of (R1.sm _ _ hr0)),aT (j:=3) (v:=iN j) rfl,q H1 _ R1 rfl⟩
def uw(K:PySem.W.Frag)(C:Addr):Sp:=fun vs H Q _=>∃ (E:RE) (H0:Hp) (st v:RS) (cp:Addr) (R:List bJ) (n l:Nat),E.C=C∧vs=[.ref cp,.ref E.r]∧ListR H0 cp R∧GoC R E.xs n st v∧R[v.pc]? = some [.str "end", iN l]∧RO K E H0 H st∧st.sz+3 * n≤400000∧∀ H',RO K E H0 H' (gQ l v)→Q (.ref E.lp) H'
theorem ze(D:DefAt K mg "log_of" gu) (a_at:Fl K CR "at") (a_log:Fl K CR "log") (m_Run_come_to:cI P w K mg base 1 CR "come_to" ["self", "at"] (yp K CR)) (m_Run_end_all:cI P w K mg base 3 CR "end_all" ["self", "line"] (uZ K CR)) (c_row_behind:aM P w K mg base 5 "row_behind" ["run", "row"] (lc K CR)):aM P w K mg base 6 "log_of" ["code", "run"] (uw K CR):=by
 refine D.cal (k:=5) wZ (fun _ _ _ _ _ _ us hl=>match us,hl with | [_,_],_=>rfl) (fun vs H Q E h=>by obtain⟨E,H0,st,v,cp,R,n,l,_,rfl,_⟩:=h; rfl) (fun f cdv A outer sh H vs Q _ hr h=>?_)
 obtain⟨E,H0,st,v,cp,R,n,l,rfl,rfl,⟨as,h1,h2⟩,hg,he,O,hz,q⟩:=h
 refine⟨_,(af (rz PassesOwn.never (aF ki (av (aI K) (av (aI K) (pv 0) (au a_at (pv 1)) (fun _ _=>rfl)) ae (fun _ _=>rfl)) aw (aL _)) (ak (aD (bn m_Run_come_to hr (pv 1) (aa (aA c_row_behind hr (aa (pv 1) (aa (av (aI K) (pv 0) (au a_at (pv 1)) (fun _ _=>rfl)) ac))) ac)))))
   (af (aD (bn m_Run_end_all hr (pv 1) (aa (av (aI K) (av (aI K) (pv 0) (au a_at (pv 1)) (fun _ _=>rfl)) ae (fun _ _=>rfl)) ac)))
   (ak (aG (au a_log (pv 1)))))),?_⟩
 walk_at "rd1";refine⟨fun m σ H'=>∃ st',σ=[some (.ref cp),some (.ref E.r)]∧RO K E H0 H' st'∧GoC R E.xs m st' v∧st'.sz+3 * m≤400000,⟨n,st,rfl,O,hg,hz⟩,?_⟩
 rintro m σ H' ⟨st',rfl,O',hg',hz'⟩
 walk_at "rd1";refine O'.at ?_
 cases hg' with
 | nil=>
  obtain⟨a,ea,ha⟩:=qJ h2 he
  have k1:SqL K H' cp (as.map V.ref):=SqL.of (O'.sm _ _ h1)
  have k2:SqT K H' a [.str "end", iN l]:=SqT.of (O'.sm _ _ ha)
  refine⟨_,_,.inl k1,aT (v:=.ref a) (by rw[List.getElem?_map,ea]; rfl),?_⟩
  refine⟨_,_,.inr k2,cw,?_⟩
  walk_at "rd1";rw[if_neg (by simp)]
  walk_at "nx";refine⟨O'.isM (by decide +kernel),O'.at ?_⟩
  refine⟨_,_,.inl k1,aT (v:=.ref a) (by rw[List.getElem?_map,ea]; rfl),?_⟩
  refine⟨_,_,.inr k2,aT (j:=1) (v:=iN l) rfl,E,H0,v,l,rfl,rfl,O',by omega,fun H1 O1=>?_⟩
  walk_at "nx";exact O1.log (q H1 O1)
 | step e g hg2=>
  rename_i r s1 m
  obtain⟨a,ea,ha⟩:=qJ h2 e
  obtain⟨kd,rest,er,hne⟩:=BX g
  have k1:SqL K H' cp (as.map V.ref):=SqL.of (O'.sm _ _ h1)
  have k2:SqT K H' a r:=SqT.of (O'.sm _ _ ha)
  have hs:=F9 g;refine⟨_,_,.inl k1,aT (v:=.ref a) (by rw[List.getElem?_map,ea]; rfl),?_⟩
  refine⟨_,_,.inr k2,by rw[er]; exact cw,?_⟩
  walk_at "rd1";rw[if_pos (by simp[hne])]
  refine⟨fun σ' H''=>∃ st'',σ'=[some (.ref cp),some (.ref E.r)]∧RO K E H0 H'' st''∧GoC R E.xs m st'' v∧st''.sz+3 * m≤400000,fun σ' H'' z=>⟨m,Nat.lt_succ_self _,z⟩,O'.isM (by decide +kernel),O'.at ?_⟩
  refine⟨_,_,.inl k1,aT (v:=.ref a) (by rw[List.getElem?_map,ea]; rfl),E,H0,st',s1,a,r,rfl,rfl,ha,g,O',by omega,fun H1 s2 O1 e1=>?_⟩
  exact⟨E,H0,s2,s1.pc,rfl,rfl,O1,fun H2 O2=>⟨s1,rfl,by rw[e1]; exact O2,hg2,by omega⟩⟩
def ye(K:PySem.W.Frag):Sp:=fun vs H Q _=>∃ (cp ip:Addr) (R:List bJ) (xs:List Int) (v:RS) (n l:Nat),vs=[.ref cp,.ref ip]∧ListR H cp R∧GoC R xs n rs0 v∧R[v.pc]? = some [.str "end", iN l]∧3 * n≤400000∧SqL K H ip (xs.map V.int)∧xs.length≤100∧
 ∀ (q:Addr) (H':Hp) (es:List Addr),Same H H'→H q=none→H' q=some (.lst (es.map V.ref))→Paired (fun a e=>H' a=some (.tup e)) es (gQ l v).log→Q (.ref q) H'
theorem CW(D:DefAt K mg "run_code" ej) (k_Run:j_ P w K mg base 1 "Run" CR ["self", "inputs", "watches"] (mR K CR)) (c_log_of:aM P w K mg base 6 "log_of" ["code", "run"] (uw K CR)):aM P w K mg base 7 "run_code" ["code", "inputs"] (ye K):=by
 refine D.cal (k:=6) sV (fun _ _ _ _ _ _ us hl=>match us,hl with | [_,_],_=>rfl) (fun vs H Q E h=>by obtain⟨cp,ip,R,xs,v,n,l,rfl,_⟩:=h; rfl) (fun f cdv A outer sh H vs Q _ hr h=>?_)
 obtain⟨cp,ip,R,xs,v,n,l,rfl,hR,hg,he,hn,hip,hxl,q⟩:=h
 refine⟨_,(ak (aG (aA c_log_of hr (aa (pv 0) (aa (u6 k_Run hr (aa (pv 1) (aa (bA ac) ac))) ac))))),?_⟩
 walk_at "rd1";refine⟨by decide,fun wp hwp=>?_⟩
 have sA:=al hwp (.lst []);have eW:upd H wp (.lst []) wp=some (.lst []):=ah
 generalize upd H wp (.lst [])=HA at sA eW ⊢;intro x dx hx0 hdx ndx
 generalize hM:upd (upd HA dx (.own x)) x (.ins CR dx [])=HM
 have sM:Same HA HM:=by rw[← hM]; exact(al hdx (.own x)).upd hx0 _
 have eM:HM x=some (.ins CR dx []):=by rw[← hM,ah]
 refine⟨x,dx,ip,wp,HA,xs,rfl,eM,hx0,sM,sA.seq hip,SqL.of eW,by omega,fun hp lp HB O=>⟨rfl,?_⟩⟩
 refine⟨⟨CR,x,ip,hp,lp,xs,wp⟩,HA,rs0,v,cp,R,n,l,rfl,rfl,hR.mono sA,hg,he,O,by show 0+3 * n≤400000; omega,fun HD OD=>?_⟩
 obtain⟨es,l1,l2⟩:=id OD.lg
 exact q lp HD es (sA.trans OD.sm) (sA.free OD.fl) l1 l2
end
end
theorem qU(ks:List aK):∀ (i:Nat) (k:aK),(bY (fP ks i) k).isSome=true→i≤ks.length→∃ j,j<i∧ks[j]? = some k
 | 0,k,h,_=>by
  have:bY (fP ks 0) k=none:=rfl
  rw[this]at h
  cases h
 | i+1,k,h,hi=>by
  rw[gP,iD]at h
  by_cases e:k=ks.getD i (.inl 0)
  ·exact⟨i,Nat.lt_succ_self _,by rw[e,List.getD_eq_getElem?_getD,List.getElem?_eq_getElem (by omega)]; rfl⟩
  ·rw[if_neg e]at h
   obtain⟨j,h1,h2⟩:=qU ks i k h (by omega)
   exact⟨j,by omega,h2⟩
theorem G7{ks:List aK}(hn:ks.Nodup):jN (hZ ks):=by
 have key:∀ k,fw (hZ ks) k→∃ j:Nat,ks[j]? = some k∧bR (hZ ks) k=iN j∧jS (hZ ks) k=j:=fun k h=>by
  obtain⟨j,_,e⟩:=qU ks ks.length k (by
   have h':bY (fP ks ks.length) k=some _:=h
   rw[h']
   rfl) (Nat.le_refl _)
  have es:=D9 hn e;refine⟨j,e,es,?_⟩
  unfold jS;rw[es];show Int.toNat ((j:Nat):Int)=j
  rw[Int.toNat_natCast]
 refine⟨fun k h=>?_,fun k k' h h' e=>?_⟩
 ·obtain⟨j,_,e2,e3⟩:=key k h
  rw[e3,e2]
 ·obtain⟨j,e1,_,e3⟩:=key k h
  obtain⟨j',e1',_,e3'⟩:=key k' h'
  rw[e3,e3']at e
  subst e;rw[e1]at e1'
  exact Option.some.inj e1'
theorem xv{NM:List Str}(hn:NM.Nodup){d:Nat}{T:List Stp}(hs:fG d T)(hm:pL (fun n=>n∈NM) d T)(t:Bool)(xs:List Int) :
  ∃ n v,GoC (fM NM d t T) xs n rs0 v∧(fM NM d t T)[v.pc]? = some [.str "end", iN (ai d T)]∧n≤6 * ai d T * (1+xs.length)∧(gQ (ai d T) v).log=(dE xs d T).log:=by
 have ok:=G7 (v8 (L:=b5 d T) hn);have hk:=mT (NM:=NM) (L:=b5 d T) d 0 T (fun i s e=>by rw[Nat.zero_add]; exact e) hm
 have sit:SitsR (fM NM d t T) (aS (hZ (df NM (b5 d T))) d t 0 0 T) 0:=by
  have:SitsR (fM NM d t T) (fM NM d t T) 0:=fun i r e=>by rw[Nat.zero_add]; exact e
  unfold fM at this ⊢
  exact this.left
 obtain⟨n,v,g,p,s,_,_,c⟩:=uv ok (xs:=xs) d t 0 0 T hs hk sit rs0 rs0 ⟨rfl,rfl,rfl,rfl,fun _ _=>rfl⟩ rfl
 refine⟨n,v,g,?_,?_,?_⟩
 ·rw[p,Nat.zero_add]
  unfold fM;rw[List.getElem?_append_right (Nat.le_refl _),Nat.sub_self]
  rfl
 ·have tk:(aB xs d 0 T rs0).taken≤xs.length:=by
   have c:ClosedR xs (fun s=>s.taken≤xs.length):=⟨fun _ _ _ z=>z,fun l h w s z=>by cases h <;> exact z,fun l a b s z=>by
    unfold cJ; split
    ·split <;> exact z
    ·exact z,fun _ _ _ z=>z,fun n s z=>by
    unfold ao;split
    ·exact z
    ·rename_i e
     exact(List.getElem?_eq_some_iff.mp e).1⟩
   exact c.run d 0 T rs0 (Nat.zero_le _)
  have w1:=yb d T;have h1:(aB xs d 0 T rs0).taken - rs0.taken≤xs.length:=Nat.le_trans (Nat.sub_le _ _) tk
  exact Nat.le_trans c (Nat.mul_le_mul w1 (by omega))
 ·unfold dE gQ
  rw[s.lg,s.op,s.ls]
section
variable{P:Program}{w:World}{K:PySem.W.Frag}{mg:Str→Option Value}{base:Heap}
theorem Lk{α : Type}{x y z:α}{xs:List α}:eP (x::y::z::xs) 2=some z:=aT (j:=2) rfl
theorem Gq{α : Type}{x y z u:α}{xs:List α}:eP (x::y::z::u::xs) 3=some u:=aT (j:=3) rfl
def ER:Sp:=fun vs H Q _=>∃ i:Int,vs=[.int i]∧Q (.bl true) H
theorem FX(D:DefAt K mg "_law_whole" dQ) (z_isinstance:mg "isinstance" = none) (z_int:mg "int" = none) (z_bool:mg "bool" = none):aM P w K mg base 1 "_law_whole" ["_law_found"] ER:=by
 refine D.cal (k:=0) qu (fun _ _ _ _ _ _ us hl=>match us,hl with | [_],_=>rfl) (fun vs H Q E h=>by obtain⟨i,rfl,_⟩:=h; rfl) (fun f cdv A outer s H vs Q E hr h=>?_)
 obtain⟨i,rfl,q⟩:=h
 refine⟨_,(ak (aG (Fu (bm iE z_isinstance eQ (aa (pv 0) (aa (jR z_int j5) ac))) (EJ (En (bm iE z_isinstance eQ (aa (pv 0) (aa (jR z_bool B7) ac)))))))),?_⟩
 walk_at "rd1";refine⟨"int", rfl,by decide,aJ (fun _=>?_) (fun c=>absurd (by decide) c)⟩
 exact⟨"int", rfl,by decide,q⟩
def LogAt(H:Hp)(fp:Addr)(es:List Addr)(L:List (List V)):Prop:=H fp=some (.lst (es.map V.ref))∧Paired (fun a e=>H a=some (.tup e)) es L
theorem LogAt.mono{H H':Hp}{fp:Addr}{es:List Addr}{L:List (List V)}(h:LogAt H fp es L)(s:Same H H'):LogAt H' fp es L:=⟨s _ _ h.1,Paired.imp' (fun a e y=>s _ _ y) h.2⟩
def nJ:Sp:=fun vs H Q _=>∃ (fp:Addr) (es:List Addr) (L:List (List V)),vs=[.ref fp]∧LogAt H fp es L∧(∀ e∈L,gC e)∧∀ H',Same H H'→Q (.bl true) H'
theorem zo(D:DefAt K mg "_law_is_log" b_) (z_isinstance:mg "isinstance" = none) (z_list:mg "list" = none) (z_tuple:mg "tuple" = none) (z_len:mg "len" = none) (z_str:mg "str" = none) (c_law_whole:aM P w K mg base 1 "_law_whole" ["_law_found"] ER):aM P w K mg base 2 "_law_is_log" ["_law_found"] nJ:=by
 refine D.cal (k:=1) sc_law_is_log (fun _ _ _ _ _ _ us hl=>match us,hl with | [_],_=>rfl) (fun vs H Q E h=>by obtain⟨fp,es,L,rfl,_⟩:=h; rfl) (fun f cdv A outer s H vs Q E hr h=>?_)
 obtain⟨fp,es,L,rfl,hL,ok,q⟩:=h
 refine⟨_,(af (bd (fm (dC (bm iE z_isinstance eQ (aa (pv 0) (aa (jR z_list tT) ac))))) (ak (aG fg)) bu)
   (af (cE PassesOwn.never rfl (cr K (pv 0)) (ba 1 sc_law_is_log.nd) (af (bd (PW.pt' (gS (fm (dC (bm iE z_isinstance eQ (aa (pv 1) (aa (jR z_tuple pQ) ac))))) (g_ (aF (yH K) (bm (aV K) z_len bL (aa (pv 1) ac)) (bB (aa ae (aa ae ac))) (by with_unfolding_all rfl))))) (ak (aG fg)) bu)
   (af (bd (PW.pt' (gS (fm (dC (aA c_law_whole hr (aa (av (aI K) (pv 1) ae (fun _ _=>rfl)) ac)))) (gS (fm (dC (aA c_law_whole hr (aa (av (aI K) (pv 1) ae (fun _ _=>rfl)) ac)))) (g_ (fm (dC (aA c_law_whole hr (aa (av (aI K) (pv 1) (ku i8 ae) (fun _ _=>rfl)) ac)))))))) (ak (aG fg)) bu)
   (ak (bd (PW.pt' (gh (aF bz (bm (aV K) z_len bL (aa (pv 1) ac)) ae (aL _)) (gW (fm (dC (bm iE z_isinstance eQ (aa (av (aI K) (pv 1) ae (fun _ _=>rfl)) (aa (jR z_str mv) ac)))))))) (ak (aG fg)) bu)))))
   (ak (aG fg)))),?_⟩
 walk_at "rd1";refine⟨"list", by simp[di,hL.1],by decide,?_⟩
 refine aJ (fun c=>absurd c (by decide)) (fun c=>?_)
 walk_at "nx";refine⟨⟨_,SqL.of hL.1⟩,?_⟩
 refine dh (xs:=es.map V.ref) (fun i σ H'=>∃ o1:Option V,σ=[some (.ref fp),o1]∧Same H H') ⟨none,rfl,Same.refl H⟩ (fun i σ H' _ h=>by obtain⟨_,_,sm⟩:=h; exact SqL.of (sm _ _ hL.1)) ?_ ?_
 ·rintro i v σ H' hv ⟨o1,rfl,sm⟩
  have hi:i<es.length:=by have:=(List.getElem?_eq_some_iff.mp hv).1; simpa using this
  rw[List.getElem?_map,List.getElem?_eq_getElem hi]at hv
  cases hv;obtain⟨e,he,hea⟩:=bw hL.2 (List.getElem?_eq_getElem hi)
  have hok:=ok e (List.mem_of_getElem? he);have ha:=sm _ _ hea;walk_at "rd1";refine⟨"tuple", by simp[di,ha],by decide,aJ (fun c=>absurd c (by decide)) (fun _=>?_)⟩
  refine⟨_,.inr (SqT.of ha),by decide,fun tp htp=>?_⟩
  have st:=al htp (.tup [V.int 3,V.int 4]);have et:upd H' tp (.tup [V.int 3,V.int 4]) tp=some (.tup [V.int 3,V.int 4]):=ah
  generalize upd H' tp (.tup [V.int 3,V.int 4])=H1 at st et ⊢;have sm1:=sm.trans st;refine⟨_,.inr (SqT.of et),rfl,rfl,?_⟩
  cases hok with
  | deed l h u n=>
   have hb:=SqT.of (K:=K) (st _ _ ha);refine aJ (fun c=>absurd c (by simp[iK,fH])) (fun _=>?_)
   walk_at "nx";refine⟨_,_,.inr hb,cw,_,rfl,?_⟩
   walk_at "rd1";refine⟨_,_,.inr hb,jW,_,rfl,?_⟩
   walk_at "rd1";refine⟨_,_,.inr hb,ny [V.int l,V.int h,V.str u] (V.int n),_,rfl,?_⟩
   walk_at "rd1";walk_at "nx";refine⟨_,.inr hb,?_⟩
   walk_at "rd1";refine⟨_,_,.inr hb,Lk,?_⟩
   walk_at "rd1";refine⟨"str", rfl,by decide,aJ (fun c=>absurd c (by decide)) (fun _=>?_)⟩
   exact⟨_,rfl,sm1⟩
  | tie l x y=>
   have hb:=SqT.of (K:=K) (st _ _ ha);refine aJ (fun c=>absurd c (by simp[iK,fH])) (fun _=>?_)
   walk_at "nx";refine⟨_,_,.inr hb,cw,_,rfl,?_⟩
   walk_at "rd1";refine⟨_,_,.inr hb,jW,_,rfl,?_⟩
   walk_at "rd1";refine⟨_,_,.inr hb,ny [V.int l,V.int x] (V.int y),_,rfl,?_⟩
   walk_at "rd1";walk_at "nx";refine⟨_,.inr hb,?_⟩
   walk_at "rd1";refine aJ (fun c=>absurd c (by decide)) (fun _=>?_)
   exact⟨_,rfl,sm1⟩
 ·rintro σ H' ⟨o1,rfl,sm⟩
  walk_at "nx";exact q H' sm
theorem yA{j k:Nat}{x:Str}{ps:List Str}{sp:Sp}(c:aM P w K mg base j x ps sp)(h:j≤k):aM P w K mg base k x ps sp:=by
 obtain⟨f,fd,F,r⟩:=c.ex
 exact⟨f,fd,F.mono h,r⟩
theorem Cb{k:Nat}{x:Str}{ps:List Str}{sp sp':Sp}(c:aM P w K mg base k x ps sp)(h:∀ vs H Q E,sp' vs H Q E→sp vs H Q E):aM P w K mg base k x ps sp':=by
 obtain⟨f,fd,F,r⟩:=c.ex
 exact⟨f,fd,F.imp h,r⟩
def NOt(H:Hp)(p:Addr)(NM:List Str):Prop:=∃ (T:List Stp) (S:Addr→Prop),ProgAt S 10 H p T∧kg 10 T∧(cO 10 T).length≤1000∧((cO 10 T).flatMap cn).length≤5000∧NM=fS ((cO 10 T).flatMap cn)
theorem NOt.mono{H H':Hp}{p:Addr}{NM:List Str}(h:NOt H p NM)(s:Same H H'):NOt H' p NM:=by
 obtain⟨T,S,h1,h2⟩:=h
 exact⟨T,S,h1.mono s,h2⟩
theorem zW{k:Nat}(c:aM P w K mg base k "names_of" ["program"] oy):aM P w K mg base k "names_of" ["program"] (EN NOt):=Cb c fun vs H Q E h=>by
 obtain⟨p,NM,rfl,⟨T,S,h1,h2,h3,h4,rfl⟩,q⟩:=h
 exact⟨p,T,S,rfl,h1,h2,h3,h4,q⟩
theorem yM{f:List Stp→List Stp}{g:List Stp→Nat}(h:∀ b,(f b).length≤g b):∀ s:Stp,(gf f s).length≤aR g s
 | .plain _=>by simp[gf,ef,aR]
 | .lend _ _ b=>by have:=h b; simp[gf,ef,aR]; omega
 | .ite _ b c=>by have:=h b; have:=h c; simp[gf,ef,aR]; omega
 | .whl _ b=>by have:=h b; simp[gf,ef,aR]; omega
theorem mW:∀ (d:Nat) (T:List Stp),(cO d T).length≤ai d T
 | 0,_=>Nat.le_refl _
 | d+1,T=>by
  show (T.flatMap (gf (cO d))).length≤(T.map (aR (ai d))).sum
  induction T with
  | nil=>exact Nat.le_refl _
  | cons s T ih=>
   have:=yM (mW d) s
   rw[List.flatMap_cons,List.length_append,List.map_cons,List.sum_cons]; omega
theorem Fo{g:List Stp→Prop}:∀ {s:Stp},gj g s→(cn s).length≤2
 | .plain ws,h=>by cases (show fZ ws from h) <;> simp[cn] <;> split <;> simp
 | .lend _ _ _,_=>by simp[cn]
 | .ite _ _ _,_=>by simp[cn]
 | .whl _ _,_=>by simp[cn]
theorem wJ{d:Nat}{T:List Stp}(h:kg d T):((cO d T).flatMap cn).length≤2 * ai d T:=by
 have h1:=mW d T;have h2:=rm d h
 have go:∀ X:List Stp,(∀ s∈X,∃ g:List Stp→Prop,gj g s)→(X.flatMap cn).length≤2 * X.length:=fun X=>by
  induction X with
  | nil=>intro _; exact Nat.le_refl _
  | cons s X ih=>
   intro hx
   obtain⟨g,hg⟩:=hx s List.mem_cons_self
   have:=Fo hg
   have:=ih fun u hu=>hx u (List.mem_cons_of_mem _ hu)
   rw[List.flatMap_cons,List.length_append,List.length_cons]; omega
 have:=go _ h2
 omega
theorem Dn{H:Hp}{a b:Addr}{es fs:List Addr}{L:List (List V)}(h1:LogAt H a es L)(h2:LogAt H b fs L)(ok:∀ e∈L,gC e):EqN K H 2 (.ref a) (.ref b) true:=by
 refine EqN.seq (.inl ⟨SqL.of h1.1,SqL.of h2.1⟩) (by rw[List.length_map,List.length_map,ay h1.2,ay h2.2]) (fun i x y e1 e2=>?_)
 rw[List.getElem?_map]at e1 e2
 cases f1:es[i]? with
 | none=>rw[f1]at e1; cases e1
 | some u=>
  cases f2:fs[i]? with
  | none=>rw[f2]at e2; cases e2
  | some v=>
   rw[f1]at e1; rw[f2]at e2; cases e1; cases e2
   obtain⟨e,he,hu⟩:=bw h1.2 f1
   obtain⟨e',he',hv⟩:=bw h2.2 f2
   rw[he]at he'; cases he'
   refine EqN.seqFlat (.inr ⟨SqT.of hu,SqT.of hv⟩) (fun z hz=>?_)
   have:=ok e (List.mem_of_getElem? he)
   cases this <;> simp only[List.mem_cons,List.not_mem_nil,or_false]at hz <;> rcases hz with rfl | rfl | rfl | rfl <;> rfl
end
structure Mo (xs:List Int) (st u:RS):Prop where
 op:u.opened=st.opened
 hd:u.held=st.held
 lg:u.log.map (fun e=>e.take 3)=st.log.map fun e=>e.take 3
 eq:(u.taken=st.taken∧st.taken≤xs.length∧u.last=st.last)∨(xs.length≤u.taken∧st.taken=xs.length)
def Ar(f:List Stp→Prop)(m:Int):Stp→Prop
 | .plain _=>True
 | .lend _ _ b=>f b
 | .ite n b c=>m≤n∧f b∧f c
 | .whl n b=>m≤n∧f b
def lH(m:Int):Nat→List Stp→Prop
 | 0,_=>True
 | d+1,T=>∀ s∈T,Ar (lH m d) m s
section
variable{xs zs:List Int}{st u:RS}{m:Int}
theorem Mo.get(h:Mo xs st u)(k:aK):aH u k=aH st k:=by unfold aH; rw[h.hd]
theorem Mo.hold(h:Mo xs st u)(k:aK)(o:Option Nat):Mo xs (aN k o st) (aN k o u):=⟨h.op,by show cS u.held k _=cS st.held k _; rw[h.hd],h.lg,h.eq⟩
theorem Mo.deed(h:Mo xs st u)(l:Nat)(o:Option Nat)(w:Str):Mo xs (aQ l o w st) (aQ l o w u):=by
 cases o with
 | none=>exact h
 | some n=>exact⟨h.op,h.hd,by show (u.log++_).map _=(st.log++_).map _; rw[List.map_append,List.map_append,h.lg]; rfl,h.eq⟩
theorem Mo.tie(h:Mo xs st u)(l:Nat)(a b:Option Nat):Mo xs (cJ l a b st) (cJ l a b u):=by
 unfold cJ;split
 ·split
  ·exact h
  ·exact⟨h.op,h.hd,by show (u.log++_).map _=(st.log++_).map _; rw[List.map_append,List.map_append,h.lg],h.eq⟩
 ·exact h
theorem Mo.opn(h:Mo xs st u)(l:Nat)(k:aK):Mo xs (dj l k st) (dj l k u):=by
 unfold dj;rw[h.op];exact Mo.hold (Mo.deed (st:={ st with opened:=st.opened+1 }) (u:={ u with opened:=st.opened+1 }) ⟨rfl,h.hd,h.lg,h.eq⟩ l _ _) k _
theorem Mo.plain(h:Mo xs st u)(l:Nat)(ws:List Str):Mo xs (cf l ws st) (cf l ws u):=by
 unfold cf;split
 ·split
  ·exact h.opn l _
  ·exact h.hold _ _
 ·split
  ·rw[h.get]; exact h.deed l _ _
  ·split
   ·rw[h.get]; exact h.hold _ _
   ·rw[h.get,h.get]; exact h.tie l _ _
 ·exact h
theorem Mo.take(h:Mo xs st u)(hz:∀ z∈zs,z≤m){n:Int}(hn:m≤n):(ao (xs++zs) n u).1=(ao xs n st).1∧Mo xs (ao xs n st).2 (ao (xs++zs) n u).2:=by
 have late:xs.length≤u.taken→st.taken=xs.length→(ao (xs++zs) n u).1=(ao xs n st).1∧Mo xs (ao xs n st).2 (ao (xs++zs) n u).2:=fun h1 h2=>by
  rw[ix (n:=n) (show xs.length≤st.taken by omega)]
  unfold ao;rw[List.getElem?_append_right h1]
  cases e:zs[u.taken - xs.length]? with
  | none=>exact⟨rfl,h.op,h.hd,h.lg,.inr ⟨h1,h2⟩⟩
  | some v=>
   have hv:=hz v (List.mem_of_getElem? e);exact⟨decide_eq_false (by omega),h.op,h.hd,h.lg,.inr ⟨by show xs.length≤u.taken+1; omega,h2⟩⟩
 rcases h.eq with ⟨h1,h2,h3⟩ | ⟨h1,h2⟩
 ·by_cases hl:st.taken=xs.length
  ·exact late (by omega) hl
  ·unfold ao
   rw[h1,List.getElem?_append_left (by omega)]
   cases e:xs[st.taken]? with
   | none=>exact absurd (List.getElem?_eq_none_iff.mp e) (by omega)
   | some v=>exact⟨rfl,h.op,h.hd,h.lg,.inl ⟨rfl,by show st.taken+1≤xs.length; omega,rfl⟩⟩
 ·exact late h1 h2
theorem uL{f g:RS→RS}(hz:∀ z∈zs,z≤m){n:Int}(hn:m≤n)(hf:∀ st u,Mo xs st u→Mo xs (f st) (g u))(up:∀ st,st.taken≤(f st).taken):∀ (k j:Nat) (st u:RS),Mo xs st u→xs.length≤st.taken+k→xs.length≤st.taken+j→Mo xs (bO f xs n k st) (bO g (xs++zs) n j u)
 | 0,0,st,u,h,_,_=>h
 | 0,j+1,st,u,h,h1,_=>by
  obtain⟨t1,t2⟩:=h.take hz hn
  rw[ix (n:=n) (show xs.length≤st.taken by omega)]at t1 t2
  unfold bO;rw[if_neg (by rw[t1]; exact Bool.false_ne_true)]
  exact t2
 | k+1,0,st,u,h,_,h1=>by
  unfold bO;rw[ix (n:=n) (show xs.length≤st.taken by omega),if_neg Bool.false_ne_true]
  exact h
 | k+1,j+1,st,u,h,h1,h2=>by
  obtain⟨t1,t2⟩:=h.take hz hn
  show Mo xs (if (ao xs n st).1=true then bO f xs n k (f (ao xs n st).2) else (ao xs n st).2) (if (ao (xs++zs) n u).1=true then bO g (xs++zs) n j (g (ao (xs++zs) n u).2) else (ao (xs++zs) n u).2)
  rw[t1]
  cases hb:(ao xs n st).1 with
  | false=>exact t2
  | true=>
   have:=nw hb
   have:=up (ao xs n st).2
   exact uL hz hn hf up k j _ _ (hf _ _ t2) (by omega) (by omega)
theorem B3(xs:List Int)(d l:Nat)(T:List Stp)(st:RS):st.taken≤(aB xs d l T st).taken:=by
 have c:ClosedR xs (fun s=>st.taken≤s.taken):=⟨fun _ _ _ z=>z,fun l h w s z=>by cases h <;> exact z,fun l a b s z=>by
  unfold cJ; split
  ·split <;> exact z
  ·exact z,fun _ _ _ z=>z,fun n s z=>Nat.le_trans z (kM xs n s)⟩
 exact c.run d l T st (Nat.le_refl _)
theorem jI(hz:∀ z∈zs,z≤m):∀ (d l:Nat) (T:List Stp) (st u:RS),lH m d T→Mo xs st u→Mo xs (aB xs d l T st) (aB (xs++zs) d l T u)
 | 0,_,_,_,_,_,h=>h
 | d+1,l,T,st,u,hl,h=>by
  have step:∀ (s:Stp) (l:Nat) (st u:RS),Ar (lH m d) m s→Mo xs st u→Mo xs (bF (ai d) (aB xs d) xs l s st) (bF (ai d) (aB (xs++zs) d) (xs++zs) l s u):=by
   intro s l st u hs h
   cases s with
   | plain ws=>exact h.plain l ws
   | lend x y b=>
    show Mo xs (aN _ none (aQ _ (aH st _) _ _)) (aN _ none (aQ _ (aH u _) _ (aB _ d _ b (aN _ (aH u _) (aQ l (aH u _) _ u)))))
    rw[h.get];exact((jI hz d _ b _ _ hs ((h.deed l _ _).hold _ _)).deed _ _ _).hold _ _
   | ite n b c=>
    obtain⟨hn,hb,hc⟩:=hs
    obtain⟨t1,t2⟩:=h.take hz hn
    show Mo xs (if (ao xs n st).1=true then _ else _) (if (ao (xs++zs) n u).1=true then _ else _)
    rw[t1]
    cases (ao xs n st).1 with
    | true=>exact jI hz d _ b _ _ hb t2
    | false=>exact jI hz d _ c _ _ hc t2
   | whl n b=>
    obtain⟨hn,hb⟩:=hs
    exact uL hz hn (fun st u k=>jI hz d _ b _ _ hb k) (B3 xs d _ b) _ _ _ _ h (by omega) (by rw[List.length_append]; omega)
  have go:∀ (N:List (Nat × Stp)),(∀ z∈N,Ar (lH m d) m z.2)→∀ st u,Mo xs st u→Mo xs (N.foldl (fun st z=>bF (ai d) (aB xs d) xs z.1 z.2 st) st) (N.foldl (fun st z=>bF (ai d) (aB (xs++zs) d) (xs++zs) z.1 z.2 st) u):=by
   intro N
   induction N with
   | nil=>exact fun _ st u h=>h
   | cons z N ih=>exact fun hN st u h=>ih (fun y hy=>hN y (List.mem_cons_of_mem _ hy)) _ _ (step z.2 z.1 st u (hN z List.mem_cons_self) h)
  refine go _ (fun z hz=>?_) st u h
  have:z.2∈T:=by
   have key:∀ (T:List Stp) (l:Nat),z∈cZ (aR (ai d)) l T→z.2∈T:=by
    intro T
    induction T with
    | nil=>exact fun _ h=>by cases h
    | cons s T ih=>
     intro l h
     rcases List.mem_cons.mp h with rfl | h
     ·exact List.mem_cons_self
     ·exact List.mem_cons_of_mem _ (ih _ h)
   exact key T l hz
  exact hl z.2 this
theorem Dt(hz:∀ z∈zs,z≤m){d:Nat}{T:List Stp}(hl:lH m d T):(dE (xs++zs) d T).log.map (fun e=>e.take 3)=(dE xs d T).log.map fun e=>e.take 3:=by
 have h:=jI (xs:=xs) hz d 0 T rs0 rs0 hl ⟨rfl,rfl,rfl,.inl ⟨rfl,Nat.zero_le _,rfl⟩⟩;unfold dE gQ;rw[List.map_append,List.map_append,h.lg,h.op,List.map_map,List.map_map]
 rfl
end
theorem zZ{n k:Int}(hn:n.natAbs<10 ^ 61)(hk:k.natAbs<10 ^ 61)(h:bG n=bG k):n=k:=by
 have e1:=(jr hn).1;have e2:=(jr hk).1;unfold bG at h;rw[h,e2]at e1
 exact(Option.some.inj e1).symm
theorem kh{m:Int}:∀ (d:Nat) (T:List Stp),dq d T→(∀ ws∈lx d T,∀ n:Int,n.natAbs<10 ^ 61→ws=[("if" : Str),bG n]∨ws=[("while" : Str),bG n]→m≤n)→lH m d T
 | 0,_,_,_=>trivial
 | d+1,T,hf,h=>fun s hs=>by
  have hs':∀ ws∈gL (lx d) s,∀ n:Int,n.natAbs<10 ^ 61→ws=[("if" : Str),bG n]∨ws=[("while" : Str),bG n]→m≤n:=fun ws hw=>h ws (List.mem_flatMap.mpr ⟨s,hs,hw⟩)
  have hf':=hf s hs
  cases s with
  | plain ws=>trivial
  | lend x y b=>exact kh d b hf'.2.2 fun ws hw=>hs' ws (List.mem_cons_of_mem _ (List.mem_append_left _ hw))
  | ite n b c=>exact⟨hs' _ List.mem_cons_self n hf'.1 (.inl rfl),kh d b hf'.2.1 fun ws hw=>hs' ws (List.mem_cons_of_mem _ (List.mem_append_left _ (List.mem_append_left _ hw))),kh d c hf'.2.2 fun ws hw=>hs' ws (List.mem_cons_of_mem _ (List.mem_append_right _ (List.mem_append_left _ hw)))⟩
  | whl n b=>exact⟨hs' _ List.mem_cons_self n hf'.1 (.inr rfl),kh d b hf'.2 fun ws hw=>hs' ws (List.mem_cons_of_mem _ (List.mem_append_left _ hw))⟩
theorem yt{xs:List Int}{d:Nat}{T:List Stp}(x:Str):dE xs (d+1) (T++[.plain ["open", x]])=gQ (ai (d+1) T+1) (dj (ai (d+1) T) (.inr x) (aB xs (d+1) 0 T rs0)):=by
 unfold dE
 have e1:ai (d+1) (T++[.plain ["open", x]])=ai (d+1) T+1:=by
  show ((T++_).map _).sum=_
  rw[List.map_append,List.sum_append]
  rfl
 have e2:aB xs (d+1) 0 (T++[.plain ["open", x]]) rs0=dj (ai (d+1) T) (.inr x) (aB xs (d+1) 0 T rs0):=by
  show (cZ _ 0 (T++_)).foldl _ _=_
  rw[iI,List.foldl_append,Nat.zero_add];exact kQ _ _ _
 rw[e1,e2]
def LnB(N:Nat)(st:RS):Prop:=∀ e∈st.log,∃ (k:Nat) (r:List V),e = .int (k:Int)::r∧k<N
section
variable{N:Nat}{xs:List Int}{st:RS}
theorem LnB.add(h:LnB N st){l:Nat}(hl:l<N)(r:List V):LnB N { st with log:=st.log++[.int (l:Int)::r] }:=fun e he=>by
 rcases List.mem_append.mp he with z | z
 ·exact h e z
 ·rw[List.mem_singleton.mp z]
  exact⟨l,_,rfl,hl⟩
theorem LnB.deed(h:LnB N st){l:Nat}(hl:l<N)(o:Option Nat)(w:Str):LnB N (aQ l o w st):=by
 cases o with
 | none=>exact h
 | some n=>exact h.add hl _
theorem LnB.plain(h:LnB N st){l:Nat}(hl:l<N)(ws:List Str):LnB N (cf l ws st):=by
 unfold cf;split
 ·split
  ·exact LnB.deed (st:={ st with opened:=st.opened+1 }) h hl _ _
  ·exact h
 ·split
  ·exact h.deed hl _ _
  ·split
   ·exact h
   ·unfold cJ
    split
    ·split
     ·exact h
     ·exact h.add hl _
    ·exact h
 ·exact h
theorem LnB.take(h:LnB N st)(n:Int):LnB N (ao xs n st).2:=by unfold ao; split <;> exact h
theorem LnB.loop{f:RS→RS}(hf:∀ st,LnB N st→LnB N (f st))(n:Int):∀ (m:Nat) (st:RS),LnB N st→LnB N (bO f xs n m st)
 | 0,_,h=>h
 | m+1,st,h=>by
  unfold bO;split
  ·exact LnB.loop hf n m _ (hf _ (h.take n))
  ·exact h.take n
theorem LnB.run:∀ (d l:Nat) (T:List Stp) (st:RS),l+ai d T≤N→LnB N st→LnB N (aB xs d l T st)
 | 0,_,_,_,_,h=>h
 | d+1,l,T,st,hN,h=>by
  have step:∀ (s:Stp) (l:Nat) (st:RS),l+aR (ai d) s≤N→LnB N st→LnB N (bF (ai d) (aB xs d) xs l s st):=by
   intro s l st hN h
   cases s with
   | plain ws=>
    have:l+1≤N:=hN
    exact h.plain (by omega) ws
   | lend x y b=>
    have hN':l+(ai d b+2)≤N:=hN
    exact LnB.deed (LnB.run d (l+1) b (aN (.inr y) (aH st (.inr x)) (aQ l (aH st (.inr x)) "lend" st)) (by omega) (h.deed (l:=l) (by omega) _ _)) (l:=l+1+ai d b) (by omega) _ _
   | ite n b c=>
    have hN':l+(ai d b+ai d c+3)≤N:=hN
    show LnB N (if (ao xs n st).1=true then aB xs d (l+1) b (ao xs n st).2 else aB xs d (l+1+ai d b+1) c (ao xs n st).2)
    split
    ·exact LnB.run d _ b _ (by omega) (h.take n)
    ·exact LnB.run d _ c _ (by omega) (h.take n)
   | whl n b=>
    have hN':l+(ai d b+2)≤N:=hN
    exact LnB.loop (fun st h=>LnB.run d (l+1) b st (by omega) h) n _ st h
  have go:∀ (T:List Stp) (l:Nat) (st:RS),l+(T.map (aR (ai d))).sum≤N→LnB N st→LnB N ((cZ (aR (ai d)) l T).foldl (fun st z=>bF (ai d) (aB xs d) xs z.1 z.2 st) st):=by
   intro T
   induction T with
   | nil=>exact fun _ _ _ h=>h
   | cons s T ih=>
    intro l st hN h
    rw[List.map_cons,List.sum_cons]at hN
    exact ih (l+aR (ai d) s) _ (by omega) (step s l st (by omega) h)
  exact go T l st hN h
end
section
variable{P:Program}{w:World}{K:PySem.W.Frag}{mg:Str→Option Value}{base:Heap}
def TupsAt(K:PySem.W.Frag)(H:Hp)(q:Addr)(L:List (List V)):Prop:=∃ bs:List Addr,H q=some (.lst (bs.map V.ref))∧Paired (SqT K H) bs L
theorem TupsAt.mono{H H':Hp}{q:Addr}{L:List (List V)}(h:TupsAt K H q L)(s:Same H H'):TupsAt K H' q L:=let ⟨bs,h1,h2⟩:=h; ⟨bs,s _ _ h1,Paired.imp' (fun _ _ z=>z.same s) h2⟩
theorem nv{H:Hp}{a b:Addr}{L:List (List V)}(h1:TupsAt K H a L)(h2:TupsAt K H b L)(ok:∀ e∈L,∀ v∈e,b7 v=true):EqN K H 2 (.ref a) (.ref b) true:=by
 obtain⟨es,h1,p1⟩:=h1
 obtain⟨fs,h2,p2⟩:=h2
 refine EqN.seq (.inl ⟨SqL.of h1,SqL.of h2⟩) (by rw[List.length_map,List.length_map,ay p1,ay p2]) (fun i x y e1 e2=>?_)
 rw[List.getElem?_map]at e1 e2
 cases f1:es[i]? with
 | none=>rw[f1]at e1; cases e1
 | some u=>
  cases f2:fs[i]? with
  | none=>rw[f2]at e2; cases e2
  | some v=>
   rw[f1]at e1; rw[f2]at e2; cases e1; cases e2
   obtain⟨e,he,hu⟩:=bw p1 f1
   obtain⟨e',he',hv⟩:=bw p2 f2
   rw[he]at he'; cases he'
   exact EqN.seqFlat (.inr ⟨hu,hv⟩) (ok e (List.mem_of_getElem? he))
theorem lC{e:List V}(h:gC e):∀ v∈e,b7 v=true:=by
 intro v hv
 cases h <;> simp only[List.mem_cons,List.not_mem_nil,or_false]at hv <;> rcases hv with rfl | rfl | rfl | rfl <;> rfl
def xR(K:PySem.W.Frag):Sp:=fun vs H Q _=>∃ (fp:Addr) (es:List Addr) (L:List (List V)),vs=[.ref fp]∧LogAt H fp es L∧L.length≤100000∧∀ (q:Addr) (H':Hp),Same H H'→TupsAt K H' q (L.map fun e=>e.take 3)→Q (.ref q) H'
theorem CS(D:DefAt K mg "_law_bare" dI):aM P w K mg base 1 "_law_bare" ["_law_log"] (xR K):=by
 refine D.cal (k:=0) sU (fun _ _ _ _ _ _ us hl=>match us,hl with | [_],_=>rfl) (fun vs H Q E h=>by obtain⟨fp,es,L,rfl,_⟩:=h; rfl) (fun f cdv A outer s H vs Q E hr h=>?_)
 obtain⟨fp,es,L,rfl,⟨l1,l2⟩,hl,q⟩:=h
 have hel:=ay l2;refine⟨_,(ak (aG (fT (CompSc.to (fsc:=(defScope dI)) (N:=["_law_log"]) (N0:=["_law_log"]) (T:=["_law_entry"]) ⟨by decide +kernel,by decide +kernel,by decide +kernel,by decide +kernel,by decide +kernel,by decide +kernel,by decide +kernel⟩ rfl rfl) rfl (cr K (pv 0)) (fun _ _ _ _=>(ba 1 (show (["_law_log", "_law_entry"]:List Str).Nodup from by decide +kernel) (hx:=(iu (defScope dI) (by decide +kernel))) (hf:=km (defScope dI) (by decide +kernel)))) (dy (show (["_law_log"]:List Str).length≤1 from by decide)) (fun _ _ _ _=>hU) (fun _ _ _ _=>(bS (iR K) (pv 1 (hv:=(dz (defScope dI) (by decide +kernel)))) cB (b4 ae)))))),?_⟩
 walk_at "rd1";refine⟨⟨_,SqL.of l1⟩,fun C hC=>?_⟩
 refine gi (xs:=es.map V.ref) (fun j ys H2=>Same H H2∧H2 C=some (.lst ys)∧∃ bs:List Addr,ys=bs.map V.ref∧Paired (SqT K H2) bs ((L.take j).map fun e=>e.take 3)) ⟨al hC _,ah,[],rfl,.nil⟩ (fun j ys H2 _ h=>SqL.of (h.1 _ _ l1)) ?_ ?_
 ·rintro j ys H2 x hx hj ⟨sm,hc,bs,rfl,hb⟩
  have hj':=hj;rw[List.length_map]at hj'
  rw[List.getElem?_map,List.getElem?_eq_getElem hj']at hx
  cases hx;obtain⟨e,he,ha⟩:=bw l2 (List.getElem?_eq_getElem hj')
  have hbl:=ay hb;rw[List.length_map,List.length_take]at hbl
  walk_at "rd1";refine hJ (SqT.of (sm _ _ ha)) (fun p1 H1 s1 hp1=>?_)
  have hp2:SqT K H1 p1 (e.take 3):=by rw[← ja e 3]; exact hp1
  have hc1:=s1 _ _ hc;refine hX hj (by rw[List.length_map]; omega) (by rw[List.length_map]; exact a_ (by omega)) hc1 ⟨(sm.trans s1).upd hC _,ah,bs++[p1],by rw[List.map_append]; rfl,?_⟩
  rw[List.take_succ,he,List.map_append];exact Paired.snoc (hp2.updL hc1) (Paired.imp' (fun _ _ z=>(z.same s1).updL hc1) hb)
 rintro ys H2 ⟨sm,hc,bs,rfl,hb⟩
 rw[List.length_map,hel,List.take_length]at hb
 walk_at "rd1";exact q C H2 sm ⟨bs,hc,hb⟩
end
structure OpI (st:RS):Prop where
 lt:∀ k h,aH st k=some h→h<st.opened
 no:st.opened=0→st.log=[]
section
variable{xs:List Int}{st:RS}
theorem OpI.hold(h:OpI st)(k:aK){o:Option Nat}(ho:∀ n,o=some n→n<st.opened):OpI (aN k o st):=⟨fun j n e=>by
 rw[ft]at e
 by_cases z:j=k
 ·rw[if_pos z]at e; exact ho n e
 ·rw[if_neg z]at e; exact h.lt j n e,h.no⟩
theorem OpI.deed(h:OpI st)(l:Nat){o:Option Nat}(w:Str)(ho:∀ n,o=some n→n<st.opened):OpI (aQ l o w st):=by
 cases o with
 | none=>exact h
 | some n=>exact⟨fun k m e=>h.lt k m e,fun z=>by
  have:=ho n rfl
  have z':st.opened=0:=z
  omega⟩
theorem nN(l:Nat)(o:Option Nat)(w:Str)(st:RS):(aQ l o w st).opened=st.opened:=by cases o <;> rfl
theorem OpI.plain(h:OpI st)(l:Nat)(ws:List Str):OpI (cf l ws st)∧st.opened≤(cf l ws st).opened:=by
 unfold cf;split
 ·split
  ·refine⟨OpI.hold (st:=aQ l (some st.opened) "open" { st with opened:=st.opened+1 }) ⟨fun k m e=>?_,fun z=>by cases z⟩ _ (fun n e=>by cases e; exact Nat.lt_succ_self _),Nat.le_succ _⟩
   exact Nat.lt_succ_of_lt (h.lt k m e)
  ·exact⟨h.hold _ (fun n e=>by cases e),Nat.le_refl _⟩
 ·split
  ·exact⟨h.deed l _ (fun n e=>h.lt _ n e),by rw[nN]; exact Nat.le_refl _⟩
  ·split
   ·exact⟨h.hold _ (fun n e=>h.lt _ n e),Nat.le_refl _⟩
   ·unfold cJ
    split
    ·rename_i e1 e2
     split
     ·exact⟨h,Nat.le_refl _⟩
     ·exact⟨⟨fun k m e=>h.lt k m e,fun z=>by
       have:=h.lt _ _ e1
       have z':st.opened=0:=z
       omega⟩,Nat.le_refl _⟩
    ·exact⟨h,Nat.le_refl _⟩
 ·exact⟨h,Nat.le_refl _⟩
theorem OpI.take(h:OpI st)(n:Int):OpI (ao xs n st).2∧(ao xs n st).2.opened=st.opened:=by
 unfold ao;split
 ·exact⟨h,rfl⟩
 ·exact⟨⟨fun k m e=>h.lt k m e,h.no⟩,rfl⟩
theorem OpI.loop{f:RS→RS}(hf:∀ st,OpI st→OpI (f st)∧st.opened≤(f st).opened)(n:Int):∀ (m:Nat) (st:RS),OpI st→OpI (bO f xs n m st)∧st.opened≤(bO f xs n m st).opened
 | 0,_,h=>⟨h,Nat.le_refl _⟩
 | m+1,st,h=>by
  obtain⟨t1,t2⟩:=h.take (xs:=xs) n
  unfold bO;split
  ·obtain⟨a1,a2⟩:=hf _ t1
   obtain⟨b1,b2⟩:=OpI.loop hf n m _ a1
   exact⟨b1,by omega⟩
  ·exact⟨t1,by omega⟩
theorem OpI.run:∀ (d l:Nat) (T:List Stp) (st:RS),OpI st→OpI (aB xs d l T st)∧st.opened≤(aB xs d l T st).opened
 | 0,_,_,_,h=>⟨h,Nat.le_refl _⟩
 | d+1,l,T,st,h=>by
  have step:∀ (s:Stp) (l:Nat) (st:RS),OpI st→OpI (bF (ai d) (aB xs d) xs l s st)∧st.opened≤(bF (ai d) (aB xs d) xs l s st).opened:=by
   intro s l st h
   cases s with
   | plain ws=>exact h.plain l ws
   | lend x y b=>
    have h1:=h.deed l "lend" (fun n e=>h.lt (.inr x) n e)
    have e1:=nN l (aH st (.inr x)) "lend" st;have h2:=h1.hold (.inr y) (o:=aH st (.inr x)) (fun n e=>by rw[e1]; exact h.lt _ n e)
    obtain⟨h3,l3⟩:=OpI.run d (l+1) b _ h2
    have l3':st.opened≤(aB xs d (l+1) b (aN (.inr y) (aH st (.inr x)) (aQ l (aH st (.inr x)) "lend" st))).opened:=by rw[← e1]; exact l3
    have h4:=h3.deed (l+1+ai d b) "back" (o:=aH st (.inr x)) (fun n e=>Nat.lt_of_lt_of_le (h.lt _ n e) l3')
    refine⟨h4.hold _ (fun n e=>by cases e),?_⟩
    show st.opened≤(aQ _ _ _ _).opened
    rw[nN];exact l3'
   | ite n b c=>
    obtain⟨t1,t2⟩:=h.take (xs:=xs) n
    show OpI (if (ao xs n st).1=true then aB xs d (l+1) b (ao xs n st).2 else aB xs d (l+1+ai d b+1) c (ao xs n st).2)∧st.opened≤(if (ao xs n st).1=true then aB xs d (l+1) b (ao xs n st).2 else aB xs d (l+1+ai d b+1) c (ao xs n st).2).opened
    rw[← t2];split
    ·exact OpI.run d _ b _ t1
    ·exact OpI.run d _ c _ t1
   | whl n b=>exact OpI.loop (fun st h=>OpI.run d (l+1) b st h) n _ st h
  have go:∀ (N:List (Nat × Stp)) (st:RS),OpI st→OpI (N.foldl (fun st z=>bF (ai d) (aB xs d) xs z.1 z.2 st) st)∧st.opened≤(N.foldl (fun st z=>bF (ai d) (aB xs d) xs z.1 z.2 st) st).opened:=by
   intro N
   induction N with
   | nil=>exact fun st h=>⟨h,Nat.le_refl _⟩
   | cons z N ih=>
    intro st h
    obtain⟨a1,a2⟩:=step z.2 z.1 st h
    obtain⟨b1,b2⟩:=ih _ a1
    exact⟨b1,Nat.le_trans a2 b2⟩
  exact go _ st h
theorem CP{d:Nat}{T:List Stp}(h:(aB xs d 0 T rs0).opened=0):(aB xs d 0 T rs0).log=[]:=(OpI.run d 0 T rs0 ⟨fun k n e=>(by cases e),fun _=>rfl⟩).1.no h
end
section
variable{P:Program}{w:World}{K:PySem.W.Frag}{mg:Str→Option Value}{base:Heap}
def gF(l o:Nat)(n:Int):List (List V):=(List.range o).map fun (h:Nat)=>([.int (l:Int),.int (h:Int),.str "end", .int n]:List V)
theorem iA{l o:Nat}{n:Int}:(gF l o n).length=o:=by unfold gF; rw[List.length_map,List.length_range]
theorem yo{l o:Nat}{n:Int}:gF l (o+1) n=gF l o n++[[.int (l:Int),.int (o:Int),.str "end", .int n]]:=by unfold gF; rw[List.range_succ,List.map_append]; rfl
theorem um{l o:Nat}{n:Int}{i:Nat}{e:List V}(h:(gF l o n)[i]? = some e):e=[.int (l:Int),.int (i:Int),.str "end", .int n]:=by
 unfold gF at h;rw[List.getElem?_map]at h
 cases z:(List.range o)[i]? with
 | none=>rw[z]at h; cases h
 | some k=>
  rw[z]at h
  obtain⟨z1,z2⟩:=List.getElem?_eq_some_iff.mp z
  rw[List.getElem_range]at z2
  rw[z2];exact(Option.some.inj h).symm
theorem h9{α β : Type}{R:α→β→Prop}:∀ {xs:List α} (A:List β) {B:List β},Paired R xs (A++B)→Paired R (xs.take A.length) A∧Paired R (xs.drop A.length) B
 | _,[],_,h=>⟨.nil,h⟩
 | _,a::A,_,.cons h r=>by
  obtain⟨h1,h2⟩:=h9 A r
  exact⟨.cons h h1,h2⟩
def jO(K:PySem.W.Frag):Sp:=fun vs H Q _=>∃ (p lp ip du:Addr) (T:List Stp) (xs:List Int) (es:List Addr),vs=[.ref p,.ref lp,.ref ip,.ref du]∧ProgAt (fun _=>True) 10 H p T∧dJ 10 T∧dq 10 T∧ai 10 T≤100∧SqL K H lp ((b5 10 T).map V.str)∧SqL K H ip (xs.map V.int)∧xs.length≤63∧LogAt H du es (dE xs 10 T).log∧(dE xs 10 T).log.length≤100000∧∀ H',Q (.bl true) H'
theorem o_(D:DefAt K mg "_law_step_behind" aq) (z_len:mg "len" = none) (z_range:mg "range" = none) (c_run_plain:aM P w K mg base 25 "run_plain" ["program", "inputs"] (ni K 10)) (c_law_is_log:aM P w K mg base 2 "_law_is_log" ["_law_found"] nJ):aM P w K mg base 26 "_law_step_behind" ["_law_program_here", "_law_lines", "_law_inputs_here", "_law_due"] (jO K):=by
 refine D.cal (k:=25) sc_law_step_behind (fun _ _ _ _ _ _ us hl=>match us,hl with | [_,_,_,_],_=>rfl) (fun vs H Q E h=>by obtain⟨_,_,_,_,_,_,_,rfl,_⟩:=h; rfl) (fun f cdv A outer s H vs Q E hr h=>?_)
 obtain⟨p,lp,ip,du,T,xs,es,rfl,hP,okt,fine,hcnt,hlp,hip,hxl,LD,hdl,q⟩:=h
 have hout:(dE xs 10 T).log=(aB xs 10 0 T rs0).log++gF (ai 10 T) (aB xs 10 0 T rs0).opened (aB xs 10 0 T rs0).last:=rfl
 have hout2:(dE xs 10 (T++[.plain ["open", "zz"]])).log=(aB xs 10 0 T rs0).log++([.int (ai 10 T:Int),.int ((aB xs 10 0 T rs0).opened:Int),.str "open", .int (aB xs 10 0 T rs0).last]::gF (ai 10 T+1) ((aB xs 10 0 T rs0).opened+1) (aB xs 10 0 T rs0).last):=by
  rw[yt];show ((aB xs 10 0 T rs0).log++[_])++_=_
  rw[List.append_assoc]
  rfl
 have hln:=LnB.run (xs:=xs) 10 0 T rs0 (show 0+ai 10 T≤ai 10 T by omega) (fun e he=>by cases he)
 have hno:=CP (xs:=xs) (d:=10) (T:=T);have hlk:∀ e∈(dE xs 10 T).log,gC e:=fun e he=>nc _ _ _ e he
 have hok2:∀ e∈(dE xs 10 (T++[.plain ["open", "zz"]])).log,gC e:=fun e he=>nc _ _ _ e he
 have hzl:=xD xs 10 T;have hll:(b5 10 T).length=ai 10 T:=i0 10 T
 generalize (aB xs 10 0 T rs0)=st at *
 unfold LnB at hln;have hst:st.log.length+st.opened≤100000:=by rw[hout,List.length_append,iA]at hdl; exact hdl
 generalize hN:ai 10 T=N at *
 generalize hL:(dE xs 10 T).log=LL at *
 subst hout;have hel:=ay LD.2;rw[List.length_append,iA]at hel
 refine⟨_,(af (ax 4 sc_law_step_behind.nd (bm (aV K) z_len bL (aa (fT (CompSc.to (fsc:=(defScope aq)) (N:=["_law_program_here", "_law_lines", "_law_inputs_here", "_law_due", "_law_many", "_law_cut", "_law_found", "_law_number", "_law_entry", "_law_ends", "_law_handle"]) (N0:=["_law_program_here", "_law_lines", "_law_inputs_here", "_law_due", "_law_many", "_law_cut", "_law_found", "_law_number", "_law_entry'", "_law_ends", "_law_handle"]) (T:=["_law_entry"]) ⟨by decide +kernel,by decide +kernel,by decide +kernel,by decide +kernel,by decide +kernel,by decide +kernel,by decide +kernel⟩ rfl rfl) rfl (cr K (pv 3)) (fun _ _ _ _=>(ba 11 (show (["_law_program_here", "_law_lines", "_law_inputs_here", "_law_due", "_law_many", "_law_cut", "_law_found", "_law_number", "_law_entry'", "_law_ends", "_law_handle", "_law_entry"]:List Str).Nodup from by decide +kernel) (hx:=(iu (defScope aq) (by decide +kernel))) (hf:=km (defScope aq) (by decide +kernel)))) (dy (show (["_law_program_here", "_law_lines", "_law_inputs_here", "_law_due", "_law_many", "_law_cut", "_law_found", "_law_number", "_law_entry", "_law_ends", "_law_handle"]:List Str).length≤11 from by decide)) (fun _ _ _ _=>(ia (aF bz (av (aI K) (pv 11 (hv:=(dz (defScope aq) (by decide +kernel)))) ae (fun _ _=>rfl)) (bm (aV K) z_len bL (aa (pv 1 (hv:=(dz (defScope aq) (by decide +kernel)))) ac) (hg:=(Bg (defScope aq) (by decide +kernel)))) (aL _)))) (fun _ _ _ _=>(pv 11 (hv:=(dz (defScope aq) (by decide +kernel)))))) ac)))
   (af (ax 5 sc_law_step_behind.nd (ap eJ (bm (aV K) z_len bL (aa (pv 3) ac)) (pv 4)))
   (af (ax 6 sc_law_step_behind.nd (aA c_run_plain hr (aa (ap aC (pv 0) (bA (aa (bB (aa aw (aa aw ac))) ac))) (aa (pv 2) ac))))
   (af (bd (PW.pt' (gS (fm (dC (aA c_law_is_log hr (aa (pv 6) ac)))) (g_ (aF (kB K hr) (bS (dO K) (pv 6) cB (b4 (pv 5))) (bS (dO K) (pv 3) cB (b4 (pv 5))) (aL _))))) (ak (aG fg)) bu)
   (af (ax 7 sc_law_step_behind.nd ae)
   (af (cE PassesOwn.never rfl (cr K (bS (dO K) (pv 3) (b4 (pv 5)) cB)) (ba 8 sc_law_step_behind.nd) (ak (ax 7 sc_law_step_behind.nd (av (aI K) (pv 8) ae (fun _ _=>rfl)))))
   (af (bd (PW.pt' (gh (aF bz (pv 4) ae (aL _)) (gW (aF jx (bm (aV K) z_len bL (aa (pv 6) ac)) ae (aL _))))) (ak (ax 7 sc_law_step_behind.nd (av (aI K) (av (aI K) (pv 6) ae (fun _ _=>rfl)) ae (fun _ _=>rfl)))) bu)
   (af (ax 9 sc_law_step_behind.nd (bA (aa (bB (aa (bm (aV K) z_len bL (aa (pv 1 (hv:=EB)) ac)) (aa (pv 4) (aa aw (aa (pv 7) ac))))) ac)))
   (af (cE PassesOwn.never rfl (gM JP z_range (aa (ap aC (pv 4) ae) ac)) (ba 10 sc_law_step_behind.nd) (ak (aD (bh K PySem.F.plainAttrs_list PySem.F.slot_list_append PySem.F.type_list_append aW (pv 9) (aa (bB (aa (ap aC (bm (aV K) z_len bL (aa (pv 1 (hv:=EB)) ac)) ae) (aa (pv 10) (aa aw (aa (pv 7) ac))))) ac)))))
   (ak (aG (kE (C1 K hr) (bS (dO K) (pv 6) (b4 (pv 5)) cB) (pv 9) (aL _))))))))))))),?_⟩
 walk_at "rd1";refine⟨⟨_,SqL.of LD.1⟩,fun C hC=>?_⟩
 refine gi (xs:=es.map V.ref) (fun j ys H2=>Same H H2∧H2 C=some (.lst ys)∧ys.length=j - st.log.length) ⟨al hC _,ah,by simp⟩ (fun j ys H2 _ h=>SqL.of (h.1 _ _ LD.1)) ?_ ?_
 ·rintro j ys H2 x hx hj ⟨sm,hc,hy⟩
  have hj':=hj;rw[List.length_map]at hj'
  rw[List.getElem?_map,List.getElem?_eq_getElem hj']at hx
  cases hx;obtain⟨e,he,ha⟩:=bw LD.2 (List.getElem?_eq_getElem hj')
  obtain⟨k,r,rfl,k1,k2⟩ : ∃ (k:Nat) (r:List V),e = .int (k:Int)::r∧(j<st.log.length→k<N)∧(¬ j<st.log.length→k=N):=by
   by_cases hjl:j<st.log.length
   ·rw[List.getElem?_append_left hjl]at he
    obtain⟨k,r,e1,e2⟩:=hln e (List.mem_of_getElem? he)
    exact⟨k,r,e1,fun _=>e2,fun z=>absurd hjl z⟩
   ·rw[List.getElem?_append_right (by omega)]at he
    exact⟨N,_,um he,fun z=>absurd z hjl,fun _=>rfl⟩
  walk_at "rd1";refine⟨_,_,.inr (SqT.of (sm _ _ ha)),cw,_,.inl (sm.seq hlp),?_⟩
  rw[List.length_map,hll];walk_at "rd1";refine aJ (fun c=>?_) (fun c=>?_)
  ·have hjl:¬ j<st.log.length:=fun z=>by have:=k1 z; omega
   exact hX hj (by omega) (by rw[List.length_map]; exact a_ (by omega)) hc ⟨sm.upd hC _,ah,by rw[List.length_append]; simp; omega⟩
  ·have hjl:j<st.log.length:=Decidable.byContradiction fun z=>by have:=k2 z; omega
   exact mq hj ⟨sm,hc,by omega⟩
 rintro ys H2 ⟨sm,hc,hy⟩
 rw[List.length_map]at hy
 have hy':ys.length=st.opened:=by omega
 walk_at "rd1";refine⟨_,.inl (SqL.of hc),?_⟩
 rw[hy'];walk_at "nx";refine⟨_,.inl (SqL.of (sm _ _ LD.1)),?_⟩
 rw[List.length_map,hel,show ((st.log.length+st.opened:Nat):Int) - (st.opened:Int)=(st.log.length:Int) by omega]
 walk_at "nx";refine⟨by decide,fun t1 ht1=>?_⟩
 have s3:=al ht1 (.tup [V.str "open", V.str "zz"]);have e3:upd H2 t1 (.tup [V.str "open", V.str "zz"]) t1=some (.tup ((["open", "zz"]:List Str).map V.str)):=ah
 generalize upd H2 t1 (.tup [V.str "open", V.str "zz"])=H3 at s3 e3 ⊢;refine⟨by decide,fun lq hlq=>?_⟩
 have s4:=al hlq (.lst [.ref t1]);have e4:upd H3 lq (.lst [.ref t1]) lq=some (.lst [.ref t1]):=ah
 generalize upd H3 lq (.lst [.ref t1])=H4 at s4 e4 ⊢;have sH4:=(sm.trans s3).trans s4;obtain⟨_,as,pa,pb⟩:=hP.mono sH4
 have hal:=ay pb
 have hTl:T.length≤1000:=by
  have:T.length≤ai 10 T:=by
   have z:∀ (T:List Stp),T.length≤(T.map (aR (ai 9))).sum:=fun T=>by
    induction T with
    | nil=>exact Nat.zero_le _
    | cons s T ih=>
     have:=(ji (f:=ai 9) (l:=0) (s:=s)).2
     rw[List.map_cons,List.sum_cons,List.length_cons];omega
   exact z T
  omega
 refine⟨_,_,pa,e4,a_ (by rw[List.length_map,hal]; simp; omega),fun pp hpp=>?_⟩
 have s5:=al hpp (.lst (as.map V.ref++[.ref t1]));have e5:upd H4 pp (.lst (as.map V.ref++[.ref t1])) pp=some (.lst ((as++[t1]).map V.ref)):=by rw[List.map_append]; exact ah
 generalize upd H4 pp (.lst (as.map V.ref++[.ref t1]))=H5 at s5 e5 ⊢;have sH5:=sH4.trans s5;have pr:ProgAt (fun _=>True) 10 H5 pp (T++[.plain ["open", "zz"]]):=⟨trivial,as++[t1],e5,L2.Paired.snoc (show stpAt (ProgAt (fun _=>True) 9 H5) H5 t1 (.plain ["open", "zz"]) from s5 _ _ (s4 _ _ e3)) (Paired.imp' (fun a s z=>stpAt.imp (fun b xs e=>s5 _ _ e) (fun q b y=>ProgAt.mono y s5) z) pb)⟩
 have okt2:dJ 10 (T++[.plain ["open", "zz"]]):=fun s hs=>by
  rcases List.mem_append.mp hs with z | z
  ·exact okt s z
  ·rw[List.mem_singleton.mp z]
   exact⟨by decide,by decide,by decide,by decide⟩
 have shp2:fG 10 (T++[.plain ["open", "zz"]]):=fun s hs=>by
  rcases List.mem_append.mp hs with z | z
  ·exact jE fine s z
  ·rw[List.mem_singleton.mp z]
   exact .op "zz"
 have cnt2:ai 10 (T++[.plain ["open", "zz"]])≤110:=by
  show ((T++_).map _).sum≤110
  rw[List.map_append,List.sum_append];have:(T.map (aR (ai 9))).sum=N:=hN
  simp only[List.map_cons,List.map_nil,List.sum_cons,List.sum_nil,aR]
  omega
 refine⟨pp,ip,_,_,xs,rfl,pr,okt2,shp2,cnt2,sH5.seq hip,by omega,fun fp H6 fs s6 hfp f1 f2 hfl=>?_⟩
 rw[hout2]at f2 hok2 hfl
 have LF:LogAt H6 fp fs _:=⟨f1,f2⟩
 have hfs:=ay f2;rw[List.length_append,List.length_cons,iA]at hfs
 walk_at "nx";refine⟨fp,fs,_,rfl,LF,hok2,fun H7 s7=>?_⟩
 walk_at "rd1";refine⟨_,SqL.of (s7 _ _ f1),fun q1 hq1=>?_⟩
 rw[ja,← List.map_take];have s8:=al hq1 (.lst ((fs.take st.log.length).map V.ref));have e8:upd H7 q1 (.lst ((fs.take st.log.length).map V.ref)) q1=some (.lst ((fs.take st.log.length).map V.ref)):=ah
 generalize upd H7 q1 (.lst ((fs.take st.log.length).map V.ref))=H8 at s8 e8 ⊢;have sH8:=((sH5.trans s6).trans s7).trans s8;refine⟨_,SqL.of (sH8 _ _ LD.1),fun q2 hq2=>?_⟩
 rw[ja,← List.map_take];have s9:=al hq2 (.lst ((es.take st.log.length).map V.ref));have e9:upd H8 q2 (.lst ((es.take st.log.length).map V.ref)) q2=some (.lst ((es.take st.log.length).map V.ref)):=ah
 generalize upd H8 q2 (.lst ((es.take st.log.length).map V.ref))=H9 at s9 e9 ⊢;have sH9:=sH8.trans s9;have s69:=(s7.trans s8).trans s9;obtain⟨fa,fb⟩:=h9 st.log f2
 obtain⟨da,db⟩:=h9 st.log LD.2
 refine⟨1,true,by decide,nv ⟨_,s9 _ _ e8,Paired.imp' (fun _ _ z=>SqT.of (s69 _ _ z)) fa⟩ ⟨_,e9,Paired.imp' (fun _ _ z=>SqT.of (sH9 _ _ z)) da⟩ (fun e he=>lC (hlk e (List.mem_append_left _ he))),?_⟩
 rw[if_neg (by decide)]
 walk_at "nx";walk_at "nx";refine⟨_,SqL.of (sH9 _ _ LD.1),fun q3 hq3=>?_⟩
 rw[gJ,← List.map_drop];have sA:=al hq3 (.lst ((es.drop st.log.length).map V.ref));have eA:upd H9 q3 (.lst ((es.drop st.log.length).map V.ref)) q3=some (.lst ((es.drop st.log.length).map V.ref)):=ah
 generalize upd H9 q3 (.lst ((es.drop st.log.length).map V.ref))=HA at sA eA ⊢;have sHA:=sH9.trans sA;have s6A:=s69.trans sA;have hdl:=ay db;rw[iA]at hdl
 refine⟨⟨_,SqL.of eA⟩,?_⟩
 refine dh (xs:=(es.drop st.log.length).map V.ref) (fun i σ H'=>∃ o8:Option V,σ=[some (.ref p),some (.ref lp),some (.ref ip),some (.ref du),some (.int (st.opened:Int)),some (.int (st.log.length:Int)),some (.ref fp),some (.int (if i=0 then 0 else st.last)),o8,none,none]∧Same HA H') ⟨none,rfl,fun _ _ z=>z⟩ (fun i σ H' _ h=>by obtain⟨_,_,sm⟩:=h; exact SqL.of (sm _ _ eA)) ?_ ?_
 ·rintro i v σ H' hv ⟨o8,rfl,sm'⟩
  rw[List.getElem?_map]at hv
  cases f0:(es.drop st.log.length)[i]? with
  | none=>rw[f0]at hv; cases hv
  | some u=>
   rw[f0]at hv
   cases hv;obtain⟨e,he,hu⟩:=bw db f0
   have ee:=um he;subst ee;walk_at "rd1";refine⟨_,_,.inr (SqT.of (sm' _ _ (sHA _ _ hu))),Gq,?_⟩
   exact⟨_,by rw[if_neg (by omega)],sm'⟩
 rintro σ H' ⟨o8,rfl,sm'⟩
 rw[List.length_map,hdl];have sHB:=sHA.trans sm';have s6B:=s6A.trans sm'
 dsimp only
 refine Do (fun σ' H''=>H'=H''∧σ'=[some (.ref p),some (.ref lp),some (.ref ip),some (.ref du),some (.int (st.opened:Int)),some (.int (st.log.length:Int)),some (.ref fp),some (.int st.last),o8,none,none]) (fun k hkk=>?_) ?_
 ·walk_at "rd1"
  refine aJ (fun c=>?_) (fun c=>?_)
  ·have c0:st.opened=0:=by omega
   have l0:=hno c0;refine⟨_,.inl (SqL.of (s6B _ _ f1)),?_⟩
   rw[List.length_map,hfs];refine aJ (fun _=>?_) (fun c=>absurd (by omega) c)
   rw[l0,List.nil_append]at f2
   cases fs with
   | nil=>cases f2
   | cons f0 fs=>
    cases f2 with
    | cons h0 _=>
    refine⟨_,_,.inl (SqL.of (s6B _ _ f1)),cw,?_⟩
    walk_at "rd1";exact⟨_,_,.inr (SqT.of (s6B _ _ h0)),Gq,hkk _ _ ⟨rfl,rfl⟩⟩
  ·rw[if_neg (by omega)]
   exact hkk _ _ ⟨rfl,rfl⟩
 rintro σ' H'' ⟨rfl,rfl⟩
 walk_at "nx";refine⟨_,.inl (sHB.seq hlp),by decide,fun u1 hu1=>?_⟩
 rw[List.length_map,hll];have sC:=al hu1 (.tup [V.int (N:Int),V.int (st.opened:Int),V.str "open", V.int st.last]);have eC:upd H' u1 (.tup [V.int (N:Int),V.int (st.opened:Int),V.str "open", V.int st.last]) u1=some (.tup [V.int (N:Int),V.int (st.opened:Int),V.str "open", V.int st.last]):=ah
 generalize upd H' u1 (.tup [V.int (N:Int),V.int (st.opened:Int),V.str "open", V.int st.last])=HC at sC eC ⊢;refine⟨by decide,fun u2 hu2=>?_⟩
 have sD:=al hu2 (.lst [.ref u1]);have eD:upd HC u2 (.lst [.ref u1]) u2=some (.lst ((u1::[]).map V.ref)):=ah
 generalize upd HC u2 (.lst [.ref u1])=HD at sD eD ⊢;have sHC:=sHB.trans sC;have s6C:=s6B.trans sC;walk_at "nx";refine⟨by omega,by omega,?_⟩
 rw[show ((st.opened:Int)+1).toNat=st.opened+1 by omega]
 refine jC (fun i σ H3=>∃ (o10:Option V) (bs:List Addr),σ=[some (.ref p),some (.ref lp),some (.ref ip),some (.ref du),some (.int (st.opened:Int)),some (.int (st.log.length:Int)),some (.ref fp),some (.int st.last),o8,some (.ref u2),o10]∧Same HC H3∧H3 u2=some (.lst ((u1::bs).map V.ref))∧Paired (fun a e=>H3 a=some (.tup e)) bs (gF (N+1) i st.last))
  ⟨none,[],rfl,sD,eD,.nil⟩ ?_ ?_
 ·rintro i σ H3 hi ⟨o10,bs,rfl,sm3,hu,hb⟩
  have hbl:=ay hb;rw[iA]at hbl
  walk_at "rd1";refine⟨⟨_,SqL.of hu⟩,_,.inl ((sHC.trans sm3).seq hlp),?_⟩
  rw[List.length_map,hll];walk_at "rd1";refine⟨by decide,fun u3 hu3=>?_⟩
  rw[Int.zero_add];have sE:=al hu3 (.tup [V.int ((N:Int)+1),V.int (i:Int),V.str "end", V.int st.last]);have eE:upd H3 u3 (.tup [V.int ((N:Int)+1),V.int (i:Int),V.str "end", V.int st.last]) u3=some (.tup [V.int ((N+1:Nat):Int),V.int (i:Int),V.str "end", V.int st.last]):=ah
  generalize upd H3 u3 (.tup [V.int ((N:Int)+1),V.int (i:Int),V.str "end", V.int st.last])=HE at sE eE ⊢;have hu':=sE _ _ hu;refine⟨_,hu',bN (by rw[List.length_map,List.length_cons]; omega),_,bs++[u3],rfl,(sm3.trans sE).upd hu2 _,by rw[ah]; simp,?_⟩
  rw[yo];exact L2.Paired.snoc (by rw[aj (b8 eE hu' (fun z=>nomatch z))]; exact eE) (Paired.imp' (fun a e z=>by rw[aj (b8 (sE _ _ z) hu' (fun z=>nomatch z))]; exact sE _ _ z) hb)
 rintro σ H3 ⟨o10,bs,rfl,sm3,hu,hb⟩
 walk_at "nx";have s6E:=s6C.trans sm3;refine⟨_,SqL.of (s6E _ _ f1),fun q4 hq4=>?_⟩
 rw[gJ,← List.map_drop];have sF:=al hq4 (.lst ((fs.drop st.log.length).map V.ref));have eF:upd H3 q4 (.lst ((fs.drop st.log.length).map V.ref)) q4=some (.lst ((fs.drop st.log.length).map V.ref)):=ah
 generalize upd H3 q4 (.lst ((fs.drop st.log.length).map V.ref))=HF at sF eF ⊢;exact⟨1,true,by decide,nv ⟨_,eF,Paired.imp' (fun _ _ z=>SqT.of (sF _ _ (s6E _ _ z))) fb⟩ ⟨_,sF _ _ hu,.cons (SqT.of (sF _ _ (sm3 _ _ eC))) (Paired.imp' (fun _ _ z=>SqT.of (sF _ _ z)) hb)⟩ (fun e he=>lC (hok2 e (List.mem_append_right _ he))),q _⟩
structure DF (T:List Stp) (NM:List Str):Prop where
 cin:∀ {H:Hp} {p:Addr} {S:Addr→Prop},ProgAt S 10 H p T→qp NOt H p 10 T NM
 go:∀ (t:Bool) (ys:List Int),ys.length≤100→∃ n v,GoC (fM NM 10 t T) ys n rs0 v∧(fM NM 10 t T)[v.pc]? = some [.str "end", iN (ai 10 T)]∧3 * n≤400000∧(gQ (ai 10 T) v).log=(dE ys 10 T).log
theorem Cr{T:List Stp}(hok:dJ 10 T)(fine:dq 10 T)(hcnt:ai 10 T≤100):DF T (fS ((cO 10 T).flatMap cn)):=by
 have okn:=qf fine;have hpc:=mW 10 T;have hnf:=wJ okn
 have hnl:(fS ((cO 10 T).flatMap cn)).length≤1000:=by
  have:=i9 ((cO 10 T).flatMap cn) []
  rw[List.length_nil]at this
  unfold fS;omega
 have hnm:pL (fun n=>n∈fS ((cO 10 T).flatMap cn)) 10 T:=yF 10 _ okn (fun n hn=>CM hn)
 refine⟨fun {H p S} h=>⟨⟨_,h⟩,hok,⟨_,_,h,okn,by omega,by omega,rfl⟩,mw 10 h hok,hnm,by omega,hnl,by decide⟩,fun t ys hy=>?_⟩
 ·obtain⟨n,v,g1,g2,g3,g4⟩:=xv (xA _) (jE fine) hnm t ys
  have:=Nat.mul_le_mul (show 6 * ai 10 T≤600 by omega) (show 1+ys.length≤101 by omega)
  exact⟨n,v,g1,g2,by omega,g4⟩
theorem jj(bt:Nat→Nat→Bool):∀ n,argBest bt n≤n
 | 0=>Nat.le_refl _
 | n+1=>by
  unfold argBest;split
  ·exact Nat.le_refl _
  ·exact Nat.le_succ_of_le (jj bt n)
theorem iM{bt:Nat→Nat→Bool}{N:Nat}(ir:∀ i,i≤N→bt i i=false)(as:∀ i j,i≤N→j≤N→bt i j=true→bt j i=false)(tr:∀ i j k,i≤N→j≤N→k≤N→bt j i=false→bt k j=false→bt k i=false):∀ n i,n≤N→i≤n→bt i (argBest bt n)=false
 | 0,i,_,h=>by rw[Nat.le_zero.mp h]; exact ir 0 (Nat.zero_le _)
 | n+1,i,hN,h=>by
  have hb:=jj bt n;unfold argBest;split
  ·rename_i c
   rcases Nat.lt_or_ge n i with z | z
   ·rw[show i=n+1 by omega]; exact ir _ hN
   ·exact tr _ _ _ hN (by omega) (by omega) (as _ _ hN (by omega) c) (iM ir as tr n i (by omega) z)
  ·rename_i c
   rcases Nat.lt_or_ge n i with z | z
   ·rw[show i=n+1 by omega]; simpa using c
   ·exact iM ir as tr n i (by omega) z
theorem y6{H:Hp}{Q:VK}{p:Addr}{zs:List Int}(h:SqL K H p (zs.map V.int))(hne:zs≠[])(q:∀ m:Int,(∀ z∈zs,m≤z)→Q (.int m) H):Bz K [.ref p] H Q:=by
 have hl:0<zs.length:=List.length_pos_iff.mpr hne
 have gd:∀ {i:Nat} {z:Int},zs[i]? = some z→zs.getD i 0=z:=fun e=>by rw[List.getD_eq_getElem?_getD,e]; rfl
 refine⟨p,_,fun i j=>decide (zs.getD i 0<zs.getD j 0),0,rfl,h,by simpa using hne,by decide,fun i j x y e1 e2=>?_,fun v hv=>?_⟩
 ·rw[List.getElem?_map]at e1 e2
  cases f1:zs[i]? with
  | none=>rw[f1]at e1; cases e1
  | some u=>
   cases f2:zs[j]? with
   | none=>rw[f2]at e2; cases e2
   | some r=>
    rw[f1]at e1; rw[f2]at e2; cases e1; cases e2
    exact .inl ⟨_,_,rfl,rfl,by show decide (zs.getD i 0<zs.getD j 0)=_; rw[gd f1,gd f2]⟩
 ·rw[List.length_map]at hv
  have hk:=jj (fun i j=>decide (zs.getD i 0<zs.getD j 0)) (zs.length - 1)
  have hm:=fun i=>iM (bt:=fun i j=>decide (zs.getD i 0<zs.getD j 0)) (N:=zs.length - 1) (fun i _=>by simp) (fun i j _ _ c=>by simp at c ⊢; omega) (fun i j k _ _ _ c d=>by simp at c d ⊢; omega) (zs.length - 1) i (Nat.le_refl _)
  generalize argBest (fun i j=>decide (zs.getD i 0<zs.getD j 0)) (zs.length - 1)=k at hv hk hm
  have hkl:k<zs.length:=by omega
  rw[List.getElem?_map,List.getElem?_eq_getElem hkl]at hv
  cases hv;refine q _ fun z hz=>?_
  obtain⟨i,hi,rfl⟩:=List.mem_iff_getElem.mp hz
  have:=hm i (by omega)
  rw[decide_eq_false_iff_not,gd (List.getElem?_eq_getElem hi),gd (List.getElem?_eq_getElem hkl)]at this
  omega
theorem Dw{f:Addr}{fd:FuncData}(F:Fun K "law" "law" bi f fd) (z_len:mg "len" = none) (z_min:mg "min" = none) (z_range:mg "range" = none) (z_int:mg "int" = none) (c_law_cell_at:aM P w K mg base 1 "_law_cell_at" ["_law_script", "_law_k"] (qt K)) (c_law_drawn:aM P w K mg base 4 "_law_drawn" ["_law_script"] (uM K)) (c_run_plain:aM P w K mg base 25 "run_plain" ["program", "inputs"] (ni K 10))
  (c_law_is_log:aM P w K mg base 2 "_law_is_log" ["_law_found"] nJ) (c_code_of:aM P w K mg base 35 "code_of" ["program"] (xa NOt 10)) (c_run_code:aM P w K mg base 7 "run_code" ["code", "inputs"] (ye K)) (c_law_bare:aM P w K mg base 1 "_law_bare" ["_law_log"] (xR K)) (c_law_step_behind:aM P w K mg base 26 "_law_step_behind" ["_law_program_here", "_law_lines", "_law_inputs_here", "_law_due"] (jO K)):FnOk P w K mg base iZ 36 f fd ["_law_script"] (pE K):=by
 refine F.ok sc_law (fun vs H Q E h=>by obtain⟨a,ns,rfl,_⟩:=h; rfl) (fun cdv A outer s H vs Q E hr h=>?_)
 obtain⟨a,ns,rfl,hS,hn,q⟩:=h
 refine⟨_,(af (iV (aA c_law_drawn hr (aa (pv 0) ac)) (fW K (n:=3) (cz (ba 1 sc_law.nd) (cz (ba 2 sc_law.nd) (cz (ba 3 sc_law.nd) fU)))))
   (af (mD (CompSc.to (fsc:=(defScope bi)) (N:=["_law_script", "_law_program_here", "_law_lines", "_law_inputs_here", "_law_bounds", "_law_least", "_law_more", "_law_due", "_law_found", "_law_by_code"]) (N0:=["_law_script", "_law_program_here", "_law_lines", "_law_inputs_here", "_law_bounds", "_law_least", "_law_more", "_law_due", "_law_found", "_law_by_code"]) (T:=["_law_line"]) ⟨by decide +kernel,by decide +kernel,by decide +kernel,by decide +kernel,by decide +kernel,by decide +kernel,by decide +kernel⟩ rfl rfl) rfl sc_law.nd (i:=4) rfl Kk (cr K (pv 2)) (fun _ _ _ _=>(ba 10 (show (["_law_script", "_law_program_here", "_law_lines", "_law_inputs_here", "_law_bounds", "_law_least", "_law_more", "_law_due", "_law_found", "_law_by_code", "_law_line"]:List Str).Nodup from by decide +kernel) (hx:=(iu (defScope bi) (by decide +kernel))) (hf:=km (defScope bi) (by decide +kernel)))) (dy (show (["_law_script", "_law_program_here", "_law_lines", "_law_inputs_here", "_law_bounds", "_law_least", "_law_more", "_law_due", "_law_found", "_law_by_code"]:List Str).length≤10 from by decide)) (fun _ _ _ _=>(ia (aF (xn K) (av (aI K) (bh K PySem.F.plainAttrs_str PySem.F.slot_str_split PySem.F.type_str_split jm (pv 10 (hv:=(dz (defScope bi) (by decide +kernel)))) (aa aw ac)) ae (fun _ _=>rfl)) (bA (aa aw (aa aw ac))) (by with_unfolding_all rfl)))) (fun _ _ _ _=>(ga oH z_int j5 (aa (av (aI K) (bh K PySem.F.plainAttrs_str PySem.F.slot_str_split PySem.F.type_str_split jm (pv 10 (hv:=(dz (defScope bi) (by decide +kernel)))) (aa aw ac)) ae (fun _ _=>rfl)) ac) (hg:=(Bg (defScope bi) (by decide +kernel))))))
   (af (ax 5 sc_law.nd (bm (x6 K hr) z_min Fn (aa (ap aC (pv 4) (bA (aa ae ac))) ac)) (hx:=H_))
   (af (mD (CompSc.to (fsc:=(defScope bi)) (N:=["_law_script", "_law_program_here", "_law_lines", "_law_inputs_here", "_law_bounds", "_law_least", "_law_more", "_law_due", "_law_found", "_law_by_code"]) (N0:=["_law_script", "_law_program_here", "_law_lines", "_law_inputs_here", "_law_bounds", "_law_least", "_law_more", "_law_due", "_law_found", "_law_by_code"]) (T:=["_law_k"]) ⟨by decide +kernel,by decide +kernel,by decide +kernel,by decide +kernel,by decide +kernel,by decide +kernel,by decide +kernel⟩ rfl rfl) rfl sc_law.nd (i:=6) rfl LW (gM IZ z_range (aa (ap aC ae (ap bI (aA c_law_cell_at hr (aa (pv 0) (aa ae ac))) ae)) ac)) (fun _ _ _ _=>(ba 10 (show (["_law_script", "_law_program_here", "_law_lines", "_law_inputs_here", "_law_bounds", "_law_least", "_law_more", "_law_due", "_law_found", "_law_by_code", "_law_k"]:List Str).Nodup from by decide +kernel) (hx:=(iu (defScope bi) (by decide +kernel))) (hf:=km (defScope bi) (by decide +kernel)))) (dy (show (["_law_script", "_law_program_here", "_law_lines", "_law_inputs_here", "_law_bounds", "_law_least", "_law_more", "_law_due", "_law_found", "_law_by_code"]:List Str).length≤10 from by decide)) (fun _ _ _ _=>hU) (fun _ _ _ _=>(ap eJ (pv 5 (hv:=(dz (defScope bi) (by decide +kernel)))) (ap bI (pv 10 (hv:=(dz (defScope bi) (by decide +kernel)))) ae))))
   (af (ax 7 sc_law.nd (aA c_run_plain hr (aa (pv 1) (aa (pv 3) ac))))
   (af (ax 8 sc_law.nd (aA c_run_plain hr (aa (pv 1) (aa (ap aC (pv 3) (pv 6)) ac))))
   (af (ax 9 sc_law.nd (aA c_run_code hr (aa (aA c_code_of hr (aa (pv 1) ac)) (aa (ap aC (pv 3) (pv 6)) ac))))
   (af (bd (PW.pt' (gS (fm (dC (aA c_law_is_log hr (aa (pv 7) ac)))) (gS (fm (dC (aA c_law_is_log hr (aa (pv 8) ac)))) (g_ (fm (dC (aA c_law_is_log hr (aa (pv 9) ac)))))))) (ak (aG fg)) bu)
   (af (bd (PW.pt' (gS (aF (kB K hr) (aA c_law_bare hr (aa (pv 8) ac)) (aA c_law_bare hr (aa (pv 7) ac)) (aL _)) (g_ (aF (kB K hr) (pv 9) (pv 8) (aL _))))) (ak (aG fg)) bu)
   (af (bd (PW.pt' (gS (aF bz (bm (aV K) z_len bL (aa (pv 2) ac)) ae (aL _)) (g_ (aF bz (ap bI (ap fV (aA c_law_cell_at hr (aa (pv 0) (aa ae ac))) ae) ae) ae (aL _))))) (ak (aG fg)) bu)
   (ak (aG (aA c_law_step_behind hr (aa (pv 1) (aa (pv 2) (aa (pv 3) (aa (pv 7) ac))))))))))))))))),?_⟩
 walk_at "rd1";refine⟨a,ns,rfl,hS,hn,fun t root lp ip HA xs sA htt D=>?_⟩
 walk_at "rd1";refine⟨t,_,rfl,SqT.of htt,rfl,?_⟩
 walk_at "rd1";have hwl:=vA 10 (fF ns)
 have hcnt:ai 10 (fF ns)≤100:=by
  have:=D.few
  rw[i0]at this
  exact this
 have hshp:=jE D.fine;have hif:=D.ifew;have hlines:=D.lines;rw[hwl]at hlines
 have hsz:=nE D.ok;rw[hwl]at hsz
 have hW:=va D.fine;have hWn:=xK 10 (fF ns);have TO:=Cr D.ok D.fine hcnt;have hok:∀ (ys:List Int),∀ e∈(dE ys 10 (fF ns)).log,gC e:=fun ys=>nc ys 10 (fF ns)
 have hlow:=fun m=>kh (m:=m) 10 (fF ns) D.fine
 generalize fS ((cO 10 (fF ns)).flatMap cn)=NM at TO;have hprog:=D.prog;have hokT:=D.ok;have hip0:=D.inp;have hfine:=D.fine;generalize fF ns=T at *
 generalize hWl:lx 10 T=Wl at *
 walk_at "nx";refine⟨⟨_,SqL.of hlines⟩,fun C hC=>?_⟩
 refine gi (xs:=(Wl.map (Txt.join " ")).map V.str) (fun j ys H2=>Same HA H2∧H2 C=some (.lst ys)∧∃ bs:List Int,ys=bs.map V.int∧bs.length≤j∧∀ i us,i<j→Wl[i]? = some us→us.headD "" = "if" ∨ us.headD "" = "while" → ∃ n∈bs,us[1]? = some (bG n)∧n.natAbs<10 ^ 61) ⟨al hC _,ah,[],rfl,Nat.le_refl _,fun i us h=>by omega⟩ (fun j ys H2 _ h=>SqL.of (h.1 _ _ hlines)) ?_ ?_
 ·rintro j ys H2 x hx hj ⟨sm2,hl2,bs,rfl,hbn,hB⟩
  rw[List.length_map,List.length_map]at hj
  rw[List.getElem?_map,List.getElem?_map,List.getElem?_eq_getElem hj]at hx
  cases hx;have hwj:=List.getElem_mem hj;have hWj:=List.getElem?_eq_getElem hj;generalize Wl[j]=ws at hwj hWj ⊢;have ho:=hW ws hwj;have hl:=hsz _ (List.mem_map.mpr ⟨ws,hwj,rfl⟩);walk_at "rd1";refine⟨by decide,by omega,fun sp hsp=>?_⟩
  rw[ho.split];have s3:=al hsp (.lst (ws.map V.str));have e3:upd H2 sp (.lst (ws.map V.str)) sp=some (.lst (ws.map V.str)):=ah
  generalize upd H2 sp (.lst (ws.map V.str))=H3 at s3 e3 ⊢;obtain⟨w0,wr,rfl⟩:=List.exists_cons_of_ne_nil ho.ne
  refine⟨_,_,.inl (SqL.of e3),cw,by decide,fun lp hlp=>?_⟩
  have s4:=al hlp (.lst [V.str "if", V.str "while"])
  have e4:upd H3 lp (.lst [V.str "if", V.str "while"]) lp=some (.lst [V.str "if", V.str "while"]):=ah
  generalize upd H3 lp (.lst [V.str "if", V.str "while"])=H4 at s4 e4 ⊢
  have s24:=(sm2.trans s3).trans s4;have hl4:H4 C=some (.lst (bs.map V.int)):=s4 _ _ (s3 _ _ hl2)
  refine⟨_,.inl (SqL.of e4),rfl,rfl,aJ (fun c=>?_) (fun c=>?_)⟩
  ·have hwd:w0 = "if" ∨ w0 = "while" := by
    have c':iK (V.str w0) [V.str "if", V.str "while"]=true:=c
    simp[iK,fH]at c'
    rcases c' with z | z
    ·exact .inl z.symm
    ·exact .inr z.symm
   obtain⟨n,hn1,hn2⟩:=ho.num hwd
   rw[List.getElem?_cons_succ]at hn1
   obtain⟨wr0,wr',rfl⟩ : ∃ a r,wr=a::r:=by
    cases wr with
    | nil=>simp at hn1
    | cons a r=>exact⟨a,r,rfl⟩
   have hn1':wr0=bG n:=by simpa using hn1
   subst hn1';obtain⟨nb1,nb2⟩:=jr hn2
   refine⟨by decide,by omega,fun sq hsq=>?_⟩
   have s5:=al hsq (.lst ((w0::bG n::wr').map V.str));have e5:upd H4 sq (.lst ((w0::bG n::wr').map V.str)) sq=some (.lst ((w0::bG n::wr').map V.str)):=ah
   generalize upd H4 sq (.lst ((w0::bG n::wr').map V.str))=H5 at s5 e5 ⊢;refine⟨_,_,.inl (SqL.of e5),jW,?_⟩
   refine⟨bG n,n,rfl,nb1,nb2,?_⟩
   refine hX (by rw[List.length_map,List.length_map]; exact hj) (by rw[List.length_map]; exact hbn) (by rw[List.length_map,List.length_map]; exact a_ (by omega)) (s5 _ _ hl4) ⟨(s24.trans s5).upd hC _,ah,bs++[n],by rw[List.map_append]; rfl,by rw[List.length_append]; simp; omega,fun i us hi e hh=>by
     rcases Nat.lt_or_ge i j with z | z
     ·obtain⟨k,k1,k2⟩:=hB i us z e hh
      exact⟨k,List.mem_append_left _ k1,k2⟩
     ·rw[show i=j by omega,hWj]at e
      cases e;exact⟨n,List.mem_append_right _ (List.mem_singleton.mpr rfl),rfl,hn2⟩⟩
  ·exact mq (by rw[List.length_map,List.length_map]; exact hj) ⟨s24,hl4,bs,rfl,by omega,fun i us hi e hh=>by
    rcases Nat.lt_or_ge i j with z | z
    ·exact hB i us z e hh
    ·rw[show i=j by omega,hWj]at e
     cases e;refine absurd ?_ c
     rcases hh with hh | hh <;> (have hh':w0=_:=hh; rw[hh']; decide)⟩
 rintro ys H2 ⟨sm2,hl2,bs,rfl,hbn,hB⟩
 rw[List.length_map,List.length_map]at hbn hB
 walk_at "nx";refine⟨by decide,fun z0 hz0=>?_⟩
 have s3:=al hz0 (.lst [V.int 0]);have e3:upd H2 z0 (.lst [V.int 0]) z0=some (.lst [V.int 0]):=ah
 generalize upd H2 z0 (.lst [V.int 0])=H3 at s3 e3 ⊢;refine⟨_,_,s3 _ _ hl2,e3,a_ (by rw[List.length_map]; simp; omega),fun z1 hz1=>?_⟩
 have s4:=al hz1 (.lst (bs.map V.int++[V.int 0]));have e4:upd H3 z1 (.lst (bs.map V.int++[V.int 0])) z1=some (.lst ((bs++[0]).map V.int)):=by rw[List.map_append]; exact ah
 generalize upd H3 z1 (.lst (bs.map V.int++[V.int 0]))=H4 at s4 e4 ⊢;refine y6 (SqL.of e4) (by simp) fun m hm=>?_
 have low:lH m 10 T:=hlow m fun ws hw n hn hh=>by
  obtain⟨i,hi,rfl⟩:=List.mem_iff_getElem.mp hw
  have hd:Wl[i].headD "" = "if" ∨ Wl[i].headD "" = "while" := by
   rcases hh with hh | hh
   ·exact .inl (by rw[hh]; rfl)
   ·exact .inr (by rw[hh]; rfl)
  obtain⟨k,k1,k2,k3⟩:=hB i _ hi (List.getElem?_eq_getElem hi) hd
  have k4:bG k=bG n:=by
   rcases hh with hh | hh
   ·rw[hh]at k2; exact(Option.some.inj k2).symm
   ·rw[hh]at k2; exact(Option.some.inj k2).symm
  rw[← zZ k3 hn k4];exact hm k (List.mem_append_left _ k1)
 have sA4:=(sm2.trans s3).trans s4;have sH4:=sA.trans sA4;walk_at "nx";refine⟨a,ns,0,rfl,sH4.seq hS,by decide,?_⟩
 walk_at "rd1";have hc5:0≤ns.getD (Int.toNat 0) 0 % 5:=Int.emod_nonneg _ (by decide)
 have hc6:ns.getD (Int.toNat 0) 0 % 5<5:=Int.emod_lt_of_pos _ (by decide)
 generalize ns.getD (Int.toNat 0) 0 % 5=c5 at hc5 hc6 ⊢;refine⟨by decide,?_⟩
 refine⟨by omega,by omega,fun D5 hD5=>?_⟩
 refine sX (fun j ys H'=>Same H4 H'∧H' D5=some (.lst ys)∧∃ zs:List Int,ys=zs.map V.int∧zs.length=j∧∀ z∈zs,z≤m) ⟨al hD5 _,ah,[],rfl,rfl,fun z hz=>by cases hz⟩ ?_ ?_
 ·rintro j ys H' hj ⟨sm,hl,zs,rfl,hz1,hz2⟩
  walk_at "rd1";refine⟨by decide,?_⟩
  refine hX hj (by rw[List.length_map]; omega) (a_ (by omega)) hl ⟨sm.upd hD5 _,ah,zs++[m - (0+(j:Int)) % 2],by rw[List.map_append]; rfl,by rw[List.length_append,hz1]; rfl,fun z hz=>?_⟩
  rcases List.mem_append.mp hz with y | y
  ·exact hz2 z y
  ·rw[List.mem_singleton.mp y]
   have:=Int.emod_nonneg (0+(j:Int)) (show (2:Int)≠0 by decide)
   omega
 rintro ys H5 ⟨s5,e5,zs,rfl,hzl,hzm⟩
 have hzl':zs.length≤5:=by omega
 have sA5:=sA4.trans s5;walk_at "nx";refine⟨root,ip,T,_,xs,rfl,hprog.mono sA5,hokT,hshp,by omega,SqL.of (sA5 _ _ hip0),by omega,fun du H6 es1 s6 hdu l1 m1 hll=>?_⟩
 have LD:LogAt H6 du es1 (dE xs 10 T).log:=⟨l1,m1⟩
 have sA6:=sA5.trans s6;walk_at "nx";refine⟨_,_,sA6 _ _ hip0,s6 _ _ e5,a_ (by rw[List.length_map,List.length_map]; omega),fun i1 hi1=>?_⟩
 have s7:=al hi1 (.lst (xs.map V.int++zs.map V.int));have e7:upd H6 i1 (.lst (xs.map V.int++zs.map V.int)) i1=some (.lst ((xs++zs).map V.int)):=by rw[List.map_append]; exact ah
 generalize upd H6 i1 (.lst (xs.map V.int++zs.map V.int))=H7 at s7 e7 ⊢;have sA7:=sA6.trans s7;have hxz:(xs++zs).length≤100:=by rw[List.length_append]; omega
 refine⟨root,i1,T,_,xs++zs,rfl,hprog.mono sA7,hokT,hshp,by omega,SqL.of e7,hxz,fun fo H8 es2 s8 hfo l2 m2 hll2=>?_⟩
 have LF:LogAt H8 fo es2 (dE (xs++zs) 10 T).log:=⟨l2,m2⟩
 have sA8:=sA7.trans s8;walk_at "nx";refine⟨root,_,_,rfl,TO.cin (hprog.mono sA8),fun cq H9 s9 hcq hC9=>?_⟩
 have sA9:=sA8.trans s9;refine⟨_,_,sA9 _ _ hip0,(((s6.trans s7).trans s8).trans s9) _ _ e5,a_ (by rw[List.length_map,List.length_map]; omega),fun i2 hi2=>?_⟩
 have sB:=al hi2 (.lst (xs.map V.int++zs.map V.int));have eB:upd H9 i2 (.lst (xs.map V.int++zs.map V.int)) i2=some (.lst ((xs++zs).map V.int)):=by rw[List.map_append]; exact ah
 generalize upd H9 i2 (.lst (xs.map V.int++zs.map V.int))=HB at sB eB ⊢;obtain⟨n1,v1,g1,g2,g3,g4⟩:=TO.go false (xs++zs) hxz
 refine⟨cq,i2,_,xs++zs,v1,n1,_,rfl,hC9.mono sB,g1,g2,g3,SqL.of eB,hxz,fun bc HC es3 sC hbc l3 m3=>?_⟩
 rw[g4]at m3
 have LB:LogAt HC bc es3 (dE (xs++zs) 10 T).log:=⟨l3,m3⟩
 have s8C:=(s9.trans sB).trans sC;have s6C:=(s7.trans s8).trans s8C;have LD':=LD.mono s6C;have LF':=LF.mono s8C;walk_at "nx";refine⟨du,es1,_,rfl,LD',hok xs,fun HD sD=>⟨true,rfl,?_⟩⟩
 rw[if_neg (by decide)]
 refine⟨fo,es2,_,rfl,LF'.mono sD,hok (xs++zs),fun HE sE=>⟨true,rfl,?_⟩⟩
 rw[if_neg (by decide)]
 refine⟨bc,es3,_,rfl,(LB.mono sD).mono sE,hok (xs++zs),fun HF sF=>⟨true,rfl,?_⟩⟩
 rw[if_neg (by decide)]
 have sCF:=(sD.trans sE).trans sF;have LDF:=LD'.mono sCF;have LFF:=LF'.mono sCF;have LBF:=LB.mono sCF;walk_at "nx";refine⟨fo,es2,_,rfl,LFF,hll2,fun b1 HG sG tb1=>?_⟩
 refine⟨du,es1,_,rfl,LDF.mono sG,hll,fun b2 HH sHH tb2=>?_⟩
 rw[Dt hzm low]at tb1
 walk_at "rd1"
 refine⟨1,true,by decide,nv (tb1.mono sHH) tb2 (fun e he v hv=>by
  obtain⟨e',he',rfl⟩:=List.mem_map.mp he
  exact lC (hok xs e' he') v (List.mem_of_mem_take hv)),?_⟩
 rw[if_neg (by decide)]
 have sFH:=sG.trans sHH;refine⟨1,true,by decide,Dn (LBF.mono sFH) (LFF.mono sFH) (hok (xs++zs)),?_⟩
 rw[if_neg (by decide)]
 walk_at "nx";have sAH:=((sA8.trans s8C).trans sCF).trans sFH;have hlH:=sAH _ _ hlines;refine⟨_,.inl (SqL.of hlH),aJ (fun _=>q _) (fun _=>?_)⟩
 refine⟨a,ns,0,rfl,(sA.trans sAH).seq hS,by decide,?_⟩
 walk_at "rd1";refine⟨⟨by decide,by decide⟩,by decide,aJ (fun _=>q _) (fun _=>?_)⟩
 walk_at "nx";exact⟨root,lp,ip,du,T,xs,es1,rfl,hprog.mono sAH,hokT,hfine,hcnt,by rw[hwl]; exact SqL.of hlH,SqL.of (sAH _ _ hip0),hif,LDF.mono sFH,hll,q⟩
end
theorem AJ{K:PySem.W.Frag}{a0 a1 a2 a3 a4 a5 a6 a7:Addr}(q0:∀ H:Hp,SqT K H a0 [.str "name"]) (q1:∀ H:Hp,SqT K H a1 [.str "word", .str "name"]) (q2:∀ H:Hp,SqT K H a2 [.str "name", .str "name"]) (q3:∀ H:Hp,SqT K H a3 [.str "name"]) (q4:∀ H:Hp,SqT K H a4 [.str "name", .str "name"]) (q5:∀ H:Hp,SqT K H a5 [.str "name", .str "name", .str "steps"]) (q6:∀ H:Hp,SqT K H a6 [.str "bound", .str "steps", .str "steps"]) (q7:∀ H:Hp,SqT K H a7 [.str "bound", .str "steps"]) :
  ∀ kind ks,(kind,ks)∈eK→∃ a,bY [(("open" : Str),V.ref a0),(("do" : Str),V.ref a1),(("copy" : Str),V.ref a2),(("drop" : Str),V.ref a3),(("tie" : Str),V.ref a4),(("lend" : Str),V.ref a5),(("if" : Str),V.ref a6),(("while" : Str),V.ref a7)] kind=some (.ref a)∧∀ H:Hp,SqT K H a (ks.map V.str):=by
 intro kind ks h
 simp only[eK,List.mem_cons,Prod.mk.injEq,List.mem_nil_iff,or_false]at h
 rcases h with ⟨rfl,rfl⟩ | ⟨rfl,rfl⟩ | ⟨rfl,rfl⟩ | ⟨rfl,rfl⟩ | ⟨rfl,rfl⟩ | ⟨rfl,rfl⟩ | ⟨rfl,rfl⟩ | ⟨rfl,rfl⟩
 ·exact⟨a0,rfl,q0⟩
 ·exact⟨a1,rfl,q1⟩
 ·exact⟨a2,rfl,q2⟩
 ·exact⟨a3,rfl,q3⟩
 ·exact⟨a4,rfl,q4⟩
 ·exact⟨a5,rfl,q5⟩
 ·exact⟨a6,rfl,q6⟩
 ·exact⟨a7,rfl,q7⟩
def cy(K:PySem.W.Frag)(x:Str)(st:Stmt):Prop:=∃ (f:Addr) (od an:Option Addr) (sl:Array (Option Value)) (oc kV dc pm cd ct:Value),PySem.W.nsIn K mainGlobals x=some (some (.ref f))∧K.lookup f=some ⟨oc,od,.func (PySem.W.fnOf x x (defArgs st) (defBody st) (defScope st) .none kV dc pm an cd ct),sl⟩∧PySem.W.codeIn K cd x=true∧PySem.W.keepIn K (.ref f)=true
theorem dfe_mk{K:PySem.W.Frag}{x:Str}{st:Stmt}{f:Addr}{od an:Option Addr}{sl:Array (Option Value)}{oc kV dc pm cd ct:Value}(a:PySem.W.nsIn K mainGlobals x=some (some (.ref f)))(l:K.lookup f=some ⟨oc,od,.func (PySem.W.fnOf x x (defArgs st) (defBody st) (defScope st) .none kV dc pm an cd ct),sl⟩)(c:PySem.W.codeIn K cd x=true)(k:PySem.W.keepIn K (.ref f)=true):cy K x st:=⟨f,od,an,sl,oc,kV,dc,pm,cd,ct,a,l,c,k⟩
theorem aZ{K:PySem.W.Frag}{h:Heap}{mg:Str→Option Value}{x:Str}{st:Stmt}(X:K.In h)(G:h.Ns mainGlobals mg)(e:cy K x st):DefAt K mg x st:=by
 obtain⟨f,od,an,sl,oc,kV,dc,pm,cd,ct,a,l,c,k⟩:=e
 exact⟨f,_,eI (st:=st) l c k,PySem.W.mg_of X G a⟩
theorem all_mk{l:PySem.W.OpenLaw}{w:World}{K:PySem.W.Frag}{h:Heap}{mg:Str→Option Value}{fa:Addr}(X:K.In h)(G:h.Ns mainGlobals mg)(hfa:mg "law" = some (.ref fa))
  {C_NumberedStep:Addr} {fNumberedStep___init__:Addr} {odNumberedStep___init__ anNumberedStep___init__:Option Addr} {slNumberedStep___init__:Array (Option Value)} {ocNumberedStep___init__ kVNumberedStep___init__ dcNumberedStep___init__ pmNumberedStep___init__ cdNumberedStep___init__ ctNumberedStep___init__:Value} {C_Run:Addr} {fRun___init__:Addr} {odRun___init__ anRun___init__:Option Addr} {slRun___init__:Array (Option Value)} {ocRun___init__ kVRun___init__ dcRun___init__ pmRun___init__ cdRun___init__ ctRun___init__:Value} {fRun_come_to:Addr} {odRun_come_to anRun_come_to:Option Addr} {slRun_come_to:Array (Option Value)} {ocRun_come_to kVRun_come_to dcRun_come_to pmRun_come_to cdRun_come_to ctRun_come_to:Value} {fRun_takes_more:Addr} {odRun_takes_more anRun_takes_more:Option Addr} {slRun_takes_more:Array (Option Value)} {ocRun_takes_more kVRun_takes_more dcRun_takes_more pmRun_takes_more cdRun_takes_more ctRun_takes_more:Value} {fRun_handle_of:Addr} {odRun_handle_of anRun_handle_of:Option Addr} {slRun_handle_of:Array (Option Value)} {ocRun_handle_of kVRun_handle_of dcRun_handle_of pmRun_handle_of cdRun_handle_of ctRun_handle_of:Value} {fRun_hold:Addr} {odRun_hold anRun_hold:Option Addr} {slRun_hold:Array (Option Value)} {ocRun_hold kVRun_hold dcRun_hold pmRun_hold cdRun_hold ctRun_hold:Value} {fRun_deed:Addr} {odRun_deed anRun_deed:Option Addr} {slRun_deed:Array (Option Value)} {ocRun_deed kVRun_deed dcRun_deed pmRun_deed cdRun_deed ctRun_deed:Value} {fRun_new_handle:Addr} {odRun_new_handle anRun_new_handle:Option Addr} {slRun_new_handle:Array (Option Value)} {ocRun_new_handle kVRun_new_handle dcRun_new_handle pmRun_new_handle cdRun_new_handle ctRun_new_handle:Value} {fRun_tie:Addr} {odRun_tie anRun_tie:Option Addr} {slRun_tie:Array (Option Value)} {ocRun_tie kVRun_tie dcRun_tie pmRun_tie cdRun_tie ctRun_tie:Value} {fRun_end_all:Addr} {odRun_end_all anRun_end_all:Option Addr} {slRun_end_all:Array (Option Value)} {ocRun_end_all kVRun_end_all dcRun_end_all pmRun_end_all cdRun_end_all ctRun_end_all:Value} {d_PARTS:Addr} {n_PARTS:Nat} {k_PARTS_0:Tok} {a_PARTS_0:Addr} {od_PARTS_0:Option Addr} {m_PARTS_0:Nat} {sl_PARTS_0:Array (Option Value)} {k_PARTS_0_0:Tok} {k_PARTS_1:Tok} {a_PARTS_1:Addr} {od_PARTS_1:Option Addr} {m_PARTS_1:Nat} {sl_PARTS_1:Array (Option Value)} {k_PARTS_1_0:Tok} {k_PARTS_1_1:Tok} {k_PARTS_2:Tok} {a_PARTS_2:Addr} {od_PARTS_2:Option Addr} {m_PARTS_2:Nat} {sl_PARTS_2:Array (Option Value)} {k_PARTS_2_0:Tok} {k_PARTS_2_1:Tok} {k_PARTS_3:Tok} {a_PARTS_3:Addr} {od_PARTS_3:Option Addr} {m_PARTS_3:Nat} {sl_PARTS_3:Array (Option Value)} {k_PARTS_3_0:Tok} {k_PARTS_4:Tok} {a_PARTS_4:Addr} {od_PARTS_4:Option Addr} {m_PARTS_4:Nat} {sl_PARTS_4:Array (Option Value)} {k_PARTS_4_0:Tok} {k_PARTS_4_1:Tok} {k_PARTS_5:Tok} {a_PARTS_5:Addr} {od_PARTS_5:Option Addr} {m_PARTS_5:Nat} {sl_PARTS_5:Array (Option Value)} {k_PARTS_5_0:Tok} {k_PARTS_5_1:Tok} {k_PARTS_5_2:Tok} {k_PARTS_6:Tok} {a_PARTS_6:Addr} {od_PARTS_6:Option Addr} {m_PARTS_6:Nat} {sl_PARTS_6:Array (Option Value)} {k_PARTS_6_0:Tok} {k_PARTS_6_1:Tok} {k_PARTS_6_2:Tok} {k_PARTS_7:Tok} {a_PARTS_7:Addr} {od_PARTS_7:Option Addr} {m_PARTS_7:Nat} {sl_PARTS_7:Array (Option Value)} {k_PARTS_7_0:Tok} {k_PARTS_7_1:Tok} {d_CLOSERS:Addr} {n_CLOSERS:Nat} {k_CLOSERS_0:Tok} {a_CLOSERS_0:Addr} {od_CLOSERS_0:Option Addr} {m_CLOSERS_0:Nat} {sl_CLOSERS_0:Array (Option Value)} {k_CLOSERS_0_0:Tok} {k_CLOSERS_1:Tok} {a_CLOSERS_1:Addr} {od_CLOSERS_1:Option Addr} {m_CLOSERS_1:Nat} {sl_CLOSERS_1:Array (Option Value)} {k_CLOSERS_1_0:Tok} {k_CLOSERS_1_1:Tok} {k_CLOSERS_2:Tok} {a_CLOSERS_2:Addr} {od_CLOSERS_2:Option Addr} {m_CLOSERS_2:Nat} {sl_CLOSERS_2:Array (Option Value)} {k_CLOSERS_2_0:Tok}
  (a0:cy K "closers_of" fv)
  (a1:cy K "head_of" fR)
  (a2:cy K "blocks_of" eU)
  (a3:cy K "steps_within" bP)
  (a4:cy K "names_in" b9)
  (a5:cy K "lines_of" bo)
  (a6:cy K "names_of" fC)
  (a7:cy K "line_behind" dH)
  (a8:cy K "numbered_step" aU)
  (a9:cy K "numbered_steps" bK)
  (a10:cy K "all_begin_tie" fk)
  (a11:cy K "broken_or_gone_on" cu)
  (a12:cy K "do_simple" c_)
  (a13:cy K "do_lend" d0)
  (a14:cy K "do_if" gU)
  (a15:cy K "do_while" fD)
  (a16:cy K "do_steps" cP)
  (a17:cy K "run_plain" cm)
  (a18:cy K "lend_lines" bZ)
  (a19:cy K "slots_of" cD)
  (a20:cy K "simple_row" bQ)
  (a21:cy K "lend_rows" aY)
  (a22:cy K "if_rows" bM)
  (a23:cy K "loop_rows" cj)
  (a24:cy K "while_rows" bv)
  (a25:cy K "rows_of" bV)
  (a26:cy K "rows_and_end" b6)
  (a27:cy K "code_of" gK)
  (a28:cy K "do_row" fN)
  (a29:cy K "row_behind" dX)
  (a30:cy K "log_of" gu)
  (a31:cy K "run_code" ej)
  (a32:cy K "_law_cell_at" dG)
  (a33:cy K "_law_names" aO)
  (a34:cy K "_law_bound" eY)
  (a35:cy K "_law_step" cL)
  (a36:cy K "_law_begun" bH)
  (a37:cy K "_law_program" ar)
  (a38:cy K "_law_inputs" br)
  (a39:cy K "_law_drawn" bC)
  (a40:cy K "_law_whole" dQ)
  (a41:cy K "_law_is_log" b_)
  (a42:cy K "_law_bare" dI)
  (a43:cy K "_law_step_behind" aq)
  (a44:cy K "law" bi)
  (y_isinstance:PySem.W.nsIn K mainGlobals "isinstance" = some none)
  (y_str:PySem.W.nsIn K mainGlobals "str" = some none)
  (y_int:PySem.W.nsIn K mainGlobals "int" = some none)
  (y_bool:PySem.W.nsIn K mainGlobals "bool" = some none)
  (y_tuple:PySem.W.nsIn K mainGlobals "tuple" = some none)
  (y_len:PySem.W.nsIn K mainGlobals "len" = some none)
  (y_range:PySem.W.nsIn K mainGlobals "range" = some none)
  (y_list:PySem.W.nsIn K mainGlobals "list" = some none)
  (y_max:PySem.W.nsIn K mainGlobals "max" = some none)
  (y_reversed:PySem.W.nsIn K mainGlobals "reversed" = some none)
  (y_zip:PySem.W.nsIn K mainGlobals "zip" = some none)
  (y_enumerate:PySem.W.nsIn K mainGlobals "enumerate" = some none)
  (y_min:PySem.W.nsIn K mainGlobals "min" = some none)
  (n_NumberedStep:PySem.W.nsIn K mainGlobals "NumberedStep" = some (some (.ref C_NumberedStep))) (pg_NumberedStep:PySem.W.plainGet K C_NumberedStep Str.empty=true) (hd_NumberedStep:PySem.W.hasDictIn K C_NumberedStep=true) (po_NumberedStep:PySem.W.plainOver K C_NumberedStep=true) (sa_NumberedStep:PySem.W.findIn K (.ref C_NumberedStep) "__setattr__" = some (some (.builtin "object.__setattr__"))) (mk_NumberedStep:PySem.W.makesIn K C_NumberedStep=true) (kc_NumberedStep:PySem.W.keepIn K (.ref C_NumberedStep)=true)
  (nf_kind:PySem.W.findIn K (.ref C_NumberedStep) "kind" = some none)
  (nf_parts:PySem.W.findIn K (.ref C_NumberedStep) "parts" = some none)
  (nf_lines:PySem.W.findIn K (.ref C_NumberedStep) "lines" = some none)
  (nf_blocks:PySem.W.findIn K (.ref C_NumberedStep) "blocks" = some none)
  (aNumberedStep___init__:PySem.W.findIn K (.ref C_NumberedStep) "__init__" = some (some (.ref fNumberedStep___init__))) (iNumberedStep___init__:PySem.W.isFn K (.ref fNumberedStep___init__)=true) (lNumberedStep___init__:K.lookup fNumberedStep___init__=some ⟨ocNumberedStep___init__,odNumberedStep___init__,.func (PySem.W.fnOf "__init__" "NumberedStep.__init__" (defArgs aX) (defBody aX) (defScope aX) .none kVNumberedStep___init__ dcNumberedStep___init__ pmNumberedStep___init__ anNumberedStep___init__ cdNumberedStep___init__ ctNumberedStep___init__),slNumberedStep___init__⟩) (cNumberedStep___init__:PySem.W.codeIn K cdNumberedStep___init__ "NumberedStep.__init__" = true) (kNumberedStep___init__:PySem.W.keepIn K (.ref fNumberedStep___init__)=true)
  (n_Run:PySem.W.nsIn K mainGlobals "Run" = some (some (.ref C_Run))) (pg_Run:PySem.W.plainGet K C_Run Str.empty=true) (hd_Run:PySem.W.hasDictIn K C_Run=true) (po_Run:PySem.W.plainOver K C_Run=true) (sa_Run:PySem.W.findIn K (.ref C_Run) "__setattr__" = some (some (.builtin "object.__setattr__"))) (mk_Run:PySem.W.makesIn K C_Run=true) (kc_Run:PySem.W.keepIn K (.ref C_Run)=true)
  (nf_inputs:PySem.W.findIn K (.ref C_Run) "inputs" = some none)
  (nf_watches:PySem.W.findIn K (.ref C_Run) "watches" = some none)
  (nf_at:PySem.W.findIn K (.ref C_Run) "at" = some none)
  (nf_taken:PySem.W.findIn K (.ref C_Run) "taken" = some none)
  (nf_last:PySem.W.findIn K (.ref C_Run) "last" = some none)
  (nf_opened:PySem.W.findIn K (.ref C_Run) "opened" = some none)
  (nf_held:PySem.W.findIn K (.ref C_Run) "held" = some none)
  (nf_log:PySem.W.findIn K (.ref C_Run) "log" = some none)
  (aRun___init__:PySem.W.findIn K (.ref C_Run) "__init__" = some (some (.ref fRun___init__))) (iRun___init__:PySem.W.isFn K (.ref fRun___init__)=true) (lRun___init__:K.lookup fRun___init__=some ⟨ocRun___init__,odRun___init__,.func (PySem.W.fnOf "__init__" "Run.__init__" (defArgs ck) (defBody ck) (defScope ck) .none kVRun___init__ dcRun___init__ pmRun___init__ anRun___init__ cdRun___init__ ctRun___init__),slRun___init__⟩) (cRun___init__:PySem.W.codeIn K cdRun___init__ "Run.__init__" = true) (kRun___init__:PySem.W.keepIn K (.ref fRun___init__)=true)
  (aRun_come_to:PySem.W.findIn K (.ref C_Run) "come_to" = some (some (.ref fRun_come_to))) (iRun_come_to:PySem.W.isFn K (.ref fRun_come_to)=true) (lRun_come_to:K.lookup fRun_come_to=some ⟨ocRun_come_to,odRun_come_to,.func (PySem.W.fnOf "come_to" "Run.come_to" (defArgs cK) (defBody cK) (defScope cK) .none kVRun_come_to dcRun_come_to pmRun_come_to anRun_come_to cdRun_come_to ctRun_come_to),slRun_come_to⟩) (cRun_come_to:PySem.W.codeIn K cdRun_come_to "Run.come_to" = true) (kRun_come_to:PySem.W.keepIn K (.ref fRun_come_to)=true)
  (aRun_takes_more:PySem.W.findIn K (.ref C_Run) "takes_more" = some (some (.ref fRun_takes_more))) (iRun_takes_more:PySem.W.isFn K (.ref fRun_takes_more)=true) (lRun_takes_more:K.lookup fRun_takes_more=some ⟨ocRun_takes_more,odRun_takes_more,.func (PySem.W.fnOf "takes_more" "Run.takes_more" (defArgs bT) (defBody bT) (defScope bT) .none kVRun_takes_more dcRun_takes_more pmRun_takes_more anRun_takes_more cdRun_takes_more ctRun_takes_more),slRun_takes_more⟩) (cRun_takes_more:PySem.W.codeIn K cdRun_takes_more "Run.takes_more" = true) (kRun_takes_more:PySem.W.keepIn K (.ref fRun_takes_more)=true)
  (aRun_handle_of:PySem.W.findIn K (.ref C_Run) "handle_of" = some (some (.ref fRun_handle_of))) (iRun_handle_of:PySem.W.isFn K (.ref fRun_handle_of)=true) (lRun_handle_of:K.lookup fRun_handle_of=some ⟨ocRun_handle_of,odRun_handle_of,.func (PySem.W.fnOf "handle_of" "Run.handle_of" (defArgs cx) (defBody cx) (defScope cx) .none kVRun_handle_of dcRun_handle_of pmRun_handle_of anRun_handle_of cdRun_handle_of ctRun_handle_of),slRun_handle_of⟩) (cRun_handle_of:PySem.W.codeIn K cdRun_handle_of "Run.handle_of" = true) (kRun_handle_of:PySem.W.keepIn K (.ref fRun_handle_of)=true)
  (aRun_hold:PySem.W.findIn K (.ref C_Run) "hold" = some (some (.ref fRun_hold))) (iRun_hold:PySem.W.isFn K (.ref fRun_hold)=true) (lRun_hold:K.lookup fRun_hold=some ⟨ocRun_hold,odRun_hold,.func (PySem.W.fnOf "hold" "Run.hold" (defArgs de) (defBody de) (defScope de) .none kVRun_hold dcRun_hold pmRun_hold anRun_hold cdRun_hold ctRun_hold),slRun_hold⟩) (cRun_hold:PySem.W.codeIn K cdRun_hold "Run.hold" = true) (kRun_hold:PySem.W.keepIn K (.ref fRun_hold)=true)
  (aRun_deed:PySem.W.findIn K (.ref C_Run) "deed" = some (some (.ref fRun_deed))) (iRun_deed:PySem.W.isFn K (.ref fRun_deed)=true) (lRun_deed:K.lookup fRun_deed=some ⟨ocRun_deed,odRun_deed,.func (PySem.W.fnOf "deed" "Run.deed" (defArgs bW) (defBody bW) (defScope bW) .none kVRun_deed dcRun_deed pmRun_deed anRun_deed cdRun_deed ctRun_deed),slRun_deed⟩) (cRun_deed:PySem.W.codeIn K cdRun_deed "Run.deed" = true) (kRun_deed:PySem.W.keepIn K (.ref fRun_deed)=true)
  (aRun_new_handle:PySem.W.findIn K (.ref C_Run) "new_handle" = some (some (.ref fRun_new_handle))) (iRun_new_handle:PySem.W.isFn K (.ref fRun_new_handle)=true) (lRun_new_handle:K.lookup fRun_new_handle=some ⟨ocRun_new_handle,odRun_new_handle,.func (PySem.W.fnOf "new_handle" "Run.new_handle" (defArgs bD) (defBody bD) (defScope bD) .none kVRun_new_handle dcRun_new_handle pmRun_new_handle anRun_new_handle cdRun_new_handle ctRun_new_handle),slRun_new_handle⟩) (cRun_new_handle:PySem.W.codeIn K cdRun_new_handle "Run.new_handle" = true) (kRun_new_handle:PySem.W.keepIn K (.ref fRun_new_handle)=true)
  (aRun_tie:PySem.W.findIn K (.ref C_Run) "tie" = some (some (.ref fRun_tie))) (iRun_tie:PySem.W.isFn K (.ref fRun_tie)=true) (lRun_tie:K.lookup fRun_tie=some ⟨ocRun_tie,odRun_tie,.func (PySem.W.fnOf "tie" "Run.tie" (defArgs cM) (defBody cM) (defScope cM) .none kVRun_tie dcRun_tie pmRun_tie anRun_tie cdRun_tie ctRun_tie),slRun_tie⟩) (cRun_tie:PySem.W.codeIn K cdRun_tie "Run.tie" = true) (kRun_tie:PySem.W.keepIn K (.ref fRun_tie)=true)
  (aRun_end_all:PySem.W.findIn K (.ref C_Run) "end_all" = some (some (.ref fRun_end_all))) (iRun_end_all:PySem.W.isFn K (.ref fRun_end_all)=true) (lRun_end_all:K.lookup fRun_end_all=some ⟨ocRun_end_all,odRun_end_all,.func (PySem.W.fnOf "end_all" "Run.end_all" (defArgs bX) (defBody bX) (defScope bX) .none kVRun_end_all dcRun_end_all pmRun_end_all anRun_end_all cdRun_end_all ctRun_end_all),slRun_end_all⟩) (cRun_end_all:PySem.W.codeIn K cdRun_end_all "Run.end_all" = true) (kRun_end_all:PySem.W.keepIn K (.ref fRun_end_all)=true)
  (h_PARTS:PySem.W.nsIn K mainGlobals "PARTS" = some (some (.ref d_PARTS)))
  (ld_PARTS:K.lookup d_PARTS=some ⟨.type "dict", none,.dict #[⟨PyData.keyHash w.params "open", .str "open" k_PARTS_0,.ref a_PARTS_0⟩,⟨PyData.keyHash w.params "do", .str "do" k_PARTS_1,.ref a_PARTS_1⟩,⟨PyData.keyHash w.params "copy", .str "copy" k_PARTS_2,.ref a_PARTS_2⟩,⟨PyData.keyHash w.params "drop", .str "drop" k_PARTS_3,.ref a_PARTS_3⟩,⟨PyData.keyHash w.params "tie", .str "tie" k_PARTS_4,.ref a_PARTS_4⟩,⟨PyData.keyHash w.params "lend", .str "lend" k_PARTS_5,.ref a_PARTS_5⟩,⟨PyData.keyHash w.params "if", .str "if" k_PARTS_6,.ref a_PARTS_6⟩,⟨PyData.keyHash w.params "while", .str "while" k_PARTS_7,.ref a_PARTS_7⟩] n_PARTS,#[]⟩)
  (la_PARTS_0:K.lookup a_PARTS_0=some ⟨.type "tuple", od_PARTS_0,.seq #[.str "name" k_PARTS_0_0] m_PARTS_0,sl_PARTS_0⟩)
  (la_PARTS_1:K.lookup a_PARTS_1=some ⟨.type "tuple", od_PARTS_1,.seq #[.str "word" k_PARTS_1_0,.str "name" k_PARTS_1_1] m_PARTS_1,sl_PARTS_1⟩)
  (la_PARTS_2:K.lookup a_PARTS_2=some ⟨.type "tuple", od_PARTS_2,.seq #[.str "name" k_PARTS_2_0,.str "name" k_PARTS_2_1] m_PARTS_2,sl_PARTS_2⟩)
  (la_PARTS_3:K.lookup a_PARTS_3=some ⟨.type "tuple", od_PARTS_3,.seq #[.str "name" k_PARTS_3_0] m_PARTS_3,sl_PARTS_3⟩)
  (la_PARTS_4:K.lookup a_PARTS_4=some ⟨.type "tuple", od_PARTS_4,.seq #[.str "name" k_PARTS_4_0,.str "name" k_PARTS_4_1] m_PARTS_4,sl_PARTS_4⟩)
  (la_PARTS_5:K.lookup a_PARTS_5=some ⟨.type "tuple", od_PARTS_5,.seq #[.str "name" k_PARTS_5_0,.str "name" k_PARTS_5_1,.str "steps" k_PARTS_5_2] m_PARTS_5,sl_PARTS_5⟩)
  (la_PARTS_6:K.lookup a_PARTS_6=some ⟨.type "tuple", od_PARTS_6,.seq #[.str "bound" k_PARTS_6_0,.str "steps" k_PARTS_6_1,.str "steps" k_PARTS_6_2] m_PARTS_6,sl_PARTS_6⟩)
  (la_PARTS_7:K.lookup a_PARTS_7=some ⟨.type "tuple", od_PARTS_7,.seq #[.str "bound" k_PARTS_7_0,.str "steps" k_PARTS_7_1] m_PARTS_7,sl_PARTS_7⟩)
  (dz_PARTS:(d_PARTS == sysModules)=false)
  (h_CLOSERS:PySem.W.nsIn K mainGlobals "CLOSERS" = some (some (.ref d_CLOSERS)))
  (ld_CLOSERS:K.lookup d_CLOSERS=some ⟨.type "dict", none,.dict #[⟨PyData.keyHash w.params "lend", .str "lend" k_CLOSERS_0,.ref a_CLOSERS_0⟩,⟨PyData.keyHash w.params "if", .str "if" k_CLOSERS_1,.ref a_CLOSERS_1⟩,⟨PyData.keyHash w.params "while", .str "while" k_CLOSERS_2,.ref a_CLOSERS_2⟩] n_CLOSERS,#[]⟩)
  (la_CLOSERS_0:K.lookup a_CLOSERS_0=some ⟨.type "tuple", od_CLOSERS_0,.seq #[.str "back" k_CLOSERS_0_0] m_CLOSERS_0,sl_CLOSERS_0⟩)
  (la_CLOSERS_1:K.lookup a_CLOSERS_1=some ⟨.type "tuple", od_CLOSERS_1,.seq #[.str "else" k_CLOSERS_1_0,.str "fi" k_CLOSERS_1_1] m_CLOSERS_1,sl_CLOSERS_1⟩)
  (la_CLOSERS_2:K.lookup a_CLOSERS_2=some ⟨.type "tuple", od_CLOSERS_2,.seq #[.str "done" k_CLOSERS_2_0] m_CLOSERS_2,sl_CLOSERS_2⟩)
  (dz_CLOSERS:(d_CLOSERS == sysModules)=false) :
  ∃ fd:FuncData,(∀ (s:Shared) (v:Value),BindsTo s fd ⟨[v],[]⟩ [("_law_script", v)])∧∀ base:Heap,K.In base→base.Ns mainGlobals mg→FnOk l.prog w K mg base iZ 36 fa fd ["_law_script"] (pE K):=by
 obtain⟨f9,od9,an9,sl9,oc9,kV9,dc9,pm9,cd9,ct9,aa9,l9,c9,k9⟩:=a44
 have e:=hfa.symm.trans (PySem.W.mg_of X G aa9)
 cases e;have D_closers_of:=aZ X G a0;have D_head_of:=aZ X G a1;have D_blocks_of:=aZ X G a2;have D_steps_within:=aZ X G a3;have D_names_in:=aZ X G a4;have D_lines_of:=aZ X G a5;have D_names_of:=aZ X G a6;have D_line_behind:=aZ X G a7;have D_numbered_step:=aZ X G a8;have D_numbered_steps:=aZ X G a9;have D_all_begin_tie:=aZ X G a10;have D_broken_or_gone_on:=aZ X G a11;have D_do_simple:=aZ X G a12;have D_do_lend:=aZ X G a13;have D_do_if:=aZ X G a14;have D_do_while:=aZ X G a15;have D_do_steps:=aZ X G a16;have D_run_plain:=aZ X G a17;have D_lend_lines:=aZ X G a18;have D_slots_of:=aZ X G a19;have D_simple_row:=aZ X G a20;have D_lend_rows:=aZ X G a21;have D_if_rows:=aZ X G a22;have D_loop_rows:=aZ X G a23;have D_while_rows:=aZ X G a24;have D_rows_of:=aZ X G a25;have D_rows_and_end:=aZ X G a26;have D_code_of:=aZ X G a27;have D_do_row:=aZ X G a28;have D_row_behind:=aZ X G a29;have D_log_of:=aZ X G a30;have D_run_code:=aZ X G a31;have D_law_cell_at:=aZ X G a32;have D_law_names:=aZ X G a33;have D_law_bound:=aZ X G a34;have D_law_step:=aZ X G a35;have D_law_begun:=aZ X G a36;have D_law_program:=aZ X G a37;have D_law_inputs:=aZ X G a38;have D_law_drawn:=aZ X G a39;have D_law_whole:=aZ X G a40;have D_law_is_log:=aZ X G a41;have D_law_bare:=aZ X G a42;have D_law_step_behind:=aZ X G a43;have z_isinstance:mg "isinstance" = none:=PySem.W.mg_none_of X G y_isinstance
 have z_str:mg "str" = none:=PySem.W.mg_none_of X G y_str
 have z_int:mg "int" = none:=PySem.W.mg_none_of X G y_int
 have z_bool:mg "bool" = none:=PySem.W.mg_none_of X G y_bool
 have z_tuple:mg "tuple" = none:=PySem.W.mg_none_of X G y_tuple
 have z_len:mg "len" = none:=PySem.W.mg_none_of X G y_len
 have z_range:mg "range" = none:=PySem.W.mg_none_of X G y_range
 have z_list:mg "list" = none:=PySem.W.mg_none_of X G y_list
 have z_max:mg "max" = none:=PySem.W.mg_none_of X G y_max
 have z_reversed:mg "reversed" = none:=PySem.W.mg_none_of X G y_reversed
 have z_zip:mg "zip" = none:=PySem.W.mg_none_of X G y_zip
 have z_enumerate:mg "enumerate" = none:=PySem.W.mg_none_of X G y_enumerate
 have z_min:mg "min" = none:=PySem.W.mg_none_of X G y_min
 have cl_NumberedStep:Cls K C_NumberedStep:=⟨pg_NumberedStep,hd_NumberedStep,po_NumberedStep,sa_NumberedStep⟩
 have a_kind:Fl K C_NumberedStep "kind" := ⟨cl_NumberedStep,nf_kind⟩
 have a_parts:Fl K C_NumberedStep "parts" := ⟨cl_NumberedStep,nf_parts⟩
 have a_lines:Fl K C_NumberedStep "lines" := ⟨cl_NumberedStep,nf_lines⟩
 have a_blocks:Fl K C_NumberedStep "blocks" := ⟨cl_NumberedStep,nf_blocks⟩
 have D_NumberedStep:MakeAt K mg "NumberedStep" C_NumberedStep "NumberedStep.__init__" aX:=⟨fNumberedStep___init__,_,eI (st:=aX) lNumberedStep___init__ cNumberedStep___init__ kNumberedStep___init__,⟨mk_NumberedStep,aNumberedStep___init__,iNumberedStep___init__,kc_NumberedStep⟩,PySem.W.mg_of X G n_NumberedStep⟩
 have cl_Run:Cls K C_Run:=⟨pg_Run,hd_Run,po_Run,sa_Run⟩
 have a_inputs:Fl K C_Run "inputs" := ⟨cl_Run,nf_inputs⟩
 have a_watches:Fl K C_Run "watches" := ⟨cl_Run,nf_watches⟩
 have a_at:Fl K C_Run "at" := ⟨cl_Run,nf_at⟩
 have a_taken:Fl K C_Run "taken" := ⟨cl_Run,nf_taken⟩
 have a_last:Fl K C_Run "last" := ⟨cl_Run,nf_last⟩
 have a_opened:Fl K C_Run "opened" := ⟨cl_Run,nf_opened⟩
 have a_held:Fl K C_Run "held" := ⟨cl_Run,nf_held⟩
 have a_log:Fl K C_Run "log" := ⟨cl_Run,nf_log⟩
 have D_Run:MakeAt K mg "Run" C_Run "Run.__init__" ck:=⟨fRun___init__,_,eI (st:=ck) lRun___init__ cRun___init__ kRun___init__,⟨mk_Run,aRun___init__,iRun___init__,kc_Run⟩,PySem.W.mg_of X G n_Run⟩
 have D_Run_come_to:MethAt K C_Run "come_to" "Run.come_to" cK:=⟨⟨fRun_come_to,_,eI (st:=cK) lRun_come_to cRun_come_to kRun_come_to,⟨aRun_come_to,iRun_come_to,kRun_come_to⟩⟩,cl_Run⟩
 have D_Run_takes_more:MethAt K C_Run "takes_more" "Run.takes_more" bT:=⟨⟨fRun_takes_more,_,eI (st:=bT) lRun_takes_more cRun_takes_more kRun_takes_more,⟨aRun_takes_more,iRun_takes_more,kRun_takes_more⟩⟩,cl_Run⟩
 have D_Run_handle_of:MethAt K C_Run "handle_of" "Run.handle_of" cx:=⟨⟨fRun_handle_of,_,eI (st:=cx) lRun_handle_of cRun_handle_of kRun_handle_of,⟨aRun_handle_of,iRun_handle_of,kRun_handle_of⟩⟩,cl_Run⟩
 have D_Run_hold:MethAt K C_Run "hold" "Run.hold" de:=⟨⟨fRun_hold,_,eI (st:=de) lRun_hold cRun_hold kRun_hold,⟨aRun_hold,iRun_hold,kRun_hold⟩⟩,cl_Run⟩
 have D_Run_deed:MethAt K C_Run "deed" "Run.deed" bW:=⟨⟨fRun_deed,_,eI (st:=bW) lRun_deed cRun_deed kRun_deed,⟨aRun_deed,iRun_deed,kRun_deed⟩⟩,cl_Run⟩
 have D_Run_new_handle:MethAt K C_Run "new_handle" "Run.new_handle" bD:=⟨⟨fRun_new_handle,_,eI (st:=bD) lRun_new_handle cRun_new_handle kRun_new_handle,⟨aRun_new_handle,iRun_new_handle,kRun_new_handle⟩⟩,cl_Run⟩
 have D_Run_tie:MethAt K C_Run "tie" "Run.tie" cM:=⟨⟨fRun_tie,_,eI (st:=cM) lRun_tie cRun_tie kRun_tie,⟨aRun_tie,iRun_tie,kRun_tie⟩⟩,cl_Run⟩
 have D_Run_end_all:MethAt K C_Run "end_all" "Run.end_all" bX:=⟨⟨fRun_end_all,_,eI (st:=bX) lRun_end_all cRun_end_all kRun_end_all,⟨aRun_end_all,iRun_end_all,kRun_end_all⟩⟩,cl_Run⟩
 have g_PARTS:mg "PARTS" = some (.ref d_PARTS):=PySem.W.mg_of X G h_PARTS
 have m_PARTS:ModD w K d_PARTS [("open", .ref a_PARTS_0),("do", .ref a_PARTS_1),("copy", .ref a_PARTS_2),("drop", .ref a_PARTS_3),("tie", .ref a_PARTS_4),("lend", .ref a_PARTS_5),("if", .ref a_PARTS_6),("while", .ref a_PARTS_7)]:=⟨dz_PARTS,(show (["open", "do", "copy", "drop", "tie", "lend", "if", "while"]:List Str).Nodup from by decide),_,[⟨PyData.keyHash w.params "open", .str "open" k_PARTS_0,.ref a_PARTS_0⟩,⟨PyData.keyHash w.params "do", .str "do" k_PARTS_1,.ref a_PARTS_1⟩,⟨PyData.keyHash w.params "copy", .str "copy" k_PARTS_2,.ref a_PARTS_2⟩,⟨PyData.keyHash w.params "drop", .str "drop" k_PARTS_3,.ref a_PARTS_3⟩,⟨PyData.keyHash w.params "tie", .str "tie" k_PARTS_4,.ref a_PARTS_4⟩,⟨PyData.keyHash w.params "lend", .str "lend" k_PARTS_5,.ref a_PARTS_5⟩,⟨PyData.keyHash w.params "if", .str "if" k_PARTS_6,.ref a_PARTS_6⟩,⟨PyData.keyHash w.params "while", .str "while" k_PARTS_7,.ref a_PARTS_7⟩],n_PARTS,ld_PARTS,⟨rfl,rfl,rfl⟩,rfl,.cons rfl (.cons rfl (.cons rfl (.cons rfl (.cons rfl (.cons rfl (.cons rfl (.cons rfl (.nil))))))))⟩
 have q_PARTS_0:∀ H:Hp,SqT K H a_PARTS_0 [.str "name"]:=fun H=>.inr ⟨_,_,_,la_PARTS_0,rfl,rfl,a_ (show 1≤1000000 from by decide),.cons ⟨_,rfl⟩ (.nil)⟩
 have q_PARTS_1:∀ H:Hp,SqT K H a_PARTS_1 [.str "word", .str "name"]:=fun H=>.inr ⟨_,_,_,la_PARTS_1,rfl,rfl,a_ (show 2≤1000000 from by decide),.cons ⟨_,rfl⟩ (.cons ⟨_,rfl⟩ (.nil))⟩
 have q_PARTS_2:∀ H:Hp,SqT K H a_PARTS_2 [.str "name", .str "name"]:=fun H=>.inr ⟨_,_,_,la_PARTS_2,rfl,rfl,a_ (show 2≤1000000 from by decide),.cons ⟨_,rfl⟩ (.cons ⟨_,rfl⟩ (.nil))⟩
 have q_PARTS_3:∀ H:Hp,SqT K H a_PARTS_3 [.str "name"]:=fun H=>.inr ⟨_,_,_,la_PARTS_3,rfl,rfl,a_ (show 1≤1000000 from by decide),.cons ⟨_,rfl⟩ (.nil)⟩
 have q_PARTS_4:∀ H:Hp,SqT K H a_PARTS_4 [.str "name", .str "name"]:=fun H=>.inr ⟨_,_,_,la_PARTS_4,rfl,rfl,a_ (show 2≤1000000 from by decide),.cons ⟨_,rfl⟩ (.cons ⟨_,rfl⟩ (.nil))⟩
 have q_PARTS_5:∀ H:Hp,SqT K H a_PARTS_5 [.str "name", .str "name", .str "steps"]:=fun H=>.inr ⟨_,_,_,la_PARTS_5,rfl,rfl,a_ (show 3≤1000000 from by decide),.cons ⟨_,rfl⟩ (.cons ⟨_,rfl⟩ (.cons ⟨_,rfl⟩ (.nil)))⟩
 have q_PARTS_6:∀ H:Hp,SqT K H a_PARTS_6 [.str "bound", .str "steps", .str "steps"]:=fun H=>.inr ⟨_,_,_,la_PARTS_6,rfl,rfl,a_ (show 3≤1000000 from by decide),.cons ⟨_,rfl⟩ (.cons ⟨_,rfl⟩ (.cons ⟨_,rfl⟩ (.nil)))⟩
 have q_PARTS_7:∀ H:Hp,SqT K H a_PARTS_7 [.str "bound", .str "steps"]:=fun H=>.inr ⟨_,_,_,la_PARTS_7,rfl,rfl,a_ (show 2≤1000000 from by decide),.cons ⟨_,rfl⟩ (.cons ⟨_,rfl⟩ (.nil))⟩
 have g_CLOSERS:mg "CLOSERS" = some (.ref d_CLOSERS):=PySem.W.mg_of X G h_CLOSERS
 have m_CLOSERS:ModD w K d_CLOSERS [("lend", .ref a_CLOSERS_0),("if", .ref a_CLOSERS_1),("while", .ref a_CLOSERS_2)]:=⟨dz_CLOSERS,(show (["lend", "if", "while"]:List Str).Nodup from by decide),_,[⟨PyData.keyHash w.params "lend", .str "lend" k_CLOSERS_0,.ref a_CLOSERS_0⟩,⟨PyData.keyHash w.params "if", .str "if" k_CLOSERS_1,.ref a_CLOSERS_1⟩,⟨PyData.keyHash w.params "while", .str "while" k_CLOSERS_2,.ref a_CLOSERS_2⟩],n_CLOSERS,ld_CLOSERS,⟨rfl,rfl,rfl⟩,rfl,.cons rfl (.cons rfl (.cons rfl (.nil)))⟩
 have q_CLOSERS_0:∀ H:Hp,SqT K H a_CLOSERS_0 [.str "back"]:=fun H=>.inr ⟨_,_,_,la_CLOSERS_0,rfl,rfl,a_ (show 1≤1000000 from by decide),.cons ⟨_,rfl⟩ (.nil)⟩
 have q_CLOSERS_1:∀ H:Hp,SqT K H a_CLOSERS_1 [.str "else", .str "fi"]:=fun H=>.inr ⟨_,_,_,la_CLOSERS_1,rfl,rfl,a_ (show 2≤1000000 from by decide),.cons ⟨_,rfl⟩ (.cons ⟨_,rfl⟩ (.nil))⟩
 have q_CLOSERS_2:∀ H:Hp,SqT K H a_CLOSERS_2 [.str "done"]:=fun H=>.inr ⟨_,_,_,la_CLOSERS_2,rfl,rfl,a_ (show 1≤1000000 from by decide),.cons ⟨_,rfl⟩ (.nil)⟩
 have F:=eI (st:=bi) l9 c9 k9;refine⟨PySem.W.fnOf "law" "law" (defArgs bi) (defBody bi) (defScope bi) .none kV9 dc9 pm9 an9 cd9 ct9,fun s v=>.of_eq rfl,fun base _ _=>?_⟩
 have c1:=Cg (P:=l.prog) (w:=w) (base:=base) D_law_cell_at z_len;have d1:=vw (P:=l.prog) (w:=w) (base:=base) D_closers_of g_CLOSERS m_CLOSERS q_CLOSERS_0 q_CLOSERS_1 q_CLOSERS_2;have d2:=Cq D_head_of z_len d1;have d3:=xg D_blocks_of z_len d2;have d4:=oC D_steps_within d3 10;have d5:=wj (P:=l.prog) (w:=w) (base:=base) D_names_in z_zip z_list g_PARTS m_PARTS (AJ q_PARTS_0 q_PARTS_1 q_PARTS_2 q_PARTS_3 q_PARTS_4 q_PARTS_5 q_PARTS_6 q_PARTS_7);have d6:=zW (vO D_names_of d5 d4);have d7:=qF D_lines_of z_str z_zip d1 d2 d3 10;have d8:=rK D_lend_lines z_enumerate d7;have d9:=zd (NO:=NOt) NOt.mono D_slots_of z_enumerate (yA d6 (k:=15) (by decide)) d8
 have k0:=AH (P:=l.prog) (w:=w) (base:=base) D_NumberedStep a_kind a_parts a_lines a_blocks;have b0:=yd (P:=l.prog) (w:=w) (base:=base) D_line_behind z_len a_lines;have n0:=uJ D_numbered_step D_numbered_steps d2 d3 b0 k0 10;have r0:=ub (P:=l.prog) (w:=w) (base:=base) D_rows_of D_lend_rows D_if_rows D_loop_rows D_while_rows D_simple_row z_len z_tuple a_kind a_parts a_lines a_blocks 10;have r1:=wa (NO:=NOt) (d:=10) (k:=33) NOt.mono D_rows_and_end (by decide) n0 r0 (yA d9 (by decide)) b0 (by decide) (by decide)
 have r3:=CG D_code_of r1;have mt:=za (P:=l.prog) (w:=w) (mg:=mg) (base:=base) D_Run_takes_more z_len a_taken a_inputs a_last;have mh:=xr (P:=l.prog) (w:=w) (mg:=mg) (base:=base) D_Run_handle_of a_held;have mo:=B6 (P:=l.prog) (w:=w) (mg:=mg) (base:=base) D_Run_hold a_held;have bg:=Ej (P:=l.prog) (w:=w) (base:=base) D_broken_or_gone_on z_len;have ab:=ET (P:=l.prog) (w:=w) (base:=base) D_all_begin_tie;have md:=C3 D_Run_deed a_log a_last a_watches a_at bg;have mn:=Ct D_Run_new_handle a_opened md mo;have mi:=D8 D_Run_tie z_len a_log a_watches ab;have me:=Di D_Run_end_all z_range a_opened md;have mc:=CY (P:=l.prog) (w:=w) (mg:=mg) (base:=base) D_Run_come_to a_at;have kr:=zN (P:=l.prog) (w:=w) (base:=base) D_Run a_inputs a_watches a_at a_taken a_last a_opened a_held a_log;have dd:=BB D_do_steps a_kind (fun d=>sZ (d:=d) D_do_simple a_lines a_parts a_kind mn md mh mo mi) (fun d h=>yx D_do_lend a_lines a_parts a_blocks md mh mo h) (fun d h=>B8 D_do_if a_parts a_blocks mt h) (fun d h=>vL D_do_while a_parts a_blocks mt h)
 have dn:=dd 10;have rp:=DE D_run_plain a_log kr me b0 n0 dn;have rc:=CW D_run_code kr (ze D_log_of a_at a_log mc me (rQ D_row_behind a_at mt (Al D_do_row mn md mh mo mi)));have pg:=v_ D_law_program z_len z_int z_reversed (AQ D_law_begun z_len z_str (zj (P:=l.prog) (w:=w) (base:=base) D_law_bound)) (Cf D_law_step z_len);have dr:=Aa D_law_drawn z_len z_max c1 (Ae D_law_names z_range) pg (yj D_law_inputs z_len z_int);have wh:=FX (P:=l.prog) (w:=w) (base:=base) D_law_whole z_isinstance z_int z_bool;have il:=zo D_law_is_log z_isinstance z_list z_tuple z_len z_str wh;exact Dw F z_len z_min z_range z_int c1 dr rp il r3 rc (CS (P:=l.prog) (w:=w) (base:=base) D_law_bare) (o_ D_law_step_behind z_len z_range rp il)
theorem walk{l:PySem.W.OpenLaw}{q:Program}{loose:List Str}{XP:(Str→Option Value)→Heap→Prop}{YP:World→Heap→Prop}{d:DefRec}{K:Params→PySem.W.Frag}(hn:l.most=some 63)(hdf:d.params.defaults=[])
  (hY:∀ (w:World) (h:Heap),YP w h→(K w.params).In h)
  (F:∀ (w:World) (mg:Str→Option Value) (fa:Addr) (h:Heap),(K w.params).In h→h.Ns mainGlobals mg→mg d.name=some (.ref fa)→
   ∃ fd:FuncData,(∀ (s:Shared) (u:Value),BindsTo s fd ⟨[u],[]⟩ [("_law_script", u)])∧∀ base:Heap,(K w.params).In base→base.Ns mainGlobals mg→FnOk l.prog w (K w.params) mg base iZ 36 fa fd ["_law_script"] (pE (K w.params))) :
  PySem.W.WalkO q loose XP YP l.row.toRowW d [] (fun f vs=>PySem.call f vs):=
 L2.walk_of (n:=63) (k:=36) (x := "_law_script") (CX:=fun _=>iZ) (sp:=fun w=>pE (K w.params)) hn (by decide) hdf ⟨rfl,by decide,by decide⟩ hY F (fun _ _ a ns hl _ hS=>⟨a,ns,rfl,hS,hl,fun _=>rfl⟩) fun _ _ _ _ _ z=>z
end K39
end
open PySem PySem.W PyProof.Rows
set_option maxRecDepth 100000 in
set_option maxHeartbeats 0 in
theorem PySem.Challenge.cw_usewarden_k39_whole_inputs_and_steps_beh_holds : PySem.Challenge.rw_usewarden_k39_whole_inputs_and_steps_beh.Holds := by
 w_on
 refine holds_law (by decide +kernel) fun said=>?_
 refine holds_open (q:=K39.qq) (loose:=K39.loo) (Xt:=K39.xt) (XP:=XL K39.qq []) (Yf:=Hook.obs (kHook K39.KK K39.kk K39.kk_eq)) (Ya:=Hook.val (kHook K39.KK K39.kk K39.kk_eq)) (YP:=Hook.says (kHook K39.KK K39.kk K39.kk_eq)) (N:=3075) K39.hl (Hook.of (kHook K39.KK K39.kk K39.kk_eq)) (Hook.keeps (kHook K39.KK K39.kk K39.kk_eq)) (fun s e=>xl_of s (Bool.and_eq_true_iff.mp e).1) XL.keeps (by rfl) (by rfl) (by rfl) (fun s e=>recFacts_of (Bool.and_eq_true_iff.mp e).2) (by rfl) said (by decide +kernel) ⟨rfl,rfl,rfl,rfl,rfl,by decide +kernel⟩ ?hw ?hc
 (case hw=>w_witness2)
 k_fill
 refine K39.walk (l:=PySem.Challenge.rw_usewarden_k39_whole_inputs_and_steps_beh) rfl rfl (fun w h Y=>PySem.W.kIn_of Y) ?F
 case F=>
  intro w mg fa h KX G hmg
  refine' K39.all_mk KX G hmg ?a0 ?a1 ?a2 ?a3 ?a4 ?a5 ?a6 ?a7 ?a8 ?a9 ?a10 ?a11 ?a12 ?a13 ?a14 ?a15 ?a16 ?a17 ?a18 ?a19 ?a20 ?a21 ?a22 ?a23 ?a24 ?a25 ?a26 ?a27 ?a28 ?a29 ?a30 ?a31 ?a32 ?a33 ?a34 ?a35 ?a36 ?a37 ?a38 ?a39 ?a40 ?a41 ?a42 ?a43 ?a44 ?y_isinstance ?y_str ?y_int ?y_bool ?y_tuple ?y_len ?y_range ?y_list ?y_max ?y_reversed ?y_zip ?y_enumerate ?y_min ?n_NumberedStep ?pg_NumberedStep ?hd_NumberedStep ?po_NumberedStep ?sa_NumberedStep ?mk_NumberedStep ?kc_NumberedStep ?nf_kind ?nf_parts ?nf_lines ?nf_blocks ?aNumberedStep___init__ ?iNumberedStep___init__ ?lNumberedStep___init__ ?cNumberedStep___init__ ?kNumberedStep___init__ ?n_Run ?pg_Run ?hd_Run ?po_Run ?sa_Run ?mk_Run ?kc_Run ?nf_inputs ?nf_watches ?nf_at ?nf_taken ?nf_last ?nf_opened ?nf_held ?nf_log ?aRun___init__ ?iRun___init__ ?lRun___init__ ?cRun___init__ ?kRun___init__ ?aRun_come_to ?iRun_come_to ?lRun_come_to ?cRun_come_to ?kRun_come_to ?aRun_takes_more ?iRun_takes_more ?lRun_takes_more ?cRun_takes_more ?kRun_takes_more ?aRun_handle_of ?iRun_handle_of ?lRun_handle_of ?cRun_handle_of ?kRun_handle_of ?aRun_hold ?iRun_hold ?lRun_hold ?cRun_hold ?kRun_hold ?aRun_deed ?iRun_deed ?lRun_deed ?cRun_deed ?kRun_deed ?aRun_new_handle ?iRun_new_handle ?lRun_new_handle ?cRun_new_handle ?kRun_new_handle ?aRun_tie ?iRun_tie ?lRun_tie ?cRun_tie ?kRun_tie ?aRun_end_all ?iRun_end_all ?lRun_end_all ?cRun_end_all ?kRun_end_all ?h_PARTS ?ld_PARTS ?la_PARTS_0 ?la_PARTS_1 ?la_PARTS_2 ?la_PARTS_3 ?la_PARTS_4 ?la_PARTS_5 ?la_PARTS_6 ?la_PARTS_7 ?dz_PARTS ?h_CLOSERS ?ld_CLOSERS ?la_CLOSERS_0 ?la_CLOSERS_1 ?la_CLOSERS_2 ?dz_CLOSERS
  all_goals first | (refine' K39.dfe_mk ?a ?l ?c ?k; (case a=>k_is); (case l=>k_is); (case c=>k_is); (case k=>k_is)) | k_is | exact⟨_,by k_is⟩ | kernel_rfl | skip
#print axioms PySem.Challenge.cw_usewarden_k39_whole_inputs_and_steps_beh_holds
