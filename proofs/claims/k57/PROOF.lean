import PyProof.Rows.All
import Wide.All
import OpenK.AllK
import PySem.Challenge.RW_usewarden_k57_whole_handles_stand_in_pap
set_option Elab.async false
noncomputable section
set_option compiler.extract_closed false
set_option bootstrap.genMatcherCode false
set_option maxRecDepth 100000
set_option maxHeartbeats 4000000
section
open PySem
abbrev KY:=Value→Shared→Prop
abbrev KZ:=List Str
abbrev LC:=List Addr
abbrev LD:=List Value
abbrev LF:=Option Value
abbrev LG:=Option Nat
abbrev LI:=Option Int
abbrev LJ:=List Int
abbrev LL:=List Expr
abbrev LM:=Array Value
abbrev LN:=List Nat
abbrev LO:=Option Addr
abbrev LQ:=Array Nat
end
namespace L2
open PySem PySem.W
variable{α:Type}
theorem zu1(us:List α)(hl:us.length=1):∃ a,us=[a]:=match us,hl with | [a],_=>⟨a,rfl⟩
theorem zu2(us:List α)(hl:us.length=2):∃ a b,us=[a,b]:=match us,hl with | [a,b],_=>⟨a,b,rfl⟩
theorem zu3(us:List α)(hl:us.length=3):∃ a b c,us=[a,b,c]:=match us,hl with | [a,b,c],_=>⟨a,b,c,rfl⟩
theorem zu4(us:List α)(hl:us.length=4):∃ a b c d,us=[a,b,c,d]:=match us,hl with | [a,b,c,d],_=>⟨a,b,c,d,rfl⟩
theorem zu5(us:List α)(hl:us.length=5):∃ a b c d e,us=[a,b,c,d,e]:=match us,hl with | [a,b,c,d,e],_=>⟨a,b,c,d,e,rfl⟩
abbrev Kn:=@PySem.wpAny_bind
abbrev Kq:=@List.getElem?_eq_some_iff
abbrev Kr:=@PySem.wpAny_pure
abbrev Kt:=@_root_.if_neg
abbrev Kw:=@List.mem_singleton
abbrev Kx:=@_root_.if_pos
abbrev Kz:=@List.mem_flatMap
abbrev KA:=@List.mem_append
abbrev KB:=@List.mem_map
abbrev KC:=@List.mem_cons
abbrev KD:=@List.mem_iff_getElem
abbrev KF:=@Option.map_eq_some_iff
abbrev KG:=@Array.perm_iff_toList_perm
abbrev KH:=@List.mem_range
abbrev KJ:=@Array.mem_toList_iff
abbrev KL:=@List.getElem?_eq_none_iff
abbrev KM:=@List.idxOf_lt_length_iff
abbrev KN:=@List.mem_filterMap
abbrev KO:=@List.nodup_cons
abbrev zj:=@List.length_map
abbrev qt:=@Nat.le_refl
abbrev qz:=@List.getElem?_eq_getElem
abbrev qL:=@List.length_append
abbrev qY:=@List.length_cons
abbrev wC:=@List.getElem?_map
abbrev wD:=@Heap.lt_size
abbrev wQ:=@List.mem_cons
abbrev wR:=@Heap.get?_push_of_some
abbrev yb:=@List.mem_cons_self
abbrev yc:=@List.mem_cons_of_mem
abbrev yd:=@List.map_append
abbrev yh:=@List.not_mem_nil
abbrev yi:=@List.length_nil
abbrev yj:=@List.map_cons
abbrev yk:=@Heap.get?_push_size
abbrev xa:=@Nat.ne_of_lt
abbrev xf:=@List.getD_eq_getElem?_getD
abbrev xh:=@F.plainAttrs_list
abbrev xo:=@List.size_toArray
abbrev xB:=@Nat.le_trans
abbrev xF:=@Nat.le_of_lt
abbrev xG:=@List.getElem?_append_left
abbrev xH:=@PassesOwn.never
abbrev xN:=@Bool.false_ne_true
abbrev xR:=@Nat.zero_le
abbrev kg:=@List.mem_of_getElem?
abbrev gE:=@Int.toNat_natCast
abbrev gT:=@List.getElem?_append_right
abbrev gV:=@List.mem_append_right
abbrev mS:=@Ne.symm
abbrev mY:=@F.slot_list_append
abbrev nu:=@F.type_list_append
abbrev nV:=@Nat.zero_add
abbrev nX:=@Array.length_toList
abbrev nY:=@List.getElem_mem
abbrev n6:=@List.append_assoc
abbrev uo:=@Nat.lt_of_lt_of_le
abbrev td:=@Array.getElem_mem_toList
abbrev tK:=@List.mem_nil_iff
abbrev tR:=@Array.toList_append
abbrev rH:=@Nat.mul_add
abbrev rW:=@Heap.size_push
abbrev sZ:=@Bool.false_eq_true
abbrev lJ:=@List.sum_cons
abbrev lR:=@Nat.add_assoc
abbrev lW:=@List.mem_append_left
abbrev iz:=@Nat.lt_or_ge
abbrev G8:=@Array.getElem?_eq_getElem
abbrev Hi:=@Heap.SameBut.update
abbrev He:=@List.map_map
abbrev G9:=@W.mg_none_of
abbrev HJ:=@List.cons_append
abbrev HI:=@List.take_of_length_le
abbrev HV:=@W.kia_one
abbrev HY:=@List.nodup_cons
abbrev HK:=@Heap.get?_update_self
abbrev HX:=@List.take_add_one
abbrev Ie:=@Nat.ne_of_gt
abbrev Il:=@List.length_take
abbrev Ib:=@Array.getElem?_toList
abbrev Iq:=@List.take_length
abbrev IB:=@Nat.add_mul
abbrev Ic:=@Int.emod_nonneg
abbrev IP:=@Nat.lt_irrefl
abbrev IJ:=@List.append_nil
abbrev IH:=@List.map_nil
abbrev IM:=@List.nodup_nil
abbrev IC:=@Around.under_plainId
abbrev IS:=@List.getElem?_eq_none
abbrev IV:=@List.take_append_drop
abbrev IQ:=@List.nodup_append
abbrev J4:=@List.length_set
abbrev J1:=@Array.size_extract
abbrev JV:=@Nat.lt_succ_of_lt
abbrev JR:=@List.eq_nil_of_length_eq_zero
abbrev JU:=@Obj.data_mapFields
abbrev J0:=@Nat.sub_self
abbrev J5:=@Int.emod_lt_of_pos
abbrev J8:=@Value.isInt_shape
abbrev Kg:=@Nat.lt_succ_self
abbrev Kk:=@List.length_replicate
abbrev Kb:=@List.lookup_cons
abbrev Ke:=@Array.toList_push
abbrev Kj:=@List.take_succ_cons
abbrev J6:=@List.take_succ_eq_append_getElem
abbrev Kf:=@F.slot_list_extend
abbrev J7:=@F.type_list_extend
abbrev zaO:=@Paired.length
abbrev zaP:=@List.mem_append
abbrev zaQ:=@Bool.eq_iff_iff
abbrev zaR:=@Bool.and_eq_true
abbrev zaS:=@List.find?_cons
abbrev zaT:=@Bool.not_true
abbrev zaU:=@PyProof.Rows.F.plain_set_update_loop
abbrev zaV:=@Obj.isFreed_of_fields
abbrev zaW:=@List.getElem?_cons_succ
abbrev zaX:=@List.foldl_cons
abbrev zaY:=@PyProof.Rows.callWith_type1
abbrev zaZ:=@PySem.mem_of_lookup
abbrev za0:=@List.getElem?_replicate
abbrev za1:=@Heap.get?_update_other
abbrev za2:=@List.any_cons
abbrev za3:=@W.mg_of
abbrev za4:=@Nat.le_add_right
abbrev za5:=@Nat.not_lt_zero
abbrev za6:=@Obj.cls_mapFields
abbrev za7:=@List.drop_eq_getElem_cons
abbrev za8:=@List.flatMap_cons
abbrev za9:=@List.dropLast_concat_getLast
abbrev zba:=@List.getElem?_set_ne
abbrev zbb:=@List.length_drop
abbrev zbc:=@List.zip_cons_cons
abbrev zbd:=@PyProof.Rows.F.entry_set_update_loop
abbrev zbe:=@F.plain_list_iadd
abbrev zbf:=@F.slot_tuple_iterator_next
abbrev zbg:=@List.zipIdx_cons
abbrev zbh:=@F.slot_zip_next
abbrev zbi:=@Nat.testBit_two_pow
abbrev zbj:=@F.slot_dict_keyiterator_next
abbrev zbk:=@Classical.choose_spec
abbrev zbl:=@Nat.add_sub_cancel_left
abbrev zbm:=@List.map_congr_left
abbrev zbn:=@List.length_range
abbrev zbo:=@List.foldl_append
abbrev zbp:=@List.getElem?_set
abbrev zbq:=@List.getElem?_range
abbrev zbr:=@List.getElem?_set_self
abbrev zbs:=@List.getElem?_take_of_lt
abbrev zbt:=@Calls.callWith_builtin
abbrev zbu:=@List.all_eq_true
abbrev zbv:=@F.slot_list_index
abbrev zbw:=@Array.getElem?_eq_none
abbrev zbx:=@Calls.call_function_entry
abbrev zby:=@F.plainAttrs_str
abbrev zbz:=@PyProof.Rows.slot_tuple_getitem
section
variable(tb:String->Option Builtin)(p:Program)(w:World)(n0:Nat)(an:LF)
noncomputable def wK:Nat->SharedT->Thread->Option SharedT
 | 0,_,_=>none
 | k+1,s,u=>match through u with
  | true=>some s
  | false=>match stepOk n0 an u,stepT (denote tb) p w s u with
   | true,some x=>wK k x.1 x.2
   | _,_=>none
theorem sw:∀(n:Nat) (s r:SharedT) (t:Thread),wK tb p w n0 an n s t=some r->topRun tb p w n0 an n s.abs t=some r.abs
 | 0,_,_,_,h=>by cases h
 | n+1,s,r,t,h=>by
  rw[topRun];rw[wK]at h
  cases h1:through t with
  | true=>
   rw[h1]at h
   cases h
   rfl
  | false=>
   rw[h1]at h
   cases h2:stepOk n0 an t with
   | false=>
    rw[h2]at h
    cases h
   | true=>
    cases h3:stepT (denote tb) p w s t with
    | none=>
     rw[h2,h3]at h
     cases h
    | some x=>
     rw[h2,h3]at h
     rw[stepT_spec (s':=x.1) (t':=x.2) h3];exact sw n _ _ _ h
end
noncomputable def Jv(P:Params):BT:=((boot_heap P).objs.toList.foldl (λ(x:BT×Nat) o=>(x.1.ins x.2 o,x.2+1)) (.nil,0)).1
noncomputable def DJ(w:World)(os:OsState):SharedT:=⟨Jv w.params,11,(boot_heap w.params).life,#[],boot_drawn,boot_toks,os⟩
theorem za(w:World)(os:OsState):(DJ w os).abs=⟨boot_heap w.params,#[],boot_drawn,boot_toks,os⟩:=by kernel_rfl
noncomputable def tEnd(p:Program)(w:World)(N:Nat)(os:OsState):Option SharedT:=wK treeTable p w 11 (some (.ref 6)) N (DJ w os) (topStub p)
noncomputable def tOk(p:Program)(w:World)(s:Shared):Bool:=staticsOk (importedModules p.main.body) (boot_heap w.params) s.heap&&namesBound p s.heap&&gensDone s&&laidKept (boot_heap w.params) s.heap
theorem tLeft{p:Program}{w:World}{N:Nat}{F:Shared->α}{a:α}(e:opening p=plainProg p.main.scope.names)(hN:Nat.ble 600 N=true)(f:∀s,fenceModules? p s=some s)
  (hz:((boot_heap w.params).isNs mainGlobals,(boot_heap w.params).objs.size,(boot_heap w.params).nsMap mainGlobals "__annotations__")=(true,11,some (.ref 6)))
  (h:∀os,∃s,tEnd p w N os=some s/\tOk p w s.abs=true/\F s.abs=a):(openEnds treeTable p w N).map F=some a:=by
 obtain⟨⟨h1,gs,d,k,os⟩,e1,U⟩:=KF.mp (boot_open e hN f w)
 obtain⟨rfl,rfl,rfl,rfl⟩ : h1=boot_heap w.params/\gs = #[]/\d=boot_drawn/\k=boot_toks:=by simpa using U
 obtain⟨Y,W,Z⟩ : _/\_/\_:=by simpa only[Prod.mk.injEq] using hz
 obtain⟨r,J,O,r3⟩:=h os
 have t1:=sw _ _ _ _ _ _ _ _ _ J;rw[za]at t1
 unfold openEnds;rw[e1];show (topFrom treeTable p w N _).map F=_
 unfold topFrom
 dsimp only
 rw[Y,W,Z];show ((topRun treeTable p w 11 (some (.ref 6)) N _ _).bind _).map F=_
 rw[t1];show (match tOk p w r.abs with | true=>some r.abs | false=>none).map F=_
 rw[O];exact congrArg some r3
end L2
namespace L2
open PySem
noncomputable def inClass(s:Stmt)(j:Nat):Stmt:=match s with
 | .ClassDef _ _ _ body _ _ _ _ _ _ _=>body.getD j (.Pass ⟨0,0,0,0⟩)
 | _=>.Pass ⟨0,0,0,0⟩
noncomputable def C5(s:Stmt):Arguments:=match s with
 | .FunctionDef _ a _ _ _ _ _ _ _ _=>a
 | _=>{posonlyargs:=[],args:=[],vararg:=none,kwonlyargs:=[],kw_defaults:=[],kwarg:=none,defaults:=[]}
noncomputable def Cm(s:Stmt):List Stmt:=match s with
 | .FunctionDef _ _ b _ _ _ _ _ _ _=>b
 | _=>[]
noncomputable def sg(s:Stmt):Scope:=match s with
 | .FunctionDef _ _ _ _ _ _ sc _ _ _=>sc
 | _=>{kind:=.function,names:=[],isGenerator:=false,isCoroutine:=false}
end L2
namespace K57
open PySem PySem.W
noncomputable def top (i:Nat):Stmt:=PySem.Challenge.pw_usewarden_k57_whole_handles_stand_in_pap.main.body.getD i (.Pass ⟨0,0,0,0⟩)
noncomputable abbrev A6(x:LM):Obj:=⟨.type "tuple",none,.seq x 0,#[]⟩
noncomputable abbrev F7(n:Str)(a b c:Nat)(l g:Int)(p q r s u:Addr)(i:Int)(d:Nat):Obj:=⟨.type "code",none,.fields #[.str n a,.str n b,.str "/claim/cut.py" c,.int l 0,.int g 0,.int 0 0,.int 0 0,.int 3 0,.ref p,.bool true,.int 181 0,.ref q,.none,.ref r,.ref s,.ref u,.int i 0,.int l 0,.str "/claim/cut.py" d],#[]⟩
noncomputable abbrev FC(n:Str)(i:Nat)(m:Str)(a:Nat)(c:Addr):Obj:=⟨.type "function",none,.func ⟨n,n,L2.C5 (top i),.stmts (L2.Cm (top i)),L2.sg (top i),3,[],.none,.none,.none,.str m a,none,.ref c,.none,0⟩,#[]⟩
noncomputable abbrev KQ(P:Params)(n:Str)(a:Nat)(v:Value):DictEntry:=⟨PyData.keyHash P n,.str n a,v⟩
noncomputable abbrev KR(n q:Str)(i j:Nat)(d:Value)(m:Str)(a:Nat)(c:Addr):Obj:=⟨.type "function",none,.func ⟨n,q,L2.C5 (L2.inClass (top i) j),.stmts (L2.Cm (L2.inClass (top i) j)),L2.sg (L2.inClass (top i) j),3,[],d,.none,.none,.str m a,none,.ref c,.none,0⟩,#[]⟩
noncomputable abbrev KU(n:Str)(a:Nat)(q:Str)(b c:Nat)(l g:Int)(p u r s v:Addr)(i:Int)(d:Nat):Obj:=⟨.type "code",none,.fields #[.str n a,.str q b,.str "/claim/cut.py" c,.int l 0,.int g 0,.int 0 0,.int 0 0,.int 3 0,.ref p,.bool true,.int 181 0,.ref u,.none,.ref r,.ref s,.ref v,.int i 0,.int l 0,.str "/claim/cut.py" d],#[]⟩
noncomputable abbrev wAA(l:List Str)(n:Nat):Obj:=A6 ((l.zipIdx n).map λp=>.str p.1 p.2).toArray
noncomputable abbrev wAB:Obj:=A6 #[]
noncomputable abbrev wAC(n:Str)(a:Nat)(l g:Int)(p i:Nat):Obj:=F7 n a (a+1) (a+2) l g p (p+1) (p+2) (p+3) (p+4) i (i+1)
noncomputable abbrev wAD(n:Str)(a:Nat)(l g:Int)(p:Nat):Obj:=⟨.type "code",none,.fields #[.str n a,.str n (a+1),.str "/claim/cut.py" (a+2),.int l 0,.int g 0,.int 0 0,.int 0 0,.int 3 0,.ref p,.bool true,.int 181 0,.ref (p+1),.none,.none,.none,.ref (p+2),.int (a+3:Nat) 0,.int l 0,.str "/claim/cut.py" (a+4)],#[]⟩
abbrev wAE:Str:="law_usewarden_k57_whole_handles_stand_in_pap"
abbrev wAF:Str:="usewarden.tokens"
abbrev wAG:Str:="usewarden.papers"
abbrev wAH:Str:="usewarden.programs"
abbrev wAI:Str:="usewarden.numbered"
abbrev wAJ:Str:="usewarden.codes"
noncomputable def KK(P:Params):Frag:=
 (nat_lit 2,⟨.none,none,.dict #[] 0,#[]⟩)::(nat_lit 3,⟨.type "dict",none,.dict #[KQ P "__name__" 165 (.str wAE 634),KQ P "__doc__" 166 .none,KQ P "__package__" 167 .none,KQ P "__loader__" 168 (.builtin "__main__.__loader__#opaque"),KQ P "__spec__" 169 .none,KQ P "__annotations__" 170 (.ref 6),KQ P "__builtins__" 171 (.ref 4),KQ P "__file__" 173 (.str "/claim/cut.py" 172),KQ P "__cached__" 174 .none,KQ P "next_room" 198 (.ref 21),KQ P "room_from" 208 (.ref 28),KQ P "is_in" 218 (.ref 35),KQ P "without" 226 (.ref 42),KQ P "held_behind" 234 (.ref 49),KQ P "is_of_two" 241 (.ref 56),KQ P "has_room" 248 (.ref 63),KQ P "texts_done" 254 (.ref 68),KQ P "texts_at" 262 (.ref 75),KQ P "room_behind" 271 (.ref 82),KQ P "begun_by_open" 285 (.ref 89),KQ P "begun_by_tie" 291 (.ref 94),KQ P "begins_at" 303 (.ref 101),KQ P "behind_at" 309 (.ref 106),KQ P "rows_behind" 318 (.ref 113),KQ P "made_of" 332 (.ref 120),KQ P "put" 344 (.ref 127),KQ P "paper_of" 350 (.ref 132),KQ P "PARTS" 385 (.ref 133),KQ P "CLOSERS" 396 (.ref 142),KQ P "closers_of" 403 (.ref 152),KQ P "head_of" 410 (.ref 159),KQ P "blocks_of" 417 (.ref 166),KQ P "steps_within" 427 (.ref 173),KQ P "names_in" 438 (.ref 180),KQ P "lines_of" 444 (.ref 185),KQ P "names_of" 451 (.ref 192),KQ P "NumberedStep" 487 (.ref 209),KQ P "line_behind" 495 (.ref 220),KQ P "numbered_step" 507 (.ref 227),KQ P "numbered_steps" 517 (.ref 234),KQ P "lend_lines" 525 (.ref 239),KQ P "slots_of" 535 (.ref 246),KQ P "simple_row" 541 (.ref 251),KQ P "lend_rows" 558 (.ref 258),KQ P "if_rows" 573 (.ref 265),KQ P "loop_rows" 584 (.ref 272),KQ P "while_rows" 597 (.ref 279),KQ P "rows_of" 610 (.ref 286),KQ P "rows_and_end" 619 (.ref 293),KQ P "code_of" 626 (.ref 300),KQ P "turned_code" 633 (.ref 307),KQ P "_law_cell_at" 643 (.ref 314),KQ P "_law_words" 649 (.ref 319),KQ P "_law_step" 663 (.ref 326),KQ P "_law_put" 671 (.ref 333),KQ P "_law_close" 682 (.ref 340),KQ P "_law_program" 696 (.ref 347),KQ P "_law_rule" 716 (.ref 354),KQ P "_law_slots" 725 (.ref 361),KQ P "_law_next" 734 (.ref 368),KQ P "_law_code" 740 (.ref 373),KQ P "_law_inputs" 746 (.ref 378),KQ P "_law_stands" 752 (.ref 383),KQ P "_law_done" 762 (.ref 390),KQ P "_law_known" 771 (.ref 397),KQ P "_law_run" 777 (.ref 402),KQ P "law" 783 (.ref 407)] 67,#[]⟩)::(nat_lit 15,wAB)::(nat_lit 17,wAA ["rule","room","text","words"] 192)::(nat_lit 18,wAB)::(nat_lit 20,wAC "next_room" 189 2 3 15 196)::(nat_lit 21,FC "next_room" 1 "usewarden.rules" 187 20)::(nat_lit 22,wAB)::(nat_lit 24,wAA ["rule","room","row","text"] 202)::(nat_lit 25,wAB)::(nat_lit 27,wAC "room_from" 199 7 3 22 206)::(nat_lit 28,FC "room_from" 2 "usewarden.rules" 187 27)::(nat_lit 29,wAB)::(nat_lit 31,wAA ["slot","held"] 214)::(nat_lit 32,wAB)::(nat_lit 34,wAC "is_in" 211 14 2 29 216)::(nat_lit 35,FC "is_in" 4 wAF 209 34)::(nat_lit 36,wAB)::(nat_lit 38,wAA ["slot","held"] 222)::(nat_lit 39,wAB)::(nat_lit 41,wAC "without" 219 16 2 36 224)::(nat_lit 42,FC "without" 5 wAF 209 41)::(nat_lit 43,wAB)::(nat_lit 45,wAA ["row","held"] 230)::(nat_lit 46,wAB)::(nat_lit 48,wAC "held_behind" 227 18 2 43 232)::(nat_lit 49,FC "held_behind" 6 wAF 209 48)::(nat_lit 50,wAB)::(nat_lit 52,wAA ["token"] 238)::(nat_lit 53,wAB)::(nat_lit 55,wAC "is_of_two" 235 24 1 50 239)::(nat_lit 56,FC "is_of_two" 7 wAF 209 55)::(nat_lit 57,wAB)::(nat_lit 59,wAA ["token"] 245)::(nat_lit 60,wAB)::(nat_lit 62,wAC "has_room" 242 26 1 57 246)::(nat_lit 63,FC "has_room" 8 wAF 209 62)::(nat_lit 64,wAB)::(nat_lit 67,wAD "texts_done" 249 28 2 64)::(nat_lit 68,FC "texts_done" 9 wAF 209 67)::(nat_lit 69,wAB)::(nat_lit 71,wAA ["row","token"] 258)::(nat_lit 72,wAB)::(nat_lit 74,wAC "texts_at" 255 34 2 69 260)::(nat_lit 75,FC "texts_at" 10 wAF 209 74)::(nat_lit 76,wAB)::(nat_lit 78,wAA ["rule","row","token"] 266)::(nat_lit 79,wAB)::(nat_lit 81,wAC "room_behind" 263 42 3 76 269)::(nat_lit 82,FC "room_behind" 11 wAF 209 81)::(nat_lit 83,wAB)::(nat_lit 85,wAA ["rule","slot","tokens","new","room","begun","token","held"] 275)::(nat_lit 86,wAB)::(nat_lit 88,wAC "begun_by_open" 272 44 3 83 283)::(nat_lit 89,FC "begun_by_open" 12 wAF 209 88)::(nat_lit 90,wAB)::(nat_lit 93,wAD "begun_by_tie" 286 56 3 90)::(nat_lit 94,FC "begun_by_tie" 13 wAF 209 93)::(nat_lit 95,wAB)::(nat_lit 97,wAA ["code","rule","at","tokens","row","begun"] 295)::(nat_lit 98,wAB)::(nat_lit 100,wAC "begins_at" 292 59 4 95 301)::(nat_lit 101,FC "begins_at" 14 wAF 209 100)::(nat_lit 102,wAB)::(nat_lit 105,wAD "behind_at" 304 67 4 102)::(nat_lit 106,FC "behind_at" 15 wAF 209 105)::(nat_lit 107,wAB)::(nat_lit 109,wAA ["code","at","row"] 313)::(nat_lit 110,wAB)::(nat_lit 112,wAC "rows_behind" 310 77 2 107 316)::(nat_lit 113,FC "rows_behind" 16 wAF 209 112)::(nat_lit 114,wAB)::(nat_lit 116,wAA ["code","rule","at","token","begun","behind"] 324)::(nat_lit 117,wAB)::(nat_lit 119,wAC "made_of" 321 87 4 114 330)::(nat_lit 120,FC "made_of" 18 wAG 319 119)::(nat_lit 121,wAB)::(nat_lit 123,wAA ["found","rows","tokens","new","at","token"] 336)::(nat_lit 124,wAB)::(nat_lit 126,wAC "put" 333 91 3 121 342)::(nat_lit 127,FC "put" 19 wAG 319 126)::(nat_lit 128,wAB)::(nat_lit 131,wAD "paper_of" 345 99 2 128)::(nat_lit 132,FC "paper_of" 20 wAG 319 131)::(nat_lit 133,⟨.type "dict",none,.dict #[KQ P "open" 353 (.ref 134),KQ P "do" 355 (.ref 135),KQ P "copy" 358 (.ref 136),KQ P "drop" 361 (.ref 137),KQ P "tie" 363 (.ref 138),KQ P "lend" 366 (.ref 139),KQ P "if" 370 (.ref 140),KQ P "while" 374 (.ref 141)] 8,#[]⟩)::(nat_lit 134,wAA ["name"] 354)::(nat_lit 135,wAA ["word","name"] 356)::(nat_lit 136,wAA ["name","name"] 359)::(nat_lit 137,wAA ["name"] 362)::(nat_lit 138,wAA ["name","name"] 364)::(nat_lit 139,wAA ["name","name","steps"] 367)::(nat_lit 140,wAA ["bound","steps","steps"] 371)::(nat_lit 141,wAA ["bound","steps"] 375)::(nat_lit 142,⟨.type "dict",none,.dict #[KQ P "lend" 386 (.ref 143),KQ P "if" 388 (.ref 144),KQ P "while" 391 (.ref 145)] 3,#[]⟩)::(nat_lit 143,wAA ["back"] 387)::(nat_lit 144,wAA ["else","fi"] 389)::(nat_lit 145,wAA ["done"] 392)::(nat_lit 146,wAB)::(nat_lit 148,wAA ["kind"] 400)::(nat_lit 149,wAB)::(nat_lit 151,wAC "closers_of" 397 112 1 146 401)::(nat_lit 152,FC "closers_of" 24 wAH 351 151)::(nat_lit 153,wAB)::(nat_lit 155,wAA ["step"] 407)::(nat_lit 156,wAB)::(nat_lit 158,wAC "head_of" 404 114 1 153 408)::(nat_lit 159,FC "head_of" 25 wAH 351 158)::(nat_lit 160,wAB)::(nat_lit 162,wAA ["step"] 414)::(nat_lit 163,wAB)::(nat_lit 165,wAC "blocks_of" 411 116 1 160 415)::(nat_lit 166,FC "blocks_of" 26 wAH 351 165)::(nat_lit 167,wAB)::(nat_lit 169,wAA ["program","steps","step","block"] 421)::(nat_lit 170,wAB)::(nat_lit 172,wAC "steps_within" 418 118 1 167 425)::(nat_lit 173,FC "steps_within" 27 wAH 351 172)::(nat_lit 174,wAB)::(nat_lit 176,wAA ["steps","names","step","part","kind"] 431)::(nat_lit 177,wAB)::(nat_lit 179,wAC "names_in" 428 125 1 174 436)::(nat_lit 180,FC "names_in" 28 wAH 351 179)::(nat_lit 181,wAB)::(nat_lit 184,wAD "lines_of" 439 132 1 181)::(nat_lit 185,FC "lines_of" 29 wAH 351 184)::(nat_lit 186,wAB)::(nat_lit 188,wAA ["program"] 448)::(nat_lit 189,wAB)::(nat_lit 191,wAC "names_of" 445 140 1 186 449)::(nat_lit 192,FC "names_of" 30 wAH 351 191)::(nat_lit 200,wAB)::(nat_lit 202,wAA ["self","head","lines","blocks"] 469)::(nat_lit 203,wAB)::(nat_lit 205,KU "__init__" 466 "NumberedStep.__init__" 467 468 145 4 200 201 202 203 204 473 474)::(nat_lit 206,KR "__init__" "NumberedStep.__init__" 32 0 .none wAI 452 205)::(nat_lit 207,wAA ["blocks","kind","lines","parts"] 476)::(nat_lit 208,⟨.type "dict",none,.dict #[KQ P "__module__" 461 (.str wAI 452),KQ P "__firstlineno__" 465 (.int 143 464),KQ P "__init__" 475 (.ref 206),KQ P "__static_attributes__" 480 (.ref 207),KQ P "__dict__" 482 (.ref 210),KQ P "__weakref__" 484 (.ref 211),KQ P "__doc__" 485 .none] 4,#[]⟩)::(nat_lit 209,⟨.type "type",none,.cls ⟨"NumberedStep",[.type "object"],[.ref 209,.type "object"],208,"NumberedStep",true,[],[],false,none,false⟩,#[none,none,some (.str "NumberedStep" 454),some (.str "NumberedStep" 462),some (.builtin "object.__new__"),some (.bool true)]⟩)::(nat_lit 210,⟨.type "getset_descriptor",none,.fields #[.str "__dict__" 481,.ref 209,.builtin "function.__dict__",.builtin "function.__dict__#set"],#[]⟩)::(nat_lit 211,⟨.type "getset_descriptor",none,.fields #[.str "__weakref__" 483,.ref 209,.builtin "ExceptionGroup.__weakref__",.none],#[]⟩)::(nat_lit 214,wAB)::(nat_lit 216,wAA ["steps","line"] 491)::(nat_lit 217,wAB)::(nat_lit 219,wAC "line_behind" 488 150 2 214 493)::(nat_lit 220,FC "line_behind" 33 wAI 452 219)::(nat_lit 221,wAB)::(nat_lit 223,wAA ["step","line","lines","blocks","block","steps"] 499)::(nat_lit 224,wAB)::(nat_lit 226,wAC "numbered_step" 496 152 2 221 505)::(nat_lit 227,FC "numbered_step" 34 wAI 452 226)::(nat_lit 228,wAB)::(nat_lit 230,wAA ["steps","line","numbered","step"] 511)::(nat_lit 231,wAB)::(nat_lit 233,wAC "numbered_steps" 508 160 2 228 515)::(nat_lit 234,FC "numbered_steps" 35 wAI 452 233)::(nat_lit 235,wAB)::(nat_lit 238,wAD "lend_lines" 520 166 1 235)::(nat_lit 239,FC "lend_lines" 37 wAJ 518 238)::(nat_lit 240,wAB)::(nat_lit 242,wAA ["program","slots","slot","holder"] 529)::(nat_lit 243,wAB)::(nat_lit 245,wAC "slots_of" 526 168 1 240 533)::(nat_lit 246,FC "slots_of" 38 wAJ 518 245)::(nat_lit 247,wAB)::(nat_lit 250,wAD "simple_row" 536 173 2 247)::(nat_lit 251,FC "simple_row" 39 wAJ 518 250)::(nat_lit 252,wAB)::(nat_lit 254,wAA ["step","at","slots","turned","line","back","giver","taker","lent","ahead","within"] 545)::(nat_lit 255,wAB)::(nat_lit 257,wAC "lend_rows" 542 178 4 252 556)::(nat_lit 258,FC "lend_rows" 40 wAJ 518 257)::(nat_lit 259,wAB)::(nat_lit 261,wAA ["step","at","slots","turned","more","jump","rest","behind","test"] 562)::(nat_lit 262,wAB)::(nat_lit 264,wAC "if_rows" 559 187 4 259 571)::(nat_lit 265,FC "if_rows" 41 wAJ 518 264)::(nat_lit 266,wAB)::(nat_lit 268,wAA ["step","at","slots","within","behind"] 577)::(nat_lit 269,wAB)::(nat_lit 271,wAC "loop_rows" 574 194 3 266 582)::(nat_lit 272,FC "loop_rows" 42 wAJ 518 271)::(nat_lit 273,wAB)::(nat_lit 275,wAA ["step","at","slots","turned","first","loop","behind"] 588)::(nat_lit 276,wAB)::(nat_lit 278,wAC "while_rows" 585 198 4 273 595)::(nat_lit 279,FC "while_rows" 43 wAJ 518 278)::(nat_lit 280,wAB)::(nat_lit 282,wAA ["steps","at","slots","turned","rows","step","place"] 601)::(nat_lit 283,wAB)::(nat_lit 285,wAC "rows_of" 598 205 4 280 608)::(nat_lit 286,FC "rows_of" 44 wAJ 518 285)::(nat_lit 287,wAB)::(nat_lit 289,wAA ["program","turned","steps"] 614)::(nat_lit 290,wAB)::(nat_lit 292,wAC "rows_and_end" 611 218 2 287 617)::(nat_lit 293,FC "rows_and_end" 45 wAJ 518 292)::(nat_lit 294,wAB)::(nat_lit 296,wAA ["program"] 623)::(nat_lit 297,wAB)::(nat_lit 299,wAC "code_of" 620 221 1 294 624)::(nat_lit 300,FC "code_of" 46 wAJ 518 299)::(nat_lit 301,wAB)::(nat_lit 303,wAA ["program"] 630)::(nat_lit 304,wAB)::(nat_lit 306,wAC "turned_code" 627 223 1 301 631)::(nat_lit 307,FC "turned_code" 47 wAJ 518 306)::(nat_lit 308,wAB)::(nat_lit 310,wAA ["_law_script","_law_k"] 639)::(nat_lit 311,wAB)::(nat_lit 313,wAC "_law_cell_at" 636 226 2 308 641)::(nat_lit 314,FC "_law_cell_at" 49 wAE 634 313)::(nat_lit 315,wAB)::(nat_lit 318,wAD "_law_words" 644 230 2 315)::(nat_lit 319,FC "_law_words" 50 wAE 634 318)::(nat_lit 320,wAB)::(nat_lit 322,wAA ["_law_cell","_law_names","_law_words_here","_law_x","_law_y","_law_word","_law_bound","_law_some"] 653)::(nat_lit 323,wAB)::(nat_lit 325,wAC "_law_step" 650 243 3 320 661)::(nat_lit 326,FC "_law_step" 51 wAE 634 325)::(nat_lit 327,wAB)::(nat_lit 329,wAA ["_law_pile","_law_step_here"] 667)::(nat_lit 330,wAB)::(nat_lit 332,wAC "_law_put" 664 252 2 327 669)::(nat_lit 333,FC "_law_put" 52 wAE 634 332)::(nat_lit 334,wAB)::(nat_lit 336,wAA ["_law_pile","_law_head","_law_first","_law_second","_law_side"] 675)::(nat_lit 337,wAB)::(nat_lit 339,wAC "_law_close" 672 254 1 334 680)::(nat_lit 340,FC "_law_close" 53 wAE 634 339)::(nat_lit 341,wAB)::(nat_lit 343,wAA ["_law_cells","_law_names","_law_words_here","_law_lends","_law_deep","_law_pile","_law_cell","_law_step_here"] 686)::(nat_lit 344,wAB)::(nat_lit 346,wAC "_law_program" 683 260 5 341 694)::(nat_lit 347,FC "_law_program" 54 wAE 634 346)::(nat_lit 348,wAB)::(nat_lit 350,wAA ["_law_cells","_law_sides","_law_words_here","_law_most","_law_texts","_law_k","_law_bits","_law_many","_law_share","_law_rooms","_law_rest","_law_room","_law_text","_law_digit"] 700)::(nat_lit 351,wAB)::(nat_lit 353,wAC "_law_rule" 697 277 4 348 714)::(nat_lit 354,FC "_law_rule" 55 wAE 634 353)::(nat_lit 355,wAB)::(nat_lit 357,wAA ["_law_code_here","_law_most","_law_row"] 720)::(nat_lit 358,wAB)::(nat_lit 360,wAC "_law_slots" 717 303 1 355 723)::(nat_lit 361,FC "_law_slots" 56 wAE 634 360)::(nat_lit 362,wAB)::(nat_lit 364,wAA ["_law_rule_here","_law_room","_law_text"] 729)::(nat_lit 365,wAB)::(nat_lit 367,wAC "_law_next" 726 311 3 362 732)::(nat_lit 368,FC "_law_next" 57 wAE 634 367)::(nat_lit 369,wAB)::(nat_lit 372,wAD "_law_code" 735 315 5 369)::(nat_lit 373,FC "_law_code" 58 wAE 634 372)::(nat_lit 374,wAB)::(nat_lit 377,wAD "_law_inputs" 741 323 2 374)::(nat_lit 378,FC "_law_inputs" 59 wAE 634 377)::(nat_lit 379,wAB)::(nat_lit 382,wAD "_law_stands" 747 331 3 379)::(nat_lit 383,FC "_law_stands" 60 wAE 634 382)::(nat_lit 384,wAB)::(nat_lit 386,wAA ["_law_rule_here","_law_row","_law_slots_here","_law_rooms"] 756)::(nat_lit 387,wAB)::(nat_lit 389,wAC "_law_done" 753 340 4 384 760)::(nat_lit 390,FC "_law_done" 61 wAE 634 389)::(nat_lit 391,wAB)::(nat_lit 393,wAA ["_law_tokens","_law_known_here","_law_token"] 766)::(nat_lit 394,wAB)::(nat_lit 396,wAC "_law_known" 763 350 1 391 769)::(nat_lit 397,FC "_law_known" 62 wAE 634 396)::(nat_lit 398,wAB)::(nat_lit 401,wAD "_law_run" 772 356 4 398)::(nat_lit 402,FC "_law_run" 63 wAE 634 401)::(nat_lit 403,wAB)::(nat_lit 406,wAD "law" 778 376 1 403)::(nat_lit 407,FC "law" 64 wAE 634 406)::[]
noncomputable def kk:LC:=[2,3,15,17,18,20,21,22,24,25,27,28,29,31,32,34,35,36,38,39,41,42,43,45,46,48,49,50,52,53,55,56,57,59,60,62,63,64,67,68,69,71,72,74,75,76,78,79,81,82,83,85,86,88,89,90,93,94,95,97,98,100,101,102,105,106,107,109,110,112,113,114,116,117,119,120,121,123,124,126,127,128,131,132,133,134,135,136,137,138,139,140,141,142,143,144,145,146,148,149,151,152,153,155,156,158,159,160,162,163,165,166,167,169,170,172,173,174,176,177,179,180,181,184,185,186,188,189,191,192,200,202,203,205,206,207,208,209,210,211,214,216,217,219,220,221,223,224,226,227,228,230,231,233,234,235,238,239,240,242,243,245,246,247,250,251,252,254,255,257,258,259,261,262,264,265,266,268,269,271,272,273,275,276,278,279,280,282,283,285,286,287,289,290,292,293,294,296,297,299,300,301,303,304,306,307,308,310,311,313,314,315,318,319,320,322,323,325,326,327,329,330,332,333,334,336,337,339,340,341,343,344,346,347,348,350,351,353,354,355,357,358,360,361,362,364,365,367,368,369,372,373,374,377,378,379,382,383,384,386,387,389,390,391,393,394,396,397,398,401,402,403,406,407]
theorem kk_eq:∀P,kk=(KK P).map (·.1):=λ_=>by kernel_rfl
noncomputable abbrev HH:Hook:=kHook KK kk kk_eq
noncomputable def qq:Program:=view PySem.Challenge.pw_usewarden_k57_whole_handles_stand_in_pap [1,2,4,5,6,7,8,9,10,11,12,13,14,15,16,18,19,20,22,23,24,25,26,27,28,29,30,32,33,34,35,37,38,39,40,41,42,43,44,45,46,47,49,50,51,52,53,54,55,56,57,58,59,60,61,62,63,64]
def loo:KZ:=["PARTS","CLOSERS"]
noncomputable def xt(s:Shared):Bool:=xlAt qq [] s&&recOk (RowW.records (OpenRow.toRowW (OpenLaw.row PySem.Challenge.rw_usewarden_k57_whole_handles_stand_in_pap))) s
noncomputable def CF(s:Shared):=openSeen qq loo (importedModules (Program.main PySem.Challenge.pw_usewarden_k57_whole_handles_stand_in_pap).body) xt true s
noncomputable def tE(w:World)(os:OsState):Option Shared:=(L2.tEnd PySem.Challenge.pw_usewarden_k57_whole_handles_stand_in_pap w 2308 os).map SharedT.abs
noncomputable def vn(w:World):Prop:=∀os,(tE w os).map (λs=>(L2.tOk PySem.Challenge.pw_usewarden_k57_whole_handles_stand_in_pap w s,Hook.obs HH s))=some (true,Hook.val HH w)
set_option maxRecDepth 1000000 in
theorem NL(w:World):vn (w.withFollow "special-get-raises" false):=by unfold vn;intro os;kernel_rfl
set_option maxRecDepth 1000000 in
theorem Og(w:World):vn (w.withFollow "special-get-raises" true):=by unfold vn;intro os;kernel_rfl
theorem NH(w:World):vn w:=byRow2 "special-get-raises" (P:=vn) NL Og w
noncomputable def vf(w:World):Prop:=∀os,(tE w os).map (λs=>(CF s).1)=some (openGood qq loo).1
set_option maxRecDepth 1000000 in
theorem Ln(w:World):vf (w.withFollow "special-get-raises" false):=by unfold vf;intro os;kernel_rfl
set_option maxRecDepth 1000000 in
theorem NS(w:World):vf (w.withFollow "special-get-raises" true):=by unfold vf;intro os;kernel_rfl
theorem KI(w:World):vf w:=byRow2 "special-get-raises" (P:=vf) Ln NS w
noncomputable def vA(w:World):Prop:=∀os,(tE w os).map (λs=>(CF s).2)=some (openGood qq loo).2
set_option maxRecDepth 1000000 in
theorem NU(w:World):vA (w.withFollow "special-get-raises" false):=by unfold vA;intro os;kernel_rfl
set_option maxRecDepth 1000000 in
theorem NF(w:World):vA (w.withFollow "special-get-raises" true):=by unfold vA;intro os;kernel_rfl
theorem Kh(w:World):vA w:=byRow2 "special-get-raises" (P:=vA) NU NF w
theorem hl(w:World):(openEnds treeTable PySem.Challenge.pw_usewarden_k57_whole_handles_stand_in_pap w 2308).map (λs=>(CF s,Hook.obs HH s))=some (openGood qq loo,Hook.val HH w):=by
 refine L2.tLeft (by kernel_rfl) (by decide) (λ_=>by kernel_rfl) (by kernel_rfl) λos=>?_
 obtain⟨s,e,h⟩:=L2.KF.mp (NH w os)
 have h2:=KI w os;have F:=Kh w os;rw[e]at h2 F
 obtain⟨r,J,rfl⟩:=L2.KF.mp e
 exact⟨r,J,(Prod.mk.inj h).1,congr (congrArg Prod.mk (Prod.ext (Option.some.inj h2) (Option.some.inj F))) (Prod.mk.inj h).2⟩
end K57
namespace L2
open PySem PySem.Spec PyProof.Rows
variable{a b C:Addr}{h:Heap}{w:World}{t' i:Nat}{x:Str}{A:Around}{E Q:KY}{u:Value}{e tg:Expr}{s:Shared}{pos:Pos}{K:W.Frag}
abbrev aL:=Sum Int Str
noncomputable def kT:aL->Value->Bool
 | .inl k,v=>Value.isInt k v
 | .inr x,v=>Value.isStrOf x v
noncomputable def ON(w:World):aL->Int
 | .inl k=>hashInt k
 | .inr x=>hashStr w x
theorem cV:∀ {k:aL} {v:Value},kT k v=true->(∃i t,k=Sum.inl i/\v=Value.int i t)\/(∃x t,k=Sum.inr x/\v=Value.str x t)
 | .inl i,v,h=>by
  obtain⟨t,e⟩:=J8 (k:=i) (v:=v) h
  exact .inl ⟨i,t,rfl,e⟩
 | .inr x,v,h=>by
  obtain⟨t,e⟩:=Value.isStrOf_shape (x:=x) (v:=v) h
  exact .inr ⟨x,t,rfl,e⟩
theorem AM(i:Int)(t:Tok):kT (.inl i) (.int i t)=true:=by simp[kT,Value.isInt]
theorem zT(x:Str)(t:Tok):kT (.inr x) (.str x t)=true:=by simp[kT,Value.isStrOf]
theorem GE(a b:Int):decide ((Sum.inl a:aL)=Sum.inl b)=(a==b):=by
 by_cases e:a=b
 .subst e;simp
 .have h:¬ (Sum.inl a:aL)=Sum.inl b:=λq=>e (Sum.inl.inj q)
  rw[decide_eq_false h];exact(beq_eq_false_iff_ne.mpr e).symm
theorem Hw(a b:Str):decide ((Sum.inr a:aL)=Sum.inr b)=decide (a=b):=by
 by_cases e:a=b
 .subst e;simp
 .have h:¬ (Sum.inr a:aL)=Sum.inr b:=λq=>e (Sum.inr.inj q)
  rw[decide_eq_false h,decide_eq_false e]
theorem Fz(a:Int)(b:Str):decide ((Sum.inl a:aL)=Sum.inr b)=false:=decide_eq_false (λq=>nomatch q)
theorem HP(a:Str)(b:Int):decide ((Sum.inr a:aL)=Sum.inl b)=false:=decide_eq_false (λq=>nomatch q)
noncomputable def cQ(prog:Program)(w:World):PySem.KeyKind prog w aL where
 is:=kT
 hash:=ON w
 inj:=λv a b ha hb=>by
  rcases cV ha with ⟨i,t,rfl,rfl⟩ | ⟨x,t,rfl,rfl⟩
  .rcases cV hb with ⟨j,u,rfl,e⟩ | ⟨y,u,rfl,e⟩
   .injection e with e1 _;rw[e1]
   .exact nomatch e
  .rcases cV hb with ⟨j,u,rfl,e⟩ | ⟨y,u,rfl,e⟩
   .exact nomatch e
   .injection e with e1 _;rw[e1]
 byValue:=λk v h=>by
  rcases cV h with ⟨i,t,rfl,rfl⟩ | ⟨x,t,rfl,rfl⟩<;>rfl
 pyHash:=λhv h=>by
  rcases cV hv with ⟨i,t,rfl,rfl⟩ | ⟨x,t,rfl,rfl⟩
  .exact wpAny_pyHash_int h
  .exact wpAny_pyHash_str h
 eqBool:=λhu hv h=>by
  rcases cV hu with ⟨i,t,rfl,rfl⟩ | ⟨x,t,rfl,rfl⟩
  .rcases cV hv with ⟨j,u,rfl,rfl⟩ | ⟨y,u,rfl,rfl⟩
   .rw[GE]at h;exact wpAny_eqBool_int h
   .rw[Fz]at h;exact SeqAt.EqAt.int_str i t y u _ _ _ _ h
  .rcases cV hv with ⟨j,u,rfl,rfl⟩ | ⟨y,u,rfl,rfl⟩
   .rw[HP]at h;exact SeqAt.EqAt.str_int x t j u _ _ _ _ h
   .rw[Hw]at h;exact wpAny_eqBool_str h
 «strs»:=λk x t v h=>by
  rcases cV h with ⟨i,u,rfl,e⟩ | ⟨y,u,rfl,e⟩
  .exact nomatch e
  .injection e with e1 _
   subst e1
   cases v<;>rfl
theorem uA(prog:Program)(w:World)(i:Int)(t:Tok):(cQ prog w).is (.inl i) (.int i t)=true:=AM i t
theorem uG(prog:Program)(w:World)(x:Str)(t:Tok):(cQ prog w).is (.inr x) (.str x t)=true:=zT x t
set_option genSizeOf false in
inductive V where
 | non | bl (b:Bool) | int (i:Int) | str (x:Str) | byt (b:Array UInt8) | flt (b:UInt64) | ref (a:Addr) | ty (n:String)
 deriving DecidableEq
variable{v:V}
abbrev LB:=List V
abbrev LK:=Option V
def RelV:V->Value->Prop
 | .non,u=>u=Value.none
 | .bl b,u=>u=Value.bool b
 | .int i,u=>∃t,u=Value.int i t
 | .str x,u=>∃t,u=Value.str x t
 | .byt b,u=>∃t,u=Value.bytes b t
 | .flt b,u=>∃t,u=Value.float b t
 | .ref a,u=>u=Value.ref a
 | .ty n,u=>u=Value.type n
abbrev A1:LB->LD->Prop:=Paired RelV
theorem A1.length{xs:LB}{F:LD}(r:A1 xs F):xs.length=F.length:=zaO r
theorem A1.get:∀ {xs:LB} {F:LD} {i:Nat} {x:V},A1 xs F->xs[i]?=some x->∃u,F[i]?=some u/\RelV x u
 | _,_,_,_,.nil,e=>by simp at e
 | _,_,0,_,.cons r _,e=>by simp at e;subst e;exact⟨_,rfl,r⟩
 | _,_,i+1,x,.cons _ t,e=>by
  obtain⟨u,h1,h2⟩:=A1.get (i:=i) (x:=x) t (by simpa using e)
  exact⟨u,by simpa using h1,h2⟩
theorem A1.set{x:V}{u:Value}(r:RelV x u):∀ {xs:LB} {F:LD} (i:Nat),A1 xs F->A1 (xs.set i x) (F.set i u)
 | _,_,_,.nil=>.nil
 | _,_,0,.cons _ t=>.cons r t
 | _,_,i+1,.cons q t=>.cons q (A1.set r i t)
theorem A1.append:∀ {xs ys:LB} {F ws:LD},A1 xs F->A1 ys ws->A1 (xs++ys) (F++ws)
 | _,_,_,_,.nil,s=>s
 | _,_,_,_,.cons r t,s=>.cons r (A1.append t s)
theorem A1.take:∀ {xs:LB} {F:LD} (n:Nat),A1 xs F->A1 (xs.take n) (F.take n)
 | _,_,0,_=>.nil
 | _,_,_+1,.nil=>.nil
 | _,_,n+1,.cons r t=>.cons r (A1.take n t)
theorem A1.drop:∀ {xs:LB} {F:LD} (n:Nat),A1 xs F->A1 (xs.drop n) (F.drop n)
 | _,_,0,r=>r
 | _,_,_+1,.nil=>.nil
 | _,_,n+1,.cons _ t=>A1.drop n t
theorem A1.none_of:∀ {xs:LB} {F:LD} {i:Nat},A1 xs F->xs[i]?=none->F[i]?=none:=λ{xs F i} r e=>by
 have h1:=r.length;have h2:xs.length<=i:=KL.mp e
 exact KL.mpr (by lia)
def GB:LK->LF->Prop
 | some v,some u=>RelV v u
 | none,none=>True
 | _,_=>False
def KV{κ:Type}:List (κ×V)->List (κ×Value)->Prop:=Paired λ(p:κ×V) (q:κ×Value)=>p.1=q.1/\RelV p.2 q.2
noncomputable def kV:aL->V
 | .inl i=>.int i
 | .inr x=>.str x
set_option genSizeOf false in
inductive HO where
 /-- a list -/
 | lst (xs:LB)
 /-- a tuple (never changes) -/
 | tup (xs:LB)
 /-- a dict whose keys are ints and texts;one whose keys are tuples of ints and texts (the empty one is both) -/
 | dK (kvs:List (aL×V)) | dT (kvs:List (List aL×V))
 /-- a set of ints: its members,its size -/
 | set (S:Int->Bool) (n:Nat)
 /-- an instance of the class at C,its dict at dx,its attributes -/
 | ins (C dx:Addr) (fs:List (Str×V))
 /-- the dict of the instance at x -/
 | own (x:Addr)
 /-- the dict of an exception -/
 | xd (fs:List (Str×V))
 /-- a bound method,f of x -/
 | met (f x:Addr)
 /-- a range object lo,lo+1,.. below hi -/
 | rng (lo hi:Int)
 /-- a thing that is known to the object (the script;a dict while a loop walks it): read,never written while it is so -/
 | frz (o:Obj) (u:HO)
 /-- a code object's table -/
 | tbl (ps:LM)
 /-- any other thing,by what is true of its one object (a def of one's own: SetO a S n := HO.ext λh=> ..) -/
 | ext (φ : Heap->Prop)
variable{o:HO}
abbrev Hp:=Addr->Option HO
variable{H:Hp}
noncomputable def upd(H:Hp)(a:Addr)(o:HO):Hp:=λb=>if b=a then some o else H b
theorem ai:upd H a o a=some o:=by unfold upd;rw[Kx rfl]
theorem au(h:b≠a):upd H a o b=H b:=by unfold upd;rw[Kt h]
theorem cT{u:HO}(h:H a=some o)(h':H b=some u)(d:o≠u):a≠b:=by
 intro e;subst e;rw[h]at h';exact d (Option.some.inj h')
theorem aP(h:H a=some o)(h':H b=none):a≠b:=by
 intro e;subst e;rw[h]at h';cases h'
def F3(h:Heap)(a:Addr)(items:LM):Prop:=∃o,h.get? a=some o/\o.cls = .type "tuple" /\ o.dict=none/\∃n,o.data = .seq items n
theorem F3.tup{F:LM}(x:F3 h a F):IsTup h a F:=let ⟨o,e,c,_,d⟩:=x;⟨o,e,c,d⟩
theorem F3.lt{F:LM}(x:F3 h a F):a<h.objs.size:=let ⟨_,e,_⟩:=x;wD e
theorem F3.new(h:Heap)(F:LM):F3 (h.push {cls:=.type "tuple",data:=.seq F}) h.objs.size F:=⟨_,yk _ rfl,rfl,rfl,_,rfl⟩
section
variable(P:Program)(w:World)
def BC(H:Hp)(h:Heap)(a:Addr):HO->Prop
 | .lst xs=>xs.length<=sizeLine/\∃(its:LD) (n:Nat),A1 xs its/\h.get? a=some {cls:=.type "list",data:=.seq its.toArray n}
 | .tup xs=>xs.length<=sizeLine/\∃its:LD,A1 xs its/\F3 h a its.toArray
 | .dK kvs=>kvs.length<=sizeLine/\(a==sysModules)=false/\∃vs,KV kvs vs/\h.DictOf (cQ P w) a vs
 | .dT kvs=>kvs.length<=sizeLine/\(a==sysModules)=false/\∃xs:List (List aL×Addr×Value),
   Paired (λ(p:List aL×V) (q:List aL×Addr×Value)=>p.1=q.1/\H q.2.1=some (.tup (p.1.map kV))/\RelV p.2 q.2.2) kvs xs/\
   ∃o es ep,h.get? a=some o/\o.ExactDict/\o.data = .dict es ep/\es.toList=xs.map (entryOfKey (tupleKind (cQ P w)))/\(xs.map (·.1)).Nodup
 | .set S n=>h.SetOf (intKind P w) a S n
 | .ins C dx fs=>H dx=some (.own a)/\fs.length<=1000/\dx≠a/\h.get? a=some (W.instObj C dx)/\
   ∃mA,h.Ns1 dx mA/\(∀f,GB (fs.lookup f) (mA f))/\PySem.Within mA (fs.map (·.1))
 | .own _=>∃o,h.get? a=some o
 | .xd fs=>∃mA,h.Ns1 a mA/\∀f,GB (fs.lookup f) (mA f)
 | .rng lo hi=>∃t u v,h.get? a=some {cls:=.type "range",data:=.fields #[.int lo t,.int hi u,.int 1 v]}
 | .frz o u=>h.get? a=some o/\BC H h a u
 | .tbl ps=>h.get? a=some {cls:=.none,data:=.fields ps}
 | .met f x=>h.get? a=some (W.methodObj (.ref f) (.ref x))
 | .ext φ=>φ h/\(∃o,h.get? a=some o)/\∀h1 h2:Heap,φ h1->(∀o,h1.get? a=some o->h2.get? a=some o)->φ h2
def Gv(H:Hp)(h:Heap):Prop:=∀a o,H a=some o->BC P w H h a o
end
section
variable{P:Program}{w:World}{H H':Hp}{h h':Heap}{a:Addr}{o:HO}
theorem BC.lt(x:BC P w H h a o):a<h.objs.size:=by
 cases o with
 | lst xs=>obtain⟨_,_,_,_,e⟩:=x;exact wD e
 | tup xs=>obtain⟨_,_,_,p⟩:=x;exact p.lt
 | dK kvs=>obtain⟨_,_,_,_,o,_,_,e,_⟩:=x;exact wD e
 | dT kvs=>obtain⟨_,_,_,_,o,_,_,e,_⟩:=x;exact wD e
 | set S n=>obtain⟨o,_,_,_,e,_⟩:=x;exact wD e
 | ins C dx fs=>obtain⟨_,_,_,e,_⟩:=x;exact wD e
 | own y=>obtain⟨_,e⟩:=x;exact wD e
 | xd fs=>obtain⟨_,⟨_,_,_,e,_⟩,_⟩:=x;exact wD e
 | rng lo hi=>obtain⟨_,_,_,e⟩:=x;exact wD e
 | frz ob u=>obtain⟨e,_⟩:=x;exact wD e
 | tbl ps=>exact wD (show h.get? a=some _ from x)
 | met f y=>exact wD (show h.get? a=some _ from x)
 | ext φ=>obtain⟨_,⟨_,e⟩,_⟩:=x;exact wD e
theorem Paired.mapP{α β : Type}{F G:α->β->Prop}:∀ {J:List α} {O:List β},Paired F J O->(∀a b,F a b->G a b)->Paired G J O
 | _,_,.nil,_=>.nil
 | _,_,.cons r t,f=>.cons (f _ _ r) (Paired.mapP t f)
theorem Paired.imp'{α β : Type}{F G:α->β->Prop}(f:∀a b,F a b->G a b){J:List α}{O:List β}(r:Paired F J O):Paired G J O:=Paired.mapP r f
theorem BC.stay(x:BC P w H h a o)(k:∀b u,(b=a\/H b=some (.own a))->h.get? b=some u->h'.get? b=some u)
  (Z:∀b,H b=some (.own a)->H' b=some (.own a)) (U:∀b xs,H b=some (.tup xs)->H' b=some (.tup xs)):BC P w H' h' a o:=by
 induction o with
 | lst xs=>obtain⟨z,J,n,r,e⟩:=x;exact⟨z,J,n,r,k _ _ (.inl rfl) e⟩
 | tup xs=>obtain⟨z,J,r,F,e,c⟩:=x;exact⟨z,J,r,F,k _ _ (.inl rfl) e,c⟩
 | dK kvs=>obtain⟨z,y,vs,r,F,es,ep,e,c⟩:=x;exact⟨z,y,vs,r,F,es,ep,k _ _ (.inl rfl) e,c⟩
 | dT kvs=>
  obtain⟨z,y,xs,r,F,es,ep,e,c⟩:=x
  exact⟨z,y,xs,Paired.mapP r λp q z=>⟨z.1,U _ _ z.2.1,z.2.2⟩,F,es,ep,k _ _ (.inl rfl) e,c⟩
 | set S n=>obtain⟨F,es,ep,t,e,c⟩:=x;exact⟨F,es,ep,t,k _ _ (.inl rfl) e,c⟩
 | ins C dx fs=>
  obtain⟨d,z,ne,e,mA,⟨O,es,ep,Y,c⟩,r⟩:=x
  exact⟨Z _ d,z,ne,k _ _ (.inl rfl) e,mA,⟨O,es,ep,k _ _ (.inr d) Y,c⟩,r⟩
 | own y=>obtain⟨F,e⟩:=x;exact⟨F,k _ _ (.inl rfl) e⟩
 | xd fs=>obtain⟨mA,⟨O,es,ep,e,c⟩,r⟩:=x;exact⟨mA,⟨O,es,ep,k _ _ (.inl rfl) e,c⟩,r⟩
 | rng lo hi=>obtain⟨t,u,v,e⟩:=x;exact⟨t,u,v,k _ _ (.inl rfl) e⟩
 | frz F u ih=>obtain⟨e,q⟩:=x;exact⟨k _ _ (.inl rfl) e,ih q⟩
 | tbl ps=>
  have e:h.get? a=some {cls:=.none,data:=.fields ps}:=x
  show h'.get? a=some {cls:=.none,data:=.fields ps}
  exact k a _ (.inl rfl) e
 | met f y=>
  have e:h.get? a=some (W.methodObj (.ref f) (.ref y)):=x
  show h'.get? a=some (W.methodObj (.ref f) (.ref y))
  exact k a _ (.inl rfl) e
 | ext φ=>obtain⟨p,⟨o,e⟩,st⟩:=x;exact⟨st _ _ p λo q=>k _ _ (.inl rfl) q,⟨o,k _ _ (.inl rfl) e⟩,st⟩
theorem Gv.lt(x:Gv P w H h)(e:H a=some o):a<h.objs.size:=(x a o e).lt
theorem Gv.fresh(x:Gv P w H h)(e:h.objs.size<=a):H a=none:=by
 cases q:H a with
 | none=>rfl
 | some u=>exact absurd (uo (x.lt q) e) (IP _)
theorem Gv.kept(x:Gv P w H h)(k:∀b u,h.get? b=some u->h'.get? b=some u):Gv P w H h':=λa o e=>
 (x a o e).stay (λb u _ q=>k b u q) (λ_ q=>q) λ_ _ q=>q
theorem Gv.laid(x:Gv P w H h)(k:∀b u,h.get? b=some u->h'.get? b=some u)(J:h.objs.size<=a)(new:BC P w (upd H a o) h' a o):Gv P w (upd H a o) h':=λb u e=>by
 have F:=x.fresh J
 by_cases hb:b=a
 .subst hb;rw[ai]at e;cases e;exact new
 .rw[au hb]at e
  exact(x b u e).stay (λc v _ q=>k c v q) (λc q=>by rw[au (aP q F)];exact q) λc xs q=>by rw[au (aP q F)];exact q
end
def Rd(H:Hp)(a:Addr)(u:HO):Prop:=H a=some u\/∃o,H a=some (.frz o u)
theorem Rd.ok{P:Program}{u:HO}(r:Rd H a u)(x:Gv P w H h):BC P w H h a u:=by
 rcases r with r | ⟨o,r⟩
 .exact x a u r
 .obtain⟨_,q⟩:=x a _ r
  exact q
def zp:Option HO->Prop
 | some (.lst _)=>True
 | some (.dK _)=>True
 | some (.dT _)=>True
 | some (.set _ _)=>True
 | some (.ins _ _ _)=>True
 | some (.ext _)=>True
 | _=>False
section
variable{P:Program}{w:World}{H:Hp}{h h':Heap}{x e:Addr}{o':HO}
theorem Gv.write(ok:Gv P w H h)(O:zp (H x))(Y:e=x\/H e=some (.own x))(k:∀b u,b≠e->h.get? b=some u->h'.get? b=some u)(W:∃u,h'.get? e=some u)
  (new:BC P w (upd H x o') h' x o'):Gv P w (upd H x o') h':=λb u q=>by
 have F:∀c y,H c=some (.own y)->c≠x:=λc y r z=>by subst z;rw[r]at O;exact O
 have J:∀c xs,H c=some (.tup xs)->c≠x:=λc xs r z=>by subst z;rw[r]at O;exact O
 by_cases hb:b=x
 .subst hb;rw[ai]at q;cases q;exact new
 .rw[au hb]at q
  by_cases hbe:b=e
  .have Z:H b=some (.own x):=by
    rcases Y with z | z
    .exact absurd (hbe.trans z) hb
    .rw[hbe];exact z
   rw[q]at Z;cases Z
   obtain⟨v,hv⟩:=W
   exact⟨v,by rw[hbe];exact hv⟩
  .refine(ok b u q).stay (λc v U r=>k c v ?_ r) (λc r=>by rw[au (F c b r)];exact r) λc xs r=>by rw[au (J c xs r)];exact r
   rcases U with rfl | U
   .exact hbe
   .rintro rfl
    rcases Y with z | z
    .exact F c b U z
    .rw[U]at z;cases z;exact hb rfl
end
structure Un (fs ex:LC) (H H':Hp) (h h':Heap):Prop where
 keep:∀b o,h.get? b=some o->H b=none->b∉fs->b∉ex->h'.get? b=some o
 slot:∀b o,h.get? b=some o->H b=none->b∈fs->b∉ex->∃sl,h'.get? b=some {o with slots:=sl}
 free:∀b o,h.get? b=some o->H b=none->b∉ex->H' b=none
 there:∀b o,h.get? b=some o->b∉ex->∃o',h'.get? b=some o'
 tups:∀b xs,H b=some (.tup xs)->H' b=some (.tup xs)
 frzs:∀b o u,H b=some (.frz o u)->H' b=some (.frz o u)
 tbls:∀b ps,H b=some (.tbl ps)->∃more,H' b=some (.tbl (ps++more))
section
variable{fs fs' ex ex':LC}{H H1 H2:Hp}{h h1 h2 h':Heap}{a x e:Addr}{o:HO}
theorem Un.any(u:Un fs ex H H1 h h1){F:Obj}(q:h.get? b=some F)(n:H b=none)(hx:b∉ex):∃sl,h1.get? b=some {F with slots:=sl}:=by
 by_cases hb:b∈fs
 .exact u.slot b F q n hb hx
 .exact⟨F.slots,u.keep b F q n hb hx⟩
theorem Un.kept(k:∀b u,h.get? b=some u->h'.get? b=some u):Un fs ex H H h h':=
 ⟨λb F q _ _ _=>k b F q,λb F q _ _ _=>⟨F.slots,k b F q⟩,λ_ _ _ n _=>n,λb F q _=>⟨F,k b F q⟩,λ_ _ q=>q,λ_ _ _ q=>q,λ_ ps q=>⟨#[],by rw[q];simp⟩⟩
theorem Un.refl:Un fs ex H H h h:=Un.kept λ_ _ q=>q
theorem Un.laid(k:∀b u,h.get? b=some u->h'.get? b=some u)(J:h.objs.size<=a)(F:H a=none):Un fs ex H (upd H a o) h h' where
 keep:=λb u q _ _ _=>k b u q
 slot:=λb u q _ _ _=>⟨u.slots,k b u q⟩
 free:=λb u q n _=>by rw[au (xa (uo (wD q) J))];exact n
 there:=λb u q _=>⟨u,k b u q⟩
 tups:=λb xs q=>by rw[au (aP q F)];exact q
 frzs:=λb u xs q=>by rw[au (aP q F)];exact q
 tbls:=λb ps q=>⟨#[],by rw[au (aP q F),q];simp⟩
theorem Un.write(F:zp (H x))(W:e=x\/H e=some (.own x))(k:∀b u,b≠e->h.get? b=some u->h'.get? b=some u)(O:∃u,h'.get? e=some u):Un fs ex H (upd H x o) h h':=by
 have hx:∀b,H b=none->b≠x:=λb n z=>by subst z;rw[n]at F;exact F
 have U:∀b,H b=none->b≠e:=λb n z=>by
  subst z;rcases W with r | r
  .exact hx b n r
  .rw[n]at r;cases r
 have J:∀b u,H b=some u->¬ zp (some u)->b≠x:=λb u q nm z=>by subst z;rw[q]at F;exact nm F
 refine⟨λb u q n _ _=>k b u (U b n) q,λb u q n _ _=>⟨u.slots,k b u (U b n) q⟩,λb u q n _=>by rw[au (hx b n)];exact n,λb u q _=>?_,
  λb xs q=>by rw[au (J b _ q λz=>z)];exact q,λb u xs q=>by rw[au (J b _ q λz=>z)];exact q,λb ps q=>⟨#[],by rw[au (J b _ q λz=>z),q];simp⟩⟩
 by_cases hbe:b=e
 .subst hbe;exact O
 .exact⟨u,k b u hbe q⟩
end
noncomputable def DV(h:Heap)(H:Hp):LC:=(List.range h.objs.size).filter λa=>(H a).isSome
def jz(h:Heap)(H:Hp):Heap:=W.hideAll h (DV h H)
theorem zb(h:Heap)(H:Hp):(jz h H).objs.size=h.objs.size:=W.hideAll_size _ _
theorem Bt{o:Obj}(e:h.get? b=some o)(n:H b=none):(jz h H).get? b=some o:=
 W.hideAll_get _ e λF=>by
  have q:(H b).isSome=true:=(List.mem_filter.mp F).2
  rw[n]at q;simp at q
theorem E2{h:Heap}{H:Hp}{b:Addr}{o:Obj}(e:(jz h H).get? b=some o):h.get? b=some o/\H b=none:=by
 have F:h.get? b=some o:=W.of_hideAll (DV h H) e
 refine⟨F,?_⟩
 cases q:H b with
 | none=>rfl
 | some x=>
  have J:b∈DV h H:=List.mem_filter.mpr ⟨KH.mpr (wD F),by simp[q]⟩
  have z:(jz h H).get? b=none:=W.hideAll_none (DV h H) J
  rw[z]at e;cases e
noncomputable def Eh(g h:Heap)(L:Addr):List (Addr×Obj):=(List.range h.objs.size).filterMap λa=>if a=L\/(g.get? a).isSome=true then none else (h.get? a).map λo=>(a,o)
noncomputable def BG(g h:Heap)(L d:Addr):List (Addr×Obj):=(Eh g h L).filter λp=>decide (p.1≠d)
structure Mod (K:W.Frag) (mg:Str->LF) (base:Heap):Prop where
 kin:K.In base
 glob:base.Ns mainGlobals mg
 blt:∃mb,base.Ns builtinsNs mb/\∀x:Str,x ≠ "__name__" -> mb x=bootBuiltins x
 nolimit:base.NoLimit
set_option genInjectivity false in
set_option genSizeOf false in
structure Cx where
 prog:Program
 w:World
 K:W.Frag
 mg:Str->LF
 base:Heap
 A:Around
 N:KZ
 s₀ : Shared
 H₀ : Hp
 env:Env
 outer:List Env
 stack:List Env
 ex:LC
 fn:Str->Bool
 calm:Bool
 pn:List (Addr×Obj)
 xe:Value->Shared->Prop
def jN(l:List Env):LC:=l.filterMap (·.frame)
abbrev Cx.fs (X:Cx):LC:=jN X.outer
def aq(sc:Scope)(x:Str):Prop:=sc.names.lookup x=some .local\/sc.names.lookup x=some .cell\/sc.names.lookup x=some .free
def aH(sc:Scope)(x:Str):Prop:=sc.names.lookup x=some .local\/sc.names.lookup x=some .cell
def Nk(env:Env)(h:Heap)(m:Str->LF)(x:Str)(u:Value):Prop:=
 (env.kindOf x=some .local/\m x=some u)\/((env.kindOf x=some .cell\/env.kindOf x=some .free)/\∃c,env.cells.lookup x=some c/\h.IsCell c (some u))
structure Cx.Ok (X:Cx):Prop where
 mod:Mod X.K X.mg X.base
 kind:X.env.scope.kind = .function
 glob:X.env.globals=mainGlobals
 blt:X.env.builtins=builtinsNs
 above:X.s₀.heap.objs.size<=X.env.locals
 inj:∀x y c,X.env.cells.lookup x=some c->X.env.cells.lookup y=some c->x=y
 has:∀x,(X.env.kindOf x=some .cell\/X.env.kindOf x=some .free)->∃c,X.env.cells.lookup x=some c
 cab:∀x c,X.fn x=true->X.env.cells.lookup x=some c->X.s₀.heap.objs.size<=c
 hd:X.calm=true->X.A.handled=none
 frames:X.A.frames=some X.stack
 stk:X.stack=X.outer\/(X.stack=X.env::X.outer/\X.env.frame=some X.env.locals)
 exf:∀b∈X.ex,b≠X.env.locals/\∀x c,X.env.cells.lookup x=some c->c≠b
 bs:∀b o,X.base.get? b=some o->X.s₀.heap.get? b=some o/\X.H₀ b=none
 bsz:X.base.objs.size<=X.s₀.heap.objs.size
 noex:∀b o,X.base.get? b=some o->b∉X.ex
 exfs:∀b∈X.ex,b∉X.fs
 funs:X.s₀.heap.FunFrames X.base X.outer
 frf:∀b∈X.fs,X.H₀ b=none
structure Inv (X:Cx) (pins:List (Addr×Obj)) (σ : List LK) (H:Hp) (s:Shared):Prop where
 ok:X.Ok
 os:s.os=X.s₀.os
 bare:AllBare s.gens
 base:Un X.fs X.ex X.H₀ H X.s₀.heap s.heap
 loc:∃m,s.heap.Ns X.env.locals m/\∀(i:Nat) (x:Str) (v:V),X.N[i]?=some x->σ[i]?=some (some v)->aq X.env.scope x->∃u,RelV v u/\Nk X.env s.heap m x u
 cell:∀x c,X.env.cells.lookup x=some c->∃v,s.heap.IsCell c v
 free:H X.env.locals=none
 freeC:∀x c,X.env.cells.lookup x=some c->H c=none
 pin:∀p∈X.pn++pins,s.heap.get? p.1=some p.2/\H p.1=none/\p.1≠X.env.locals/\p.1∉X.fs/\∀v,p.2.data ≠ .cell v
 hok:Gv X.prog X.w H s.heap
 len:σ.length=X.N.length
section
variable{X:Cx}{pins:List (Addr×Obj)}{σ:List LK}{H H':Hp}{s:Shared}{h':Heap}
theorem Cx.Ok.nofr(ok:X.Ok){o:Obj}(e:X.base.get? b=some o):b∉X.fs:=λF=>by
 have:=(ok.funs.mem F).1
 rw[e]at this;cases this
theorem Inv.bs(I:Inv X pins σ H s):∀b o,X.base.get? b=some o->s.heap.get? b=some o/\H b=none:=λb o e=>
 ⟨I.base.keep b o (I.ok.bs b o e).1 (I.ok.bs b o e).2 (I.ok.nofr e) (I.ok.noex b o e),I.base.free b o (I.ok.bs b o e).1 (I.ok.bs b o e).2 (I.ok.noex b o e)⟩
theorem Inv.bk(I:Inv X pins σ H s):∀b o,X.base.get? b=some o->s.heap.get? b=some o:=λb o e=>(I.bs b o e).1
theorem Inv.mod(I:Inv X pins σ H s):Mod X.K X.mg X.base:=I.ok.mod
theorem Inv.kIn(I:Inv X pins σ H s):X.K.In s.heap:=I.ok.mod.kin.keeps I.bk
theorem Inv.lt(I:Inv X pins σ H s):X.env.locals<s.heap.objs.size:=let ⟨_,hn,_⟩:=I.loc;hn.lt
theorem Inv.sz(I:Inv X pins σ H s):X.s₀.heap.objs.size<=s.heap.objs.size:=xB I.ok.above (xF I.lt)
theorem Inv.nofs(I:Inv X pins σ H s)(h:s.heap.objs.size<=a):a∉X.fs:=λJ=>by
 obtain⟨_,o,F,_⟩:=I.ok.funs.mem J
 exact absurd (uo (wD F) (xB I.sz h)) (IP _)
theorem Inv.cne(I:Inv X pins σ H s):∀x c,X.env.cells.lookup x=some c->c≠X.env.locals:=λx c e z=>by
 obtain⟨v,o,O,hd⟩:=I.cell x c e
 obtain⟨m,⟨o',es,ep,F,J,_⟩,_⟩:=I.loc
 rw[z,F]at O;cases O;rw[J]at hd;cases hd
theorem Inv.funs(I:Inv X pins σ H s):s.heap.FunFrames X.base X.outer:=by
 have all:∀(l:List Env),(∀b∈jN l,b∈X.fs)->X.s₀.heap.FunFrames X.base l->s.heap.FunFrames X.base l:=by
  intro l
  induction l with
  | nil=>intro _ _;trivial
  | cons env r ih=>
   intro O hl
   obtain⟨Y,⟨L,o,hf,U,W,hd⟩,Z⟩:=hl
   have J:L∈X.fs:=O L (by unfold jN;rw[List.filterMap_cons,hf];exact yb)
   obtain⟨sl,e⟩:=I.base.slot L o W (I.ok.frf L J) J λz=>I.ok.exfs L z J
   exact⟨Y,⟨L,_,hf,U,e,hd⟩,ih (λb F=>O b (by unfold jN;rw[List.filterMap_cons,hf];exact yc _ F)) Z⟩
 exact all X.outer (λ_ F=>F) I.ok.funs
theorem Inv.stack(I:Inv X pins σ H s):s.heap.FunFrames X.base X.stack:=by
 rcases I.ok.stk with e | ⟨e,hf⟩
 .rw[e];exact I.funs
 .rw[e]
  obtain⟨m,F,_⟩:=I.loc
  refine .cons (by rw[I.ok.kind];decide) hf F ?_ I.funs
  exact Heap.get?_none_of_le (xB I.ok.bsz I.ok.above)
theorem Inv.stkSub(I:Inv X pins σ H s):∀b∈jN X.stack,b∈X.env.locals::X.fs:=λb F=>by
 rcases I.ok.stk with e | ⟨e,hf⟩
 .rw[e]at F;exact yc _ F
 .rw[e]at F
  unfold jN at F;rw[List.filterMap_cons,hf]at F
  exact F
theorem Inv.stkFree(I:Inv X pins σ H s):∀b∈jN X.stack,H b=none:=λb F=>by
 rcases KC.mp (I.stkSub b F) with e | F
 .rw[e];exact I.free
 .obtain⟨_,o,J,_⟩:=I.ok.funs.mem F
  exact I.base.free b o J (I.ok.frf b F) λz=>I.ok.exfs b z F
theorem Inv.step{g':Array GenState}{d':Drawn}{ch:LC}(I:Inv X pins σ H s)
  (J:∀b∈ch,(b∈X.ex\/X.s₀.heap.objs.size<=b)/\b≠X.env.locals/\(∀x c,X.env.cells.lookup x=some c->c≠b)/\∀p∈X.pn++pins,p.1≠b)
  (keep:∀b o,b≠X.env.locals->b∉X.fs->b∉ch->s.heap.get? b=some o->H b=none->h'.get? b=some o)
  (slot:∀b o,b≠X.env.locals->b∈X.fs->b∉ch->s.heap.get? b=some o->H b=none->∃sl,h'.get? b=some {o with slots:=sl}) (free:∀b o,b∉ch->s.heap.get? b=some o->H b=none->H' b=none)
  (there:∀b o,b∉ch->s.heap.get? b=some o->∃o',h'.get? b=some o')
  (tups:∀b xs,H b=some (.tup xs)->H' b=some (.tup xs)) (frzs:∀b o u,H b=some (.frz o u)->H' b=some (.frz o u)) (tbls:∀b ps,H b=some (.tbl ps)->∃more,H' b=some (.tbl (ps++more)))
  (ns:∀m,s.heap.Ns X.env.locals m->h'.Ns X.env.locals m) (hok:Gv X.prog X.w H' h') (hg:AllBare g') :
  Inv X pins σ H' {s with heap:=h',gens:=g',drawn:=d',toks:=t'}:=by
 have ab:∀b o,X.s₀.heap.get? b=some o->b≠X.env.locals:=λb o e=>xa (uo (wD e) I.ok.above)
 have W:∀b o,X.s₀.heap.get? b=some o->b∉X.ex->b∉ch:=λb o e hx Y=>by
  rcases(J b Y).1 with z | z
  .exact hx z
  .exact absurd (uo (wD e) z) (IP _)
 have O:∀x c,X.env.cells.lookup x=some c->∀v,s.heap.IsCell c v->h'.IsCell c v:=λx c e v ⟨o,Z,hd⟩=>by
  have F:c∉ch:=λz=>(J c z).2.2.1 x c e rfl
  by_cases hc:c∈X.fs
  .obtain⟨sl,q⟩:=slot c o (I.cne x c e) hc F Z (I.freeC x c e)
   exact⟨_,q,hd⟩
  .exact⟨o,keep c o (I.cne x c e) hc F Z (I.freeC x c e),hd⟩
 refine⟨I.ok,I.os,hg,⟨λb o e n Y hx=>?_,λb o e n Y hx=>?_,λb o e n hx=>?_,λb o e hx=>?_,λb xs e=>tups b xs (I.base.tups b xs e),λb o xs e=>frzs b o xs (I.base.frzs b o xs e),λb ps e=>?_⟩,?_,λx c e=>?_,?_,λx c e=>?_,λp hp=>?_,hok,I.len⟩
 .exact keep b o (ab b o e) Y (W b o e hx) (I.base.keep b o e n Y hx) (I.base.free b o e n hx)
 .obtain⟨sl,U⟩:=I.base.slot b o e n Y hx
  obtain⟨ac,e2⟩:=slot b _ (ab b o e) Y (W b o e hx) U (I.base.free b o e n hx)
  exact⟨ac,e2⟩
 .obtain⟨o',U⟩:=I.base.there b o e hx
  exact free b o' (W b o e hx) U (I.base.free b o e n hx)
 .obtain⟨o',U⟩:=I.base.there b o e hx
  exact there b o' (W b o e hx) U
 .obtain⟨m1,U⟩:=I.base.tbls b ps e
  obtain⟨m2,e2⟩:=tbls b _ U
  exact⟨m1++m2,by rw[e2,Array.append_assoc]⟩
 .obtain⟨m,hn,hl⟩:=I.loc
  refine⟨m,ns m hn,λi x v U e2 e3=>?_⟩
  obtain⟨u,r,l⟩:=hl i x v U e2 e3
  refine⟨u,r,?_⟩
  rcases l with l | ⟨k,c,e,z⟩
  .exact .inl l
  .exact .inr ⟨k,c,e,O x c e _ z⟩
 .obtain⟨v,z⟩:=I.cell x c e
  exact⟨v,O x c e v z⟩
 .obtain⟨m,⟨o,_,_,Z,_⟩,_⟩:=I.loc
  exact free _ o (λz=>(J _ z).2.1 rfl) Z I.free
 .obtain⟨v,o,Z,hd⟩:=I.cell x c e
  exact free c o (λz=>(J c z).2.2.1 x c e rfl) Z (I.freeC x c e)
 .obtain⟨e,n,ne,nf,d⟩:=I.pin p hp
  have F:p.1∉ch:=λz=>(J p.1 z).2.2.2 p hp rfl
  exact⟨keep p.1 p.2 ne nf F e n,free p.1 p.2 F e n,ne,nf,d⟩
theorem Inv.un(I:Inv X pins σ H s)(u:Un X.fs [] H H' s.heap h')(hok:Gv X.prog X.w H' h'):Inv X pins σ H' {s with heap:=h',toks:=t'}:=by
 obtain⟨m,⟨o,es,ep,U,r⟩,_⟩:=id I.loc
 obtain⟨sl,Z⟩:=u.any U I.free (by simp)
 exact I.step (g':=s.gens) (d':=s.drawn) (ch:=[]) (λ_ z=>nomatch z) (λb o _ J _ e n=>u.keep b o e n J (by simp)) (λb o _ J _ e n=>u.slot b o e n J (by simp)) (λb o _ e n=>u.free b o e n (by simp)) (λb o _ e=>u.there b o e (by simp)) u.tups u.frzs u.tbls (λm' W=>by
  obtain⟨o',es',O,F,Y⟩:=W
  rw[U]at F;cases F
  exact⟨_,es',O,Z,Y⟩) hok I.bare
theorem Inv.call{g':Array GenState}{d':Drawn}{ch:LC}(I:Inv X pins σ H s)(u:Un (jN X.stack) ch H H' s.heap h')(hok:Gv X.prog X.w H' h')(hg:AllBare g')
  (J:∀b∈ch,(b∈X.ex\/X.s₀.heap.objs.size<=b)/\b≠X.env.locals/\(∀x c,X.env.cells.lookup x=some c->c≠b)/\∀p∈X.pn++pins,p.1≠b) :
  Inv X pins σ H' {s with heap:=h',gens:=g',drawn:=d',toks:=t'}:=by
 obtain⟨m,⟨o,es,ep,Y,r⟩,_⟩:=id I.loc
 obtain⟨sl,W⟩:=u.any Y I.free λz=>(J _ z).2.1 rfl
 exact I.step (ch:=ch) J (λb o W hb F e n=>u.keep b o e n (λz=>(KC.mp (I.stkSub b z)).elim W hb) F) (λb o _ _ F e n=>u.any e n F) (λb o F e n=>u.free b o e n F) (λb o F e=>u.there b o e F) u.tups u.frzs u.tbls (λm' Z=>by
  obtain⟨o',es',U,O,r'⟩:=Z
  rw[Y]at O;cases O
  exact⟨_,es',U,W,r'⟩) hok hg
theorem Inv.turned{it:Addr}(I:Inv X pins σ H s)(k:∀b o,b≠it->s.heap.get? b=some o->h'.get? b=some o)(U:H it=none)(O:it≠X.env.locals)
  (h1:it∈X.ex\/X.s₀.heap.objs.size<=it) (h2:∀x c,X.env.cells.lookup x=some c->c≠it) (W:∀p∈X.pn++pins,p.1≠it):Inv X pins σ H {s with heap:=h',toks:=t'}:=by
 have J:∀b u,H b=some u->b≠it:=λb u e z=>by rw[z,U]at e;cases e
 refine I.step (g':=s.gens) (d':=s.drawn) (ch:=[it]) (λb Z=>?_) (λb o _ _ F e _=>k b o (λz=>F (by simp[z])) e) (λb o _ _ F e _=>⟨o.slots,k b o (λz=>F (by simp[z])) e⟩) (λ_ _ _ _ n=>n)
  (λb o F e=>⟨o,k b o (λz=>F (by simp[z])) e⟩) (λ_ _ e=>e) (λ_ _ _ e=>e) (λb ps e=>⟨#[],by rw[e];simp⟩) (λm Y=>?_) (λb u e=>?_) I.bare
 .have e:b=it:=by simpa using Z
  subst e;exact⟨h1,O,h2,W⟩
 .obtain⟨o,es,ep,ho,r⟩:=Y
  exact⟨o,es,ep,k _ o (mS O) ho,r⟩
 .refine(I.hok b u e).stay (λc v F q=>k c v ?_ q) (λ_ q=>q) λ_ _ q=>q
  rcases F with z | z
  .rw[z];exact J b u e
  .exact J c _ z
theorem Inv.tok(I:Inv X pins σ H s)(t:Nat):Inv X pins σ H {s with toks:=t}:=I.un (h':=s.heap) (t':=t) Un.refl I.hok
theorem Inv.kept(I:Inv X pins σ H s)(k:∀b u,s.heap.get? b=some u->h'.get? b=some u):Inv X pins σ H {s with heap:=h',toks:=t'}:=I.un (Un.kept k) (I.hok.kept k)
theorem Inv.laid(I:Inv X pins σ H s)(k:∀b u,s.heap.get? b=some u->h'.get? b=some u)(F:s.heap.objs.size<=a)(new:BC X.prog X.w (upd H a o) h' a o) :
  Inv X pins σ (upd H a o) {s with heap:=h',toks:=t'}:=I.un (Un.laid k F (I.hok.fresh F)) (I.hok.laid k F new)
theorem Inv.write{x e:Addr}(I:Inv X pins σ H s)(J:zp (H x))(O:e=x\/H e=some (.own x))(k:∀b u,b≠e->s.heap.get? b=some u->h'.get? b=some u)(F:∃u,h'.get? e=some u)
  (new:BC X.prog X.w (upd H x o) h' x o):Inv X pins σ (upd H x o) {s with heap:=h',toks:=t'}:=I.un (Un.write J O k F) (I.hok.write J O k F new)
theorem Inv.weak{σ':List LK}(I:Inv X pins σ H s)(hl:σ'.length=σ.length)(w:∀(i:Nat) v,σ'[i]?=some (some v)->σ[i]?=some (some v)):Inv X pins σ' H s:=
 ⟨I.ok,I.os,I.bare,I.base,let ⟨m,hn,hl'⟩:=I.loc;⟨m,hn,λi x v F O J=>hl' i x v F (w i v O) J⟩,I.cell,I.free,I.freeC,I.pin,I.hok,hl.trans I.len⟩
theorem Inv.pins_of{F:List (Addr×Obj)}(I:Inv X pins σ H s)(h:∀p∈F,s.heap.get? p.1=some p.2/\H p.1=none/\p.1≠X.env.locals/\p.1∉X.fs/\∀v,p.2.data ≠ .cell v):Inv X F σ H s:=
 ⟨I.ok,I.os,I.bare,I.base,I.loc,I.cell,I.free,I.freeC,λp J=>(KA.mp J).elim (λz=>I.pin p (lW _ z)) (h p),I.hok,I.len⟩
theorem qw{N:KZ}(hN:N.Nodup){j:Nat}(a:N[i]?=some x)(b:N[j]?=some x):i=j:=by
 obtain⟨h1,F⟩:=Kq.mp a
 obtain⟨h2,J⟩:=Kq.mp b
 exact(List.getElem_inj hN).mp (F.trans J.symm)
theorem pI{M:Model}{Q:Unit->Shared->Prop}(I:Inv X pins σ H s)(hN:X.N.Nodup)(hi:X.N[i]?=some x)(hx:aH X.env.scope x)(r:RelV v u)
  (h:∀s',Inv X pins (σ.set i (some v)) H s'->(∃a,Heap.SameBut a s.heap s'.heap/\(a=X.env.locals\/X.env.cells.lookup x=some a))->Q () s') (hf:X.fn x=true\/X.env.scope.names.lookup x=some .local:=by first | exact .inl rfl | exact .inr rfl | assumption):wpAny M A (storeName X.env x u) Q E s:=by
 obtain⟨m,hn,hl⟩:=id I.loc
 have ad:(X.env.scope.kind == .class||(X.env.scope.kind == .module&&X.env.locals != X.env.globals))=false:=by rw[I.ok.kind];rfl
 have as : i<σ.length:=by rw[I.len];exact(Kq.mp hi).1
 have cne:=I.cne
 have J:∀ {a:Addr} {h':Heap},(∃o,s.heap.get? a=some o/\H a=none)->Heap.SameBut a s.heap h'->Gv X.prog X.w H h':=λ{a h'} ha F b ob e=>by
  obtain⟨_,_,W⟩:=ha
  refine(I.hok b ob e).stay (λc w' U q=>(F.2 c ?_).trans q) (λ_ q=>q) λ_ _ q=>q
  rintro rfl
  rcases U with rfl | U
  .rw[W]at e;cases e
  .rw[W]at U;cases U
 rcases hx with Z | Z
 .refine wpAny_storeName_local Z hn (λh' a3 F=>?_) ad
  obtain⟨oL,_,_,a4,_⟩:=id hn
  refine h _ ⟨I.ok,I.os,I.bare,⟨λb o e n hb hx=>?_,λb o e n hb hx=>?_,I.base.free,λb o e hx=>?_,I.base.tups,I.base.frzs,I.base.tbls⟩,⟨_,a3,λj y v' O Y e3=>?_⟩,λy c e=>?_,I.free,I.freeC,λp hp=>?_,J ⟨oL,a4,I.free⟩ F,by simpa using I.len⟩ ⟨_,F,.inl rfl⟩
  .exact(F.2 b (xa (uo (wD e) I.ok.above))).trans (I.base.keep b o e n hb hx)
  .obtain⟨sl,O⟩:=I.base.slot b o e n hb hx
   exact⟨sl,(F.2 b (xa (uo (wD e) I.ok.above))).trans O⟩
  .obtain⟨o',O⟩:=I.base.there b o e hx
   exact⟨o',(F.2 b (xa (uo (wD e) I.ok.above))).trans O⟩
  .by_cases hj:j=i
   .subst hj
    rw[hi]at O;cases O
    rw[zbr as]at Y
    cases Y;exact⟨u,r,.inl ⟨Z,by simp⟩⟩
   .rw[zba (mS hj)]at Y
    obtain⟨u',r',q⟩:=hl j y v' O Y e3
    refine⟨u',r',?_⟩
    rcases q with ⟨k,e⟩ | ⟨k,c,e,z⟩
    .refine .inl ⟨k,?_⟩
     have:y≠x:=λe=>hj (qw hN O (e ▸ hi))
     simp[this,e]
    .exact .inr ⟨k,c,e,z.sameBut F (cne y c e)⟩
  .obtain⟨w',z⟩:=I.cell y c e
   exact⟨w',z.sameBut F (cne y c e)⟩
  .obtain⟨e,n,ne,nf,d⟩:=I.pin p hp
   exact⟨(F.2 p.1 ne).trans e,n,ne,nf,d⟩
 .have ab:X.fn x=true:=by
   rcases hf with z | z
   .exact z
   .rw[z]at Z;cases Z
  obtain⟨c,U⟩:=I.ok.has x (.inl Z)
  obtain⟨w',z⟩:=I.cell x c U
  refine wpAny_storeName_cell I.ok.kind Z U z (λh' ac F=>?_)
  obtain⟨oc,al,ag⟩:=id z
  refine h {s with heap:=h'} ⟨I.ok,I.os,I.bare,⟨λb o e n hb hx=>?_,λb o e n hb hx=>?_,I.base.free,λb o e hx=>?_,I.base.tups,I.base.frzs,I.base.tbls⟩,⟨m,hn.sameBut F (mS (cne x c U)),λj y v' O Y e3=>?_⟩,λy c' e=>?_,I.free,I.freeC,λp hp=>?_,J ⟨oc,al,I.freeC x c U⟩ F,by simpa using I.len⟩ ⟨c,F,.inr U⟩
  .exact(F.2 b (xa (uo (wD e) (I.ok.cab x c ab U)))).trans (I.base.keep b o e n hb hx)
  .obtain⟨sl,O⟩:=I.base.slot b o e n hb hx
   exact⟨sl,(F.2 b (xa (uo (wD e) (I.ok.cab x c ab U)))).trans O⟩
  .obtain⟨o',O⟩:=I.base.there b o e hx
   exact⟨o',(F.2 b (xa (uo (wD e) (I.ok.cab x c ab U)))).trans O⟩
  .by_cases hj:j=i
   .subst hj
    rw[hi]at O;cases O
    rw[zbr as]at Y
    cases Y;exact⟨u,r,.inr ⟨.inl Z,c,U,ac⟩⟩
   .rw[zba (mS hj)]at Y
    obtain⟨u',r',q⟩:=hl j y v' O Y e3
    refine⟨u',r',?_⟩
    rcases q with q | ⟨k,c',e,z'⟩
    .exact .inl q
    .refine .inr ⟨k,c',e,z'.sameBut F ?_⟩
     rintro rfl
     exact hj (qw hN O (I.ok.inj _ _ _ e U ▸ hi))
  .by_cases hcc:c'=c
   .subst hcc;exact⟨_,ac⟩
   .obtain⟨w2,z2⟩:=I.cell y c' e
    exact⟨w2,z2.sameBut F hcc⟩
  .obtain⟨e,n,ne,nf,d⟩:=I.pin p hp
   refine⟨(F.2 p.1 ?_).trans e,n,ne,nf,d⟩
   intro q
   rw[q,al]at e
   have q':oc=p.2:=Option.some.inj e
   exact d w' (by rw[<-q'];exact ag)
theorem uv{M:Model}{Q:Unit->Shared->Prop}(I:Inv X pins σ H s)(hN:X.N.Nodup)(hi:X.N[i]?=some x)(hx:aH X.env.scope x)(r:RelV v u)
  (h:∀s',Inv X pins (σ.set i (some v)) H s'->Q () s') (hf:X.fn x=true\/X.env.scope.names.lookup x=some .local:=by first | exact .inl rfl | exact .inr rfl | assumption):wpAny M A (storeName X.env x u) Q E s:=
 pI I hN hi hx r (λs' F _=>h s' F) hf
theorem Inv.call'{s':Shared}{ch:LC}(I:Inv X pins σ H s)(J:s'.os=s.os)(u:Un (jN X.stack) ch H H' s.heap s'.heap)(hok:Gv X.prog X.w H' s'.heap)(hg:AllBare s'.gens)
  (F:∀b∈ch,(b∈X.ex\/X.s₀.heap.objs.size<=b)/\b≠X.env.locals/\(∀x c,X.env.cells.lookup x=some c->c≠b)/\∀p∈X.pn++pins,p.1≠b):Inv X pins σ H' s':=by
 obtain⟨h',g',d',t',o'⟩:=s'
 have e:o'=s.os:=J
 subst e;exact I.call (g':=g') (t':=t') (d':=d') u hok hg F
end
abbrev XK:=Value->LO->Hp->Prop
abbrev St:=List LK
variable{σ:St}
abbrev VK:=V->Hp->Prop
abbrev TE:=St->Hp->VK->Prop
abbrev TT:=St->Hp->(Bool->Hp->Prop)->Prop
abbrev TA:=St->Hp->(LB->Hp->Prop)->Prop
set_option genInjectivity false in
set_option genSizeOf false in
structure dN where
 nx:St->Hp->Prop
 rt:VK
 bk:St->Hp->Prop:=λ_ _=>False
 ct:St->Hp->Prop:=λ_ _=>False
abbrev TS:=dN->St->Hp->Prop
def EP(X:Cx)(pins:List (Addr×Obj))(σ : St)(Q:VK)(u:Value)(s':Shared):Prop:=∃v H',Inv X pins σ H' s'/\RelV v u/\Q v H'
def TP(X:Cx)(pins:List (Addr×Obj))(σ : St)(Q:Bool->Hp->Prop)(b:Bool)(s':Shared):Prop:=∃H',Inv X pins σ H' s'/\Q b H'
def AP(X:Cx)(pins:List (Addr×Obj))(σ : St)(Q:LB->Hp->Prop)(us:LD)(s':Shared):Prop:=∃vs H',Inv X pins σ H' s'/\A1 vs us/\Q vs H'
def SP(X:Cx)(pins:List (Addr×Obj))(D:dN)(f:Flow)(s':Shared):Prop:=
 match f with
 | .next=>∃σ' H',Inv X pins σ' H' s'/\D.nx σ' H'
 | .brk=>∃σ' H',Inv X pins σ' H' s'/\D.bk σ' H'
 | .cont=>∃σ' H',Inv X pins σ' H' s'/\D.ct σ' H'
 | .ret u=>∃v σ' H',Inv X pins σ' H' s'/\RelV v u/\D.rt v H'
def PE(X:Cx)(e:Expr)(t:TE):Prop:=
 ∀(pins:List (Addr×Obj)) (s:Shared) (σ : St) (H:Hp) (Q:VK),Inv X pins σ H s->t σ H Q->wpAny (model X.prog X.w) X.A (eval e X.env) (EP X pins σ Q) X.xe s
def PT(X:Cx)(e:Expr)(t:TT):Prop:=
 ∀(pins:List (Addr×Obj)) (s:Shared) (σ : St) (H:Hp) (Q:Bool->Hp->Prop),Inv X pins σ H s->t σ H Q->wpAny (model X.prog X.w) X.A (isTrue e X.env (eval e X.env)) (TP X pins σ Q) X.xe s
def PW(X:Cx)(e:Expr)(t:TT):Prop:=
 ∀(whole:Sem Value) (pins:List (Addr×Obj)) (s:Shared) (σ : St) (H:Hp) (Q:Bool->Hp->Prop),Inv X pins σ H s->t σ H Q->wpAny (model X.prog X.w) X.A (isTrue e X.env whole) (TP X pins σ Q) X.xe s
theorem PW.pt{X:Cx}{t:TT}(h:PW X e t):PT X e t:=h _
def PA(X:Cx)(es:LL)(t:TA):Prop:=
 ∀(pos:Pos) (pins:List (Addr×Obj)) (s:Shared) (σ : St) (H:Hp) (Q:LB->Hp->Prop),Inv X pins σ H s->t σ H Q->wpAny (model X.prog X.w) X.A (spliced (backTo pos (starEach es X.env))) (AP X pins σ Q) X.xe s
def PS(X:Cx)(st:Stmt)(t:TS):Prop:=
 ∀(pins:List (Addr×Obj)) (s:Shared) (σ : St) (H:Hp) (D:dN),Inv X pins σ H s->t D σ H->wpAny (model X.prog X.w) X.A (exec st X.env) (SP X pins D) X.xe s
def G0(X:Cx)(st:List Stmt)(t:TS):Prop:=
 ∀(pins:List (Addr×Obj)) (s:Shared) (σ : St) (H:Hp) (D:dN),Inv X pins σ H s->t D σ H->wpAny (model X.prog X.w) X.A (execs st X.env) (SP X pins D) X.xe s
theorem bz{α:Type}{t:Sem α}{Q F:α->Shared->Prop}{M:Model}(h:wpAny M A t Q E s)(J:∀a s,Q a s->F a s):wpAny M A t F E s:=wpAny_mono h J λ_ _ x=>x
section
variable{X:Cx}
def Cz(i:Nat):TE:=λσ H Q=>∃v,σ[i]?=some (some v)/\Q v H
def tC(v:V):TE:=λ_ H Q=>Q v H
theorem IA(hN:X.N[i]?=some x)(hv:aq X.env.scope x)(hd:(x==("__debug__" : Str))=false:=by decide) (hcd:(x==("__classdict__" : Str))=false:=by decide):PE X (.Name x pos) (Cz i):=by
 intro pins s σ H Q I h
 obtain⟨v,e,h⟩:=h
 obtain⟨m,W,hl⟩:=I.loc
 obtain⟨u,r,l⟩:=hl i x v hN e hv
 have J:EP X pins σ Q u s:=⟨v,H,I,r,h⟩
 rcases l with ⟨O,Y⟩ | ⟨O,c,U,F⟩
 .exact wpAny_Name (wpAny_loadName_local I.ok.kind O W Y J) hd
 .rcases O with O | O
  .exact wpAny_Name (wpAny_loadName_cell I.ok.kind O U F J) hd
  .exact wpAny_Name (wpAny_loadName_free I.ok.kind O U F J hcd) hd
theorem af{i j pos}:PE X (.Constant (.int i) j pos) (tC (.int i)):=λ_ _ _ H _ I h=>wpAny_Constant_int ⟨.int i,H,I.tok _,⟨_,rfl⟩,h⟩
theorem eU{b j pos}:PE X (.Constant (.bool b) j pos) (tC (.bl b)):=λ_ _ _ H _ I h=>Constant_bool ⟨.bl b,H,I,rfl,h⟩
theorem dB{j pos}:PE X (.Constant .none j pos) (tC .non):=λ_ _ _ H _ I h=>Constant_none ⟨.non,H,I,rfl,h⟩
theorem ax{x j pos}:PE X (.Constant (.str x) j pos) (tC (.str x)):=λ_ _ _ H _ I h=>Calls.Constant_str ⟨.str x,H,I.tok _,⟨_,rfl⟩,h⟩
def Gl(X:Cx)(x:Str):Prop:=X.env.kindOf x=some .globalImplicit
theorem vSs{s:Stmt}(h:(L2.sg s).names.lookup x=some .local):aq (L2.sg s) x:=Or.inl h
theorem vLl{s:Stmt}(h:(L2.sg s).names.lookup x=some .local):aH (L2.sg s) x:=Or.inl h
theorem vGg{s:Stmt}(h:(L2.sg s).names.lookup x=some .globalImplicit):(L2.sg s).names.lookup x=some .globalImplicit:=h
theorem n9{pins:List (Addr×Obj)}(I:Inv X pins σ H s)(hg:Gl X x)(F:X.mg x=some u)(h:Q u s)
  (hd:(x==("__debug__" : Str))=false:=by decide):wpAny (model X.prog X.w) X.A (eval (.Name x pos) X.env) Q E s:=
 Calls.Name_function_global I.ok.kind hg (Calls.loadGlobal_global (by rw[I.ok.glob];exact I.mod.glob.keeps I.bk) F h) hd
theorem iE{pins:List (Addr×Obj)}(I:Inv X pins σ H s)(hg:Gl X x)(J:X.mg x=none)(hv:bootBuiltins x=some u)(h:Q u s)
  (F:x ≠ "__name__" := by decide) (hd:(x==("__debug__" : Str))=false:=by decide):wpAny (model X.prog X.w) X.A (eval (.Name x pos) X.env) Q E s:=by
 obtain⟨O,h1,h2⟩:=I.mod.blt
 exact Calls.Name_function_global I.ok.kind hg (Calls.loadGlobal_builtin (by rw[I.ok.glob];exact I.mod.glob.keeps I.bk) J (by rw[I.ok.blt];exact h1.keeps I.bk) ((h2 x F).trans hv) h) hd
theorem EL(hg:Gl X x)(F:X.mg x=some u)(r:RelV v u)(hd:(x==("__debug__" : Str))=false:=by decide):PE X (.Name x pos) (tC v):=
 λ_ _ _ H _ I h=>n9 I hg F ⟨v,H,I,r,h⟩ hd
theorem EI(hg:Gl X x)(J:X.mg x=none)(hv:bootBuiltins x=some u)(r:RelV v u)(F:x ≠ "__name__" := by decide) (hd:(x==("__debug__" : Str))=false:=by decide):PE X (.Name x pos) (tC v):=
 λ_ _ _ H _ I h=>iE I hg J hv ⟨v,H,I,r,h⟩ F hd
variable{a b:Expr}{ta tb:TE}{pos:Pos}
def tB(t:TE):TT:=λσ H Q=>t σ H λx H1=>∃c,x = .bl c/\Q c H1
theorem dF{t:TE}(h:PE X e t)(U:∀whole,isTrue e X.env whole=(do let v <-whole;standAt e.pos;holding [v] (truthy v)):=by intro _;rfl):PT X e (tB t):=by
 intro pins s σ H Q I O
 refine isTrue_plain (bz (h pins s σ H _ I O) λv Y ⟨x,H1,F,J,W⟩=>?_) (U _)
 obtain⟨d,rfl,q⟩:=W
 cases J;exact wpAny_truthy_bool ⟨H1,F,q⟩
variable{tA tB':TT}{BG:LL}
def Ih(t u:TT):TT:=λσ H Q=>t σ H λc H1=>if c=true then u σ H1 Q else Q false H1
def JT(t u:TT):TT:=λσ H Q=>t σ H λc H1=>if c=true then Q true H1 else u σ H1 Q
def FW(t:TT):TT:=λσ H Q=>t σ H λc H1=>Q (!c) H1
theorem fz(F:PT X a tA):PW X (.BoolOp .And [a] pos) tA:=by
 intro J pins s σ H Q I h
 refine isTrue_and (bz (F pins s σ H Q I h) λc O e=>?_)
 cases c with
 | true=>exact isTrue_and_nil e
 | false=>exact e
theorem mJ(F:PT X a tA):PW X (.BoolOp .Or [a] pos) tA:=by
 intro J pins s σ H Q I h
 refine isTrue_or (bz (F pins s σ H Q I h) λc O e=>?_)
 cases c with
 | false=>exact isTrue_or_nil e
 | true=>exact e
theorem eI(Y:PT X a tA)(U:PW X (.BoolOp .And (b::BG) pos) tB'):PW X (.BoolOp .And (a::b::BG) pos) (Ih tA tB'):=by
 intro O pins s σ H Q I h
 refine isTrue_and (bz (Y pins s σ H _ I h) λc W ⟨H1,J,F⟩=>?_)
 cases c with
 | true=>exact U O pins W σ H1 Q J F
 | false=>exact⟨H1,J,F⟩
theorem mw(Y:PT X a tA)(U:PW X (.BoolOp .Or (b::BG) pos) tB'):PW X (.BoolOp .Or (a::b::BG) pos) (JT tA tB'):=by
 intro O pins s σ H Q I h
 refine isTrue_or (bz (Y pins s σ H _ I h) λc W ⟨H1,J,F⟩=>?_)
 cases c with
 | true=>exact⟨H1,J,F⟩
 | false=>exact U O pins W σ H1 Q J F
theorem jj(F:PT X a tA):PT X (.UnaryOp .Not a pos) (FW tA):=by
 intro pins s σ H Q I h
 exact isTrue_not (F pins s σ H (λc H1=>Q (!c) H1) I h)
def Ka(t:TT)(ta tb:TE):TE:=λσ H Q=>t σ H λc H1=>if c=true then ta σ H1 Q else tb σ H1 Q
theorem fS{c:Expr}(Y:PT X c tA)(W:PE X a ta)(U:PE X b tb):PE X (.IfExp c a b pos) (Ka tA ta tb):=by
 intro pins s σ H Q I h
 refine wpAny_IfExp (bz (Y pins s σ H _ I h) λd O ⟨H1,J,F⟩=>?_)
 cases d with
 | true=>exact W pins O σ H1 Q J F
 | false=>exact U pins O σ H1 Q J F
end
def su(K:W.Frag)(H:Hp)(a:Addr)(xs:LB):Prop:=
 Rd H a (.lst xs)\/
  ∃(o:Obj) (its:LM) (n:Nat),K.lookup a=some o/\o.cls = .type "list" /\ o.dict=none/\o.data = .seq its n/\its.size<=sizeLine/\A1 xs its.toList
def vr(K:W.Frag)(H:Hp)(a:Addr)(xs:LB):Prop:=
 Rd H a (.tup xs)\/
  ∃(o:Obj) (its:LM) (n:Nat),K.lookup a=some o/\o.cls = .type "tuple" /\ o.data = .seq its n/\its.size<=sizeLine/\A1 xs its.toList
noncomputable def K_:Value->LK
 | .none=>some .non
 | .bool b=>some (.bl b)
 | .int i _=>some (.int i)
 | .str x _=>some (.str x)
 | .bytes b _=>some (.byt b)
 | .float b _=>some (.flt b)
 | .ref a=>some (.ref a)
 | .type n=>some (.ty n)
 | _=>none
theorem RelV.abs{x:V}{u:Value}(r:RelV x u):K_ u=some x:=by
 cases x with
 | non=>cases r;rfl
 | bl _=>cases r;rfl
 | int _=>obtain⟨t,rfl⟩:=r;rfl
 | str _=>obtain⟨t,rfl⟩:=r;rfl
 | byt _=>obtain⟨t,rfl⟩:=r;rfl
 | flt _=>obtain⟨t,rfl⟩:=r;rfl
 | ref _=>cases r;rfl
 | ty _=>cases r;rfl
theorem RelV.inj{x y:V}(r:RelV x u)(q:RelV y u):x=y:=Option.some.inj (r.abs.symm.trans q.abs)
theorem A1.inj{xs ys:LB}{F:LD}(h:A1 xs F)(h':A1 ys F):xs=ys:=by
 induction h generalizing ys with
 | nil=>cases h';rfl
 | cons r t ih=>
  cases h' with
  | cons r' t'=>rw[r.inj r',ih t']
section
variable{X:Cx}{pins:List (Addr×Obj)}{σ:St}{H:Hp}{s:Shared}{a:Addr}{xs ys:LB}
theorem su.of(h:H a=some (.lst xs)):su K H a xs:=.inl (.inl h)
theorem vr.of(h:H a=some (.tup xs)):vr K H a xs:=.inl (.inl h)
theorem Inv.list(I:Inv X pins σ H s)(h:su X.K H a xs):∃F:LD,A1 xs F/\PlainL s.heap a F.toArray/\xs.length<=sizeLine:=by
 rcases h with h | ⟨o,F,n,J,U,hd,O,hz,r⟩
 .obtain⟨z,F,n,r,e⟩:=h.ok I.hok
  exact⟨F,r,⟨_,n,e,rfl,rfl,rfl⟩,z⟩
 .refine⟨F.toList,r,⟨o,n,I.kIn a o J,U,hd,by simpa using O⟩,?_⟩
  have e:=r.length;simp only[nX]at e
  lia
theorem Inv.tuple(I:Inv X pins σ H s)(h:vr X.K H a xs):∃F:LD,A1 xs F/\IsTup s.heap a F.toArray/\xs.length<=sizeLine:=by
 rcases h with h | ⟨o,F,n,J,U,O,hz,r⟩
 .obtain⟨z,F,r,p⟩:=h.ok I.hok
  exact⟨F,r,p.tup,z⟩
 .refine⟨F.toList,r,⟨o,I.kIn a o J,U,n,by simpa using O⟩,?_⟩
  have e:=r.length;simp only[nX]at e
  lia
theorem Inv.list_inj(I:Inv X pins σ H s)(h:su X.K H a xs)(h':su X.K H a ys):xs=ys:=by
 obtain⟨F,r,⟨o,n,e,_,_,d⟩,_⟩:=I.list h
 obtain⟨its',O,⟨o',n',J,_,_,d'⟩,_⟩:=I.list h'
 rw[e]at J;cases J
 rw[d]at d'
 injection d' with d1 _
 have:F=its':=by simpa using congrArg Array.toList d1
 subst this;exact r.inj O
theorem Inv.tuple_inj(I:Inv X pins σ H s)(h:vr X.K H a xs)(h':vr X.K H a ys):xs=ys:=by
 obtain⟨F,r,⟨o,e,_,n,d⟩,_⟩:=I.tuple h
 obtain⟨its',O,⟨o',J,_,n',d'⟩,_⟩:=I.tuple h'
 rw[e]at J;cases J
 rw[d]at d'
 injection d' with d1 _
 have:F=its':=by simpa using congrArg Array.toList d1
 subst this;exact r.inj O
end
noncomputable abbrev Cx.wish (X:Cx) (E:KY):Cx:={X with xe:=E}
noncomputable abbrev Cx.nox (X:Cx):Cx:=X.wish λ_ _=>False
theorem Cx.Ok.wish{X:Cx}(ok:X.Ok)(E:KY):(X.wish E).Ok:=
 ⟨ok.mod,ok.kind,ok.glob,ok.blt,ok.above,ok.inj,ok.has,ok.cab,ok.hd,ok.frames,ok.stk,ok.exf,ok.bs,ok.bsz,ok.noex,ok.exfs,ok.funs,ok.frf⟩
theorem Cx.Ok.unwish{X:Cx}(ok:(X.wish E).Ok):X.Ok:=
 ⟨ok.mod,ok.kind,ok.glob,ok.blt,ok.above,ok.inj,ok.has,ok.cab,ok.hd,ok.frames,ok.stk,ok.exf,ok.bs,ok.bsz,ok.noex,ok.exfs,ok.funs,ok.frf⟩
section
variable{X:Cx}{pins:List (Addr×Obj)}{σ:St}{H:Hp}{s:Shared}{E:KY}
theorem Inv.wish(I:Inv X pins σ H s)(E:KY):Inv (X.wish E) pins σ H s:=⟨I.ok.wish E,I.os,I.bare,I.base,I.loc,I.cell,I.free,I.freeC,I.pin,I.hok,I.len⟩
theorem Inv.unwish(I:Inv (X.wish E) pins σ H s):Inv X pins σ H s:=⟨I.ok.unwish,I.os,I.bare,I.base,I.loc,I.cell,I.free,I.freeC,I.pin,I.hok,I.len⟩
theorem SP.unwish{D:dN}{f:Flow}{s':Shared}(h:SP (X.wish E) pins D f s'):SP X pins D f s':=by
 cases f with
 | next=>obtain⟨F,H',I,q⟩:=h;exact⟨F,H',I.unwish,q⟩
 | brk=>obtain⟨F,H',I,q⟩:=h;exact⟨F,H',I.unwish,q⟩
 | cont=>obtain⟨F,H',I,q⟩:=h;exact⟨F,H',I.unwish,q⟩
 | ret u=>obtain⟨v,F,H',I,r,q⟩:=h;exact⟨v,F,H',I.unwish,r,q⟩
theorem G0.nox{st:List Stmt}{t:TS}(h:G0 X.nox st t):G0 X st t:=λpins s σ H D I F=>
 wpAny_mono (h pins s σ H D (I.wish _) F) (λ_ _ q=>q.unwish) λ_ _ z=>False.elim z
end
section
variable{X:Cx}{st:Stmt}{BG:List Stmt}{t u:TS}{e:Expr}{te:TE}{pos:Pos}
def DH:TS:=λD σ H=>D.nx σ H
def C9(t u:TS):TS:=λD σ H=>t {D with nx:=u D} σ H
theorem aN:G0 X [] DH:=λ_ _ σ H _ I h=>wpAny_execs_nil ⟨σ,H,I,h⟩
theorem ah(h1:PS X st t)(h2:G0 X BG u):G0 X (st::BG) (C9 t u):=by
 intro pins s σ H D I h
 refine wpAny_execs_cons (bz (h1 pins s σ H {D with nx:=u D} I h) λf O q=>?_)
 cases f with
 | next=>
  obtain⟨J,H',F,q⟩:=q
  exact h2 pins O J H' D F q
 | ret v=>exact q
 | brk=>exact q
 | cont=>exact q
theorem aj(h1:PS X st t):G0 X [st] t:=by
 intro pins s σ H D I h
 refine wpAny_execs_cons (bz (h1 pins s σ H D I h) λf F q=>?_)
 cases f with
 | next=>exact wpAny_execs_nil q
 | ret v=>exact q
 | brk=>exact q
 | cont=>exact q
theorem Inv.quiet{pins:List (Addr×Obj)}(I:Inv X pins σ H s):interactive X.env=false:=by simp[interactive,I.ok.kind]
def Dk(te:TE):TS:=λD σ H=>te σ H λ_ H1=>D.nx σ H1
theorem br(O:PE X e te)(F:swapsWith e none pos.line X.env=pure false:=by rfl):PS X (.Expr e pos) (Dk te):=by
 intro pins s σ H D I h
 exact wpAny_Expr_any (bz (O pins s σ H _ I h) λv Y ⟨x,H1,J,W,U⟩=>⟨σ,H1,J,U⟩) I.quiet F
def Iu(te:TE):TS:=λD σ H=>te σ H D.rt
theorem aA(O:PE X e te):PS X (.Return (some e) pos) (Iu te):=by
 intro pins s σ H D I h
 exact wpAny_Return_some (bz (O pins s σ H _ I h) λv W ⟨x,H1,F,J,U⟩=>⟨x,σ,H1,F,J,U⟩)
def GL(c:TT)(t u:TS):TS:=λD σ H=>c σ H λb H1=>if b=true then t D σ H1 else u D σ H1
theorem bf{c:Expr}{a b:List Stmt}{tc:TT}(Y:PT X c tc)(W:G0 X a t)(U:G0 X b u):PS X (.If c a b pos) (GL tc t u):=by
 intro pins s σ H D I h
 refine wpAny_If (bz (Y pins s σ H _ I h) λd O ⟨H1,J,F⟩=>?_)
 cases d with
 | true=>exact W pins O σ H1 D J F
 | false=>exact U pins O σ H1 D J F
end
abbrev TG:=V->St->Hp->(St->Hp->Prop)->Prop
abbrev gq:=LB->St->Hp->(St->Hp->Prop)->Prop
def PG(X:Cx)(target:Expr)(t:TG):Prop:=
 ∀(pins:List (Addr×Obj)) (s:Shared) (σ : St) (H:Hp) (v:V) (u:Value) (Q:St->Hp->Prop),Inv X pins σ H s->RelV v u->t v σ H Q->
  wpAny (model X.prog X.w) X.A (assign target X.env u) (λ_ s'=>∃σ' H',Inv X pins σ' H' s'/\Q σ' H') X.xe s
def Km(X:Cx)(ts:LL)(t:gq):Prop:=
 ∀(pins:List (Addr×Obj)) (s:Shared) (σ : St) (H:Hp) (vs:LB) (us:LD) (Q:St->Hp->Prop),Inv X pins σ H s->A1 vs us->t vs σ H Q->
  wpAny (model X.prog X.w) X.A (assignInOrder ((assignEach ts X.env).map (·.2)) us) (λ_ s'=>∃σ' H',Inv X pins σ' H' s'/\Q σ' H') X.xe s
abbrev nW:=V->V->V->Hp->(Hp->Prop)->Prop
def Ht(X:Cx)(t:nW):Prop:=
 ∀(pins:List (Addr×Obj)) (s:Shared) (σ : St) (H:Hp) (o i v:V) (ov iv u:Value) (Q:Hp->Prop),Inv X pins σ H s->RelV o ov->RelV i iv->RelV v u->t o i v H Q->
  wpAny (model X.prog X.w) X.A (setItem ov iv u) (λ_ s'=>∃H',Inv X pins σ H' s'/\Q H') X.xe s
section
variable{X:Cx}{pos:Pos}
def iO(i:Nat):TG:=λv σ H Q=>Q (σ.set i (some v)) H
theorem Fm(hN:X.N.Nodup)(hi:X.N[i]?=some x)(hx:aH X.env.scope x)(hf:X.fn x=true\/X.env.scope.names.lookup x=some .local:=by first | exact .inl rfl | exact .inr rfl | assumption):PG X (.Name x pos) (iO i):=by
 intro pins s σ H v u Q I r h
 exact wpAny_assign_Name (uv I hN hi hx r (λs' F=>⟨_,H,F,h⟩) hf)
def xv:gq:=λvs σ H Q=>vs=[]/\Q σ H
def p7(t:TG)(u:gq):gq:=λvs σ H Q=>∃v r,vs=v::r/\t v σ H λσ' H'=>u r σ' H' Q
theorem ie:Km X [] xv:=by
 intro pins s σ H vs F Q I r h
 obtain⟨e,h⟩:=h
 subst e
 cases r;exact assignInOrder_nil ⟨σ,H,I,h⟩
theorem cG{e:Expr}{es:LL}{t:TG}{u:gq}(h1:PG X e t)(h2:Km X es u)
  (F:(assignEach (e::es) X.env).map (·.2)=assign e X.env::(assignEach es X.env).map (·.2):=by rfl):Km X (e::es) (p7 t u):=by
 intro pins s σ H vs us Q I r h
 obtain⟨v,Z,U,h⟩:=h
 subst U
 cases r with
 | cons r rr=>
  rw[F];refine assignInOrder_cons (bz (h1 pins s σ H _ _ _ I r h) λ_ W ⟨O,H1,J,Y⟩=>?_)
  exact h2 pins W O H1 _ _ Q J rr Y
def yu(K:W.Frag)(n:Nat)(t:gq):TG:=λv σ H Q=>∃a xs,v = .ref a/\vr K H a xs/\xs.length=n/\t xs σ H Q
theorem Ga{es:LL}{k:Nat}{t:gq}{n:Nat}(hc:X.calm=true)(h:Km X es t)
  (O:(assignEach es X.env).length=n:=by rfl) (hst:(assignEach es X.env).findIdx? (·.1)=none:=by rfl):PG X (.Tuple es k pos) (yu X.K n t):=by
 intro pins s σ H v u Q I r F
 obtain⟨a,xs,e1,U,hl,F⟩:=F
 subst e1
 cases r;obtain⟨Z,J,Y,hz⟩:=I.tuple U
 refine assign_Tuple_tuple (I.ok.hd hc) Y (by simp[O,<-hl,J.length]) hst λh' hx=>?_
 have W:Inv X pins σ H {s with heap:=h'}:=I.kept (t':=s.toks) λb o e=>hx b o (xa (wD e)) e
 exact h pins _ σ H xs _ Q W (by simpa using J) F
def F9(to ti:TE)(t:nW):TG:=λv σ H Q=>to σ H λo H1=>ti σ H1 λi H2=>t o i v H2 λH3=>Q σ H3
theorem fG{o i:Expr}{to ti:TE}{t:nW}(ho:PE X o to)(hi:PE X i ti)(U:Ht X t)
  (ha:∀v,assign (.Subscript o i pos) X.env v=(do
   let F <-holding [v] (eval o X.env)
   let J <-holding [v,F] (eval i X.env)
   standAt pos
   holding [v,F,J] (setItem F J v)
   release [v,F,J] []):=by intro _;rfl):PG X (.Subscript o i pos) (F9 to ti t):=by
 intro pins s σ H v u Q I r h
 rw[ha];refine Kn (wpAny_holding (bz (ho pins s σ H _ I h) λF s1 ⟨x,H1,W,Y,O⟩=>?_))
 refine Kn (wpAny_holding (bz (hi pins s1 σ H1 _ W O) λJ s2 ⟨y,H2,I2,Z,q2⟩=>?_))
 refine Kn (wpAny_standAt (Kn (wpAny_holding (bz (U pins s2 σ H2 x y v F J u _ I2 Y Z r q2) λ_ s3 ⟨H3,I3,q3⟩=>?_))))
 exact wpAny_release ⟨σ,H3,I3,q3⟩
def qI(te:TE)(g:TG):TS:=λD σ H=>te σ H λx H1=>g x σ H1 D.nx
theorem eY{te:TE}{g:TG}(U:PE X e te)(hg:PG X tg g)(F:swapsWithSole [tg] e pos.line X.env=pure false:=by rfl)(hw:swappedStores [tg] e X.env=pure none:=by rfl)
  (h1:(assignEach [tg] X.env).map (·.2)=[assign tg X.env]:=by rfl):PS X (.Assign [tg] e pos) (qI te g):=by
 intro pins s σ H D I h
 refine wpAny_Assign_stores (bz (U pins s σ H _ I h) λv W ⟨x,H1,J,O,Y⟩=>?_) F hw
 rw[h1];exact bz (hg pins W σ H1 x v _ J O Y) λ_ s2 q=>q
theorem GQ{te:TE}{pos':Pos}(hN:X.N.Nodup)(hi:X.N[i]?=some x)(hx:aH X.env.scope x)(U:PE X e te)(F:swapsWith e (some (.Name x pos')) pos.line X.env=pure false:=by rfl)(hf:X.fn x=true\/X.env.scope.names.lookup x=some .local:=by first | exact .inl rfl | exact .inr rfl | assumption) :
  PS X (.Assign [.Name x pos'] e pos) (qI te (iO i)):=by
 intro pins s σ H D I h
 refine wpAny_Assign_Name (bz (U pins s σ H _ I h) λv Z ⟨y,H1,J,O,Y⟩=>?_) F
 exact uv J hN hi hx O (λs2 W=>⟨_,H1,W,Y⟩) hf
end
section
variable{X:Cx}{pos:Pos}
def H_(c:TT)(tb:TS):TS:=λD σ H=>∃W:Nat->St->Hp->Prop,(∃m,W m σ H)/\∀m σ H,W m σ H->
 c σ H λb H1=>if b=true then ∃N:St->Hp->Prop,(∀σ' H',N σ' H'->∃m',m'<m/\W m' σ' H')/\tb {D with nx:=N,ct:=N,bk:=D.nx} σ H1 else D.nx σ H1
theorem sK{c:Expr}{F:List Stmt}{tc:TT}{tb:TS}(hp:PassesOwn (model X.prog X.w) X.A X.env X.xe)(hc:PT X c tc)(hb:G0 X F tb):PS X (.While c F [] pos) (H_ tc tb):=by
 intro pins s σ H D I h
 obtain⟨W,⟨m0,w0⟩,U⟩:=h
 refine wpAny_While (codeAny_whileLoop (λn s'=>∃σ' H',Inv X pins σ' H' s'/\W n σ' H') ?_ m0 ⟨σ,H,I,w0⟩)
 rintro n s1 ⟨Z,H1,I1,w1⟩
 refine wpAny_passesOwn hp (bz (hc pins s1 Z H1 _ I1 (U n Z H1 w1)) λb s2 ⟨H2,I2,q2⟩=>?_)
 cases b with
 | true=>
  obtain⟨N,hN,q2⟩:=q2
  rw[Kx rfl];refine wpAny_passesOwn hp (bz (hb pins s2 Z H2 _ I2 q2) λf s3 Y=>?_)
  cases f with
  | next=>
   obtain⟨O,J,I3,n3⟩:=Y
   obtain⟨m',hm,w3⟩:=hN O J n3
   exact⟨m',hm,O,J,I3,w3⟩
  | cont=>
   obtain⟨O,J,I3,n3⟩:=Y
   obtain⟨m',hm,w3⟩:=hN O J n3
   exact⟨m',hm,O,J,I3,w3⟩
  | brk=>exact Y
  | ret v=>exact Y
 | false=>
  rw[Kt xN];exact wpAny_execs_nil ⟨Z,H2,I2,q2⟩
end
set_option genInjectivity false in
set_option genSizeOf false in
structure It where
 go:Nat->Hp->Prop
 yld:Nat->Hp->V->Hp->Prop
 stop:Nat->Hp->Prop
def iA(X:Cx)(pins:List (Addr×Obj))(H:Hp)(b:Addr):Prop:=
 H b=none/\b≠X.env.locals/\b∉X.fs/\(b∈X.ex\/X.s₀.heap.objs.size<=b)/\(∀x c,X.env.cells.lookup x=some c->c≠b)/\∀p∈X.pn++pins,p.1≠b
theorem Inv.fpOk{X:Cx}{pins:List (Addr×Obj)}{H':Hp}(I:Inv X pins σ H s)(F:s.heap.objs.size<=b)(J:H' b=none):iA X pins H' b:=by
 refine⟨J,Ie (uo I.lt F),I.nofs F,.inr (xB I.sz F),λx c e z=>?_,λp O z=>?_⟩
 .obtain⟨v,q⟩:=I.cell x c e
  exact absurd (uo q.lt (by rw[z];exact F)) (IP _)
 .exact absurd (uo (wD (I.pin p O).1) (by rw[z];exact F)) (IP _)
structure kC (P:Program) (w:World) (K:W.Frag) (tg:Expr) (J:It) (fp:LC) (it:Addr) (tn:Nat->Heap->Prop):Prop where
 mem:it∈fp
 obj:∀i h,tn i h->∀b∈fp,∃o,h.get? b=some o/\∀v,o.data ≠ .cell v
 keep:∀i h h',tn i h->(∀b∈fp,∀o,h.get? b=some o->h'.get? b=some o)->tn i h'
 item:∀(X:Cx),X.prog=P->X.w=w->X.K=K->X.calm=true->∀(i:Nat) (pins:List (Addr×Obj)) (s:Shared) (σ : St) (H:Hp) (E:KY),Inv X pins σ H s->(∀b∈fp,iA X pins H b)->tn i s.heap->J.go i H->
  wpAny (model P w) X.A (pyNext (.ref it)) (λr s1=>∃u,r=some u/\
   wpAny (model P w) X.A (letOwnedTupleGo tg (.ref it) u) (λ_ s2=>∃x H',Inv X pins σ H' s2/\RelV x u/\J.yld i H x H'/\tn (i+1) s2.heap/\∀b∈fp,H' b=none) E s1) E s
 done:∀(X:Cx),X.prog=P->X.w=w->X.K=K->X.calm=true->∀(i:Nat) (pins:List (Addr×Obj)) (s:Shared) (σ : St) (H:Hp) (E:KY),Inv X pins σ H s->(∀b∈fp,iA X pins H b)->tn i s.heap->J.stop i H->
  wpAny (model P w) X.A (pyNext (.ref it)) (λr s1=>r=none/\Inv X pins σ H s1) E s
 self:∀(A:Around) (i:Nat) (s:Shared) (Q:KY) (E:KY),tn i s.heap->Q (.ref it) s->wpAny (model P w) A (pyIter (.ref it)) Q E s
abbrev TI:=St->Hp->(It->Hp->Prop)->Prop
def JX(X:Cx)(pins:List (Addr×Obj))(σ : St)(tg:Expr)(R:It->Hp->Prop)(itv:Value)(s2:Shared):Prop:=
 ∃(it:Addr) (fp:LC) (tn:Nat->Heap->Prop) (J:It) (H':Hp),itv = .ref it/\Inv X pins σ H' s2/\kC X.prog X.w X.K tg J fp it tn/\tn 0 s2.heap/\(∀b∈fp,iA X pins H' b)/\R J H'
def PI(X:Cx)(tg iter:Expr)(wi:TI):Prop:=
 ∀(pins:List (Addr×Obj)) (s:Shared) (σ : St) (H:Hp) (R:It->Hp->Prop),Inv X pins σ H s->wi σ H R->
  wpAny (model X.prog X.w) X.A (eval iter X.env) (λv s1=>wpAny (model X.prog X.w) X.A (pyIter v) (JX X pins σ tg R) X.xe s1) X.xe s
theorem ye{M:Model}{A:Around}{E:KY}{s:Shared}{tg:Expr}{it:Addr}{u:Value}{o:Obj}{n:String}{vs:LM}{Q:Unit->Shared->Prop}(U:s.heap.get? it=some o)(O:o.cls = .type n)(hd:o.data = .fields vs)
    (J:["enumerate","zip","dict_itemiterator","dict_reverseitemiterator","odict_iterator","itertools.zip_longest","itertools.pairwise"].contains n=false) (F:Q () s):wpAny M A (letOwnedTupleGo tg (.ref it) u) Q E s:=by
  unfold letOwnedTupleGo
  cases tg<;>first
    | exact Kr F
    | (cases u<;>first
        | exact Kr F
        | (refine Kn (wpAny_load U ?_)
           rw[O,hd];show wpAny M A (if (["enumerate","zip","dict_itemiterator","dict_reverseitemiterator","odict_iterator","itertools.zip_longest","itertools.pairwise"].contains n&&vs[0]? == some (rawInt _))=true then _ else _) Q E s
           rw[Kt (by intro h;rw[J,Bool.false_and]at h;cases h)]
           exact Kr F))
def k8(K:W.Frag)(a:Addr):It:=
 ⟨λi H=>∃xs x,su K H a xs/\xs[i]?=some x,λi H x H'=>H'=H/\∀xs,su K H a xs->xs[i]?=some x,λi H=>∃xs,su K H a xs/\xs.length<=i⟩
def AY(K:W.Frag)(a:Addr):It:=
 ⟨λi H=>∃xs x,vr K H a xs/\xs[i]?=some x,λi H x H'=>H'=H/\∀xs,vr K H a xs->xs[i]?=some x,λi H=>∃xs,vr K H a xs/\xs.length<=i⟩
def lY(lo:Int)(n:Nat):It:=⟨λi _=>i<n,λi H x H'=>H'=H/\x = .int (lo+i),λi _=>n<=i⟩
theorem yN{P:Program}(a it:Addr):kC P w K tg (k8 K a) [it] it (λi h=>h.IsListIter it a i) where
 mem:=by simp
 obj:=λi h st b F=>by
  have e:b=it:=by simpa using F
  subst e;obtain⟨o,e,c,d⟩:=st
  exact⟨o,e,λv z=>by rw[d]at z;cases z⟩
 keep:=λi h h' st k=>st.at λo e=>k it (by simp) o e
 item:=by
  intro X hP hw U hc i pins s σ H E I hf st hg
  subst hP hw U;obtain⟨xs,x,O,hx⟩:=hg
  obtain⟨Z,Y,p,hz⟩:=I.list O
  obtain⟨u,hu,ru⟩:=Y.get hx
  obtain⟨f0,f1,f2,f3,f4,f5⟩:=hf it (by simp)
  refine wpAny_pyNext_list_item st p.isList (x:=u) (by simpa using hu) λh' J sb=>?_
  have I1:Inv X pins σ H {s with heap:=h'}:=I.turned (t':=s.toks) (λb o F e=>(sb.2 b F).trans e) f0 f1 f3 f4 f5
  obtain⟨o,e,c,d⟩:=id J
  exact⟨u,rfl,ye (s:={s with heap:=h'}) e c d (by decide) ⟨x,H,I1,ru,⟨rfl,λys hy=>by rw[I.list_inj hy O];exact hx⟩,J,λb F=>(hf b F).1⟩⟩
 done:=by
  intro X hP hw U hc i pins s σ H E I hf st hg
  subst hP hw U;obtain⟨xs,O,hx⟩:=hg
  obtain⟨Z,Y,p,hz⟩:=I.list O
  obtain⟨f0,f1,f2,f3,f4,f5⟩:=hf it (by simp)
  have hl:=Y.length;exact wpAny_pyNext_list_end (I.ok.hd hc) st p.isList (by simp;lia) λh' eb=>⟨rfl,I.turned (t':=s.toks) (λb o F e=>eb b o F e) f0 f1 f3 f4 f5⟩
 self:=λ_ _ _ _ _ st h=>wpAny_pyIter_listiter st h
theorem xc{P:Program}(a it:Addr):kC P w K tg (AY K a) [it] it (λi h=>h.IsTupleIter it a i) where
 mem:=by simp
 obj:=λi h st b F=>by
  have e:b=it:=by simpa using F
  subst e;obtain⟨o,e,c,d⟩:=st
  exact⟨o,e,λv z=>by rw[d]at z;cases z⟩
 keep:=λi h h' st k=>st.at λo e=>k it (by simp) o e
 item:=by
  intro X hP hw Y hc i pins s σ H E I hf st hg
  subst hP hw Y;obtain⟨xs,x,U,hx⟩:=hg
  obtain⟨J,Z,p,hz⟩:=I.tuple U
  obtain⟨u,hu,ru⟩:=Z.get hx
  obtain⟨f0,f1,f2,f3,f4,f5⟩:=hf it (by simp)
  refine wpAny_pyNext_tuple_item st (show s.heap.IsTuple a J.toArray from p) (x:=u) (by simpa using hu) λh' O sb=>?_
  have I1:Inv X pins σ H {s with heap:=h'}:=I.turned (t':=s.toks) (λb o F e=>(sb.2 b F).trans e) f0 f1 f3 f4 f5
  obtain⟨o,e,c,d⟩:=id O
  exact⟨u,rfl,ye (s:={s with heap:=h'}) e c d (by decide) ⟨x,H,I1,ru,⟨rfl,λys hy=>by rw[I.tuple_inj hy U];exact hx⟩,O,λb F=>(hf b F).1⟩⟩
 done:=by
  intro X hP hw Y hc i pins s σ H E I hf st hg
  subst hP hw Y;obtain⟨xs,U,hx⟩:=hg
  obtain⟨J,Z,p,hz⟩:=I.tuple U
  obtain⟨f0,f1,f2,f3,f4,f5⟩:=hf it (by simp)
  have hl:=Z.length;exact wpAny_pyNext_tuple_end (I.ok.hd hc) st (show s.heap.IsTuple a J.toArray from p) (by simp;lia) λh' eb=>⟨rfl,I.turned (t':=s.toks) (λb o F e=>eb b o F e) f0 f1 f3 f4 f5⟩
 self:=λ_ _ _ _ _ st h=>wpAny_pyIter_tupleiter st h
theorem xj{P:Program}{K:PySem.W.Frag}(it:Addr)(lo:Int)(n:Nat):kC P w K tg (lY lo n) [it] it (λi h=>IsRangeIter h it (lo+(i:Nat)*1) ((n:Int)-(i:Nat)) 1) where
 mem:=by simp
 obj:=λi h st b F=>by
  have e:b=it:=by simpa using F
  subst e
  exact⟨_,st,λv z=>by
   have z':Data.fields _=Data.cell v:=z
   cases z'⟩
 keep:=λi h h' st k=>k it (by simp) _ st
 item:=by
  intro X hP Z O hc i pins s σ H E I hf st hg
  subst hP Z O;obtain⟨f0,Y,f2,f3,U,f5⟩:=hf it (by simp)
  have W:=Walks.range (prog:=X.prog) (w:=X.w) (I.ok.hd hc) it lo 1 n;refine W.item i s _ _ hg st λv h' tk hv J kk=>?_
  obtain⟨t,rfl⟩:=hv
  have I1:Inv X pins σ H {s with heap:=h',toks:=tk}:=I.turned (λb o F e=>kk b o (by simpa using F) e) f0 Y f3 U f5
  refine⟨_,rfl,ye (s:={s with heap:=h',toks:=tk}) (n := "range_iterator") J rfl rfl (by decide) ⟨.int (lo+i),H,I1,⟨t,?_⟩,⟨rfl,rfl⟩,J,λb F=>(hf b F).1⟩⟩
  rw[Int.mul_one]
 done:=by
  intro X hP Z O hc i pins s σ H E I hf st hg
  subst hP Z O;obtain⟨f0,Y,f2,f3,U,f5⟩:=hf it (by simp)
  exact wpAny_pyNext_range_end (I.ok.hd hc) st (by have:n<=i:=hg;lia) λh' eb=>⟨rfl,I.turned (t':=s.toks) (λb o F e=>eb b o F e) f0 Y f3 U f5⟩
 self:=λ_ _ _ _ _ st h=>wpAny_pyIter_rangeiter st h
section
variable{X:Cx}{tg:Expr}
def yL(K:W.Frag)(tl:TE):TI:=λσ H R=>tl σ H λx H1=>∃a,x = .ref a/\(∃xs,su K H1 a xs)/\R (k8 K a) H1
def B_(K:W.Frag)(tl:TE):TI:=λσ H R=>tl σ H λx H1=>∃a,x = .ref a/\(∃xs,vr K H1 a xs)/\R (AY K a) H1
theorem Ew{l:Expr}{tl:TE}(hl:PE X l tl):PI X tg l (yL X.K tl):=by
 intro pins s σ H R I h
 refine bz (hl pins s σ H _ I h) λv J ⟨x,H1,F,U,Z⟩=>?_
 obtain⟨a,e,⟨xs,O⟩,q⟩:=Z
 subst e
 cases U;obtain⟨Y,rv,p,hz⟩:=F.list O
 refine wpAny_pyIter_list p.isList ?_
 refine⟨J.heap.objs.size,[J.heap.objs.size],_,_,H1,rfl,F.kept (t':=J.toks) λb o e=>wR _ e,yN a _,⟨_,yk _ rfl,rfl,rfl⟩,λb W=>?_,q⟩
 have e:b=J.heap.objs.size:=by simpa using W
 subst e;exact F.fpOk (qt _) (F.hok.fresh (qt _))
theorem F4{l:Expr}{tl:TE}(hl:PE X l tl):PI X tg l (B_ X.K tl):=by
 intro pins s σ H R I h
 refine bz (hl pins s σ H _ I h) λv F ⟨x,H1,J,W,Z⟩=>?_
 obtain⟨a,e,⟨xs,U⟩,q⟩:=Z
 subst e
 cases W;obtain⟨O,rv,p,hz⟩:=J.tuple U
 refine wpAny_pyIter_tuple (show F.heap.IsTuple a O.toArray from p) ?_
 refine⟨F.heap.objs.size,[F.heap.objs.size],_,_,H1,rfl,J.kept (t':=F.toks) λb o e=>wR _ e,xc a _,⟨_,yk _ rfl,rfl,rfl⟩,λb Y=>?_,q⟩
 have e:b=F.heap.objs.size:=by simpa using Y
 subst e;exact J.fpOk (qt _) (J.hok.fresh (qt _))
theorem CL{pins:List (Addr×Obj)}{R:It->Hp->Prop}{lo hi:Int}{t u v:Tok}{tk:Nat}(I:Inv X pins σ H s)(h1:-(2^62)<=lo)(h2:lo<2^62)(J:-(2^62)<=hi)(O:hi<2^62)
  (q:R (lY lo (hi-lo).toNat) H):wpAny (model X.prog X.w) X.A (pyIter (.ref s.heap.objs.size)) (JX X pins σ tg R) E {s with heap:=s.heap.push {cls:=.type "range",data:=.fields #[.int lo t,.int hi u,.int 1 v]},toks:=tk}:=by
 refine wpAny_pyIter_range (IsRange.new ..) (small_one h1 h2 J O) ?_
 have F:Inv X pins σ H {s with heap:=s.heap.push {cls:=.type "range",data:=.fields #[.int lo t,.int hi u,.int 1 v]},toks:=tk}:=I.kept λb o e=>wR _ e
 refine⟨(s.heap.push {cls:=.type "range",data:=.fields #[.int lo t,.int hi u,.int 1 v]}).objs.size,[(s.heap.push {cls:=.type "range",data:=.fields #[.int lo t,.int hi u,.int 1 v]}).objs.size],_,_,H,rfl,
  F.kept (t':=tk) λb o e=>wR _ e,xj _ lo (hi-lo).toNat,?_,λb U=>?_,q⟩
 .have Y:lo+((0:Nat):Int)*1=lo:=by simp
  have W:(((hi-lo).toNat:Nat):Int)-((0:Nat):Int)=Builtin.Range.rangeSize lo hi 1:=by rw[rangeSize_one];split<;>lia
  show IsRangeIter _ _ (lo+((0:Nat):Int)*1) ((((hi-lo).toNat:Nat):Int)-((0:Nat):Int)) 1
  rw[Y,W];exact yk _ rfl
 .have e:b=(s.heap.push {cls:=.type "range",data:=.fields #[.int lo t,.int hi u,.int 1 v]}).objs.size:=by simpa using U
  subst e;exact F.fpOk (qt _) (F.hok.fresh (qt _))
def Ed(ta:TA):TI:=λσ H R=>ta σ H λvs H1=>∃j:Int,vs=[.int j]/\-(2^62)<=j/\j<2^62/\R (lY 0 j.toNat) H1
theorem dh{a:Expr}{ta:TA}{p pos:Pos}(hg:Gl X "range") (J:X.mg "range" = none) (Z:PA X [a] ta) (O:starEach [a] X.env=[(false,eval a X.env)]:=by rfl):PI X tg (.Call (.Name "range" p) [a] [] pos) (Ed ta):=by
 intro pins s σ H R I h
 refine Call_ (iE I hg J boot_range (zaY (bz (Z pos pins s σ H _ I h) λus s1 ⟨vs,H1,U,W,F⟩=>?_) O rfl))
 obtain⟨j,e,F,Y,q⟩:=F
 subst e
 cases W with
 | cons r rr=>
  cases rr;obtain⟨t,rfl⟩:=r
  exact call_range_1 (CL U (by lia) (by lia) F Y (by simpa using q))
def Ii(wi:TI)(g:TG)(tb:TS):TS:=λD σ H=>wi σ H λJ H1=>∃W:Nat->Nat->St->Hp->Prop,(∃m,W 0 m σ H1)/\∀i m σ H,W i m σ H->
 (J.stop i H/\D.nx σ H)\/(J.go i H/\∃N:St->Hp->Prop,(∀σ' H',N σ' H'->∃m',m'<m/\W (i+1) m' σ' H')/\∀x H',J.yld i H x H'->g x σ H' λσ2 H2=>tb {D with nx:=N,ct:=N,bk:=D.nx} σ2 H2)
noncomputable def km(fp:LC)(h:Heap):List (Addr×Obj):=fp.filterMap λb=>(h.get? b).map λo=>(b,o)
theorem gZ{fp:LC}{o:Obj}(F:b∈fp)(e:h.get? b=some o):(b,o)∈km fp h:=KN.mpr ⟨b,F,by rw[e];rfl⟩
theorem zl{fp:LC}{h:Heap}{p:Addr×Obj}(J:p∈km fp h):p.1∈fp/\h.get? p.1=some p.2:=by
 obtain⟨b,O,e⟩:=KN.mp J
 cases q:h.get? b with
 | none=>rw[q]at e;cases e
 | some o=>
  rw[q]at e
  have F:(b,o)=p:=Option.some.inj e
  subst F;exact⟨O,q⟩
theorem Inv.pinned{pins:List (Addr×Obj)}{fp:LC}(I:Inv X pins σ H s)(hf:∀b∈fp,iA X pins H b)(Y:∀b∈fp,∃o,s.heap.get? b=some o/\∀v,o.data ≠ .cell v):Inv X (pins++km fp s.heap) σ H s:=
 I.pins_of λp W=>(KA.mp W).elim (λz=>I.pin p (gV _ z)) λz=>by
  obtain⟨F,e⟩:=zl z
  obtain⟨Z,O,U,_⟩:=hf p.1 F
  obtain⟨o,J,d⟩:=Y p.1 F
  rw[e]at J;cases J
  exact⟨e,Z,O,U,d⟩
theorem Inv.unpinned{pins pl:List (Addr×Obj)}(I:Inv X (pins++pl) σ H s):Inv X pins σ H s:=I.pins_of λp F=>I.pin p (gV _ (lW _ F))
theorem b4{iter:Expr}{ab:List Stmt}{wi:TI}{g:TG}{tb:TS}{pos:Pos}(hp:PassesOwn (model X.prog X.w) X.A X.env X.xe)(hc:X.calm=true)(hi:PI X tg iter wi)(hg:PG X tg g)(O:G0 X ab tb)
  (hs:∀x,foldedSetIterable iter X.env x=pure x:=by intro _;rfl):PS X (.For tg iter ab [] pos) (Ii wi g tb):=by
 intro pins s σ H D I h
 refine wpAny_For (bz (hi pins s σ H _ I h) λv s1 h1=>bz h1 λa5 s2 h2=>?_) hs
 obtain⟨it,fp,tn,J,H2,e,I2,T,as,f2,W,⟨m0,w0⟩,al⟩:=h2
 subst e
 -- what stays true of the iterator's objects through the loop
 have Z:∀ {H':Hp},(∀b∈fp,H' b=none)->∀b∈fp,iA X pins H' b:=λhn b O=>⟨hn b O,(f2 b O).2⟩
 refine codeAny_forLoop_any (λn s'=>∃i σ' H',Inv X pins σ' H' s'/\tn i s'.heap/\(∀b∈fp,H' b=none)/\W i n σ' H') ?_ m0 ⟨0,σ,H2,I2,as,λb O=>(f2 b O).1,w0⟩
 rintro n s3 ⟨i,σ3,H3,I3,ad,ag,w3⟩
 rcases al i n σ3 H3 w3 with ⟨stop,qn⟩ | ⟨go,N,hN,step⟩
 .refine wpAny_passesOwn hp (bz (T.done X rfl rfl rfl hc i pins s3 σ3 H3 X.xe I3 (Z ag) ad stop) λr s4 ⟨hr,I4⟩=>?_)
  subst hr;exact wpAny_execs_nil ⟨σ3,H3,I4,qn⟩
 .refine wpAny_passesOwn hp (bz (T.item X rfl rfl rfl hc i pins s3 σ3 H3 X.xe I3 (Z ag) ad go) λr s4 ⟨u,hr,h4⟩=>?_)
  subst hr;refine wpAny_passesOwn hp (bz h4 λ_ s5 ⟨x,H5,I5,r5,y5,ac,a3⟩=>?_)
  have a4:=I5.pinned (Z a3) (T.obj _ _ ac);refine wpAny_passesOwn hp (bz (hg _ s5 σ3 H5 x u _ a4 r5 (step x H5 y5)) λ_ s6 ⟨σ6,H6,I6,q6⟩=>?_)
  refine wpAny_passesOwn hp (bz (O _ s6 σ6 H6 _ I6 q6) λf s7 q7=>?_)
  have again:∀ {Y:St} {U:Hp},Inv X (pins++km fp s5.heap) Y U s7->N Y U->∃m,m<n/\∃i σ' H',Inv X pins σ' H' s7/\tn i s7.heap/\(∀b∈fp,H' b=none)/\W i m σ' H':=λ{Y U} F n7=>by
   obtain⟨m',hm,w7⟩:=hN Y U n7
   refine⟨m',hm,i+1,Y,U,F.unpinned,T.keep _ _ _ ac λb O o e=>(F.pin (b,o) (gV _ (gV _ (gZ O e)))).1,λb O=>?_,w7⟩
   obtain⟨o,e,d⟩:=T.obj _ _ ac b O
   exact(F.pin (b,o) (gV _ (gV _ (gZ O e)))).2.1
  cases f with
  | next=>obtain⟨Y,U,F,n7⟩:=q7;exact again F n7
  | cont=>obtain⟨Y,U,F,n7⟩:=q7;exact again F n7
  | brk=>obtain⟨Y,U,F,q7⟩:=q7;exact⟨Y,U,F.unpinned,q7⟩
  | ret v=>obtain⟨x7,Y,U,F,r7,q7⟩:=q7;exact⟨x7,Y,U,F.unpinned,r7,q7⟩
end
theorem Bq{K:PySem.W.Frag}{xs:LB}{g:TG}{tb:TS}{D:dN}(F:Nat->St->Hp->Prop)(Y:F 0 σ H)(hl:∀i σ H,i<=xs.length->F i σ H->su K H a xs)
  (U:∀i x σ H,xs[i]?=some x->F i σ H->g x σ H λO H2=>tb {D with nx:=F (i+1),ct:=F (i+1),bk:=D.nx} O H2) (hd:∀σ H,F xs.length σ H->D.nx σ H) :
  ∃W:Nat->Nat->St->Hp->Prop,(∃m,W 0 m σ H)/\∀i m σ H,W i m σ H->
   ((k8 K a).stop i H/\D.nx σ H)\/((k8 K a).go i H/\∃N:St->Hp->Prop,(∀J H',N J H'->∃m',m'<m/\W (i+1) m' J H')/\∀x H',(k8 K a).yld i H x H'->g x σ H' λO H2=>tb {D with nx:=N,ct:=N,bk:=D.nx} O H2):=by
 refine⟨λi m σ H=>m=xs.length-i/\i<=xs.length/\F i σ H,⟨xs.length,by simp,xR _,Y⟩,?_⟩
 rintro i m σ H ⟨rfl,hi,p⟩
 have q:=hl i σ H hi p
 by_cases hlt:i<xs.length
 .refine .inr ⟨⟨xs,xs[i],q,by simp[hlt]⟩,F (i+1),λJ H' Z=>⟨xs.length-(i+1),by lia,rfl,hlt,Z⟩,λx H' y=>?_⟩
  obtain⟨e,y⟩:=y
  subst e;exact U i x σ _ (y xs q) p
 .have e:i=xs.length:=by lia
  subst e;exact .inl ⟨⟨xs,q,qt _⟩,hd σ H p⟩
theorem zS{lo:Int}{n:Nat}{g:TG}{tb:TS}{D:dN}(F:Nat->St->Hp->Prop)(Y:F 0 σ H)
  (U:∀i σ H,i<n->F i σ H->g (.int (lo+i)) σ H λO H2=>tb {D with nx:=F (i+1),ct:=F (i+1),bk:=D.nx} O H2) (hd:∀σ H,F n σ H->D.nx σ H) :
  ∃W:Nat->Nat->St->Hp->Prop,(∃m,W 0 m σ H)/\∀i m σ H,W i m σ H->
   ((lY lo n).stop i H/\D.nx σ H)\/((lY lo n).go i H/\∃N:St->Hp->Prop,(∀J H',N J H'->∃m',m'<m/\W (i+1) m' J H')/\∀x H',(lY lo n).yld i H x H'->g x σ H' λO H2=>tb {D with nx:=N,ct:=N,bk:=D.nx} O H2):=by
 refine⟨λi m σ H=>m=n-i/\i<=n/\F i σ H,⟨n,by simp,xR _,Y⟩,?_⟩
 rintro i m σ H ⟨rfl,hi,p⟩
 by_cases hlt:i<n
 .refine .inr ⟨hlt,F (i+1),λJ H' Z=>⟨n-(i+1),by lia,rfl,hlt,Z⟩,λx H' y=>?_⟩
  obtain⟨e,y⟩:=y
  subst e y;exact U i σ _ hlt p
 .have e:i=n:=by lia
  subst e;exact .inl ⟨qt _,hd σ H p⟩
abbrev R2:=V->V->Hp->VK->Prop
def FS(X:Cx)(f:Value->Value->Sem Value)(r:R2):Prop:=
 ∀(pins:List (Addr×Obj)) (s:Shared) (σ : St) (H:Hp) (x y:V) (v u:Value) (Q:VK),Inv X pins σ H s->RelV x v->RelV y u->r x y H Q->
  wpAny (model X.prog X.w) X.A (f v u) (EP X pins σ Q) X.xe s
def UnR(X:Cx)(f:Value->Sem Value)(r:V->Hp->VK->Prop):Prop:=
 ∀(pins:List (Addr×Obj)) (s:Shared) (σ : St) (H:Hp) (x:V) (v:Value) (Q:VK),Inv X pins σ H s->RelV x v->r x H Q->
  wpAny (model X.prog X.w) X.A (f v) (EP X pins σ Q) X.xe s
def BB(X:Cx)(f:Value)(r:LB->Hp->VK->Prop):Prop:=
 ∀(pins:List (Addr×Obj)) (s:Shared) (σ : St) (H:Hp) (xs:LB) (us:LD) (Q:VK),Inv X pins σ H s->A1 xs us->r xs H Q->
  wpAny (model X.prog X.w) X.A (call f us) (EP X pins σ Q) X.xe s
def y3(r:R2)(ta tb:TE):TE:=λσ H Q=>ta σ H λx H1=>tb σ H1 λy H2=>r x y H2 Q
def JY(r:V->Hp->VK->Prop)(ta:TE):TE:=λσ H Q=>ta σ H λx H1=>r x H1 Q
def rI(C:Int->Int->Prop)(g:Int->Int->V):R2:=λx y H Q=>∃i j,x = .int i/\y = .int j/\C i j/\Q (g i j) H
def k_(g:Int->Int->V):R2:=λx y H Q=>∃i j,x = .int i/\y = .int j/\Q (g i j) H
def rU(g:Int->V):V->Hp->VK->Prop:=λx H Q=>∃i,x = .int i/\Q (g i) H
section
variable{X:Cx}{a b c:Expr}{ta tb tc:TE}{pos:Pos}
theorem B8(ha:PE X a ta)(Y:PE X b tb){pins:List (Addr×Obj)}{R:V->V->Hp->Prop}(I:Inv X pins σ H s)
  (h:ta σ H λx H1=>tb σ H1 λy H2=>R x y H2)  {f:Value->Value->Sem Value}
  (hf:∀v u s2 x y H2,Inv X pins σ H2 s2->RelV x v->RelV y u->R x y H2->wpAny (model X.prog X.w) X.A (f v u) Q X.xe s2) :
  wpAny (model X.prog X.w) X.A (eval a X.env) (λv s₁=>wpAny (model X.prog X.w) X.A (eval b X.env) (λu Z=>wpAny (model X.prog X.w) X.A (f v u) Q X.xe Z) X.xe s₁) X.xe s:=by
 refine bz (ha pins s σ H _ I h) λv s1 ⟨x,H1,J,O,F⟩=>?_
 refine bz (Y pins s1 σ H1 _ J F) λu s2 ⟨y,H2,I2,U,W⟩=>?_
 exact hf v u s2 x y H2 I2 O U W
theorem ar{op:Operator}{r:R2}(W:FS X (binaryOp op) r)(U:PE X a ta)(J:PE X b tb):PE X (.BinOp a op b pos) (y3 r ta tb):=by
 intro pins s σ H Q I h
 exact wpAny_BinOp (B8 U J I h λv u s2 x y H2 O Y F q=>W pins s2 σ H2 x y v u Q O Y F q)
theorem fN{op:UnaryOp}{r:V->Hp->VK->Prop}(W:UnR X (unaryOp op) r)(Y:PE X a ta):PE X (.UnaryOp op a pos) (JY r ta):=by
 intro pins s σ H Q I h
 exact UnaryOp_ (bz (Y pins s σ H _ I h) λv U ⟨x,H1,J,O,F⟩=>W pins U σ H1 x v Q J O F)
theorem uR{f:Value->Value->Sem Value}{C:Int->Int->Prop}{g:Int->Int->Int}
  (rule:∀(i j:Int) (t u:Tok) (s:Shared) (Q:KY) (E:KY),C i j->Q (.int (g i j) s.toks) {s with toks:=s.toks+1}->wpAny (model X.prog X.w) X.A (f (.int i t) (.int j u)) Q E s) :
  FS X f (rI C λi j=>.int (g i j)):=by
 intro pins s σ H x y v u Q I J F h
 obtain⟨i,j,rfl,rfl,O,q⟩:=h
 obtain⟨t,rfl⟩:=J
 obtain⟨t',rfl⟩:=F
 exact rule i j t t' s _ _ O ⟨.int (g i j),H,I.tok _,⟨_,rfl⟩,q⟩
theorem yC{f:Value->Value->Sem Value}{g:Int->Int->Int}
  (rule:∀(i j:Int) (t u:Tok) (s:Shared) (Q:KY) (E:KY),Q (.int (g i j) s.toks) {s with toks:=s.toks+1}->wpAny (model X.prog X.w) X.A (f (.int i t) (.int j u)) Q E s) :
  FS X f (k_ λi j=>.int (g i j)):=by
 intro pins s σ H x y v u Q I F J h
 obtain⟨i,j,rfl,rfl,q⟩:=h
 obtain⟨t,rfl⟩:=F
 obtain⟨t',rfl⟩:=J
 exact rule i j t t' s _ _ ⟨.int (g i j),H,I.tok _,⟨_,rfl⟩,q⟩
theorem BQ{f:Value->Value->Sem Value}{g:Int->Int->Bool}
  (rule:∀(i j:Int) (t u:Tok) (s:Shared) (Q:KY) (E:KY),Q (.bool (g i j)) s->wpAny (model X.prog X.w) X.A (f (.int i t) (.int j u)) Q E s) :
  FS X f (k_ λi j=>.bl (g i j)):=by
 intro pins s σ H x y v u Q I F J h
 obtain⟨i,j,rfl,rfl,q⟩:=h
 obtain⟨t,rfl⟩:=F
 obtain⟨t',rfl⟩:=J
 exact rule i j t t' s _ _ ⟨.bl (g i j),H,I,rfl,q⟩
def M7(i j:Int):Prop:=0<j/\j<1073741824
def Fy(i j:Int):Prop:=0<=j/\j<=1000000/\i.natAbs<2^64
def HQ(i j:Int):Prop:=(-(2^64)<i/\i<2^64)\/(-(2^64)<j/\j<2^64)
theorem HQ.ok{i j:Int}(h:HQ i j):IntMulOk i j:=by
 rcases h with ⟨h1,h2⟩ | ⟨h1,h2⟩
 .exact .of_left (intBits_le_64 h1 h2)
 .exact .of_right (intBits_le_64 h1 h2)
theorem xM(k:Nat):(0:Int)<=2^k:=by
 rw[two_pow_cast];exact Int.natCast_nonneg _
theorem F8:FS X (binaryOp .Add) (k_ λi j=>.int (i+j)):=yC λ_ _ _ _ _ _ _ q=>add_int q
theorem gb:FS X (binaryOp .Sub) (k_ λi j=>.int (i-j)):=yC λ_ _ _ _ _ _ _ q=>sub_int q
theorem IF:FS X (binaryOp .Mult) (rI HQ λi j=>.int (i*j)):=uR λ_ _ _ _ _ _ _ F q=>mul_int q F.ok
theorem eJ:FS X (binaryOp .FloorDiv) (rI M7 λi j=>.int (i/j)):=uR λi j _ _ _ _ _ F q=>by
 have h1:(0:Int)<j:=F.1
 have h2:j<1073741824:=F.2
 exact floordiv_int (by lia) (by rw[Int.fdiv_eq_ediv_of_nonneg i (by lia)];exact q) (.inl (PyProof.noPylong_small (by lia)))
theorem bY:FS X (binaryOp .Mod) (rI (λ_ j=>0<j) λi j=>.int (i%j)):=uR λi j _ _ _ _ _ F q=>by
 have h1:(0:Int)<j:=F
 exact mod_int' (by lia) (by rw[Int.fmod_eq_emod_of_nonneg i (by lia)];exact q)
theorem jc:FS X (binaryOp .Pow) (rI Fy λi j=>.int (i^j.toNat)):=uR λ_ _ _ _ _ _ _ F q=>pow_int_small F.1 F.2.1 F.2.2 q
theorem mn:FS X (binaryOp .LShift) (rI Fy λi j=>.int (i*2^j.toNat)):=uR λ_ _ _ _ _ _ _ F q=>lshift_int_small F.1 F.2.1 F.2.2 q
theorem uf:FS X (binaryOp .RShift) (rI (λ_ j=>0<=j) λi j=>.int (i/2^j.toNat)):=uR λi j _ _ _ _ _ F q=>
 rshift_int F (by rw[Int.fdiv_eq_ediv_of_nonneg i (xM _)];exact q)
theorem j6:FS X (binaryOp .BitAnd) (k_ λi j=>.int (Builtin.bitAnd i j)):=yC λ_ _ _ _ _ _ _ q=>and_int q
theorem Jj:FS X (binaryOp .BitOr) (k_ λi j=>.int (Builtin.bitOr i j)):=yC λ_ _ _ _ _ _ _ q=>or_int q
theorem J2{f:Value->Sem Value}{g:Int->Int}
  (rule:∀(i:Int) (t:Tok) (s:Shared) (Q:KY) (E:KY),Q (.int (g i) s.toks) {s with toks:=s.toks+1}->wpAny (model X.prog X.w) X.A (f (.int i t)) Q E s) :
  UnR X f (rU λi=>.int (g i)):=by
 intro pins s σ H x v Q I F h
 obtain⟨i,rfl,q⟩:=h
 obtain⟨t,rfl⟩:=F
 exact rule i t s _ _ ⟨.int (g i),H,I.tok _,⟨_,rfl⟩,q⟩
theorem eX:UnR X (unaryOp .USub) (rU λi=>.int (-i)):=J2 λ_ _ _ _ _ q=>neg_int q
theorem GG:UnR X (unaryOp .Invert) (rU λi=>.int (Builtin.bitNot i)):=J2 λ_ _ _ _ _ q=>invert_int q
end
noncomputable def m9:V->V->Bool
 | .non,.non=>true | .non,.int _=>true | .int _,.non=>true | .non,.bl _=>true | .bl _,.non=>true | .non,.str _=>true | .str _,.non=>true
 | .int _,.int _=>true | .bl _,.bl _=>true | .str _,.str _=>true | .byt _,.byt _=>true
 | .int _,.str _=>true | .str _,.int _=>true | .bl _,.str _=>true | .str _,.bl _=>true
 | _,_=>false
def JS:R2:=λx y H Q=>m9 x y=true/\Q (.bl (decide (x=y))) H
def JO:R2:=λx y H Q=>m9 x y=true/\Q (.bl (!decide (x=y))) H
theorem wa{i j:Int}:decide (V.int i=V.int j)=(i==j):=by
 rw[zaQ];simp
theorem zy{i j:Bool}:decide (V.bl i=V.bl j)=(i==j):=by
 rw[zaQ];simp
theorem vY{i j:Str}:decide (V.str i=V.str j)=(i==j):=by
 rw[zaQ];simp
theorem u6{i j:Array UInt8}:decide (V.byt i=V.byt j)=(i.toList==j.toList):=by
 rw[zaQ]
 cases i
 cases j;simp
section
variable{X:Cx}{a b c:Expr}{ta tb tc:TE}{pos:Pos}
theorem bE{pins:List (Addr×Obj)}{Q:VK}{k F:Bool}(I:Inv X pins σ H s)(q:Q (.bl k) H)(e:k=F):EP X pins σ Q (.bool F) s:=by
 subst e;exact⟨.bl k,H,I,rfl,q⟩
theorem Jl:FS X (compareOp .Eq) JS:=by
 intro pins s σ H x y v u Q I O F h
 obtain⟨J,q⟩:=h
 cases x with
 | non=>
  cases O
  cases y with
  | non=>cases F;exact EqNone.eq_none_none (bE I q (by simp))
  | bl j=>cases F;exact EqNone.eq_none_bool (bE I q (by simp))
  | int j=>obtain⟨t',rfl⟩:=F;exact EqNone.eq_none_int (bE I q (by simp))
  | str j=>obtain⟨t',rfl⟩:=F;exact EqNone.eq_none_str (bE I q (by simp))
  | _=>exact absurd (show false=true from J) xN
 | bl i=>
  cases O
  cases y with
  | non=>cases F;exact EqNone.eq_bool_none (bE I q (by simp))
  | bl j=>cases F;exact eq_bool (bE I q zy)
  | str j=>obtain⟨t',rfl⟩:=F;exact EqMixed.eq_bool_str (bE I q (by simp))
  | _=>exact absurd (show false=true from J) xN
 | int i=>
  obtain⟨t,rfl⟩:=O
  cases y with
  | non=>cases F;exact EqNone.eq_int_none (bE I q (by simp))
  | int j=>obtain⟨t',rfl⟩:=F;exact eq_int (bE I q wa)
  | str j=>obtain⟨t',rfl⟩:=F;exact EqMixed.eq_int_str (bE I q (by simp))
  | _=>exact absurd (show false=true from J) xN
 | str i=>
  obtain⟨t,rfl⟩:=O
  cases y with
  | non=>cases F;exact EqNone.eq_str_none (bE I q (by simp))
  | bl j=>cases F;exact EqMixed.eq_str_bool (bE I q (by simp))
  | int j=>obtain⟨t',rfl⟩:=F;exact EqMixed.eq_str_int (bE I q (by simp))
  | str j=>obtain⟨t',rfl⟩:=F;exact eq_str (bE I q vY)
  | _=>exact absurd (show false=true from J) xN
 | byt i=>
  obtain⟨t,rfl⟩:=O
  cases y with
  | byt j=>obtain⟨t',rfl⟩:=F;exact W.eq_bytes (bE I q u6)
  | _=>exact absurd (show false=true from J) xN
 | _=>cases y<;>exact absurd (show false=true from J) xN
theorem Jw:FS X (compareOp .NotEq) JO:=by
 intro pins s σ H x y v u Q I O F h
 obtain⟨J,q⟩:=h
 cases x with
 | non=>
  cases O
  cases y with
  | non=>cases F;exact EqNone.ne_none_none (bE I q (by simp))
  | bl j=>cases F;exact EqNone.ne_none_bool (bE I q (by simp))
  | int j=>obtain⟨t',rfl⟩:=F;exact EqNone.ne_none_int (bE I q (by simp))
  | str j=>obtain⟨t',rfl⟩:=F;exact EqNone.ne_none_str (bE I q (by simp))
  | _=>exact absurd (show false=true from J) xN
 | bl i=>
  cases O
  cases y with
  | non=>cases F;exact EqNone.ne_bool_none (bE I q (by simp))
  | bl j=>cases F;exact ne_bool (bE I q (congrArg not zy))
  | str j=>obtain⟨t',rfl⟩:=F;exact EqMixed.ne_bool_str (bE I q (by simp))
  | _=>exact absurd (show false=true from J) xN
 | int i=>
  obtain⟨t,rfl⟩:=O
  cases y with
  | non=>cases F;exact EqNone.ne_int_none (bE I q (by simp))
  | int j=>obtain⟨t',rfl⟩:=F;exact ne_int (bE I q (congrArg not wa))
  | str j=>obtain⟨t',rfl⟩:=F;exact EqMixed.ne_int_str (bE I q (by simp))
  | _=>exact absurd (show false=true from J) xN
 | str i=>
  obtain⟨t,rfl⟩:=O
  cases y with
  | non=>cases F;exact EqNone.ne_str_none (bE I q (by simp))
  | bl j=>cases F;exact EqMixed.ne_str_bool (bE I q (by simp))
  | int j=>obtain⟨t',rfl⟩:=F;exact EqMixed.ne_str_int (bE I q (by simp))
  | str j=>obtain⟨t',rfl⟩:=F;exact ne_str (bE I q (congrArg not vY))
  | _=>exact absurd (show false=true from J) xN
 | byt i=>
  obtain⟨t,rfl⟩:=O
  cases y with
  | byt j=>obtain⟨t',rfl⟩:=F;exact W.ne_bytes (bE I q (congrArg not u6))
  | _=>exact absurd (show false=true from J) xN
 | _=>cases y<;>exact absurd (show false=true from J) xN
theorem Jb:FS X (compareOp .Lt) (k_ λi j=>.bl (decide (i<j))):=BQ λ_ _ _ _ _ _ _ q=>lt_int q
theorem D7:FS X (compareOp .LtE) (k_ λi j=>.bl (decide (i<=j))):=BQ λ_ _ _ _ _ _ _ q=>le_int q
theorem kO:FS X (compareOp .Gt) (k_ λi j=>.bl (decide (j<i))):=BQ λ_ _ _ _ _ _ _ q=>gt_int q
theorem AV:FS X (compareOp .Lt) (λx y H Q=>∃i j,x = .str i/\y = .str j/\Q (.bl (decide (i.cps.toList<j.cps.toList))) H):=by
 intro pins s σ H x y v u Q I F J h
 obtain⟨i,j,rfl,rfl,q⟩:=h
 obtain⟨t,rfl⟩:=F
 obtain⟨t',rfl⟩:=J
 exact lt_str (bE I q rfl)
theorem yP:FS X (compareOp .In) (λx y H Q=>∃i j,x = .str i/\y = .str j/\Q (.bl (!(Builtin.Str.occurrences j i 0 j.length 1).isEmpty)) H):=by
 intro pins s σ H x y v u Q I F J h
 obtain⟨i,j,rfl,rfl,q⟩:=h
 obtain⟨t,rfl⟩:=F
 obtain⟨t',rfl⟩:=J
 exact in_str (bE I q rfl)
theorem G4:FS X (compareOp .Is) (λx y H Q=>y = .non/\Q (.bl (decide (x = .non))) H):=by
 intro pins s σ H x y v u Q I F J h
 obtain⟨rfl,q⟩:=h
 cases J;refine is_none_gen (bE I q ?_)
 cases x<;>first
  | (cases F;rfl)
  | (obtain⟨t,rfl⟩:=F;rfl)
theorem Fo:FS X (compareOp .IsNot) (λx y H Q=>y = .non/\Q (.bl (!decide (x = .non))) H):=by
 intro pins s σ H x y v u Q I F J h
 obtain⟨rfl,q⟩:=h
 cases J;refine isnot_none_gen (bE I q ?_)
 cases x<;>first
  | (cases F;rfl)
  | (obtain⟨t,rfl⟩:=F;rfl)
theorem si:FS X (compareOp .NotIn) (λx y H Q=>∃i j,x = .str i/\y = .str j/\Q (.bl (!(!(Builtin.Str.occurrences j i 0 j.length 1).isEmpty))) H):=by
 intro pins s σ H x y v u Q I F J h
 obtain⟨i,j,rfl,rfl,q⟩:=h
 obtain⟨t,rfl⟩:=F
 obtain⟨t',rfl⟩:=J
 exact notIn_str (bE I q rfl)
theorem aG(b:Expr){op:CmpOp}(h:op ≠ .In:=by decide)(h2:op ≠ .NotIn:=by decide):behindInMarks op b=false:=by
 have F:(op==CmpOp.In)=false:=by cases op<;>first | rfl | exact absurd rfl h
 have J:(op==CmpOp.NotIn)=false:=by cases op<;>first | rfl | exact absurd rfl h2
 cases b<;>simp[behindInMarks,F,J]
theorem jk{op:CmpOp}{r:R2}(Y:FS X (compareOp op) r)(W:PE X a ta)(O:PE X b tb)(J:behindInMarks op b=false):PE X (.Compare a [op] [b] pos) (y3 r ta tb):=by
 intro pins s σ H Q I h
 exact wpAny_Compare1 (B8 W O I h λv u s2 x y H2 U Z F q=>Y pins s2 σ H2 x y v u Q U Z F q) J
def DX(t:TE):TT:=λσ H Q=>t σ H λx H'=>∃k,x = .bl k/\Q k H'
theorem az{op:CmpOp}{r:R2}(ho:FS X (compareOp op) r)(ha:PE X a ta)(Z:PE X b tb)(J:behindInMarks op b=false):PT X (.Compare a [op] [b] pos) (DX (y3 r ta tb)):=by
 intro pins s σ H Q I h
 refine wpAny_isTrue_Compare1 (bz (ha pins s σ H _ I h) λv s1 ⟨x,H1,O,U,F⟩=>bz (Z pins s1 σ H1 _ O F) λu s2 ⟨y,H2,I2,W,q2⟩=>
  bz (ho pins s2 σ H2 x y v u _ I2 U W q2) λc s3 ⟨z,Y,I3,r3,k,e,q3⟩=>?_) J
 subst e
 cases r3;exact wpAny_truthy_bool ⟨Y,I3,q3⟩
theorem i_:(sizeLine:Nat)<2^63:=by rw[sizeLine_eq];decide
theorem x3:FS X (binaryOp .Add) (λx y H Q=>∃i j,x = .str i/\y = .str j/\i.length+j.length<=sizeLine/\Q (.str (i++j)) H):=by
 intro pins s σ H x y v u Q I F J h
 obtain⟨i,j,rfl,rfl,hz,q⟩:=h
 obtain⟨t,rfl⟩:=F
 obtain⟨t',rfl⟩:=J
 exact add_str (λt' tk=>⟨.str (i++j),H,I.tok _,⟨_,rfl⟩,q⟩) hz
theorem cU{x:V}{F:LD}(r:A1 [x] F):∃u,F=[u]/\RelV x u:=by
 cases r with
 | cons r1 r2=>cases r2;exact⟨_,rfl,r1⟩
theorem jr{x y:V}{F:LD}(r:A1 [x,y] F):∃u w',F=[u,w']/\RelV x u/\RelV y w':=by
 cases r with
 | cons r1 r2=>
  cases r2 with
  | cons r3 r4=>cases r4;exact⟨_,_,rfl,r1,r3⟩
theorem zv(F:X.calm=true):BB X (.builtin "max") (λxs H Q=>∃i j,xs=[.int i,.int j]/\Q (.int (if j>i then j else i)) H):=by
 intro pins s σ H xs O Q I r h
 obtain⟨i,j,rfl,q⟩:=h
 obtain⟨u,J,rfl,⟨t,rfl⟩,⟨t',rfl⟩⟩:=jr r
 refine max_two_ints (I.ok.hd F) λh' tk k=>⟨_,H,I.kept k,?_,q⟩
 by_cases hj:j>i
 .rw[Kx hj,Kx hj];exact⟨_,rfl⟩
 .rw[Kt hj,Kt hj];exact⟨_,rfl⟩
theorem Aq(F:X.calm=true):BB X (.builtin "min") (λxs H Q=>∃i j,xs=[.int i,.int j]/\Q (.int (if j<i then j else i)) H):=by
 intro pins s σ H xs O Q I r h
 obtain⟨i,j,rfl,q⟩:=h
 obtain⟨u,J,rfl,⟨t,rfl⟩,⟨t',rfl⟩⟩:=jr r
 refine min_two_ints (I.ok.hd F) λh' tk k=>⟨_,H,I.kept k,?_,q⟩
 by_cases hj:j<i
 .rw[Kx hj,Kx hj];exact⟨_,rfl⟩
 .rw[Kt hj,Kt hj];exact⟨_,rfl⟩
theorem zz:BB X (.type "int") (λxs H Q=>(∃i,xs=[.int i]/\Q (.int i) H)\/∃k,xs=[.bl k]/\Q (.int (if k then 1 else 0)) H):=by
 intro pins s σ H xs J Q I r h
 rcases h with ⟨i,rfl,q⟩ | ⟨k,rfl,q⟩
 .obtain⟨u,rfl,t,rfl⟩:=cU r
  exact call_int_int ⟨.int i,H,I,⟨_,rfl⟩,q⟩
 .obtain⟨u,rfl,F⟩:=cU r
  cases F;exact call_int_bool ⟨.int (if k then 1 else 0),H,I.tok _,⟨_,rfl⟩,q⟩
theorem sW:BB X (.type "str") (λxs H Q=>∃i,xs=[.int i]/\i.natAbs.log2<1920/\Q (.str (toString i)) H):=by
 intro pins s σ H xs F Q I r h
 obtain⟨i,rfl,hz,q⟩:=h
 obtain⟨u,rfl,t,rfl⟩:=cU r
 exact P.str_of_int hz ⟨.str _,H,I.tok _,⟨_,rfl⟩,q⟩
end
structure Hv (h:Heap) (x dx C:Addr) (mA:Str->LF):Prop where
 obj:h.get? x=some (W.instObj C dx)
 ns:h.Ns1 dx mA
 ne:dx≠x
theorem zQ{dx:Addr}{mA:Str->LF}(n:h.Ns1 dx mA):∃od,h.get? dx=some od/\∀name,W.lookIn name od=some (mA name):=by
 obtain⟨o,es,ep,O,hd,U,_,J⟩:=n
 refine⟨o,O,λname=>?_⟩
 have e:=J name;unfold nsFind findBy at e;rw[<-Array.find?_toList]at e
 unfold W.lookIn;rw[hd]
 dsimp only
 split
 .rename_i y q
  rw[q]at e
  exact congrArg some e
 .rename_i q
  rw[q]at e
  have a:es.toList.any (·.refKey)=false:=by
   rw[List.any_eq_false];intro y Y
   obtain⟨z,t,F⟩:=U y (KJ.mp Y)
   simp[DictEntry.refKey,F]
  have a':¬ es.toList.any (·.refKey)=true:=by rw[a];exact xN
  rw[Kt a'];exact congrArg some e
theorem Hv.look{x dx:Addr}{mA:Str->LF}(I:Hv h x dx C mA):∃od,W.InstAt h x (W.instObj C dx) C (some od)/\∀name,W.lookIn name od=some (mA name):=
 let ⟨od,ho,hl⟩:=zQ I.ns
 ⟨od,⟨I.obj,rfl,rfl,ho⟩,hl⟩
section
variable{prog:Program}{w:World}{A:Around}{E:KY}{s:Shared}{K:W.Frag}{x dx C f:Addr}{mA:Str->LF}{name:Str}{v:Value}
theorem EF{F:Bool}(X:K.In s.heap)(I:Hv s.heap x dx C mA)(hg:W.plainGet K C name=true)(hh:W.hasDictIn K C=true)
  (U:W.findIn K (.ref C) name=some none) (hv:mA name=some v) (O:W.handedIn v=true) (h:Q v {s with toks:=s.toks+1}) :
  wpAny (model prog w) A (getAttr (.ref x) name F) Q E s:=by
 obtain⟨Y,J,hl⟩:=I.look
 exact W.get_value X J (W.plainGet_of hg).1 (W.findObj_own hh U rfl (by rw[hl,hv])) O h
theorem En{ns:KZ}{Q:Unit->Shared->Prop}(X:K.In s.heap)(I:Hv s.heap x dx C mA)
  (hs:W.findIn K (.ref C) "__setattr__" = some (some (.builtin "object.__setattr__"))) (hp:W.plainOver K C=true) (ht:W.takerIn K C name=some none) (hh:W.hasDictIn K C=true)
  (hw:PySem.Within mA ns) (hsz:ns.length<=sizeLine)
  (h:∀h',Hv h' x dx C (λy=>if y=name then some v else mA y)->Heap.SameBut dx s.heap h'->Q () {s with heap:=h',toks:=s.toks+2}) :
  wpAny (model prog w) A (setAttr (.ref x) name v) Q E s:=by
 obtain⟨od,J,hl⟩:=I.look
 refine W.set_plain X J hs (W.osa_open (s:={s with toks:=s.toks+1}) (r:=none) X J hp ht λb=>?_)
 obtain⟨cd,hc,Y⟩:=W.any_some hh
 have hx:s.heap.get? x=some ⟨.ref C,some dx,.plain,#[]⟩:=I.obj
 refine Kn (Kr (Kn (Kn (wpAny_loadPart hx (Kn (W.Looks.here (s:={s with toks:=s.toks+1}) (W.looks_clsIn X hc) ?_))))))
 rw[Y];refine Kr (a:=some dx) (Kn (Kr (Kn ?_)))
 refine wpAny_nsSet1 (s:={s with toks:=s.toks+1}) I.ns λh' F O=>?_
 obtain⟨oD,ad,ac,Z,U,ab⟩:=F.count (Within.cons name v hw)
 refine Kn (wpAny_lookBehind Z (by rw[U];exact pastItsLine_dict (xB ab (by rw[qY];lia))) ?_)
 exact Kr (h _ ⟨(O.2 _ (mS I.ne)).trans I.obj,F,I.ne⟩ O)
theorem CU{R:Result->Shared->Prop}{vs:LD}{F:List (Str×Value)}(X:K.In s.heap)(J:W.makesIn K C=true)
  (hi:W.findIn K (.ref C) "__init__" = some (some (.ref f))) (hf:W.typeIn K (.ref f)=some (.type "function"))
  (h:codeAny (model prog w) (A.under (.builtin "type.__call__" ⟨.ref C::vs,F⟩)) (.call (.ref f) ⟨.ref (s.heap.objs.size+1)::vs,F⟩) (W.InitBack (s.heap.objs.size+1) R)
   {s with heap:=(s.heap.push W.emptyDict).push (W.instObj C s.heap.objs.size)}) :
  codeAny (model prog w) A (.call (.ref C) ⟨vs,F⟩) R s:=by
 obtain⟨hh,g,d,t,os⟩:=s
 exact W.make_core (W.makes_of X J) (W.looks_findIn X hi) (λself=>W.bind_fn X self hf) (.inl rfl) h
end
noncomputable def bC(f:Str)(v:V):List (Str×V)->List (Str×V)
 | []=>[(f,v)]
 | (g,x)::r=>if g=f then (g,v)::r else (g,x)::bC f v r
theorem li(f g:Str)(v:V):∀fs:List (Str×V),(bC f v fs).lookup g=if g=f then some v else fs.lookup g
 | []=>by
  show List.lookup g [(f,v)]=_
  by_cases h:g=f
  .have F:(g==f)=true:=beq_iff_eq.mpr h
   simp only[List.lookup,F,Kx h]
  .have F:(g==f)=false:=beq_eq_false_iff_ne.mpr h
   simp only[List.lookup,F,Kt h]
 | (k,x)::r=>by
  have ih:=li f g v r;rw[show bC f v ((k,x)::r)=(if k=f then (k,v)::r else (k,x)::bC f v r) from rfl]
  by_cases hk:k=f
  .rw[Kx hk]
   by_cases h:g=k
   .have F:(g==k)=true:=beq_iff_eq.mpr h
    simp only[List.lookup,F,Kx (h.trans hk)]
   .have F:(g==k)=false:=beq_eq_false_iff_ne.mpr h
    simp only[List.lookup,F,Kt (λe:g=f=>h (e.trans hk.symm))]
  .rw[Kt hk]
   by_cases h:g=k
   .have F:(g==k)=true:=beq_iff_eq.mpr h
    simp only[List.lookup,F,Kt (λe:g=f=>hk (h.symm.trans e))]
   .have F:(g==k)=false:=beq_eq_false_iff_ne.mpr h
    simp only[List.lookup,F]
    exact ih
theorem kA(f:Str)(v:V):∀fs:List (Str×V),f∈(bC f v fs).map (·.1)/\∀g,g∈fs.map (·.1)->g∈(bC f v fs).map (·.1)
 | []=>⟨by simp[bC],λg h=>by simp at h⟩
 | (k,x)::r=>by
  obtain⟨i1,i2⟩:=kA f v r
  rw[show bC f v ((k,x)::r)=(if k=f then (k,v)::r else (k,x)::bC f v r) from rfl]
  by_cases hk:k=f
  .rw[Kx hk]
   subst hk;exact⟨by simp,λg h=>by simpa using h⟩
  .rw[Kt hk]
   refine⟨?_,λg h=>?_⟩
   .rw[yj]
    exact yc _ i1
   .rw[yj]at h |-
    rcases KC.mp h with e | e
    .exact KC.mpr (.inl e)
    .exact yc _ (i2 g e)
theorem lb(f:Str)(v:V):∀fs:List (Str×V),(bC f v fs).length<=fs.length+1
 | []=>by simp[bC]
 | (k,x)::r=>by
  have ih:=lb f v r;rw[show bC f v ((k,x)::r)=(if k=f then (k,v)::r else (k,x)::bC f v r) from rfl]
  by_cases hk:k=f
  .rw[Kx hk,qY,qY];lia
  .rw[Kt hk,qY,qY];lia
theorem GB.some_of{v:V}{o:LF}(r:GB (some v) o):∃u,o=some u/\RelV v u:=by
 cases o with
 | none=>exact(show False from r).elim
 | some u=>exact⟨u,rfl,r⟩
theorem An{v:V}{u:Value}(r:RelV v u):W.handedIn u=true:=by
 cases v with
 | non=>cases (show u=Value.none from r);rfl
 | bl b=>cases (show u=Value.bool b from r);rfl
 | int i=>obtain⟨t,e⟩:=(show ∃t,u=Value.int i t from r);cases e;rfl
 | str x=>obtain⟨t,e⟩:=(show ∃t,u=Value.str x t from r);cases e;rfl
 | byt b=>obtain⟨t,e⟩:=(show ∃t,u=Value.bytes b t from r);cases e;rfl
 | flt b=>obtain⟨t,e⟩:=(show ∃t,u=Value.float b t from r);cases e;rfl
 | ref a=>cases (show u=Value.ref a from r);rfl
 | ty n=>cases (show u=Value.type n from r);rfl
section
variable{P:Program}{w:World}{H H':Hp}{h h':Heap}{a C dx:Addr}{fs fs':List (Str×V)}
theorem ni(hok:Gv P w H h)(e:H a=some (.ins C dx fs)):∃mA,Hv h a dx C mA/\(∀f,GB (fs.lookup f) (mA f))/\PySem.Within mA (fs.map (·.1))/\fs.length<=1000/\H dx=some (.own a):=by
 obtain⟨d,z,ne,F,mA,n,r,q⟩:=(show BC P w H h a (.ins C dx fs) from hok a _ e)
 exact⟨mA,⟨F,n,ne⟩,r,q,z,d⟩
end
structure Kc (K:W.Frag) (C:Addr):Prop where
 pg:W.plainGet K C Str.empty=true
 hd:W.hasDictIn K C=true
 po:W.plainOver K C=true
 sa:W.findIn K (.ref C) "__setattr__" = some (some (.builtin "object.__setattr__"))
theorem Kc.get(c:Kc K C)(f:Str):W.plainGet K C f=true:=c.pg
def GP(K:W.Frag)(C:Addr)(f:Str):Prop:=W.findIn K (.ref C) f=some none
theorem GP.taker{f:Str}(n:GP K C f):W.takerIn K C f=some none:=by
 unfold W.takerIn;rw[show W.findIn K (.ref C) f=some none from n]
 rfl
section
variable{X:Cx}{pins:List (Addr×Obj)}{σ:St}{H:Hp}{s:Shared}{a C dx:Addr}{fs:List (Str×V)}{f:Str}{v:V}{A:Around}{E:KY}
theorem wH{b:Bool}(I:Inv X pins σ H s)(e:H a=some (.ins C dx fs))(c:Kc X.K C)(n:GP X.K C f)(l:fs.lookup f=some v)
  (h:∀u s',Inv X pins σ H s'->RelV v u->Q u s'):wpAny (model X.prog X.w) A (getAttr (.ref a) f b) Q E s:=by
 obtain⟨mA,O,r,_,_,_⟩:=ni I.hok e
 obtain⟨u,J,F⟩:=GB.some_of (v:=v) (o:=mA f) (by rw[<-l];exact r f)
 exact EF I.kIn O (c.get f) c.hd n J (An F) (h u _ (I.tok _) F)
theorem yD{y:V}{Q:Unit->Shared->Prop}(I:Inv X pins σ H s)(e:H a=some (.ins C dx fs))(c:Kc X.K C)(n:GP X.K C f)(hl:fs.length<1000)(U:RelV y u)
  (h:∀s',Inv X pins σ (upd H a (.ins C dx (bC f y fs))) s'->Q () s'):wpAny (model X.prog X.w) A (setAttr (.ref a) f u) Q E s:=by
 obtain⟨mA,O,r,wi,_,J⟩:=ni I.hok e
 have hz:(fs.map (·.1)).length<=sizeLine:=by rw[zj,sizeLine_eq];lia
 refine En I.kIn O c.sa c.po n.taker c.hd wi hz λh' F W=>h _ ?_
 have hd:∃o,h'.get? dx=some o:=let ⟨o,_,_,e',_⟩:=F.ns;⟨o,e'⟩
 refine I.write (x:=a) (e:=dx) (by rw[e];exact True.intro) (.inr J) (λb q Y z=>(W.2 b Y).trans z) hd ?_
 refine⟨by rw[au O.ne];exact J,?_,O.ne,F.obj,_,F.ns,λg=>?_,λg hg=>?_⟩
 .have:=lb f y fs;lia
 .show GB ((bC f y fs).lookup g) (if g=f then some u else mA g)
  rw[li]
  by_cases q:g=f
  .rw[Kx q,Kx q];exact U
  .rw[Kt q,Kt q];exact r g
 .by_cases q:g=f
  .rw[q];exact(kA f y fs).1
  .refine(kA f y fs).2 g (wi g λz=>hg ?_)
   show (if g=f then some u else mA g)=none
   rw[Kt q];exact z
theorem Inv.made(I:Inv X pins σ H s):Inv X pins σ (upd (upd H s.heap.objs.size (.own (s.heap.objs.size+1))) (s.heap.objs.size+1) (.ins C s.heap.objs.size []))
  {s with heap:=(s.heap.push W.emptyDict).push (W.instObj C s.heap.objs.size)}:=by
 have F:(s.heap.push W.emptyDict).get? s.heap.objs.size=some W.emptyDict:=yk s.heap rfl
 have U:((s.heap.push W.emptyDict).push (W.instObj C s.heap.objs.size)).get? (s.heap.objs.size+1)=some (W.instObj C s.heap.objs.size):=by
  have:=yk (s.heap.push W.emptyDict) (o:=W.instObj C s.heap.objs.size) rfl
  rwa [rW]at this
 have O:(s.heap.push W.emptyDict).Ns s.heap.objs.size (λ_=>none):=⟨W.emptyDict,#[],_,F,rfl,(λe Y=>absurd Y (by simp)),λ_=>rfl⟩
 have J:=I.laid (a:=s.heap.objs.size) (o:=.own (s.heap.objs.size+1)) (h':=s.heap.push W.emptyDict) (t':=s.toks) (λb u q=>wR _ q) (qt _) ⟨_,F⟩
 refine J.laid (a:=s.heap.objs.size+1) (o:=.ins C s.heap.objs.size []) (t':=s.toks) (λb u q=>wR _ q) (Nat.le_of_eq (rW _ _)) ?_
 have ne:s.heap.objs.size≠s.heap.objs.size+1:=xa (Kg _)
 refine⟨by rw[au ne,ai],xR _,ne,U,λ_=>none,(Heap.Ns1.of_empty O).at λo q=>wR _ q,λ_=>True.intro,λy Z=>absurd rfl Z⟩
theorem Fe{prog:Program}{env:Env}{f:Str}(J:attributeBase e f env (eval e env)=eval e env)
  (h:wpAny (model prog w) A (eval e env) (λo F=>wpAny (model prog w) A (getAttr o f true) Q E F) E s):wpAny (model prog w) A (eval (.Attribute e f pos) env) Q E s:=
 Attribute_any_ h (by rw[arm_eval_Attribute,J])
end
section
variable{X:Cx}{pins:List (Addr×Obj)}{σ:St}{H:Hp}{s:Shared}{A:Around}{E:KY}{Q:KY}{c:Value}{b:Bool}
inductive gB (K:PySem.W.Frag) (H:Hp):V->Value->Prop where
 | non:gB K H .non (.type "NoneType")
 | bl (x:Bool):gB K H (.bl x) (.type "bool")
 | int (i:Int):gB K H (.int i) (.type "int")
 | str (x:Str):gB K H (.str x) (.type "str")
 | flt (x:UInt64):gB K H (.flt x) (.type "float")
 | lst {a:Addr} {xs:LB} (e:H a=some (.lst xs)):gB K H (.ref a) (.type "list")
 | frz {a:Addr} {o:Obj} {xs:LB} (e:H a=some (.frz o (.lst xs))):gB K H (.ref a) (.type "list")
 | tup {a:Addr} {xs:LB} (e:H a=some (.tup xs)):gB K H (.ref a) (.type "tuple")
 | dK {a:Addr} {kvs:List (aL×V)} (e:H a=some (.dK kvs)):gB K H (.ref a) (.type "dict")
 | dT {a:Addr} {kvs:List (List aL×V)} (e:H a=some (.dT kvs)):gB K H (.ref a) (.type "dict")
 | ins {a C dx:Addr} {fs:List (Str×V)} (e:H a=some (.ins C dx fs)) (cl:Kc K C) (ha:PySem.W.findIn K (.ref C) "__class__" = some (some (.builtin "object.__class__")))
   (hn:PySem.W.specialIn K (.builtin "object.__class__") "__get__" = some (some (.builtin "getset_descriptor.__get__"))) (htk:PySem.W.takesIn K (.builtin "object.__class__")=some true)
   (hm:PySem.W.mroIn K C (.type "object")=some true):gB K H (.ref a) (.ref C)
theorem zi{x:V}{u t:Value}(I:Inv X pins σ H s)(F:RelV x u)(ty:gB X.K H x t)(e:W.kitOne X.K t c=some b)(h:∀tk,Q (.bool b) {s with toks:=tk}) :
  wpAny (model X.prog X.w) A (call (.builtin "isinstance") [u,c]) Q E s:=by
 cases ty with
 | non=>cases (show u=Value.none from F);exact HV W.kitx_none I.kIn True.intro e (λz=>nomatch z) h
 | bl y=>cases (show u=Value.bool y from F);exact HV W.kitx_bool I.kIn True.intro e (λz=>nomatch z) h
 | int i=>obtain⟨t,q⟩:=(show ∃t,u=Value.int i t from F);cases q;exact HV W.kitx_int I.kIn True.intro e (λz=>nomatch z) h
 | str y=>obtain⟨t,q⟩:=(show ∃t,u=Value.str y t from F);cases q;exact HV W.kitx_str I.kIn True.intro e (λz=>nomatch z) h
 | flt y=>obtain⟨t,q⟩:=(show ∃t,u=Value.float y t from F);cases q;exact HV W.kitx_float I.kIn True.intro e (λz=>nomatch z) h
 | @lst a xs ea=>
  cases (show u=Value.ref a from F)
  obtain⟨_,_,n,_,h1⟩:=(show BC X.prog X.w H s.heap a (.lst xs) from I.hok a _ ea)
  exact HV W.kitx_list I.kIn ⟨_,h1,rfl⟩ e (λz=>nomatch z) h
 | @frz a ob xs ea=>
  cases (show u=Value.ref a from F)
  obtain⟨_,_,_,n,_,h1⟩:=(show BC X.prog X.w H s.heap a (.frz ob (.lst xs)) from I.hok a _ ea)
  exact HV W.kitx_list I.kIn ⟨_,h1,rfl⟩ e (λz=>nomatch z) h
 | @tup a xs ea=>
  cases (show u=Value.ref a from F)
  obtain⟨_,_,_,p⟩:=(show BC X.prog X.w H s.heap a (.tup xs) from I.hok a _ ea)
  obtain⟨o,h1,h2,_⟩:=p
  exact HV W.kitx_tuple I.kIn ⟨o,h1,h2⟩ e (λz=>nomatch z) h
 | @dK a kvs ea=>
  cases (show u=Value.ref a from F)
  obtain⟨_,_,vs,_,p⟩:=(show BC X.prog X.w H s.heap a (.dK kvs) from I.hok a _ ea)
  obtain⟨o,es,ep,h1,h2,_⟩:=p
  exact HV W.kitx_dict I.kIn ⟨o,h1,h2.1⟩ e (λz=>nomatch z) h
 | @dT a kvs ea=>
  cases (show u=Value.ref a from F)
  obtain⟨_,_,xs,_,o,es,ep,h1,h2,_⟩:=(show BC X.prog X.w H s.heap a (.dT kvs) from I.hok a _ ea)
  exact HV W.kitx_dict I.kIn ⟨o,h1,h2.1⟩ e (λz=>nomatch z) h
 | @ins a C dx fs ea cl ha hn htk hm=>
  cases (show u=Value.ref a from F)
  obtain⟨mA,O,_⟩:=ni I.hok ea
  obtain⟨U,J,_⟩:=O.look
  exact HV (W.kitx_own (cl.get _) cl.hd ha hn htk hm) I.kIn J e (λz=>nomatch z) h
end
structure B4 (k:Nat) (A:Around):Prop where
 hd:A.handled=none
 dp:A.depth+3*k+5<recursionLimit
 un:A.units+16*k+200<cLine
theorem B4.mono{j k:Nat}(r:B4 k A)(h:j<=k):B4 j A:=⟨r.hd,by have:=r.dp;lia,by have:=r.un;lia⟩
theorem B4.deeper{k:Nat}(r:B4 (k+1) A)(env:Env):B4 k (A.deeper env):=
 ⟨r.hd,by have:=r.dp;show A.depth+1+3*k+5<_;lia,by have:=r.un;show A.units+3+16*k+200<_;lia⟩
theorem w_{J:LD}{F:List (Str×Value)}:(A.under (.builtin "type.__call__" ⟨.ref C::J,F⟩)).depth=A.depth+1:=by
 first | rfl | simp[Around.under,Code.weight,Code.isCreation,Code.isGuard,Code.isCaller,Code.frames,Code.isFrame,guardIds]
theorem yE{J:LD}{F:List (Str×Value)}:(A.under (.builtin "type.__call__" ⟨.ref C::J,F⟩)).units=A.units+1:=by
 first | rfl | simp[Around.under,Code.cUnits,Code.frames,Code.isFrame]
theorem B4.make{k:Nat}(r:B4 (k+1) A)(C:Addr)(J:LD)(F:List (Str×Value)):B4 k (A.under (.builtin "type.__call__" ⟨.ref C::J,F⟩)):=
 ⟨r.hd,by have:=r.dp;rw[w_];lia,by have:=r.un;rw[yE];lia⟩
theorem B4.depth{k:Nat}(r:B4 k A):A.depth<recursionLimit:=by have:=r.dp;lia
def Hf:TA:=λ_ H Q=>Q [] H
def DP(ta:TE)(tr:TA):TA:=λσ H Q=>ta σ H λx H1=>tr σ H1 λxs H2=>Q (x::xs) H2
section
variable{X:Cx}{e:Expr}{es:LL}{te:TE}{t:TA}{pos:Pos}
theorem ae:PA X [] Hf:=λ_ _ _ _ H Q I h=>Calls.spliced_nil ⟨[],H,I,.nil,h⟩
theorem aa(ha:PE X e te)(hr:PA X es t)(J:starEach (e::es) X.env=(false,eval e X.env)::starEach es X.env:=by rfl):PA X (e::es) (DP te t):=by
 intro pos pins s σ H Q I h
 rw[J];show wpAny _ _ (spliced ((false,eval e X.env)::backTo pos (starEach es X.env))) _ _ s
 refine Calls.spliced_cons (bz (ha pins s σ H _ I h) λu s1 ⟨x,H1,O,U,F⟩=>?_)
 exact bz (hr pos pins s1 σ H1 _ O F) λus s2 ⟨xs,H2,Z,W,Y⟩=>⟨x::xs,H2,Z,.cons U W,Y⟩
def Iw(t:TA):TE:=λσ H Q=>t σ H λxs H1=>xs.length<=sizeLine/\∀p,H1 p=none->Q (.ref p) (upd H1 p (.tup xs))
def IE(t:TA):TE:=λσ H Q=>t σ H λxs H1=>xs.length<=sizeLine/\∀p,H1 p=none->Q (.ref p) (upd H1 p (.lst xs))
theorem aQ{x1}(h:PA X es t):PE X (.Tuple es x1 pos) (Iw t):=by
 intro pins s σ H Q I U
 refine wpAny_Tuple_spliced (bz (h pos pins s σ H _ I U) λO F ⟨xs,H1,J,r,z,q⟩=>⟨by rw[<-r.length];exact z,?_⟩)
 have hf:H1 F.heap.objs.size=none:=J.hok.fresh (qt _)
 refine⟨.ref F.heap.objs.size,upd H1 F.heap.objs.size (.tup xs),J.laid (t':=F.toks) (λb u e=>wR _ e) (qt _) ?_,rfl,q _ hf⟩
 exact⟨z,O,r,⟨_,yk _ rfl,rfl,rfl,_,rfl⟩⟩
theorem aJ(h:PA X es t):PE X (.List es pos) (IE t):=by
 intro pins s σ H Q I U
 refine wpAny_List_spliced (bz (h pos pins s σ H _ I U) λO F ⟨xs,H1,J,r,z,q⟩=>⟨by rw[<-r.length];exact z,?_⟩)
 have hf:H1 F.heap.objs.size=none:=J.hok.fresh (qt _)
 refine⟨.ref F.heap.objs.size,upd H1 F.heap.objs.size (.lst xs),J.laid (t':=F.toks) (λb u e=>wR _ e) (qt _) ?_,rfl,q _ hf⟩
 exact⟨z,O,0,r,yk _ rfl⟩
end
abbrev Sp:=LB->Hp->VK->XK->Prop
abbrev i7:=List Env->Hp->Shared->XK->Value->Shared->Prop
structure G1 (P:Program) (w:World) (K:W.Frag) (mg:Str->LF) (base:Heap) (A:Around) (outer:List Env) (s:Shared) (H:Hp):Prop where
 frames:A.frames=some outer
 mod:Mod K mg base
 bs:∀b o,base.get? b=some o->s.heap.get? b=some o/\H b=none
 bsz:base.objs.size<=s.heap.objs.size
 funs:s.heap.FunFrames base outer
 frf:∀b∈jN outer,H b=none
 hok:Gv P w H s.heap
 bare:AllBare s.gens
def CE(outer:List Env)(P:Program)(w:World)(H:Hp)(s:Shared)(Q:VK)(u:Value)(s':Shared):Prop:=
 ∃v H',s'.os=s.os/\AllBare s'.gens/\Un (jN outer) [] H H' s.heap s'.heap/\Gv P w H' s'.heap/\RelV v u/\Q v H'
def CR(CX:i7)(outer:List Env)(P:Program)(w:World)(H:Hp)(s:Shared)(Q:VK)(E:XK)(r:Result)(s':Shared):Prop:=
 match r with
 | .ok (.ret u)=>CE outer P w H s Q u s'
 | .ok _=>False
 | .error e=>CX outer H s E e s'
structure Gk (P:Program) (w:World) (K:W.Frag) (mg:Str->LF) (base:Heap) (CX:i7) (k:Nat) (f:Addr) (fd:FuncData) (ps:KZ) (sp:Sp):Prop where
 len:∀vs H Q E,sp vs H Q E->vs.length=ps.length
 run:∀(A:Around) (outer:List Env) (s:Shared) (H:Hp) (args:Args) (us:LD) (vs:LB) (Q:VK) (E:XK),B4 k A->G1 P w K mg base A outer s H->BindsTo s fd args (ps.zip us)->A1 vs us->sp vs H Q E->
  codeAny (model P w) A (.call (.ref f) args) (CR CX outer P w H s Q E) s
theorem Gk.mono{P:Program}{mg:Str->LF}{base:Heap}{CX:i7}{j k:Nat}{f:Addr}{fd:FuncData}{ps:KZ}{sp:Sp}(F:Gk P w K mg base CX j f fd ps sp)(h:j<=k) :
  Gk P w K mg base CX k f fd ps sp:=⟨F.len,λA outer s H args J vs Q E O=>F.run A outer s H args J vs Q E (O.mono h)⟩
theorem Gk.imp{P:Program}{mg:Str->LF}{base:Heap}{CX:i7}{k:Nat}{f:Addr}{fd:FuncData}{ps:KZ}{sp J:Sp}(F:Gk P w K mg base CX k f fd ps sp)
  (h:∀vs H Q E,J vs H Q E->sp vs H Q E):Gk P w K mg base CX k f fd ps J:=
 ⟨λvs H Q E q=>F.len vs H Q E (h _ _ _ _ q),λA outer s H args Z vs Q E hr Y U hv O=>F.run A outer s H args Z vs Q E hr Y U hv (h _ _ _ _ O)⟩
theorem G1.make{P:Program}{mg:Str->LF}{base:Heap}{outer:List Env}(e:G1 P w K mg base A outer s H)(C:Addr)(J:LD)(F:List (Str×Value)) :
  G1 P w K mg base (A.under (.builtin "type.__call__" ⟨.ref C::J,F⟩)) outer s H:=⟨by first | exact e.frames | (simpa [Around.under,Code.envs,Code.isFrame,pushEnvs] using e.frames),e.mod,e.bs,e.bsz,e.funs,e.frf,e.hok,e.bare⟩
section
variable{X:Cx}{pins:List (Addr×Obj)}{σ:St}{H:Hp}{s s':Shared}
theorem Inv.env0(I:Inv X pins σ H s):G1 X.prog X.w X.K X.mg X.base X.A X.stack s H:=
 ⟨I.ok.frames,I.ok.mod,I.bs,xB I.ok.bsz I.sz,I.stack,I.stkFree,I.hok,I.bare⟩
theorem Inv.after{Q:VK}(I:Inv X pins σ H s)(h:CE X.stack X.prog X.w H s Q u s'):EP X pins σ Q u s':=by
 obtain⟨v,H',os,bare,un,hok,r,q⟩:=h
 obtain⟨hh,g,d,t,F⟩:=s'
 obtain rfl:F=s.os:=os
 exact⟨v,H',I.call (h':=hh) (g':=g) (d':=d) (t':=t) (ch:=[]) un hok bare (λb z=>absurd z (by simp)),r,q⟩
end
def xO(sp:Sp)(dvs:LB)(E:XK)(t:TA):TE:=λσ H Q=>t σ H λvs H1=>sp (vs++dvs) H1 Q E
def Binds(K:W.Frag)(fd:FuncData)(ps:KZ)(ds:LD):Prop:=
 ∀(s:Shared) (us:LD),K.In s.heap->(us++ds).length=ps.length->BindsTo s fd ⟨us,[]⟩ (ps.zip (us++ds))
theorem Binds.all{fd:FuncData}{ps:KZ}(h:∀F:LD,F.length=ps.length->bindArgs fd ⟨F,[]⟩=pure (ps.zip F)):Binds K fd ps []:=λs F _ hl=>by
 rw[IJ]at hl |-
 exact .of_eq (h F hl)
def lZ(CX:i7)(X:Cx)(E:XK):Prop:=∀(pins:List (Addr×Obj)) (σ : St) (H:Hp) (s:Shared) (e:Value) (s':Shared),Inv X pins σ H s->CX X.stack H s E e s'->X.xe e s'
section
variable{X:Cx}{CX:i7}{k:Nat}{f C:Addr}{fd:FuncData}{ps:KZ}{sp:Sp}{dvs:LB}{ds:LD}{E:XK}{x m:Str}{p pos apos:Pos}{e o:Expr}{es:LL}{ta:TE}{t:TA}
theorem Ft{pins:List (Addr×Obj)}{σ:St}{H:Hp}{s:Shared}{Q:VK}{J:LD}{vs:LB}(F:Gk X.prog X.w X.K X.mg X.base CX k f fd ps sp)(Y:B4 k X.A)(W:Binds X.K fd ps ds)(hd:A1 dvs ds)(hx:lZ CX X E)
  (I:Inv X pins σ H s) (r:A1 vs J) (h:sp (vs++dvs) H Q E):wpAny (model X.prog X.w) X.A (call (.ref f) J) (EP X pins σ Q) X.xe s:=by
 have U:A1 (vs++dvs) (J++ds):=r.append hd
 have hl:(J++ds).length=ps.length:=by rw[<-U.length];exact F.len _ _ _ _ h
 refine wpAny_call (codeAny_mono (F.run X.A X.stack s H ⟨J,[]⟩ (J++ds) (vs++dvs) Q E Y I.env0 (W s J I.kIn hl) U h) λr s' O=>?_)
 cases r with
 | error e=>exact hx pins σ H s e s' I O
 | ok fl=>
  cases fl with
  | ret u=>exact I.after O
  | next=>exact False.elim O
  | brk=>exact False.elim O
  | cont=>exact False.elim O
theorem ES(F:Gk X.prog X.w X.K X.mg X.base CX k f fd ps sp)(hr:B4 k X.A)(hg:Gl X x)(U:X.mg x=some (.ref f))(Z:W.keepIn X.K (.ref f)=true)(Y:Binds X.K fd ps ds)(hd:A1 dvs ds)(hx:lZ CX X E)
  (ha:PA X (e::es) t) (J:(x==("__debug__" : Str))=false:=by decide) (he:starEach (e::es) X.env=(false,eval e X.env)::starEach es X.env:=by rfl) (hpl:(backTo pos (starEach es X.env)).any (·.1)=false:=by rfl) :
  PE X (.Call (.Name x p) (e::es) [] pos) (xO sp dvs E t):=by
 intro pins s σ H Q I h
 refine wpAny_Call_Name_kw (n9 I hg U ?_ J)
 refine W.callWith_K (h₀:=X.base) I.ok.mod.kin Z (bz (ha pos pins s σ H _ I h) λus s1 ⟨vs,H1,O,r,q⟩=>⟨O.kIn,?_⟩) he hpl
 exact Ft F hr Y hd hx O r q
structure Mk (K:W.Frag) (C f:Addr):Prop where
 makes:W.makesIn K C=true
 init:W.findIn K (.ref C) "__init__" = some (some (.ref f))
 fn:W.isFn K (.ref f)=true
 kp:W.keepIn K (.ref C)=true
theorem BA{pins:List (Addr×Obj)}{σ:St}{H:Hp}{s:Shared}{Q:VK}{O:LD}{vs:LB}(M:Mk X.K C f)(F:Gk X.prog X.w X.K X.mg X.base CX k f fd ps sp)(hr:B4 (k+1) X.A)(hb:Binds X.K fd ps ds)(hd:A1 dvs ds)
  (hx:lZ CX X E) (I:Inv X pins σ H s) (r:A1 vs O)
  (h:∀x dx,H x=none->H dx=none->dx≠x->sp (.ref x::(vs++dvs)) (upd (upd H dx (.own x)) x (.ins C dx [])) (λv H2=>v = .non/\Q (.ref x) H2) E) :
  wpAny (model X.prog X.w) X.A (call (.ref C) O) (EP X pins σ Q) X.xe s:=by
 have W:=h (s.heap.objs.size+1) s.heap.objs.size (I.hok.fresh (Nat.le_succ _)) (I.hok.fresh (qt _)) (xa (Kg _));have U:=Inv.made (C:=C) I;have Y:A1 (V.ref (s.heap.objs.size+1)::(vs++dvs)) (Value.ref (s.heap.objs.size+1)::(O++ds)):=.cons rfl (r.append hd)
 have hl:(Value.ref (s.heap.objs.size+1)::O++ds).length=ps.length:=by
  have e:=Y.length;rw[F.len _ _ _ _ W]at e
  exact e.symm
 refine wpAny_call (CU (f:=f) I.kIn M.makes M.init (beq_iff_eq.mp M.fn) (codeAny_mono (F.run _ X.stack _ _ ⟨Value.ref (s.heap.objs.size+1)::O,[]⟩ (Value.ref (s.heap.objs.size+1)::(O++ds)) _ _ E (hr.make C O [])
  (U.env0.make C O []) (hb _ (Value.ref (s.heap.objs.size+1)::O) U.kIn hl) Y W) λr s' J=>?_))
 cases r with
 | error e=>exact hx pins σ _ _ e s' U J
 | ok fl=>
  cases fl with
  | ret u=>
   obtain⟨v,H',I3,rv,Z,q3⟩:=U.after J
   subst Z;exact⟨rv,⟨V.ref (s.heap.objs.size+1),H',I3,rfl,q3⟩⟩
  | next=>exact False.elim J
  | brk=>exact False.elim J
  | cont=>exact False.elim J
end
structure aC (N P:KZ) (sc:Scope):Prop where
 kind:sc.kind = .function
 co:sc.isCoroutine=false
 gen:sc.isGenerator=false
 nd:N.Nodup
 pre:N.take P.length=P
 par:∀x∈P,sc.names.lookup x=some .local\/sc.names.lookup x=some .cell
 nofree:∀y∈sc.names,y.2 ≠ .free
theorem FB{N P:KZ}{s:Stmt}(h1:(L2.sg s).kind = .function:=by rfl)(h2:(L2.sg s).isCoroutine=false:=by rfl)(h3:(L2.sg s).isGenerator=false:=by rfl)(h4:N.Nodup:=by decide +kernel)(h5:N.take P.length=P:=by rfl)(h6:∀x∈P,(L2.sg s).names.lookup x=some .local\/(L2.sg s).names.lookup x=some .cell:=by decide +kernel)(h7:∀y∈(L2.sg s).names,y.2 ≠ .free:=by decide +kernel):aC N P (L2.sg s):=⟨h1,h2,h3,h4,h5,h6,h7⟩
theorem ox{kindOf:Str->Option NameKind}{x:Str}:∀ {binds:List (Str×Value)} {m:Str->LF},(∀v,(x,v)∉binds)->bindL kindOf binds m x=m x
 | [],_,_=>rfl
 | (n,v)::r,m,h=>by
  unfold bindL;rw[ox λw F=>h w (yc _ F)]
  split
  .have:x≠n:=by rintro rfl;exact h v yb
   simp[this]
  .rfl
theorem oN{kindOf:Str->Option NameKind}{x:Str}:∀ {binds:List (Str×Value)} {m:Str->LF},(∀v,(x,v)∉binds)->bindC kindOf binds m x=m x
 | [],_,_=>rfl
 | (n,v)::r,m,h=>by
  unfold bindC;rw[oN λw F=>h w (yc _ F)]
  split
  .rfl
  .have:x≠n:=by rintro rfl;exact h v yb
   simp[this]
theorem pe{kindOf:Str->Option NameKind}{x:Str}{v:Value}:∀ {P:KZ} {vs:LD} {i:Nat} {m:Str->LF},P.Nodup->P[i]?=some x->vs[i]?=some v->kindOf x=some .local->
  bindL kindOf (P.zip vs) m x=some v
 | [],_,_,_,_,h,_,_=>by simp at h
 | _::_,[],_,_,_,_,h,_=>by simp at h
 | p::P,w::vs,0,m,nd,h1,h2,hk=>by
  simp at h1 h2;subst h1;subst h2
  show bindL kindOf ((p,w)::P.zip vs) m p=_
  unfold bindL;rw[ox λv hv=>(KO.mp nd).1 (List.of_mem_zip hv).1,Kx hk]
  simp
 | p::P,w::vs,i+1,m,nd,h1,h2,hk=>by
  show bindL kindOf ((p,w)::P.zip vs) m x=_
  unfold bindL;exact pe (i:=i) (KO.mp nd).2 (by simpa using h1) (by simpa using h2) hk
theorem oW{kindOf:Str->Option NameKind}{x:Str}{v:Value}:∀ {P:KZ} {vs:LD} {i:Nat} {m:Str->LF},P.Nodup->P[i]?=some x->vs[i]?=some v->kindOf x≠some .local->
  bindC kindOf (P.zip vs) m x=some v
 | [],_,_,_,_,h,_,_=>by simp at h
 | _::_,[],_,_,_,_,h,_=>by simp at h
 | p::P,w::vs,0,m,nd,h1,h2,hk=>by
  simp at h1 h2;subst h1;subst h2
  show bindC kindOf ((p,w)::P.zip vs) m p=_
  unfold bindC;rw[oN λv hv=>(KO.mp nd).1 (List.of_mem_zip hv).1,Kt hk]
  simp
 | p::P,w::vs,i+1,m,nd,h1,h2,hk=>by
  show bindC kindOf ((p,w)::P.zip vs) m x=_
  unfold bindC;exact oW (i:=i) (KO.mp nd).2 (by simpa using h1) (by simpa using h2) hk
noncomputable def start(N:KZ)(vs:LB):St:=vs.map some++List.replicate (N.length-vs.length) none
noncomputable def j8(CX:i7)(P:Program)(w:World)(K:W.Frag)(mg:Str->LF)(base:Heap)(N:KZ)(qual:Str)(scope:Scope)(f:Addr)(cd:Value)(A:Around)(outer:List Env)(s:Shared)(H:Hp)(E:XK):Cx where
 prog:=P
 w:=w
 K:=K
 mg:=mg
 base:=base
 A:=A.deeper (envOfC qual scope s.heap.objs.size f cd)
 N:=N
 s₀:=s
 H₀:=H
 env:=envOfC qual scope s.heap.objs.size f cd
 outer:=outer
 stack:=envOfC qual scope s.heap.objs.size f cd::outer
 ex:=[]
 calm:=true
 fn:=λ_=>true
 pn:=[]
 xe:=λe s'=>wpAny (model P w) (A.deeper (envOfC qual scope s.heap.objs.size f cd)) (leaving (envOfC qual scope s.heap.objs.size f cd) e) (λ_ s''=>CX outer H s E e s'') (λe' s''=>CX outer H s E e' s'') s'
theorem rP{F:Scope}{n:Nat}(h:F.names.lookup x=some .cell):∃c,(cellsFrom n F.names []).lookup x=some c:=by
 have q:=W.cellsFrom_some F.names n [] (.inl h);exact Option.isSome_iff_exists.mp q
theorem zf{CX:i7}{P:Program}{w:World}{K:W.Frag}{mg:Str->LF}{base:Heap}{N ps:KZ}{F:Str}{scope:Scope}{f:Addr}{cd:Value}{A:Around}{outer:List Env}{s s1:Shared}{H:Hp}{E:XK}{us:LD}{vs:LB}
  (S:aC N ps scope) (hd:A.handled=none) (J:G1 P w K mg base A outer s H) (hl:vs.length=ps.length) (r:A1 vs us)
  (x:InCallC s s.heap.objs.size (bindL (envOfC F scope s.heap.objs.size f cd).kindOf (ps.zip us) λ_=>none) (cellsFrom (s.heap.objs.size+1) scope.names []) (bindC (envOfC F scope s.heap.objs.size f cd).kindOf (ps.zip us) λ_=>none) s1) :
  Inv (j8 CX P w K mg base N F scope f cd A outer s H E) [] (start N vs) H s1:=by
 have ab:ps.length<=N.length:=by have:=congrArg List.length S.pre;rw[Il]at this;lia
 obtain⟨h1,tk,rfl,hk⟩:=x.done
 have O:∀b:Addr,b∉(j8 CX P w K mg base N F scope f cd A outer s H E).ex:=λb z=>absurd (show b∈([]:LC) from z) (by simp)
 refine⟨⟨J.mod,S.kind,rfl,rfl,qt _,λy z c h1 h2=>?_,λy U=>?_,λy c _ h=>?_,λ_=>hd,Around.frames_deeper J.frames,.inr ⟨rfl,rfl⟩,λb z=>absurd z (O b),J.bs,J.bsz,λb _ _=>O b,λb z=>absurd z (O b),J.funs,J.frf⟩,
  rfl,J.bare,Un.kept hk,⟨_,x.toInCall.ns,λi y v h1 h2 h3=>?_⟩,λy c h=>⟨_,x.cell y c h⟩,J.hok.fresh (qt _),λy c h=>?_,λp Y=>absurd (show p∈([]:List (Addr×Obj)) from Y) (by simp),J.hok.kept hk,?_⟩
 .exact name_of_addr x.apart (zaZ h1) (zaZ h2)
 .have U:scope.names.lookup y=some .cell\/scope.names.lookup y=some .free:=U
  rcases U with U | U
  .exact rP U
  .exact absurd rfl (S.nofree _ (zaZ U))
 .exact xF (x.above y c (zaZ h))
 .have hi:i<vs.length:=by
   unfold start at h2
   by_cases hi:i<vs.length
   .exact hi
   .rw[gT (by simpa using hi)]at h2
    rw[za0]at h2
    split at h2<;>cases h2
  have ha:vs[i]?=some v:=by
   unfold start at h2;rw[xG (by simpa using hi),wC]at h2
   cases e:vs[i]? with
   | none=>rw[e]at h2;cases h2
   | some a=>rw[e]at h2;cases h2;rfl
  obtain⟨u,hu,rv⟩:=r.get ha
  have Y:ps[i]?=some y:=by
   rw[<-S.pre,zbs (by lia)];exact h1
  have Z:ps.Nodup:=by rw[<-S.pre];exact S.nd.sublist (List.take_sublist _ _)
  refine⟨u,rv,?_⟩
  rcases S.par y (kg Y) with k | k
  .exact .inl ⟨k,pe Z Y hu k⟩
  .obtain⟨c,e⟩:=rP (n:=s.heap.objs.size+1) k
   refine .inr ⟨.inl k,c,e,?_⟩
   have q:=x.cell y c e;rw[oW Z Y hu (by show scope.names.lookup y≠_;rw[k];decide)]at q
   exact q
 .exact J.hok.fresh (xF (x.above y c (zaZ h)))
 .unfold start
  show _=N.length
  rw[qL,zj,Kk];lia
theorem Jk{CX:i7}{P:Program}{w:World}{K:W.Frag}{mg:Str->LF}{base:Heap}{k:Nat}{f:Addr}{name F:Str}{U:Arguments}{Y:List Stmt}{scope:Scope}{dV kV ad pm O ct oc:Value}{an od:LO}
  {a3:Array LF} {N ps:KZ} {sp:Sp} (lk:K.lookup f=some ⟨oc,od,.func (W.fnOf name F U Y scope dV kV ad pm an O ct),a3⟩) (al:W.codeIn K O F=true) (S:aC N ps scope)
  (len:∀vs H Q E,sp vs H Q E->vs.length=ps.length)
  (Z:∀(A:Around) (outer:List Env) (s:Shared) (H:Hp) (vs:LB) (Q:VK) (E:XK),B4 k (A.deeper (envOfC F scope s.heap.objs.size f O))->sp vs H Q E->
   ∃t,G0 (j8 CX P w K mg base N F scope f O A outer s H E) Y t/\t {nx:=λ_ H'=>Q .non H',rt:=Q} (start N vs) H) :
  Gk P w K mg base CX (k+1) f (W.fnOf name F U Y scope dV kV ad pm an O ct) ps sp:=by
 refine⟨len,λA outer s H args us vs Q E hr e0 hb r ag=>?_⟩
 have hl:=len _ _ _ _ ag;have KX:K.In s.heap:=e0.mod.kin.keeps λb o e=>(e0.bs b o e).1
 have as:s.heap.NoLimit:=e0.mod.nolimit.keeps λb o e=>(e0.bs b o e).1
 have ab:∀y∈ps.zip us,scope.names.lookup y.1=some .local\/(scope.names.lookup y.1=some .cell/\((cellsFrom (s.heap.objs.size+1) scope.names []).lookup y.1).isSome=true):=λ⟨n,v⟩ hy=>by
  rcases S.par n (List.of_mem_zip hy).1 with q | q
  .exact .inl q
  .exact .inr ⟨q,W.cellsFrom_some _ _ _ (.inl q)⟩
 refine codeAny_call_function hr.depth (KX _ _ lk) rfl S.co S.gen rfl (W.codeRec_of KX al) (hb _ _ _ _ ?_)
 refine wpAny_newFunctionEnv_cells S.kind ab λenv he s1 x=>?_
 subst he;refine⟨as.keeps x.toInCall.keep,codeAny_func ?_⟩
 obtain⟨t,ht,hq⟩:=Z A outer s H vs Q E (hr.deeper _) ag
 have I:Inv (j8 CX P w K mg base N F scope f O A outer s H E) [] (start N vs) H s1:=zf S hr.hd e0 hl r x
 refine wpAny_mono (ht [] s1 (start N vs) H _ I hq) (λfl s' hs=>?_) λe s' hs=>hs
 have ac:∀ {σ':St} {H':Hp} {v:V} {u:Value},Inv (j8 CX P w K mg base N F scope f O A outer s H E) [] σ' H' s'->RelV v u->Q v H'->CE outer P w H s Q u s':=
  λ{σ' H' v u} J rv q=>⟨v,H',J.os,J.bare,J.base,J.hok,rv,q⟩
 cases fl with
 | ret u=>
  obtain⟨v,σ',H',J,rv,q⟩:=hs
  exact ac J rv q
 | next=>
  obtain⟨σ',H',J,q⟩:=hs
  exact ac (v:=V.non) (u:=Value.none) J rfl q
 | brk=>
  obtain⟨_,_,_,q⟩:=hs
  exact False.elim q
 | cont=>
  obtain⟨_,_,_,q⟩:=hs
  exact False.elim q
section
variable{X:Cx}{x:Str}{p pos:Pos}{e:Expr}{es:LL}{t:TA}{id T:String}{r:LB->Hp->VK->Prop}
def AR(r:LB->Hp->VK->Prop)(t:TA):TE:=λσ H Q=>t σ H λvs H1=>r vs H1 Q
theorem C_(hc:BB X (.builtin id) r)(hg:Gl X x)(J:X.mg x=none)(hv:bootBuiltins x=some (.builtin id))(ha:PA X (e::es) t)(F:x ≠ "__name__" := by decide) (hdb:(x==("__debug__" : Str))=false:=by decide)
  (he:starEach (e::es) X.env=(false,eval e X.env)::starEach es X.env:=by rfl) (hpl:(backTo pos (starEach es X.env)).any (·.1)=false:=by rfl):PE X (.Call (.Name x p) (e::es) [] pos) (AR r t):=by
 intro pins s σ H Q I h
 refine wpAny_Call_Name_kw (iE I hg J hv ?_ F hdb)
 exact PyProof.Rows.callWith_builtin1 (bz (ha pos pins s σ H _ I h) λY Z ⟨vs,H1,U,W,O⟩=>hc pins Z σ H1 vs Y Q U W O) he hpl
theorem yZ(hc:BB X (.type T) r)(hg:Gl X x)(J:X.mg x=none)(hv:bootBuiltins x=some (.type T))(ha:PA X (e::es) t)(F:x ≠ "__name__" := by decide) (hdb:(x==("__debug__" : Str))=false:=by decide)
  (he:starEach (e::es) X.env=(false,eval e X.env)::starEach es X.env:=by rfl) (hpl:(backTo pos (starEach es X.env)).any (·.1)=false:=by rfl):PE X (.Call (.Name x p) (e::es) [] pos) (AR r t):=by
 intro pins s σ H Q I h
 refine wpAny_Call_Name_kw (iE I hg J hv ?_ F hdb)
 exact zaY (bz (ha pos pins s σ H _ I h) λY Z ⟨vs,H1,U,W,O⟩=>hc pins Z σ H1 vs Y Q U W O) he hpl
end
end L2
namespace HT
open PySem PyProof.Rows
theorem rcLt_int(A:Around)(s:Shared)(a:Int)(t:Tok)(c:Int)(u:Tok)(prog:Program)(w:World)(E:KY)(Q:KY)(h:Q (.bool (decide (a<c))) s) :
  wpAny (model prog w) A (richCompare .Lt (.int a t) (.int c u)) Q E s:=
 (PyProof.Rows.lt_int h:wpAny (model prog w) A (compareOp .Lt (.int a t) (.int c u)) Q E s)
section
variable{prog:Program}{w:World}{A:Around}{E:KY}{s:Shared}
theorem cat_tup{t b:Addr}{vs ws:LD}{Q:KY}(ht:IsTup s.heap t vs.toArray)(hb:IsTup s.heap b ws.toArray)(hv:vs≠[])
  (h1:ws=[]->Q (.ref t) s) (h2:ws≠[]->Q (.ref s.heap.objs.size) {s with heap:=s.heap.push {cls:=.type "tuple",data:=.seq (vs++ws).toArray}})
  (hsz:vs.length+ws.length<=sizeLine):wpAny (model prog w) A (binaryOp .Add (.ref t) (.ref b)) Q E s:=by
 obtain⟨⟨cls,dd,data,sl⟩,Z,hc,n,hd⟩:=id ht
 obtain⟨⟨ab,Y,data2,O⟩,J,U,n2,W⟩:=id hb
 simp only at hc hd U W
 subst hc hd U W;have e:vs.toArray++ws.toArray=(vs++ws).toArray:=by simp
 by_cases hw:ws=[]
 .exact concat_meets ⟨_,Z,rfl⟩ ⟨_,J,rfl⟩ noFill_tuple_add seq_tuple_add PySem.F.slot_tuple_add PySem.F.entry_tuple_add (PySem.F.args_tuple_add_2 _ _)
   (tuple_addW1 t b vs.toArray ws.toArray n n2 dd Y sl O (by simpa using hv) (by simp[hw])) ⟨Z,J,h1 hw⟩
 .refine concat_meets ⟨_,Z,rfl⟩ ⟨_,J,rfl⟩ noFill_tuple_add seq_tuple_add PySem.F.slot_tuple_add PySem.F.entry_tuple_add (PySem.F.args_tuple_add_2 _ _)
   (tuple_addW2 t b vs.toArray ws.toArray n n2 dd Y sl O (by simpa using hv) (by simpa using hw) (by rw[List.size_toArray,List.size_toArray];exact hsz)) ⟨Z,J,?_⟩
  rw[e];exact h2 hw
noncomputable def sIx(n d:Nat):LI->Nat
 | none=>d
 | some v=>if v<0 then (v+(n:Int)).toNat else min v.toNat n
theorem sIx_none(n d:Nat):sIx n d none=d:=rfl
theorem sIx_nat(n d k:Nat):sIx n d (some (k:Int))=min k n:=by
 show (if (k:Int)<0 then ((k:Int)+(n:Int)).toNat else min (k:Int).toNat n)=min k n
 rw[if_neg (by lia),Int.toNat_natCast]
theorem FP(n d:Nat)(hd:d<=n)(o:LI):sIx n d o<=n:=by
 cases o with
 | none=>exact hd
 | some v=>
  show (if v<0 then (v+(n:Int)).toNat else min v.toNat n)<=n
  by_cases hv:v<0
  .rw[if_pos hv];lia
  .rw[if_neg hv];exact Nat.min_le_right _ _
theorem vq(v:Int)(n d:Nat):(if v<0 then max (v+(n:Int)) 0 else min v (n:Int))=((sIx n d (some v):Nat):Int):=by
 show (if v<0 then max (v+(n:Int)) 0 else min v (n:Int))=(((if v<0 then (v+(n:Int)).toNat else min v.toNat n):Nat):Int)
 by_cases hv:v<0
 .simp only[if_pos hv];lia
 .simp only[if_neg hv];lia
theorem x9(lo hi:LI)(n:Nat):Builtin.Slice.sliceAdjust lo hi 1 (n:Int)=(((sIx n 0 lo:Nat):Int),((sIx n n hi:Nat):Int)):=by
 have h1:¬ ((1:Int)<0):=by lia
 unfold Builtin.Slice.sliceAdjust;simp only[h1,if_false]
 refine Prod.ext ?_ ?_
 .cases lo with
  | none=>rfl
  | some v=>exact vq v n 0
 .cases hi with
  | none=>rfl
  | some v=>exact vq v n n
theorem wI(i j:Nat):Builtin.Slice.slicePlaces (i:Int) (j:Int) 1=j-i:=by
 unfold Builtin.Slice.slicePlaces;have h1:(1:Int)>0:=by lia
 simp only[h1,if_true,Int.ediv_one]
 split<;>lia
theorem mM{v:Value}{o:LI}{Q:LI->Shared->Prop}(p:IsPart v o)(h:Q o s):wpAny (model prog w) A (Builtin.Slice.slicePartIndex v) Q E s:=by
 cases p with
 | none=>exact slicePart_none h
 | int i t=>exact slicePart_int h
theorem sliceApplied_gen{W:Addr}{U O:Value}{lo hi:LI}{n:Nat}{Q:Int×Int×Nat->Shared->Prop}(Y:s.heap.IsSliceOf W U O .none)(pl:IsPart U lo)(pu:IsPart O hi)
  (h:Q (((sIx n 0 lo:Nat):Int),1,sIx n n hi-sIx n 0 lo) s):wpAny (model prog w) A (Builtin.Slice.sliceApplied (.ref W) (pure (n:Int))) Q E s:=by
 obtain⟨os,F,Z,J⟩:=id Y
 unfold Builtin.Slice.sliceApplied Builtin.Slice.sliceFields;refine wpAny_bind (wpAny_bind (wpAny_field F J (x:=U) rfl (wpAny_bind (wpAny_field F J (x:=O) rfl (wpAny_bind (wpAny_field F J (x:=.none) rfl (wpAny_pure ?_)))))))
 refine wpAny_bind (slicePart_none ?_)
 show wpAny _ _ (if ((1:Int)==0)=true then _ else _) _ _ s
 rw[if_neg (by decide)]
 refine wpAny_bind (mM pl (wpAny_bind (mM pu (wpAny_bind (wpAny_pure ?_)))))
 show wpAny _ _ (match Builtin.Slice.sliceAdjust lo hi 1 (n:Int) with | (lo,hi)=>pure (lo,(1:Int),Builtin.Slice.slicePlaces lo hi 1)) _ _ s
 rw[x9 lo hi n];show wpAny _ _ (pure (((sIx n 0 lo:Nat):Int),(1:Int),Builtin.Slice.slicePlaces ((sIx n 0 lo:Nat):Int) ((sIx n n hi:Nat):Int) 1)) _ _ s
 rw[wI];exact wpAny_pure h
theorem Ck(xs:LM)(i k:Nat):((List.range k).filterMap λ(m:Nat)=>xs[((i:Int)+(m:Int)*1).toNat]?).toArray=((xs.toList.drop i).take k).toArray:=by
 have e:(λ(m:Nat)=>xs[((i:Int)+(m:Int)*1).toNat]?)=λm=>xs[i+m]?:=by
  funext m
  have:((i:Int)+(m:Int)*1).toNat=i+m:=by lia
  rw[this]
 rw[e];have:=pick_run xs i k
 rw[List.filterMap_map]at this
 have F:((λx=>xs[x]?) ∘ λx=>i+x)=λm=>xs[i+m]?:=rfl
 rw[F]at this
 rw[this]
theorem getItem_tuple_cut{t U:Addr}{F:LM}{vl vu:Value}{lo hi:LI}{Q:KY}(O:IsTup s.heap t F)(hs:s.heap.IsSliceOf U vl vu .none)(pl:IsPart vl lo)(pu:IsPart vu hi)
  (hw:¬ (sIx F.size 0 lo=0/\sIx F.size F.size hi=F.size))
  (h:Q (.ref s.heap.objs.size) {s with heap:=s.heap.push {cls:=.type "tuple",data:=.seq ((F.toList.drop (sIx F.size 0 lo)).take (sIx F.size F.size hi-sIx F.size 0 lo)).toArray}})
  (hsz:F.size<=sizeLine):wpAny (model prog w) A (getItem (.ref t) (.ref U)) Q E s:=by
 have J:sizeOk (.seq ((F.toList.drop (sIx F.size 0 lo)).take (sIx F.size F.size hi-sIx F.size 0 lo)).toArray):=by
  show ((F.toList.drop (sIx F.size 0 lo)).take (sIx F.size F.size hi-sIx F.size 0 lo)).toArray.size<=sizeLine
  rw[List.size_toArray,List.length_take,List.length_drop,Array.length_toList];lia
 have hj:sIx F.size F.size hi<=F.size:=FP _ _ (Nat.le_refl _) hi
 obtain⟨os,Z,Y,ac⟩:=id hs
 have ab:s.TypeIs (.ref U) "slice" := ⟨os,Z,Y⟩
 unfold getItem
 try with_reducible refine wpAny_holding ?_
 first | refine wpAny_bind (wpAny_pure ?_) | skip
 refine wpAny_bind (wpAny_sequenceKey O.typeIs (by decide) ?_)
 refine wpAny_bind (wpAny_callSpecial?_slot (name:=Str.ofString "__getitem__") O.typeIs PyProof.Rows.slot_tuple_getitem
  (wpAny_call_entry PyProof.Rows.slot_tuple_getitem O.typeIs entry_tuple_getitem ?_ (args_tuple_getitem _ _)))
 show wpAny _ _ (Builtin.Tuple.tupleItemsOf (.ref t) >>= _) _ _ s
 refine wpAny_bind (tupleItemsOf_ O ?_)
 refine wpAny_bind (wpAny_typeOf ab ?_)
 rw[if_pos (by decide)]
 refine wpAny_bind (sliceApplied_gen hs pl pu ?_)
 have W:¬ ((((sIx F.size 0 lo:Nat):Int)==0&&(1:Int)==1&&(sIx F.size F.size hi-sIx F.size 0 lo)==F.size)=true):=by
  intro q
  rw[Bool.and_eq_true,Bool.and_eq_true]at q
  have q1:((sIx F.size 0 lo:Nat):Int)=0:=eq_of_beq q.1.1
  have q2:sIx F.size F.size hi-sIx F.size 0 lo=F.size:=eq_of_beq q.2
  exact hw ⟨by lia,by lia⟩
 show wpAny _ _ (if (((sIx F.size 0 lo:Nat):Int)==0&&(1:Int)==1&&(sIx F.size F.size hi-sIx F.size 0 lo)==F.size)=true then _ else _) _ _ s
 rw[if_neg W,Ck]
 first
  | exact wpAny_bind (m:=Builtin.Tuple.tupleExact _) (wpAny_newObj_type (wpAny_pure ⟨_,rfl,wpAny_pure h⟩) J)
  | exact wpAny_bind (m:=Builtin.Tuple.tupleExact _) (wpAny_newObj_type (wpAny_bind (wpAny_pure (wpAny_pure ⟨_,rfl,wpAny_pure h⟩))) J)
  | exact wpAny_bind (wpAny_bind (m:=Builtin.Tuple.tupleExact _) (wpAny_newObj_type (wpAny_pure (wpAny_pure ⟨_,rfl,wpAny_pure h⟩)) J))
  | exact wpAny_bind (wpAny_bind (m:=Builtin.Tuple.tupleExact _) (wpAny_newObj_type (wpAny_pure ⟨_,rfl,wpAny_pure h⟩) J))
end
end HT
namespace L2
open PySem PySem.Spec PyProof.Rows
variable{H:Hp}
abbrev TO:=St->Hp->(LI->Hp->Prop)->Prop
def PO(X:Cx)(e:Option Expr)(t:TO):Prop:=
 ∀(pins:List (Addr×Obj)) (s:Shared) (σ : St) (H:Hp) (Q:LI->Hp->Prop),Inv X pins σ H s->t σ H Q->
  wpAny (model X.prog X.w) X.A (evalPart e X.env) (λu s'=>∃o H',Inv X pins σ H' s'/\IsPart u o/\Q o H') X.xe s
def vR:TO:=λ_ H Q=>Q none H
def De(t:TE):TO:=λσ H Q=>t σ H λx H1=>∃i,x = .int i/\Q (some i) H1
theorem jJ{ns:LJ}:∀ {F:LD},A1 (ns.map V.int) F->IntsAre F ns:=by
 induction ns with
 | nil=>intro F r;rw[IH]at r;cases r;exact .nil
 | cons n ns ih=>
  intro F r
  rw[yj]at r
  cases r with
  | cons r1 r2=>
   obtain⟨t,e⟩:=r1
   subst e;exact .cons n t (ih r2)
section
variable{X:Cx}{e:Expr}{te:TE}{lo hi:Option Expr}{tl th:TO}{pos p2:Pos}
theorem fw:PO X none vR:=by
 intro pins s σ H Q I h
 rw[evalPart_none];exact Kr ⟨none,H,I,.none,h⟩
theorem cP(h:PE X e te):PO X (some e) (De te):=by
 intro pins s σ H Q I O
 rw[evalPart_some];refine bz (h pins s σ H _ I O) λu W ⟨x,H1,F,J,U⟩=>?_
 obtain⟨i,rfl,q⟩:=U
 obtain⟨t,rfl⟩:=J
 exact⟨some i,H1,F,.int i t,q⟩
def CY(X:Cx)(r:V->LI->LI->Hp->VK->Prop):Prop:=
 ∀(pins:List (Addr×Obj)) (s:Shared) (σ : St) (H:Hp) (x:V) (v vl vu:Value) (lo hi:LI) (sl:Addr) (Q:VK),Inv X pins σ H s->RelV x v->s.heap.IsSliceOf sl vl vu .none->IsPart vl lo->IsPart vu hi->r x lo hi H Q->
  ∃T id,typeLookup (.type T) "__getitem__" = pure (some (.builtin id))/\s.TypeIs v T/\wpAny (model X.prog X.w) X.A (getItem v (.ref sl)) (EP X pins σ Q) X.xe s
theorem CY.or{r Y:V->LI->LI->Hp->VK->Prop}(h:CY X r)(h':CY X Y):CY X (λx lo hi H Q=>r x lo hi H Q\/Y x lo hi H Q):=by
 intro pins s σ H x v W J lo hi O Q I Z F pl U q
 rcases q with q | q
 .exact h pins s σ H x v W J lo hi O Q I Z F pl U q
 .exact h' pins s σ H x v W J lo hi O Q I Z F pl U q
def JM(r:V->LI->LI->Hp->VK->Prop)(te:TE)(tl th:TO):TE:=λσ H Q=>te σ H λx H1=>tl σ H1 λl H2=>th σ H2 λu H3=>r x l u H3 Q
theorem dW{r:V->LI->LI->Hp->VK->Prop}(U:CY X r)(Z:PE X e te)(hl:PO X lo tl)(hu:PO X hi th):PE X (.Subscript e (.Slice lo hi none p2) pos) (JM r te tl th):=by
 intro pins s σ H Q I h
 refine Subscript_ (bz (Z pins s σ H _ I h) λv s1 ⟨x,H1,I1,W,q1⟩=>?_)
 refine wpAny_Slice (bz (hl pins s1 σ H1 _ I1 q1) λJ s2 ⟨l,H2,I2,pl,q2⟩=>bz (hu pins s2 σ H2 _ I2 q2) λF s3 ⟨u,O,I3,Y,q3⟩=>?_)
 rw[evalPart_none];refine Kr ?_
 have I4:Inv X pins σ O {s3 with heap:=s3.heap.push {cls:=.type "slice",data:=.fields #[J,F,.none]}}:=I3.kept (t':=s3.toks) λb ob q=>wR _ q
 obtain⟨T,id,hT,ht,hg⟩:=U pins {s3 with heap:=s3.heap.push {cls:=.type "slice",data:=.fields #[J,F,.none]}} σ O x v J F l u s3.heap.objs.size Q I4 W (Heap.IsSliceOf.new ..) pl Y q3
 show wpAny (model X.prog X.w) X.A (subscriptTail e (.Slice lo hi none p2) v (.ref s3.heap.objs.size)) (EP X pins σ Q) X.xe {s3 with heap:=s3.heap.push {cls:=.type "slice",data:=.fields #[J,F,.none]}}
 exact tail_any (ops:=[.ref s3.heap.objs.size,v]) ht hT hg (by with_unfolding_all rfl)
noncomputable def dH(xs:LB)(lo hi:LI):LB:=(xs.drop (HT.sIx xs.length 0 lo)).take (HT.sIx xs.length xs.length hi-HT.sIx xs.length 0 lo)
theorem lA(xs:LB)(lo hi:LI):(dH xs lo hi).length<=xs.length:=by
 unfold dH;rw[Il,zbb];lia
def Ny(K:W.Frag):V->LI->LI->Hp->VK->Prop:=λx lo hi H Q=>∃a xs,x = .ref a/\vr K H a xs/\
 ¬ (HT.sIx xs.length 0 lo=0/\HT.sIx xs.length xs.length hi=xs.length)/\∀p,H p=none->Q (.ref p) (upd H p (.tup (dH xs lo hi)))
theorem Ij:CY X (Ny X.K):=by
 intro pins s σ H x v vl vu lo hi sl Q I Z U pl Y h
 obtain⟨a,xs,rfl,hx,W,q⟩:=h
 cases Z;obtain⟨J,r,O,hz⟩:=I.tuple hx
 have F:J.toArray.size=xs.length:=by rw[xo];exact r.length.symm
 refine⟨"tuple",_,PyProof.Rows.slot_tuple_getitem.lookup,O.typeIs,?_⟩
 refine HT.getItem_tuple_cut O U pl Y (by rw[F];exact W) ?_ (by rw[F];exact hz)
 rw[F];refine⟨.ref s.heap.objs.size,_,I.laid (t':=s.toks) (o:=.tup (dH xs lo hi)) (λb ob q=>wR _ q) (qt _) ?_,rfl,q _ (I.hok.fresh (qt _))⟩
 exact⟨xB (lA xs lo hi) hz,_,(r.drop (HT.sIx xs.length 0 lo)).take (HT.sIx xs.length xs.length hi-HT.sIx xs.length 0 lo),F3.new _ _⟩
def x5(K:W.Frag):R2:=λx y H Q=>∃a b xs ys,x = .ref a/\y = .ref b/\vr K H a xs/\vr K H b ys/\xs≠[]/\xs.length+ys.length<=sizeLine/\
 (ys=[]->Q (.ref a) H)/\(ys≠[]->∀p,H p=none->Q (.ref p) (upd H p (.tup (xs++ys))))
theorem A1.nil_iff{xs:LB}{F:LD}(r:A1 xs F):F=[] ↔ xs=[]:=by
 cases r with
 | nil=>simp
 | cons _ _=>simp
theorem EO:FS X (binaryOp .Add) (x5 X.K):=by
 intro pins s σ H x y v u Q I rx W h
 obtain⟨a,b,xs,ys,rfl,rfl,ha,hb,hx,hz,U,Y⟩:=h
 cases rx
 cases W;obtain⟨Z,J,p1,_⟩:=I.tuple ha
 obtain⟨O,F,p2,_⟩:=I.tuple hb
 refine HT.cat_tup p1 p2 (λz=>hx (J.nil_iff.mp z)) (λz=>⟨.ref a,H,I,rfl,U (F.nil_iff.mp z)⟩) (λz=>?_) (by rw[<-J.length,<-F.length];exact hz)
 refine⟨.ref s.heap.objs.size,_,I.laid (t':=s.toks) (o:=.tup (xs++ys)) (λb ob q=>wR _ q) (qt _) ?_,rfl,Y (λw=>z (F.nil_iff.mpr w)) _ (I.hok.fresh (qt _))⟩
 exact⟨by rw[qL];exact hz,_,J.append F,F3.new _ _⟩
end
noncomputable def iR(n:Nat)(i:Int):LG:=if 0<=i then (if i<n then some i.toNat else none) else if -(n:Int)<=i then some (i+n).toNat else none
noncomputable def di{α:Type}(xs:List α)(i:Int):Option α:=(iR xs.length i).bind λj=>xs[j]?
theorem wg{n:Nat}{i:Int}{j:Nat}(h:iR n i=some j):seqIndex? i n=some j/\j<n/\-(n:Int)<=i/\i<n:=by
 unfold iR at h
 by_cases h0:0<=i
 .rw[Kx h0]at h
  by_cases h1:i<n
  .rw[Kx h1]at h
   have e:i.toNat=j:=Option.some.inj h
   exact⟨by rw[seqIndex_of h0 h1,e],by lia,by lia,h1⟩
  .rw[Kt h1]at h;cases h
 .rw[Kt h0]at h
  by_cases h1:-(n:Int)<=i
  .rw[Kx h1]at h
   have e:(i+n).toNat=j:=Option.some.inj h
   exact⟨by rw[seqIndex_neg (by lia) h1,e],by lia,h1,by lia⟩
  .rw[Kt h1]at h;cases h
theorem nD{α:Type}{xs:List α}{i:Int}{v:α}(h:di xs i=some v):∃j,seqIndex? i xs.length=some j/\xs[j]?=some v/\j<xs.length/\-(xs.length:Int)<=i/\i<xs.length:=by
 unfold di at h
 cases e:iR xs.length i with
 | none=>rw[e]at h;cases h
 | some j=>
  rw[e]at h
  obtain⟨h1,h2,J,F⟩:=wg e
  exact⟨j,h1,h,h2,J,F⟩
theorem ap{α:Type}{xs:List α}{j:Nat}{v:α}(h:xs[j]?=some v):di xs (j:Int)=some v:=by
 have F:j<xs.length:=(Kq.mp h).1
 have e:iR xs.length (j:Int)=some j:=by
  unfold iR;rw[Kx (by lia),Kx (by lia)];simp
 unfold di;rw[e];exact h
def Ej(b:Expr):Prop:=∀o i,subscripted b false o i=operate [o,i] (getItem o i)
def Ha(X:Cx)(r:R2):Prop:=
 ∀(value slice:Expr) (pins:List (Addr×Obj)) (s:Shared) (σ : St) (H:Hp) (x y:V) (v u:Value) (Q:VK),Inv X pins σ H s->RelV x v->RelV y u->r x y H Q->
  subscripted slice false v u=operate [v,u] (getItem v u)->wpAny (model X.prog X.w) X.A (subscriptTail value slice v u) (EP X pins σ Q) X.xe s
def G7(X:Cx)(id:String)(r:V->LB->Hp->VK->Prop):Prop:=
 ∀(pins:List (Addr×Obj)) (s:Shared) (σ : St) (H:Hp) (x:V) (xs:LB) (v:Value) (us:LD) (Q:VK),Inv X pins σ H s->RelV x v->A1 xs us->r x xs H Q->
  wpAny (model X.prog X.w) X.A (call (.builtin id) (v::us)) (EP X pins σ Q) X.xe s
section
variable{X:Cx}{a b:Expr}{ta tb:TE}{pos:Pos}
theorem Ha.or{r U:R2}(h:Ha X r)(h':Ha X U):Ha X (λx y H Q=>r x y H Q\/U x y H Q):=by
 intro value F pins s σ H x y v u Q I W J q O
 rcases q with q | q
 .exact h value F pins s σ H x y v u Q I W J q O
 .exact h' value F pins s σ H x y v u Q I W J q O
theorem ak{r:R2}(Z:Ha X r)(W:PE X a ta)(O:PE X b tb)(J:Ej b:=by exact λ_ _=>rfl):PE X (.Subscript a b pos) (y3 r ta tb):=by
 intro pins s σ H Q I h
 exact Subscript_ (B8 W O I h λv u s2 x y H2 U Y F q=>Z a b pins s2 σ H2 x y v u Q U Y F q (J _ _))
def Ip(K:W.Frag):R2:=λx y H Q=>∃p xs i v,x = .ref p/\y = .int i/\su K H p xs/\di xs i=some v/\Q v H
def Ho(K:W.Frag):R2:=λx y H Q=>∃p xs i v,x = .ref p/\y = .int i/\vr K H p xs/\di xs i=some v/\Q v H
def FF:R2:=λx y H Q=>∃z i c,x = .str z/\y = .int i/\z.length<=sizeLine/\di z.cps.toList i=some c/\Q (.str ⟨#[c]⟩) H
theorem JP:Ha X (Ip X.K):=by
 intro value W pins s σ H x y v u Q I rx ry h Y
 obtain⟨p,xs,i,z,rfl,rfl,hq,he,q⟩:=h
 cases rx;obtain⟨t,rfl⟩:=ry
 obtain⟨U,r,pl,hz⟩:=I.list hq
 obtain⟨j,h1,h2,h3,h4,h5⟩:=nD he
 obtain⟨w,Z,J⟩:=r.get h2
 have hl:=r.length;have hn:=i_;have F:EP X pins σ Q w s:=⟨z,H,I,J,q⟩
 by_cases h0:0<=i
 .have O:i.toNat=j:=by
   rw[seqIndex_of h0 h5]at h1
   exact Option.some.inj h1
  exact item_listR pl.isList h0 (by lia) (by rw[O];simpa using Z) F Y
 .have O:(i+(U.toArray.size:Int)).toNat=j:=by
   rw[seqIndex_neg (by lia) h4]at h1
   rw[xo,<-hl];exact Option.some.inj h1
  exact subscriptTail_builtinR (x:=w) pl.isList.typeIs slot_list_getitem.lookup
   (wpAny_getItem_list_neg (Q:=λr s'=>r=w/\EP X pins σ Q r s') pl.isList (by lia) (by rw[xo]<;>lia) (by lia) (by rw[O];simpa using Z) ⟨rfl,F⟩) Y
theorem Ki:Ha X (Ho X.K):=by
 intro value J pins s σ H x y v u Q I rx U h W
 obtain⟨p,xs,i,z,rfl,rfl,Z,he,q⟩:=h
 cases rx;obtain⟨t,rfl⟩:=U
 obtain⟨ab,r,pl,hz⟩:=I.tuple Z
 obtain⟨j,h1,h2,h3,h4,h5⟩:=nD he
 obtain⟨w,Y,F⟩:=r.get h2
 have hl:=r.length;have hn:=i_;have O:EP X pins σ Q w s:=⟨z,H,I,F,q⟩
 exact subscriptTail_builtinR (x:=w) pl.typeIs slot_tuple_getitem.lookup
  (getItem_tuple (j:=j) (Q:=λr s'=>r=w/\EP X pins σ Q r s') pl (by lia) (by lia) (by rw[xo,<-hl];exact h1) (by simpa using Y) ⟨rfl,O⟩) W
theorem Iz:Ha X FF:=by
 intro value F pins s σ H x y v u Q I rx J h O
 obtain⟨z,i,c,rfl,rfl,hz,Y,q⟩:=h
 obtain⟨t,rfl⟩:=rx
 obtain⟨t',rfl⟩:=J
 obtain⟨j,h1,h2,h3,U,h5⟩:=nD Y
 have hl:z.cps.toList.length=z.length:=by simp[Str.length]
 rw[hl]at h1 U h5
 have hn:=i_
 exact tail_any (typeIs_str s z t) slot_str_getitem.lookup (getItem_str (c:=c) (by
  have Z:decide (i < -(2^63:Int))=false:=decide_eq_false (by lia)
  have W:decide (i>=2^63)=false:=decide_eq_false (by lia)
  rw[Z,W,Bool.or_false]) (by rw[h1];simpa using h2) ⟨.str ⟨#[c]⟩,H,I.tok _,⟨_,rfl⟩,q⟩) O
def Qi(K:W.Frag):R2:=λx y H Q=>Ip K x y H Q\/Ho K x y H Q\/FF x y H Q
theorem HZ:Ha X (Qi X.K):=JP.or (Ki.or Iz)
theorem x6(F:LD)(n j:Nat)(u:Value):Obj.mapSeq (·.setIfInBounds j u) {cls:=.type "list",data:=.seq F.toArray n}={cls:=.type "list",data:=.seq (F.set j u).toArray n}:=by
 simp[Obj.mapSeq]
theorem Inv.lst{pins:List (Addr×Obj)}{σ:St}{s:Shared}{p:Addr}{xs:LB}(I:Inv X pins σ H s)(h:H p=some (.lst xs)) :
  ∃(F:LD) (n:Nat),A1 xs F/\s.heap.get? p=some {cls:=.type "list",data:=.seq F.toArray n}/\xs.length<=sizeLine:=by
 obtain⟨z,F,n,r,e⟩:=I.hok p _ h
 exact⟨F,n,r,e,z⟩
theorem Inv.lstUpd{pins:List (Addr×Obj)}{σ:St}{s:Shared}{p:Addr}{xs ys:LB}{F its':LD}{n n':Nat}{f:Obj->Obj}(I:Inv X pins σ H s)(h:H p=some (.lst xs))
  (O:s.heap.get? p=some {cls:=.type "list",data:=.seq F.toArray n}) (hf:f {cls:=.type "list",data:=.seq F.toArray n}={cls:=.type "list",data:=.seq its'.toArray n'}) (r:A1 ys its') (hz:ys.length<=sizeLine) (t:Nat) :
  Inv X pins σ (upd H p (.lst ys)) {s with heap:=s.heap.update p f,toks:=t}:=by
 have e:(s.heap.update p f).get? p=some {cls:=.type "list",data:=.seq its'.toArray n'}:=by
  rw[HK f O (by rw[hf]<;>rfl),hf]
 refine I.write (x:=p) (e:=p) (by rw[h];trivial) (.inl rfl) (λb u J q=>(za1 _ _ (mS J)).trans q) ⟨_,e⟩ ?_
 exact⟨hz,its',n',r,e⟩
def xY:V->V->V->Hp->(Hp->Prop)->Prop:=λo i v H Q=>∃p xs k j,o = .ref p/\i = .int k/\H p=some (.lst xs)/\iR xs.length k=some j/\Q (upd H p (.lst (xs.set j v)))
theorem Bb:Ht X xY:=by
 intro pins s σ H o i v ov iv u Q I ro ri rv h
 obtain⟨p,xs,k,j,rfl,rfl,Z,hj,q⟩:=h
 cases ro;obtain⟨t,rfl⟩:=ri
 obtain⟨F,n,r,J,hz⟩:=I.lst Z
 obtain⟨h1,h2,U,Y⟩:=wg hj
 have hl:=r.length;have hn:=i_
 have I':Inv X pins σ (upd H p (.lst (xs.set j v))) {s with heap:=s.heap.update p (Obj.mapSeq (·.setIfInBounds j u))}:=
  I.lstUpd Z J (x6 F n j u) (r.set rv j) (by rw[J4];exact hz) s.toks
 by_cases h0:0<=k
 .have O:k.toNat=j:=by
   rw[seqIndex_of h0 Y]at h1
   exact Option.some.inj h1
  exact W.ki_setAt J h0 (by lia) (by rw[xo,<-hl];exact Y) (by rw[O];exact⟨_,I',q⟩)
 .have O:(k+(F.toArray.size:Int)).toNat=j:=by
   rw[seqIndex_neg (by lia) U]at h1
   rw[xo,<-hl];exact Option.some.inj h1
  exact W.ki_setBack J (by lia) (by rw[xo,<-hl];exact U) (by lia) (by rw[O];exact⟨_,I',q⟩)
theorem sF(lo hi:LI)(n:Nat):(sliceBounds lo hi none n).1=((HT.sIx n 0 lo:Nat):Int)/\(sliceBounds lo hi none n).2.1=((HT.sIx n n hi:Nat):Int)/\(sliceBounds lo hi none n).2.2=1:=by
 refine⟨?_,?_,rfl⟩
 .cases lo with
  | none=>simp[sliceBounds,HT.sIx]
  | some i=>
   simp only[sliceBounds,HT.sIx,Option.getD_none,show (1:Int)>0 by decide,if_true]
   by_cases h:i<0
   .simp only[h,if_true]<;>lia
   .simp only[h,if_false]<;>lia
 .cases hi with
  | none=>simp[sliceBounds,HT.sIx]
  | some i=>
   simp only[sliceBounds,HT.sIx,Option.getD_none,show (1:Int)>0 by decide,if_true]
   by_cases h:i<0
   .simp only[h,if_true]<;>lia
   .simp only[h,if_false]<;>lia
theorem pO(F:LD)(lo hi:LI):slicePick F.toArray lo hi none=((F.drop (HT.sIx F.length 0 lo)).take (HT.sIx F.length F.length hi-HT.sIx F.length 0 lo)).toArray:=by
 obtain⟨h1,h2,J⟩:=sF lo hi F.toArray.size
 unfold slicePick;rw[h1,h2,J];simp only[sliceRange_one,pick_run,xo]<;>rfl
def Bh(K:W.Frag):V->LI->LI->Hp->VK->Prop:=λx lo hi H Q=>∃a xs,x = .ref a/\su K H a xs/\∀p,H p=none->Q (.ref p) (upd H p (.lst (dH xs lo hi)))
theorem EE:CY X (Bh X.K):=by
 intro pins s σ H x v vl Z lo hi sl Q I Y O pl U h
 obtain⟨a,xs,rfl,hx,q⟩:=h
 cases Y;obtain⟨W,r,J,hz⟩:=I.list hx
 have F:=r.length;refine⟨"list",_,slot_list_getitem.lookup,J.isList.typeIs,?_⟩
 refine wpAny_getItem_list_slice J.isList O pl U .none (by simp) ?_ (by rw[xo]<;>lia)
 rw[pO,<-F];refine⟨.ref s.heap.objs.size,_,I.laid (t':=s.toks) (o:=.lst (dH xs lo hi)) (λb ob q=>wR _ q) (qt _) ?_,rfl,q _ (I.hok.fresh (qt _))⟩
 exact⟨xB (lA xs lo hi) hz,_,0,(r.drop (HT.sIx xs.length 0 lo)).take (HT.sIx xs.length xs.length hi-HT.sIx xs.length 0 lo),yk _ rfl⟩
noncomputable def bU:V->Bool
 | .non=>true
 | .bl _=>true
 | .int _=>true
 | .str _=>true
 | _=>false
noncomputable def gn:V->V->Bool
 | .non,.non=>true
 | .bl a,.bl b=>a==b
 | .bl a,.int b=>(if a then 1 else 0)==b
 | .int a,.bl b=>a==(if b then 1 else 0)
 | .int a,.int b=>a==b
 | .str a,.str b=>a==b
 | _,_=>false
theorem jY{A:Around}{s:Shared}{y x:V}{u v:Value}(O:RelV y u)(F:RelV x v)(U:bU y=true)(J:bU x=true):SeqAt.EqAt A s u v (gn y x):=by
 cases y with
 | non=>
  cases O
  cases x with
  | non=>cases F;exact SeqAt.EqAt.same _
  | bl b=>cases F;exact SeqAt.EqAt.none_bool b
  | int b=>obtain⟨t,rfl⟩:=F;exact SeqAt.EqAt.none_int b t
  | str b=>obtain⟨t,rfl⟩:=F;exact SeqAt.EqAt.none_str b t
  | _=>exact absurd (show false=true from J) xN
 | bl a=>
  cases O
  cases x with
  | non=>cases F;exact SeqAt.EqAt.bool_none a
  | bl b=>cases F;exact SeqAt.EqAt.bool_bool a b
  | int b=>obtain⟨t,rfl⟩:=F;exact SeqAt.EqAt.bool_int a b t
  | str b=>obtain⟨t,rfl⟩:=F;exact SeqAt.EqAt.bool_str a b t
  | _=>exact absurd (show false=true from J) xN
 | int a=>
  obtain⟨t',rfl⟩:=O
  cases x with
  | non=>cases F;exact SeqAt.EqAt.int_none a t'
  | bl b=>cases F;exact SeqAt.EqAt.int_bool a t' b
  | int b=>obtain⟨t,rfl⟩:=F;exact SeqAt.EqAt.int_int a t' b t
  | str b=>obtain⟨t,rfl⟩:=F;exact SeqAt.EqAt.int_str a t' b t
  | _=>exact absurd (show false=true from J) xN
 | str a=>
  obtain⟨t',rfl⟩:=O
  cases x with
  | non=>cases F;exact SeqAt.EqAt.str_none a t'
  | bl b=>cases F;exact SeqAt.EqAt.str_bool a t' b
  | int b=>obtain⟨t,rfl⟩:=F;exact SeqAt.EqAt.str_int a t' b t
  | str b=>obtain⟨t,rfl⟩:=F;exact SeqAt.EqAt.str_str a t' b t
  | _=>exact absurd (show false=true from J) xN
 | _=>exact absurd (show false=true from U) xN
noncomputable def gu(x:V)(u:Value):Bool:=match u with
 | .none=>gn .non x
 | .bool b=>gn (.bl b) x
 | .int i _=>gn (.int i) x
 | .str z _=>gn (.str z) x
 | _=>false
theorem y4{x y:V}{u:Value}(r:RelV y u)(f:bU y=true):gu x u=gn y x:=by
 cases y with
 | non=>cases r;rfl
 | bl b=>cases r;rfl
 | int i=>obtain⟨t,rfl⟩:=r;rfl
 | str z=>obtain⟨t,rfl⟩:=r;rfl
 | _=>exact absurd (show false=true from f) xN
theorem jl{x:V}:∀ {xs:LB} {F:LD},A1 xs F->xs.all bU=true->F.any (gu x)=xs.any λy=>gn y x
 | _,_,.nil,_=>rfl
 | y::xs,u::F,.cons r t,f=>by
  rw[List.all_cons,zaR]at f
  rw[za2,za2,y4 r f.1,jl t f.2]
theorem ix{A:Around}{s:Shared}{x:V}{v:Value}(U:RelV x v)(O:bU x=true):∀ {xs:LB} {J:LD},A1 xs J->xs.all bU=true->∀u∈J,SeqAt.EqAt A s u v (gu x u)
 | _,_,.nil,_=>λu F=>by cases F
 | y::xs,u::J,.cons r t,f=>λu' F=>by
  rw[List.all_cons,zaR]at f
  rcases KC.mp F with rfl | F
  .rw[y4 r f.1];exact jY r U f.1 O
  .exact ix U O t f.2 u' F
def jQ(x:V)(xs:LB):Bool:=xs.any λy=>gn y x
def Kd(K:W.Frag)(neg:Bool):R2:=λx y H Q=>∃p xs,y = .ref p/\(su K H p xs\/vr K H p xs)/\bU x=true/\xs.all bU=true/\Q (.bl (if neg then !jQ x xs else jQ x xs)) H
theorem AS:FS X (compareOp .In) (Kd X.K false):=by
 intro pins s σ H x y v u Q I W Y h
 obtain⟨p,xs,rfl,J,U,fs,q⟩:=h
 cases Y;rcases J with J | J
 .obtain⟨F,r,pl,hz⟩:=I.list J
  refine SeqAt.in_listAt (gu x) pl.isList (λw O=>ix W U r fs w (by simpa using O)) ⟨.bl _,H,I,rfl,?_⟩
  rw[show F.toArray.any (gu x)=F.any (gu x) by simp,jl r fs]
  exact q
 .obtain⟨F,r,pl,hz⟩:=I.tuple J
  refine SeqAt.in_tupleAt (gu x) pl (λw O=>ix W U r fs w (by simpa using O)) ⟨.bl _,H,I,rfl,?_⟩
  rw[show F.toArray.any (gu x)=F.any (gu x) by simp,jl r fs]
  exact q
theorem qB:FS X (compareOp .NotIn) (Kd X.K true):=by
 intro pins s σ H x y v u Q I W Y h
 obtain⟨p,xs,rfl,J,U,fs,q⟩:=h
 cases Y;rcases J with J | J
 .obtain⟨F,r,pl,hz⟩:=I.list J
  refine SeqAt.notIn_listAt (gu x) pl.isList (λw O=>ix W U r fs w (by simpa using O)) ⟨.bl _,H,I,rfl,?_⟩
  rw[show F.toArray.any (gu x)=F.any (gu x) by simp,jl r fs]
  exact q
 .obtain⟨F,r,pl,hz⟩:=I.tuple J
  refine SeqAt.notIn_tupleAt (gu x) pl (λw O=>ix W U r fs w (by simpa using O)) ⟨.bl _,H,I,rfl,?_⟩
  rw[show F.toArray.any (gu x)=F.any (gu x) by simp,jl r fs]
  exact q
theorem qW:BB X (.builtin "len") (λxs H Q=>∃p ys,xs=[.ref p]/\(su X.K H p ys\/vr X.K H p ys)/\Q (.int ys.length) H):=by
 intro pins s σ H xs Z Q I r h
 obtain⟨p,ys,rfl,J,q⟩:=h
 obtain⟨u,rfl,W⟩:=cU r
 cases W;have Y:=i_;rcases J with J | J
 .obtain⟨O,U,pl,hz⟩:=I.list J
  have F:=U.length;exact Calls.call_len_list pl.isList (by simp only[xo]<;>lia) ⟨.int ys.length,H,I.tok _,⟨s.toks+1,by rw[xo,F]⟩,q⟩
 .obtain⟨O,U,pl,hz⟩:=I.tuple J
  have F:=U.length;exact len_tuple pl (by simp only[xo]<;>lia) ⟨.int ys.length,H,I.tok _,⟨s.toks+1,by rw[xo,F]⟩,q⟩
theorem sQ:BB X (.builtin "len") (λxs H Q=>∃z,xs=[.str z]/\z.length<=sizeLine/\Q (.int z.length) H):=by
 intro pins s σ H xs J Q I r h
 obtain⟨z,rfl,hz,q⟩:=h
 obtain⟨u,rfl,t,rfl⟩:=cU r
 have F:=i_;exact len_str (by lia) ⟨.int z.length,H,I.tok _,⟨_,rfl⟩,q⟩
theorem rY:BB X (.type "list") (λxs H Q=>∃p ys,xs=[.ref p]/\(su X.K H p ys\/vr X.K H p ys)/\∀l,H l=none->Q (.ref l) (upd H l (.lst ys))):=by
 intro pins s σ H xs us Q I r h
 obtain⟨p,ys,rfl,U,q⟩:=h
 obtain⟨u,rfl,rx⟩:=cU r
 cases rx
 have Y:∀(F:LD),A1 ys F->ys.length<=sizeLine->∀(h':Heap) (J:Nat),(∀b o',s.heap.get? b=some o'->h'.get? b=some o')->
   h'.get? s.heap.objs.size=some {cls:=.type "list",dict:=none,data:=.seq F.toArray J,slots:=#[]}->EP X pins σ Q (.ref s.heap.objs.size) {s with heap:=h'}:=λF O hz h' J kp e=>
  ⟨.ref s.heap.objs.size,_,I.laid (t':=s.toks) kp (qt _) (show BC X.prog X.w _ h' _ (.lst ys) from ⟨hz,F,J,O,e⟩),rfl,q _ (I.hok.fresh (qt _))⟩
 rcases U with U | U
 .obtain⟨F,O,pl,hz⟩:=I.list U
  have W:=O.length;obtain⟨o,Z,hc,n,hd⟩:=pl.isList
  exact call_list_seq p (.inl rfl) Z hc hd (λh' J kp e=>Y F O hz h' J kp e) (by simp only[xo]<;>lia)
 .obtain⟨F,O,pl,hz⟩:=I.tuple U
  have W:=O.length;obtain⟨o,Z,hc,n,hd⟩:=pl
  exact call_list_seq p (.inr rfl) Z hc hd (λh' J kp e=>Y F O hz h' J kp e) (by simp only[xo]<;>lia)
theorem pX:BB X (.type "tuple") (λxs H Q=>∃p ys,xs=[.ref p]/\((su X.K H p ys/\∀l,H l=none->Q (.ref l) (upd H l (.tup ys)))\/(vr X.K H p ys/\Q (.ref p) H))):=by
 intro pins s σ H xs us Q I r h
 obtain⟨p,ys,rfl,h⟩:=h
 obtain⟨u,rfl,Z⟩:=cU r
 cases Z;rcases h with ⟨J,q⟩ | ⟨J,q⟩
 .obtain⟨F,O,pl,hz⟩:=I.list J
  have W:=O.length;refine call_tuple_list pl.isList (λh' kp=>?_) (by simp only[xo]<;>lia)
  have U:Inv X pins σ H {s with heap:=h'}:=I.kept (t':=s.toks) kp
  have Y:Inv X pins σ (upd H h'.objs.size (.tup ys)) {s with heap:=h'.push {cls:=.type "tuple",data:=.seq F.toArray}}:=
   U.laid (t':=s.toks) (λb o e=>wR _ e) (qt _) (show BC X.prog X.w _ _ _ (.tup ys) from ⟨hz,F,O,F3.new _ _⟩)
  exact⟨.ref h'.objs.size,_,Y,rfl,q _ (U.hok.fresh (qt _))⟩
 .obtain⟨F,O,pl,hz⟩:=I.tuple J
  exact call_tuple_same pl ⟨.ref p,H,I,rfl,q⟩
def uy(K:W.Frag)(T:String)(x:V)(H:Hp):Prop:=match x with
 | .str _=>T = "str"
 | .int _=>T = "int"
 | .ref p=>(T = "list" /\ ∃xs,su K H p xs)\/(T = "tuple" /\ ∃o,K.lookup p=some o/\o.cls = .type "tuple" /\ o.dict=none)\/
   (T = "dict" /\ ((∃kvs,H p=some (.dK kvs))\/∃kvs,H p=some (.dT kvs)))\/(T = "set" /\ ∃S n,H p=some (.set S n))
 | _=>False
theorem AH{pins:List (Addr×Obj)}{σ:St}{H:Hp}{s:Shared}{T:String}{x:V}{v:Value}(I:Inv X pins σ H s)(r:RelV x v)(ty:uy X.K T x H) :
  s.TypeIs v T/\∀a,v = .ref a->∃ob,s.heap.get? a=some ob/\ob.dict=none:=by
 cases x with
 | str z=>
  obtain⟨t,rfl⟩:=r
  cases (show T = "str" from ty)
  exact⟨typeIs_str s z t,λ_ e=>nomatch e⟩
 | int i=>
  obtain⟨t,rfl⟩:=r
  cases (show T = "int" from ty)
  exact⟨typeIs_int s i t,λ_ e=>nomatch e⟩
 | ref p=>
  cases r;rcases ty with ⟨rfl,xs,O⟩ | ⟨rfl,o,F,W,hd⟩ | ⟨rfl,F⟩ | ⟨rfl,S,n,F⟩
  .obtain⟨U,_,pl,_⟩:=I.list O
   refine⟨pl.isList.typeIs,λa e=>?_⟩
   cases e;obtain⟨o,n,e,c,hd,_⟩:=pl
   exact⟨o,e,hd⟩
  .refine⟨⟨o,I.kIn p o F,W⟩,λa e=>?_⟩
   cases e;exact⟨o,I.kIn _ o F,hd⟩
  .have z:∃o,s.heap.get? p=some o/\o.ExactDict:=by
    rcases F with ⟨kvs,F⟩ | ⟨kvs,F⟩
    .obtain⟨_,_,_,_,o,_,_,e,ex,_⟩:=I.hok p _ F
     exact⟨o,e,ex⟩
    .obtain⟨_,_,_,_,o,_,_,e,ex,_⟩:=I.hok p _ F
     exact⟨o,e,ex⟩
   obtain⟨o,e,ex⟩:=z
   refine⟨⟨o,e,ex.1⟩,λa J=>?_⟩
   cases J;exact⟨o,e,ex.2.1⟩
  .obtain⟨o,_,_,_,e,ex,_⟩:=I.hok p _ F
   refine⟨⟨o,e,ex.1⟩,λa J=>?_⟩
   cases J;exact⟨o,e,ex.2.1⟩
 | _=>exact False.elim ty
def Bn(K:W.Frag)(T:String)(r:V->LB->Hp->VK->Prop)(to:TE):TE:=λσ H Q=>to σ H λx H1=>uy K T x H1/\r x [] H1 Q
def Hg(K:W.Frag)(T:String)(r:V->LB->Hp->VK->Prop)(to:TE)(t:TA):TE:=λσ H Q=>to σ H λx H1=>uy K T x H1/\t σ H1 λxs H2=>r x xs H2 Q
variable{o e:Expr}{es:LL}{to:TE}{t:TA}{name:Str}{apos cpos:Pos}{T id:String}{r:V->LB->Hp->VK->Prop}
theorem Hb(pa:PlainAttrs T)(slot:Slot T name id)(J:typeOf (.builtin id)=pure (.type "method_descriptor")) (W:G7 X id r) (Z:PE X o to)
  (F:attributeBase o name X.env (eval o X.env)=eval o X.env:=by rfl) (hline:(apos.endLine==cpos.line)=true:=by rfl):PE X (.Call (.Attribute o name apos) [] [] cpos) (Bn X.K T r to):=by
 intro pins s σ H Q I h
 refine wpAny_Call_method0_late F hline (bz (Z pins s σ H _ I h) λv Y ⟨x,H1,O,U,ty,q1⟩=>?_)
 obtain⟨h1,h2⟩:=AH O U ty
 exact⟨T,id,pa,slot,J,h1,h2,zbt rfl (PySem.evalArgs_none (W pins Y σ H1 x [] v [] Q O U .nil q1))⟩
theorem Jh(pa:PlainAttrs T)(slot:Slot T name id)(J:typeOf (.builtin id)=pure (.type "method_descriptor")) (Y:G7 X id r) (ho:PE X o to) (ha:PA X (e::es) t)
  (F:attributeBase o name X.env (eval o X.env)=eval o X.env:=by rfl)
  (hfew:((backTo cpos (starEach (e::es) X.env)).all (λx=>!x.1)&&(backToKw cpos (keywordEach [] X.env)).all (λx=>x.1.isSome)
   && decide ((e::es).length+([]:List Keyword).length+(if ([]:List Keyword).isEmpty then 0 else 1)<30))=true:=by rfl)
  (hline:(apos.endLine==cpos.line)=true:=by rfl) (hs:starEach (e::es) X.env=(false,eval e X.env)::starEach es X.env:=by rfl) (hplain:(backTo cpos (starEach es X.env)).any (·.1)=false:=by rfl) :
  PE X (.Call (.Attribute o name apos) (e::es) [] cpos) (Hg X.K T r to t):=by
 intro pins s σ H Q I h
 refine wpAny_Call_method_late F hfew hline rfl (bz (ho pins s σ H _ I h) λv s1 ⟨x,H1,U,W,ty,Z⟩=>?_)
 obtain⟨h1,h2⟩:=AH U W ty
 refine⟨T,id,pa,slot,J,h1,h2,?_⟩
 have O:=ha cpos pins s1 σ H1 _ U Z;rw[hs]at O |-
 refine zbt (by show (false||(backTo cpos (starEach es X.env)).any (·.1))=false;rw[hplain]<;>rfl) (Calls.evalArgs_plain ?_)
 exact bz O λus s2 ⟨vs,H2,I2,r2,q2⟩=>Y pins s2 σ H2 x vs v us Q I2 W r2 q2
end
def Hr(X:Cx)(id:String)(r:V->LB->Hp->VK->Prop):Prop:=
 ∀(pins:List (Addr×Obj)) (s:Shared) (σ : St) (H:Hp) (x:V) (xs:LB) (v:Value) (us:LD) (Q:VK),Inv X pins σ H s->RelV x v->A1 xs us->r x xs H Q->
  wpAny (model X.prog X.w) X.A (call (.builtin id) (v::us)) (EP X pins σ Q) X.xe s
theorem A1.cons_at{x:V}{xs:LB}{F:LD}(h:A1 (x::xs) F):∃u vs,F=u::vs/\RelV x u/\A1 xs vs:=by
 cases h with
 | cons r q=>exact⟨_,_,rfl,r,q⟩
theorem A1.one{x:V}{F:LD}(h:A1 [x] F):∃u,F=[u]/\RelV x u:=by
 obtain⟨u,vs,rfl,r,q⟩:=h.cons_at
 cases q;exact⟨u,rfl,r⟩
theorem A1.zero:∀ {F:LD},A1 [] F->F=[]
 | _,.nil=>rfl
theorem A1.dropLast{xs:LB}{F:LD}(h:A1 xs F):A1 xs.dropLast F.dropLast:=by
 induction h with
 | nil=>exact .nil
 | cons r t ih=>
  cases t with
  | nil=>exact .nil
  | cons q t'=>exact .cons r ih
theorem yz{α:Type}(l:List α):l.eraseIdx (l.length-1)=l.dropLast:=by
 induction l with
 | nil=>rfl
 | cons a r ih=>
  cases r with
  | nil=>rfl
  | cons b r=>
   have e:(a::b::r).length-1=((b::r).length-1)+1:=by
    have h1:(a::b::r).length=r.length+2:=rfl
    have h2:(b::r).length=r.length+1:=rfl
    lia
   rw[e,List.eraseIdx_cons_succ,ih]
   all_goals rfl
section
variable{X:Cx}{pins:List (Addr×Obj)}{σ:St}{H:Hp}{s:Shared}{l b:Addr}{xs ys zs:LB}
theorem Inv.lset{F its':LD}{n:Nat}{f:LM->LM}{t':Nat}(I:Inv X pins σ H s)(U:H l=some (.lst xs))
  (e:s.heap.get? l=some {cls:=.type "list",data:=.seq F.toArray n}) (hf:f F.toArray=its'.toArray) (hv:A1 ys its') (hz:ys.length<=sizeLine) :
  Inv X pins σ (upd H l (.lst ys)) {s with heap:=s.heap.update l (Obj.mapSeq f),toks:=t'}:=by
 have q:=IsL.update e f;rw[hf]at q
 refine I.write (x:=l) (e:=l) (by rw[U];exact trivial) (.inl rfl) (λW u J O=>(za1 s.heap (Obj.mapSeq f) (mS J)).trans O) ⟨_,q⟩ ?_
 exact⟨hz,its',_,hv,q⟩
theorem Inv.lnew{F:LD}{t':Nat}(I:Inv X pins σ H s)(hv:A1 ys F)(hz:ys.length<=sizeLine) :
  Inv X pins σ (upd H s.heap.objs.size (.lst ys)) {s with heap:=s.heap.push {cls:=.type "list",data:=.seq F.toArray},toks:=t'}:=
 I.laid (λ_ _ q=>wR _ q) (qt _) ⟨hz,F,0,hv,yk _ rfl⟩
theorem Inv.fresh(I:Inv X pins σ H s):H s.heap.objs.size=none:=I.hok.fresh (qt _)
theorem Inv.lstM(I:Inv X pins σ H s)(J:H l=some (.lst xs)):xs.length<=sizeLine/\∃(F:LD) (n:Nat),A1 xs F/\xs.length=F.length/\s.heap.get? l=some {cls:=.type "list",data:=.seq F.toArray n}:=by
 obtain⟨z,F,n,r,e⟩:=I.hok l _ J
 exact⟨z,F,n,r,r.length,e⟩
theorem Bi{n:Nat}(h:n<=sizeLine):Builtin.List.listTooLong n=false:=by
 unfold Builtin.List.listTooLong;exact decide_eq_false (by lia)
end
section
variable{X:Cx}
def nj:V->LB->Hp->VK->Prop:=λx vs H Q=>∃l xs y,x = .ref l/\vs=[y]/\H l=some (.lst xs)/\xs.length<sizeLine/\Q .non (upd H l (.lst (xs++[y])))
theorem oY:Hr X "list.append" nj:=by
 intro pins s σ H x vs v Z Q I Y W h
 obtain⟨l,xs,y,rfl,rfl,O,hz,q⟩:=h
 cases Y;obtain⟨u,rfl,U⟩:=W.one
 obtain⟨z,J,n,r,hl,e⟩:=I.lstM O
 refine call_meets F.slot_list_append ⟨_,e,rfl⟩ F.entry_list_append (F.args_list_append_2 _ _) (PySem.list_append l J.toArray n u (by rw[xo];lia)) ⟨e,?_⟩
 refine⟨.non,_,I.lset (its':=J++[u]) O e (by simp) (r.append (.cons U .nil)) ?_,rfl,q⟩
 rw[qL,List.length_singleton];lia
def kK:V->LB->Hp->VK->Prop:=λx vs H Q=>∃l b xs zs,x = .ref l/\vs=[.ref b]/\H l=some (.lst xs)/\H b=some (.lst zs)/\xs.length+zs.length<=sizeLine/\Q .non (upd H l (.lst (xs++zs)))
theorem yQ:Hr X "list.extend" kK:=by
 intro pins s σ H x vs v us Q I rx rv h
 obtain⟨l,b,xs,zs,rfl,rfl,W,Y,hz,q⟩:=h
 cases rx;obtain⟨u,rfl,ru⟩:=rv.one
 cases ru;obtain⟨z,O,n,r,hl,e⟩:=I.lstM W
 obtain⟨z2,J,Z,r2,ab,e2⟩:=I.lstM Y
 have hsz:O.toArray.size+J.toArray.size<=sizeLine:=by rw[xo,xo];lia
 have U:¬ (!O.toArray.isEmpty&&Builtin.List.listTooLong (O.toArray.size+J.toArray.size))=true:=by
  rw[Bi hsz,Bool.and_false];exact xN
 refine call_meets F.slot_list_extend ⟨_,e,rfl⟩ F.entry_list_extend (F.args_list_extend_2 _ _)
  (AutoSeq1.list_extend_list_list_0 l O.toArray n b J.toArray Z U (by rw[xo];lia) (by lia)) ⟨e,e2,?_⟩
 refine⟨.non,_,I.lset (its':=O++J) W e (by simp) (r.append r2) ?_,rfl,q⟩
 rw[qL];lia
def CC:V->LB->Hp->VK->Prop:=λx vs H Q=>∃l xs y,x = .ref l/\vs=[]/\H l=some (.lst xs)/\xs[xs.length-1]?=some y/\Q y (upd H l (.lst xs.dropLast))
theorem Gu:Hr X "list.pop" CC:=by
 intro pins s σ H x vs v us Q I rx Y h
 obtain⟨l,xs,y,rfl,rfl,W,hy,q⟩:=h
 cases rx;have U:=Y.zero;subst U;obtain⟨z,J,n,r,hl,e⟩:=I.lstM W
 obtain⟨u,hu,Z⟩:=r.get hy
 have O:J.toArray[J.toArray.size-1]?=some u:=by
  show J.toArray[J.length-1]?=some u
  rw[<-Ib,<-hl];exact hu
 refine call_meets F.slot_list_pop ⟨_,e,rfl⟩ F.entry_list_pop (F.args_list_pop_1 _) (MeetsSeq.list_pop_last l J.toArray n u O (by rw[xo];lia)) ⟨e,?_⟩
 refine⟨y,_,I.lset (its':=J.dropLast) W e ?_ r.dropLast ?_,Z,q⟩
 .show J.toArray.eraseIdxIfInBounds (J.toArray.size-1)=J.dropLast.toArray
  rw[xo,List.eraseIdxIfInBounds_toArray,yz]
 .rw[List.length_dropLast]
  lia
def On:R2:=λx y H Q=>∃l b xs zs,x = .ref l/\y = .ref b/\H l=some (.lst xs)/\H b=some (.lst zs)/\xs.length+zs.length<=sizeLine/\∀p,H p=none->Q (.ref p) (upd H p (.lst (xs++zs)))
theorem Gy:FS X (binaryOp .Add) On:=by
 intro pins s σ H x y v u Q I rx O h
 obtain⟨l,b,xs,zs,rfl,rfl,hH,U,hz,q⟩:=h
 cases rx
 cases O;obtain⟨z,J,n,r,hl,e⟩:=I.lstM hH
 obtain⟨z2,F,n2,W,ab,Z⟩:=I.lstM U
 refine P.add_list e Z ?_ (by rw[xo,xo];lia)
 have Y:J.toArray++F.toArray=(J++F).toArray:=by simp
 rw[Y];exact⟨.ref _,_,I.lnew (t':=s.toks) (r.append W) (by rw[qL];lia),rfl,q _ I.fresh⟩
end
section
variable{κ:Type}[DecidableEq κ]
noncomputable def bT(kvs:List (κ×V))(k:κ):LK:=(kvs.find? λkv=>decide (kv.1=k)).map (·.2)
noncomputable def cX(kvs:List (κ×V))(k:κ)(v:V):List (κ×V):=
 if (kvs.any λkv=>decide (kv.1=k))=true then kvs.map (λkv=>if kv.1=k then (kv.1,v) else kv) else kvs++[(k,v)]
theorem dn{p:κ×V}{r:List (κ×V)}{k:κ}(e:p.1=k):bT (p::r) k=some p.2:=by simp[bT,zaS,e]
theorem dq{p:κ×V}{r:List (κ×V)}{k:κ}(e:¬ p.1=k):bT (p::r) k=bT r k:=by simp[bT,zaS,e]
theorem ir(k:κ):∀kvs:List (κ×V),(kvs.any λkv=>decide (kv.1=k))=(bT kvs k).isSome
 | []=>rfl
 | p::r=>by
  rw[za2]
  by_cases e:p.1=k
  .simp only[dn e,decide_eq_true e,Bool.true_or,Option.isSome_some]
  .rw[dq e,decide_eq_false e,Bool.false_or];exact ir k r
theorem tm(k j:κ)(y:V):∀kvs:List (κ×V),bT (kvs.map λkv=>if kv.1=k then (kv.1,y) else kv) j=(bT kvs j).map λx=>if j=k then y else x
 | []=>rfl
 | p::r=>by
  have ih:=tm k j y r;rw[yj]
  by_cases h:p.1=k
  .rw[Kx h]
   by_cases e:p.1=j
   .rw[dn (p:=(p.1,y)) e,dn e,Option.map_some,Kx (e.symm.trans h)]
   .rw[dq (p:=(p.1,y)) e,dq e,ih]
  .rw[Kt h]
   by_cases e:p.1=j
   .rw[dn (p:=p) e,dn e,Option.map_some,Kt (λz=>h (e.trans z))]
   .rw[dq (p:=p) e,dq e,ih]
theorem pz(k j:κ)(y:V):∀kvs:List (κ×V),bT kvs k=none->bT (kvs++[(k,y)]) j=if j=k then some y else bT kvs j
 | [],_=>by
  by_cases e:k=j
  .rw[Kx e.symm];exact dn (p:=(k,y)) e
  .rw[Kt (λz=>e z.symm)];exact dq (p:=(k,y)) e
 | p::r,hn=>by
  rw[HJ];have F:¬ p.1=k:=λz=>by rw[dn z]at hn;cases hn
  rw[dq F]at hn
  have ih:=pz k j y r hn
  by_cases e:p.1=j
  .rw[dn e,dn e,Kt (λz=>F (e.trans z))]
  .rw[dq e,dq e,ih]
theorem jp(kvs:List (κ×V))(k j:κ)(y:V):bT (cX kvs k y) j=if j=k then some y else bT kvs j:=by
 unfold cX
 by_cases a:(kvs.any λkv=>decide (kv.1=k))=true
 .rw[Kx a,tm]
  rw[ir]at a
  by_cases e:j=k
  .obtain⟨x,hx⟩:=Option.isSome_iff_exists.mp a
   rw[Kx e,e,hx,Option.map_some,Kx rfl]
  .rw[Kt e]
   cases bT kvs j with
   | none=>rfl
   | some x=>rw[Option.map_some,Kt e]
 .rw[Kt a]
  refine pz k j y kvs ?_
  rw[ir]at a
  cases q:bT kvs k with
  | none=>rfl
  | some x=>rw[q]at a;exact(a rfl).elim
theorem lv(kvs:List (κ×V))(k:κ)(v:V):(cX kvs k v).length<=kvs.length+1:=by
 unfold cX;split
 .rw[zj];lia
 .rw[qL,qY,yi];lia
theorem Cr{kvs:List (κ×V)}{k:κ}(v:V)(h:bT kvs k=none):cX kvs k v=kvs++[(k,v)]:=by
 unfold cX;rw[ir,h];exact Kt (by decide)
theorem GB.isSome_eq{o:LK}{u:LF}(r:GB o u):o.isSome=u.isSome:=by
 cases o with
 | none=>cases u with
  | none=>rfl
  | some _=>exact(show False from r).elim
 | some _=>cases u with
  | none=>exact(show False from r).elim
  | some _=>rfl
theorem GB.getD{o:LK}{u:LF}{d:V}{d':Value}(r:GB o u)(F:RelV d d'):RelV (o.getD d) (u.getD d'):=by
 cases o with
 | none=>cases u with
  | none=>exact F
  | some _=>exact(show False from r).elim
 | some _=>cases u with
  | none=>exact(show False from r).elim
  | some _=>exact r
theorem KV.val{kvs:List (κ×V)}{vs:List (κ×Value)}(r:KV kvs vs)(k:κ):GB (bT kvs k) (valueAt vs k):=by
 unfold KV at r
 induction r with
 | nil=>exact True.intro
 | @cons p q ps qs h t ih=>
  obtain⟨h1,h2⟩:=h
  by_cases e:p.1=k
  .have F:q.1=k:=h1.symm.trans e
   have b:valueAt (q::qs) k=some q.2:=by simp[valueAt,zaS,F]
   rw[dn e,b];exact h2
  .have F:¬ q.1=k:=λz=>e (h1.trans z)
   have b:valueAt (q::qs) k=valueAt qs k:=by simp[valueAt,zaS,F]
   rw[dq e,b];exact ih
theorem KV.any{kvs:List (κ×V)}{vs:List (κ×Value)}(r:KV kvs vs)(k:κ):(kvs.any λkv=>decide (kv.1=k))=vs.any λkv=>decide (kv.1=k):=by
 unfold KV at r
 induction r with
 | nil=>rfl
 | cons h t ih=>rw[za2,za2,ih,h.1]
theorem KV.repl{kvs:List (κ×V)}{vs:List (κ×Value)}(r:KV kvs vs)(k:κ){y:V}{u:Value}(F:RelV y u) :
  KV (kvs.map λkv=>if kv.1=k then (kv.1,y) else kv) (vs.map λkv=>if kv.1=k then (kv.1,u) else kv):=by
 unfold KV at r |-
 induction r with
 | nil=>exact .nil
 | @cons p q ps qs h t ih=>
  rw[yj,yj];refine .cons ?_ ih
  obtain⟨h1,h2⟩:=h
  by_cases e:p.1=k
  .rw[Kx e,Kx (h1.symm.trans e)];exact⟨h1,F⟩
  .rw[Kt e,Kt (λz=>e (h1.trans z))];exact⟨h1,h2⟩
theorem KV.put{kvs:List (κ×V)}{vs:List (κ×Value)}(r:KV kvs vs)(k:κ){y:V}{u:Value}(F:RelV y u):KV (cX kvs k y) (stored vs k u):=by
 unfold cX stored;rw[r.any k]
 by_cases e:(vs.any λkv=>decide (kv.1=k))=true
 .rw[Kx e,Kx e];exact r.repl k F
 .rw[Kt e,Kt e];exact Paired.snoc r ⟨rfl,F⟩
theorem KV.length{kvs:List (κ×V)}{vs:List (κ×Value)}(r:KV kvs vs):kvs.length=vs.length:=zaO r
end
theorem p_{P:Program}{w:World}{k:aL}{u:Value}(r:RelV (kV k) u):(cQ P w).is k u=true:=by
 cases k with
 | inl i=>obtain⟨t,e⟩:=(show ∃t,u=Value.int i t from r);subst e;exact uA P w i t
 | inr x=>obtain⟨t,e⟩:=(show ∃t,u=Value.str x t from r);subst e;exact uG P w x t
theorem oK{P:Program}{w:World}:∀ {ks:List aL} {F:LD},A1 (ks.map kV) F->ItemsAre (cQ P w) ks F
 | [],_,r=>by rw[IH]at r;cases r;exact .nil
 | k::ks,_,r=>by
  rw[yj]at r
  cases r with
  | cons h t=>exact .cons (p_ h) (oK t)
abbrev KT (H:Hp):List (List aL×V)->List (List aL×Addr×Value)->Prop:=Paired λp q=>p.1=q.1/\H q.2.1=some (.tup (p.1.map kV))/\RelV p.2 q.2.2
theorem KT.val{H:Hp}{kvs:List (List aL×V)}{xs:List (List aL×Addr×Value)}(r:KT H kvs xs)(k:List aL):GB (bT kvs k) ((atKey xs k).map (·.2)):=by
 induction r with
 | nil=>exact True.intro
 | @cons p q ps qs h t ih=>
  obtain⟨h1,_,h2⟩:=h
  by_cases e:p.1=k
  .have F:q.1=k:=h1.symm.trans e
   have b:atKey (q::qs) k=some q.2:=by simp[atKey,zaS,F]
   rw[dn e,b];exact h2
  .have F:¬ q.1=k:=λz=>e (h1.trans z)
   have b:atKey (q::qs) k=atKey qs k:=by simp[atKey,zaS,F]
   rw[dq e,b];exact ih
theorem KT.repl{H:Hp}{kvs:List (List aL×V)}{xs:List (List aL×Addr×Value)}(r:KT H kvs xs)(k:List aL){y:V}{u:Value}(J:RelV y u) :
  KT H (kvs.map λkv=>if kv.1=k then (kv.1,y) else kv) (xs.map (putAt k u)):=by
 induction r with
 | nil=>exact .nil
 | @cons p q ps qs h t ih=>
  rw[yj,yj];refine .cons ?_ ih
  obtain⟨h1,h2,F⟩:=h
  unfold putAt
  by_cases e:p.1=k
  .rw[Kx e,Kx (h1.symm.trans e)];exact⟨h1,h2,J⟩
  .rw[Kt e,Kt (λz=>e (h1.trans z))];exact⟨h1,h2,F⟩
theorem KT.put{kvs:List (List aL×V)}{xs:List (List aL×Addr×Value)}(r:KT H kvs xs)(k:List aL){b:Addr}{y:V}{u:Value}(J:H b=some (.tup (k.map kV)))(F:RelV y u) :
  KT H (cX kvs k y) (storedH xs k b u):=by
 have e:(kvs.any λkv=>decide (kv.1=k))=(atKey xs k).isSome:=by
  rw[ir,(r.val k).isSome_eq,Option.isSome_map]
 unfold cX storedH;rw[e]
 by_cases q:(atKey xs k).isSome=true
 .rw[Kx q,Kx q];exact r.repl k F
 .rw[Kt q,Kt q];exact Paired.snoc r ⟨rfl,J,F⟩
theorem KT.keeps{H':Hp}{kvs:List (List aL×V)}{xs:List (List aL×Addr×Value)}(r:KT H kvs xs)(F:∀b ys,H b=some (.tup ys)->H' b=some (.tup ys)):KT H' kvs xs:=
 Paired.mapP r λ_ _ z=>⟨z.1,F _ _ z.2.1,z.2.2⟩
section
variable{P:Program}{w:World}{H:Hp}{h:Heap}{a:Addr}
theorem DA{u:HO}(ok:Gv P w H h)(e:Rd H a u):BC P w H h a u:=e.ok ok
theorem qh{kvs:List (aL×V)}(ok:Gv P w H h)(e:Rd H a (.dK kvs)):kvs.length<=sizeLine/\(a==sysModules)=false/\∃vs,KV kvs vs/\h.DictOf (cQ P w) a vs:=
 show BC P w H h a (.dK kvs) from DA ok e
theorem JB{kvs:List (aL×V)}(ok:Gv P w H h)(e:H a=some (.dK kvs)):kvs.length<=sizeLine/\(a==sysModules)=false/\∃vs,KV kvs vs/\h.DictOf (cQ P w) a vs:=qh ok (.inl e)
theorem rm{ks:List aL}(ok:Gv P w H h)(e:H a=some (.tup (ks.map kV))):(tupleKind (cQ P w)).is h ks a:=by
 obtain⟨_,F,r,o,h1,h2,_,n,J⟩:=(show BC P w H h a (.tup (ks.map kV)) from ok a _ e)
 exact⟨o,F.toArray,n,h1,h2,J,by simpa using oK r⟩
theorem D_{kvs:List (List aL×V)}(ok:Gv P w H h)(e:Rd H a (.dT kvs)):kvs.length<=sizeLine/\(a==sysModules)=false/\
  ∃xs,KT H kvs xs/\h.DictOfH (tupleKind (cQ P w)) a xs:=by
 obtain⟨z,y,xs,r,o,es,ep,h1,h2,J,F,O⟩:=(show BC P w H h a (.dT kvs) from DA ok e)
 refine⟨z,y,xs,r,o,es,ep,h1,h2,J,F,λx hx=>?_,O⟩
 have all:∀ {l:List (List aL×V)} {m:List (List aL×Addr×Value)},KT H l m->∀x∈m,(tupleKind (cQ P w)).is h x.1 x.2.1:=by
  intro l m q
  induction q with
  | nil=>intro x hx;exact nomatch hx
  | @cons p q ps qs hq t ih=>
   intro x hx
   rcases KC.mp hx with e | hx
   .subst e
    exact rm ok (by rw[<-hq.1];exact hq.2.1)
   .exact ih x hx
 exact all r x hx
theorem Ji{kvs:List (List aL×V)}(ok:Gv P w H h)(e:H a=some (.dT kvs)):kvs.length<=sizeLine/\(a==sysModules)=false/\
  ∃xs,KT H kvs xs/\h.DictOfH (tupleKind (cQ P w)) a xs:=D_ ok (.inl e)
end
def IL(H:Hp)(a:Addr)(y:V)(r:LK):Prop:=
 (∃kvs k,Rd H a (.dK kvs)/\y=kV k/\r=bT kvs k)\/∃kvs k b,Rd H a (.dT kvs)/\y = .ref b/\H b=some (.tup (k.map kV))/\r=bT kvs k
def G2(H:Hp)(a:Addr)(y v:V)(H':Hp):Prop:=
 (∃kvs k,H a=some (.dK kvs)/\y=kV k/\kvs.length<sizeLine/\H'=upd H a (.dK (cX kvs k v)))\/
 ∃kvs k b,H a=some (.dT kvs)/\y = .ref b/\H b=some (.tup (k.map kV))/\kvs.length<sizeLine/\H'=upd H a (.dT (cX kvs k v))
theorem IL.t{a b:Addr}{kvs:List (List aL×V)}{k:List aL}(e:H a=some (.dT kvs))(F:H b=some (.tup (k.map kV))):IL H a (.ref b) (bT kvs k):=.inr ⟨kvs,k,b,.inl e,rfl,F,rfl⟩
theorem G2.k{a:Addr}{kvs:List (aL×V)}{k:aL}{v:V}(e:H a=some (.dK kvs))(hl:kvs.length<sizeLine):G2 H a (kV k) v (upd H a (.dK (cX kvs k v))):=.inl ⟨kvs,k,e,rfl,hl,rfl⟩
theorem G2.t{a b:Addr}{kvs:List (List aL×V)}{k:List aL}{v:V}(e:H a=some (.dT kvs))(F:H b=some (.tup (k.map kV)))(hl:kvs.length<sizeLine) :
  G2 H a (.ref b) v (upd H a (.dT (cX kvs k v))):=.inr ⟨kvs,k,b,e,rfl,F,hl,rfl⟩
section
variable{X:Cx}{pins:List (Addr×Obj)}{σ:St}{H:Hp}{s:Shared}{a:Addr}{y v:V}{u r:Value}{o:LK}{A:Around}{E:KY}
theorem Inv.big(I:Inv X pins σ H s):sysModules<s.heap.objs.size:=by
 have h:mainGlobals<s.heap.objs.size:=(I.mod.glob.keeps I.bk).lt
 exact Nat.lt_trans (by decide) h
theorem Fc{Q:KY}(U:A.units+1<cLine)(I:Inv X pins σ H s)(g:IL H a y o)(O:RelV y u)(h:∀s',Inv X pins σ H s'->Q (.bool (!o.isSome)) s') :
  wpAny (model X.prog X.w) A (compareOp .NotIn u (.ref a)) Q E s:=by
 rcases g with ⟨kvs,k,e,J,l⟩ | ⟨kvs,k,b,e,J,W,l⟩
 .subst J
  obtain⟨z,hd,vs,F,dd⟩:=qh I.hok e
  refine wpAny_notIn_of (p_ O) hd dd.mapOf ?_
  rw[<- (F.val k).isSome_eq,<-l];exact h _ (I.tok _)
 .subst J
  cases (show u=Value.ref b from O)
  obtain⟨z,hd,xs,F,dd⟩:=D_ I.hok e
  refine wpAny_notIn_heap (tupleKind_room_in1 U) (rm I.hok W) hd dd ?_
  have q:=(F.val k).isSome_eq;rw[Option.isSome_map]at q
  rw[<-q,<-l];exact h _ (I.tok _)
theorem v6{h':Heap}{t':Nat}{F:HO}(I:Inv X pins σ H s)(O:zp (H a))(J:Heap.SameBut a s.heap h')(W:∃q,h'.get? a=some q)(new:BC X.prog X.w (upd H a F) h' a F) :
  Inv X pins σ (upd H a F) {s with heap:=h',toks:=t'}:=
 I.write (x:=a) (e:=a) O (.inl rfl) (λb q U z=>(J.2 b U).trans z) W new
theorem Ig{P:Program}{w:World}{H':Hp}{h':Heap}{kvs:List (aL×V)}{vs:List (aL×Value)}(z:kvs.length<=sizeLine)(hd:(a==sysModules)=false)(F:KV kvs vs)(dd:h'.DictOf (cQ P w) a vs) :
  BC P w H' h' a (.dK kvs):=⟨z,hd,vs,F,dd⟩
theorem oy{H':Hp}{Q:Unit->Shared->Prop}(hu:A.units+1<cLine)(I:Inv X pins σ H s)(g:G2 H a y v H')(Z:RelV y u)(rv:RelV v r)(h:∀s',Inv X pins σ H' s'->Q () s') :
  wpAny (model X.prog X.w) A (setItem (.ref a) u r) Q E s:=by
 rcases g with ⟨kvs,k,e,W,l,Y⟩ | ⟨kvs,k,b,e,W,eb,l,Y⟩
 .subst W Y
  obtain⟨z,hd,vs,F,dd⟩:=JB I.hok e
  have hz:vs.length<=sizeLine:=by rw[<-F.length];exact z
  have hl:(cX kvs k v).length<=sizeLine:=by have:=lv kvs k v;lia
  refine wpAny_setItem_pairs (hsz:=hz) (p_ Z) dd λh' J U=>h _ ?_
  have he:∃q,h'.get? a=some q:=let ⟨q,_,_,O,_⟩:=J;⟨q,O⟩
  exact v6 I (by rw[e];exact True.intro) U he (Ig hl hd (F.put k rv) J)
 .subst W Y
  cases (show u=Value.ref b from Z)
  obtain⟨z,hd,xs,F,dd⟩:=Ji I.hok e
  have hz:xs.length<=sizeLine:=by rw[<-zaO F];exact z
  have hl:(cX kvs k v).length<=sizeLine:=by have:=lv kvs k v;lia
  refine wpAny_setItem_heap (hsz:=hz) (tupleKind_room_in1 hu) (rm I.hok eb) dd λh' J U=>h _ ?_
  obtain⟨q,es,ep,O,h2,h3,h4,_,h5⟩:=J
  refine v6 I (by rw[e];exact True.intro) U ⟨q,O⟩ ⟨hl,hd,_,(F.put k eb rv).keeps λc ys ec=>?_,q,es,ep,O,h2,h3,h4,h5⟩
  rw[au (cT ec e (λz=>nomatch z))]
  exact ec
end
theorem CA{P:Program}{w:World}(h:Heap)(F:sysModules<h.objs.size):BC P w H (h.push {cls:=.type "dict",data:=.dict #[]}) h.objs.size (.dK []):=
 ⟨xR _,beq_eq_false_iff_ne.mpr (mS (xa F)),[],.nil,Heap.DictOf.new h⟩
theorem Br{P:Program}{w:World}(h:Heap)(F:sysModules<h.objs.size):BC P w H (h.push {cls:=.type "dict",data:=.dict #[]}) h.objs.size (.dT []):=
 ⟨xR _,beq_eq_false_iff_ne.mpr (mS (xa F)),[],.nil,_,#[],0,yk _ rfl,⟨rfl,rfl,rfl⟩,rfl,rfl,IM⟩
def Hs:TE:=λ_ H Q=>∀p,H p=none->Q (.ref p) (upd H p (.dK []))
def IT:TE:=λ_ H Q=>∀p,H p=none->Q (.ref p) (upd H p (.dT []))
section
variable{X:Cx}{pos:Pos}
theorem qT:PE X (.Dict [] [] pos) Hs:=λpins s σ H Q I h=>
 wpAny_Dict_empty ⟨.ref s.heap.objs.size,_,I.laid (a:=s.heap.objs.size) (o:=.dK []) (t':=s.toks) (λ_ _ q=>wR _ q) (qt _) (CA s.heap I.big),rfl,h _ (I.hok.fresh (qt _))⟩
theorem rT:PE X (.Dict [] [] pos) IT:=λpins s σ H Q I h=>
 wpAny_Dict_empty ⟨.ref s.heap.objs.size,_,I.laid (a:=s.heap.objs.size) (o:=.dT []) (t':=s.toks) (λ_ _ q=>wR _ q) (qt _) (Br s.heap I.big),rfl,h _ (I.hok.fresh (qt _))⟩
end
def jT:List (TE×TE)->St->Hp->(List (V×V)->Hp->Prop)->Prop
 | [],_,H,Q=>Q [] H
 | (tk,tv)::r,σ,H,Q=>tk σ H λx H1=>tv σ H1 λy H2=>jT r σ H2 λps H3=>Q ((x,y)::ps) H3
abbrev VV:List (V×V)->List (Value×Value)->Prop:=Paired λp q=>RelV p.1 q.1/\RelV p.2 q.2
def PPs(X:Cx)(pos:Pos)(keys:List (Option Expr))(values:LL)(trs:List (TE×TE)):Prop:=
 ∀(pins:List (Addr×Obj)) (s:Shared) (σ : St) (H:Hp) (Q:List (V×V)->Hp->Prop),Inv X pins σ H s->jT trs σ H Q->
  wpAny (model X.prog X.w) X.A (evalPairs (pairTrees keys values X.env pos)) (λvs s'=>∃ps H',Inv X pins σ H' s'/\VV ps vs/\Q ps H') X.xe s
structure M1 (X:Cx) (o:Expr) (m:Str) (apos:Pos) (e:Expr) (cpos:Pos):Prop where
 base:attributeBase o m X.env (eval o X.env)=eval o X.env
 few:((backTo cpos (starEach [e] X.env)).all (λx=>!x.1)&&(backToKw cpos (keywordEach [] X.env)).all (λx=>x.1.isSome)
  && decide (([e]:LL).length+([]:List Keyword).length+(if ([]:List Keyword).isEmpty then 0 else 1)<30))=true
 line:(apos.endLine==cpos.line)=true
 trees:backTo cpos (starEach [e] X.env)=[(false,eval e X.env)]
structure M2 (X:Cx) (o:Expr) (m:Str) (apos:Pos) (e f:Expr) (cpos:Pos):Prop where
 base:attributeBase o m X.env (eval o X.env)=eval o X.env
 few:((backTo cpos (starEach [e,f] X.env)).all (λx=>!x.1)&&(backToKw cpos (keywordEach [] X.env)).all (λx=>x.1.isSome)
  && decide (([e,f]:LL).length+([]:List Keyword).length+(if ([]:List Keyword).isEmpty then 0 else 1)<30))=true
 line:(apos.endLine==cpos.line)=true
 trees:backTo cpos (starEach [e,f] X.env)=[(false,eval e X.env),(false,eval f X.env)]
end L2
namespace Att
open PySem PySem.W PySem.Calls PyProof.Rows
theorem mN{P:Params}{h:Heap}:∀(ns:LJ) (vs:LD),WellAll P h vs (ns.map WData.int)->IntsAre vs ns:=by
 intro ns
 induction ns with
 | nil=>
  intro vs w
  rw[List.map_nil]at w
  cases w;exact .nil
 | cons n ns ih=>
  intro vs w
  rw[List.map_cons]at w
  cases w with
  | cons a b=>
   cases a;exact .cons _ _ (ih _ b)
theorem Al{l:OpenLaw}{n:Nat}(hn:l.most=some n){P:Params}{h:Heap}{args:List WData}{F:LD}
  (J:l.row.toRowW.claim.pre args=true) (Z:WellAll P h F args) :
  ∃a vs ns,F=[Value.ref a]/\args=[WData.list (ns.map WData.int)]/\h.get? a=some {cls:=.type "list",data:=.seq vs.toArray}/\IntsAre vs ns/\ns.length<=n:=by
 have Y:WShape.hasAll [] args [.list .int]=true:=(pre_splitW J).1
 have hc:l.pre.holds [] {args:=args}=true:=(pre_splitW J).2
 obtain⟨d,r,rfl,h1,h2⟩:=hasAllW_cons Y
 obtain rfl:=hasAllW_nil h2
 obtain⟨xs,rfl,h3⟩:=hasW_list h1
 obtain⟨ns,rfl⟩:=items_int h3
 have O:ns.length<=n:=by
  unfold OpenLaw.pre at hc
  have W:(WTm.not (.lt (.lit (.int (n:Int))) (.len (.arg 0)))).holds [] {args:=[.list (ns.map .int)]}=true:=by
   have W:=(holds_andW hc).1;rw[hn]at W
   exact W
  have U:=condW_of W (w_not (w_lt w_lit (w_len_list (w_arg rfl))));rw[List.length_map]at U
  refine Nat.le_of_not_lt λq=>?_
  have q':(n:Int)<((ns.length:Nat):Int):=by lia
  first
   | (rw[decide_eq_true q']at U;exact absurd U (by decide))
   | (simp at U;lia)
 cases Z with
 | cons w1 w2=>
  cases w2
  cases w1 with
  | list ho hall=>exact⟨_,_,ns,rfl,rfl,ho,mN ns _ hall,O⟩
theorem Ab(l:OpenLaw)(args:List WData):l.row.toRowW.claim.post args (.bool true) args=true:=
 postW_of (r:=l.row.toRowW) (X:=(true==true))
  (show WShape.has [] (.bool true) .bool=true by first | rfl | decide | simp[WShape.has,WShape.arms,WShape.armsAll])
  (show (WTm.eq .res (.lit (.bool true))).value [] {args:=args,res:=some (.bool true),after:=args}=some (.bool (true==true)) from w_eq_bool (w_res rfl) w_lit) rfl
theorem attach_call{l:OpenLaw}{n:Nat}{q:Program}{loose:KZ}{XP:(Str->LF)->Heap->Prop}{YP:World->Heap->Prop}{d:DefRec}
  (hn:l.most=some n) (ad:d.params.defaults=[])
  (call:∀(w:World) (s₀ F:Shared) (mg mb:Str->LF) (fa:Addr) (o:Obj) (pm cd O:Value) (a:Addr) (vs:LD) (ns:LJ),
   Ground q loose [] XP w s₀ mg mb F.heap->YP w F.heap->
   F.heap.get? fa=some o->o.data = .func (docDef d.name d.params d.body d.scope pm cd O)->F.heap.CodeRec cd d.name->mg d.name=some (.ref fa)->
   F.heap.get? a=some {cls:=.type "list",data:=.seq vs.toArray}->IntsAre vs ns->ns.length<=n->F.gens = #[]->
   codeAny (model l.prog w) callerA (.call (.ref fa) ⟨[.ref a],[]⟩) (λr s'=>r = .ok (.ret (.bool true))/\OldK F.heap s'.heap/\s'.os=F.os/\AllBare s'.gens) F) :
  WalkO q loose XP YP l.row.toRowW d [] (λf vs=>PySem.call f vs):=by
 intro w s₀ F mg mb G Y fa o pm cd O dV kV ho hd ab hD ac hg args a3 as W al a4 ag a5
 obtain rfl:dV = .none:=Dflts.none hD ad
 obtain rfl:kV = .none:=Dflts.noKw hD
 obtain⟨a,vs,ns,rfl,rfl,U,J,Z⟩:=Al hn W ag
 refine enter_call (codeAny_mono (call w s₀ F mg mb fa o pm cd O a vs ns G Y ho (fd_plain hd) ab ac U J Z hg) λr s' hq=>?_)
 obtain⟨rfl,h2,h3,h4⟩:=hq
 exact⟨.inl ⟨.bool true,.bool true,[],rfl,λ_=>rfl,.bool true,Ab l _,λ_=>⟨List.Pairwise.nil,λ_ hm=>(nomatch hm)⟩⟩,h2,h3,h4⟩
end Att
namespace L2
open PySem PySem.Spec PyProof.Rows
theorem jV:∀ {vs:LD} {ns:LJ},IntsAre vs ns->A1 (ns.map V.int) vs
 | _,_,.nil=>.nil
 | _,_,.cons n t h=>.cons ⟨t,rfl⟩ (jV h)
def Co(H:Hp):Prop:=∀b,H b=none\/∃o xs,H b=some (.frz o (.lst xs))
theorem Bu{P:Program}{w:World}{K:W.Frag}{mg mb:Str->LF}{CX:i7}{k:Nat}{fa a:Addr}{fd:FuncData}{x:Str}{sp:Sp}{J:Shared}{vs:LD}{ns:LJ}
  (KX:K.In J.heap) (ac:J.heap.Ns mainGlobals mg) (U:J.heap.Ns builtinsNs mb) (as:∀x:Str,x ≠ "__name__" -> mb x=bootBuiltins x) (al:J.heap.NoLimit) (hg:J.gens = #[])
  (ha:J.heap.get? a=some {cls:=.type "list",data:=.seq vs.toArray}) (hi:IntsAre vs ns) (hl:ns.length<=sizeLine) (hr:B4 k callerA)
  (F:∀base:Heap,K.In base->base.Ns mainGlobals mg->Gk P w K mg base CX k fa fd [x] sp) (hbind:∀(s:Shared) (u:Value),BindsTo s fd ⟨[u],[]⟩ [(x,u)])
  (hsp:∀H:Hp,Co H->su K H a (ns.map V.int)->sp [.ref a] H (λv _=>v = .bl true) λ_ _ _=>False)
  (hCX:∀H e s',CX [] H J (λ_ _ _=>False) e s'->False) :
  codeAny (model P w) callerA (.call (.ref fa) ⟨[.ref a],[]⟩) (λr s'=>r = .ok (.ret (.bool true))/\OldK J.heap s'.heap/\s'.os=J.os/\AllBare s'.gens) J:=by
 have rv:=jV hi;have ag:=hi.length
 -- from an abstract heap in which nothing but the script may be tracked
 have Z:∀H:Hp,Co H->su K H a (ns.map V.int)->Gv P w H J.heap->(∀b,H b≠none->b=a)->(H a≠none->K.lookup a=none)->
   codeAny (model P w) callerA (.call (.ref fa) ⟨[.ref a],[]⟩) (λr s'=>r = .ok (.ret (.bool true))/\OldK J.heap s'.heap/\s'.os=J.os/\AllBare s'.gens) J:=by
  intro H hO hS hok hA hK
  have O:∀ {b:Addr} {o:Obj},J.heap.get? b=some o->H b=none->(jz J.heap H).get? b=some o:=λe n=>Bt e n
  have a3:∀ {b:Addr} {o:Obj} {es:Array DictEntry} {ep:Nat},J.heap.get? b=some o->o.data = .dict es ep->H b=none:=λ{b o es ep} e d=>by
   cases q:H b with
   | none=>rfl
   | some u=>
    have e':b=a:=hA b (by rw[q];simp)
    subst e';rw[ha]at e;cases e
    have d':Data.seq vs.toArray _=Data.dict es ep:=d
    cases d'
  have Y:∀ {b:Addr} {m:Str->LF},J.heap.Ns b m->(jz J.heap H).Ns b m:=λ{b m} ⟨o,es,ep,e,d,r⟩=>⟨o,es,ep,O e (a3 e d),d,r⟩
  have ab:K.In (jz J.heap H):=λb o e=>O (KX b o e) (by
   cases q:H b with
   | none=>rfl
   | some u=>
    have e':b=a:=hA b (by rw[q];simp)
    subst e';rw[hK (by rw[q];simp)]at e;cases e)
  have hM:Mod K mg (jz J.heap H):=⟨ab,Y ac,⟨mb,Y U,as⟩,let ⟨mc,h1,h2⟩:=al;⟨mc,Y h1,h2⟩⟩
  have e0:G1 P w K mg (jz J.heap H) callerA [] J H:=⟨rfl,hM,λb o e=>E2 e,Nat.le_of_eq (zb _ _),trivial,λb U=>absurd (show b∈([]:LC) from U) (by simp),hok,.of_eq hg⟩
  refine codeAny_mono ((F _ ab (Y ac)).run callerA [] J H ⟨[.ref a],[]⟩ [.ref a] [.ref a] _ _ hr e0 (hbind J (.ref a)) (.cons rfl .nil) (hsp H hO hS)) λr s' h=>?_
  cases r with
  | error e=>exact(hCX H e s' h).elim
  | ok fl=>
   cases fl with
   | next=>exact False.elim h
   | brk=>exact False.elim h
   | cont=>exact False.elim h
   | ret u=>
    obtain⟨v,H',os,bare,un,ad,r',q⟩:=h
    have q':v = .bl true:=q
    subst q';obtain rfl:u=Value.bool true:=r'
    refine⟨rfl,OldK.of_keep λb o e=>?_,os,bare⟩
    cases q:H b with
    | none=>exact un.keep b o e q (by intro z;exact absurd (show b∈([]:LC) from z) (by simp)) (by simp)
    | some u=>
     rcases hO b with z | ⟨ob,xs,z⟩
     .rw[q]at z;cases z
     .have z2:=un.frzs b ob _ z
      obtain⟨e1,_⟩:=hok b _ z
      obtain⟨e2,_⟩:=ad b _ z2
      rw[e]at e1;cases e1
      exact e2
 cases hk:K.lookup a with
 | some o=>
  -- the script is one of the module's own objects
  have e:=KX a o hk;rw[ha]at e
  cases e;refine Z (λ_=>none) (λ_=>.inl rfl) (.inr ⟨_,vs.toArray,_,hk,rfl,rfl,rfl,by rw[xo,ag];exact hl,by simpa using rv⟩) (λb u z=>by have z':(none:Option HO)=some u:=z;cases z') (λb z=>absurd rfl z) λz=>absurd rfl z
 | none=>
  refine Z (λb=>if b=a then some (.frz {cls:=.type "list",data:=.seq vs.toArray} (.lst (ns.map V.int))) else none) (λb=>?_) (.inl (.inr ⟨{cls:=.type "list",data:=.seq vs.toArray},Kx rfl⟩)) (λb u z=>?_) (λb z=>?_) λ_=>hk
  .by_cases U:b=a
   .exact .inr ⟨_,_,Kx U⟩
   .exact .inl (Kt U)
  .by_cases U:b=a
   .have z':=(Kx U).symm.trans z
    cases z';subst U;exact⟨ha,by rw[zj];exact hl,vs,_,rv,ha⟩
   .have z':=(Kt U).symm.trans z
    cases z'
  .by_cases U:b=a
   .exact U
   .exact absurd (Kt U) z
noncomputable abbrev KOf {K:W.Frag} {h:Heap} (_:K.In h):W.Frag:=K
theorem Hk{l:W.OpenLaw}{n k:Nat}{q:Program}{loose:KZ}{XP:(Str->LF)->Heap->Prop}{YP:World->Heap->Prop}{d:DefRec}{K:Params->W.Frag}{CX:World->i7}{sp:World->Sp}{x:Str}
  (hn:l.most=some n) (ad:n<=sizeLine) (ag:d.params.defaults=[]) (hr:B4 k callerA)
  (hY:∀(w:World) (h:Heap),YP w h->(K w.params).In h)
  (F:∀(w:World) (mg:Str->LF) (fa:Addr) (h:Heap),(K w.params).In h->h.Ns mainGlobals mg->mg d.name=some (.ref fa)->
   ∃fd:FuncData,(∀(s:Shared) (u:Value),BindsTo s fd ⟨[u],[]⟩ [(x,u)])/\
    ∀base:Heap,(K w.params).In base->base.Ns mainGlobals mg->Gk l.prog w (K w.params) mg base (CX w) k fa fd [x] (sp w))
  (ab:∀(w:World) (H:Hp) (a:Addr) (ns:LJ),ns.length<=n->Co H->su (K w.params) H a (ns.map V.int)->sp w [.ref a] H (λv _=>v = .bl true) λ_ _ _=>False)
  (Z:∀(w:World) (H:Hp) (s:Shared) (e:Value) (s':Shared),CX w [] H s (λ_ _ _=>False) e s'->False) :
  W.WalkO q loose XP YP l.row.toRowW d [] (λf vs=>PySem.call f vs):=by
 refine Att.attach_call hn ag λw s₀ s₁ mg mb fa o pm cd as a vs ns G Y ho hd al ac U O J hg=>?_
 have KX:=hY w _ Y;obtain⟨fd,hb,hF⟩:=F w mg fa _ KX G.T.g ac
 exact Bu KX G.T.g G.T.b G.T.builtins G.T.nolimit hg U O (xB J ad) hr hF hb (λH hO hS=>ab w H a ns J hO hS) λH e s'=>Z w H s₁ e s'
end L2
namespace L2
open PySem PySem.Spec PyProof.Rows
variable{X:Cx}{x:Str}{st:Stmt}{ps:KZ}{pos:Pos}{H:Hp}{i n:Nat}{g:TG}{D:Addr}{σ:St}{te:TE}{e:Expr}{es:LL}
abbrev j5:i7:=λ_ _ _ _ _ _=>False
abbrev E0:XK:=λ_ _ _=>False
theorem DG:lZ j5 X E0:=λ_ _ _ _ _ _ _ h=>h.elim
structure JQ (K:W.Frag) (x qual:Str) (st:Stmt) (f:Addr) (fd:FuncData):Prop where
 ex:∃(oc:Value) (od:LO) (kV doc pm:Value) (an:LO) (cdv ct:Value) (osl:Array LF),
  fd=W.fnOf x qual (C5 st) (Cm st) (sg st) .none kV doc pm an cdv ct/\K.lookup f=some ⟨oc,od,.func fd,osl⟩/\W.codeIn K cdv qual=true
 kp:W.keepIn K (.ref f)=true
section
variable{P:Program}{w:World}{K:W.Frag}{mg:Str->LF}{base:Heap}
theorem JQ.ok{J:Str}{f:Addr}{fd:FuncData}{N:KZ}{k:Nat}{sp:Sp}(F:JQ K x J st f fd)(S:aC N ps (sg st))(len:∀vs H Q E,sp vs H Q E->vs.length=ps.length)
  (U:∀(O:Value) (A:Around) (outer:List Env) (s:Shared) (H:Hp) (vs:LB) (Q:VK) (E:XK),B4 k (A.deeper (envOfC J (sg st) s.heap.objs.size f O))->sp vs H Q E->
   ∃t,G0 (j8 j5 P w K mg base N J (sg st) f O A outer s H E).nox (Cm st) t/\t {nx:=λ_ H'=>Q .non H',rt:=Q} (start N vs) H):Gk P w K mg base j5 (k+1) f fd ps sp:=by
 obtain⟨oc,od,kV,Z,pm,an,O,ct,ab,rfl,lk,W⟩:=F.ex
 refine Jk lk W S len λA outer s H vs Q E hr Y=>?_
 obtain⟨t,h,q⟩:=U O A outer s H vs Q E hr Y
 exact⟨t,h.nox,q⟩
theorem JQ.binds{J:Str}{f:Addr}{fd:FuncData}(F:JQ K x J st f fd)
  (h:∀(kV U Y:Value) (an:LO) (O ct:Value) (Z:LD),Z.length=ps.length->bindArgs (W.fnOf x J (C5 st) (Cm st) (sg st) .none kV U Y an O ct) ⟨Z,[]⟩=pure (ps.zip Z)):Binds K fd ps []:=by
 obtain⟨oc,od,kV,U,Y,an,O,ct,ac,rfl,lk,ab⟩:=F.ex
 exact .all (h kV U Y an O ct)
theorem sX{F:Str}{f:Addr}{oc:Value}{Z an:LO}{U:Array LF}{kV O Y J ct:Value}(l:K.lookup f=some ⟨oc,Z,.func (W.fnOf x F (C5 st) (Cm st) (sg st) .none kV O Y an J ct),U⟩)
  (c:W.codeIn K J F=true) (k:W.keepIn K (.ref f)=true):JQ K x F st f (W.fnOf x F (C5 st) (Cm st) (sg st) .none kV O Y an J ct):=⟨⟨oc,Z,kV,O,Y,an,J,ct,U,rfl,l,c⟩,k⟩
end
section
variable{X:Cx}
theorem pv(i:Nat)(hN:X.N[i]?=some x:=by rfl)(hv:aq X.env.scope x:=by first | exact vSs (by decide +kernel) | exact Or.inl rfl | exact cr _ (by decide +kernel))(hd:(x==("__debug__" : Str))=false:=by decide)
  (hcd:(x==("__classdict__" : Str))=false:=by decide):PE X (.Name x pos) (Cz i):=IA hN hv hd hcd
end
theorem bx{c A B:Prop}[Decidable c](h1:c->A)(h2:¬ c->B):if c then A else B:=by
 by_cases h:c
 .rw[Kx h]
  exact h1 h
 .rw[Kt h]
  exact h2 h
def sj(H H':Hp):Prop:=∀b o,H b=some o->H' b=some o
theorem sj.refl(H:Hp):sj H H:=λ_ _ h=>h
theorem sj.trans{H1 H2:Hp}(a:sj H H1)(b:sj H1 H2):sj H H2:=λc o h=>b c o (a c o h)
theorem sj.free{H H':Hp}(e:sj H H'){l:Addr}(h:H' l=Option.none):H l=Option.none:=by
 cases q:H l with
 | none=>rfl
 | some o=>
  rw[e l o q]at h
  cases h
theorem sj.seq{K:W.Frag}{H':Hp}{a:Addr}{xs:LB}(e:sj H H')(h:su K H a xs):su K H' a xs:=by
 rcases h with (h | ⟨o,h⟩) | h
 .exact .inl (.inl (e _ _ h))
 .exact .inl (.inr ⟨o,e _ _ h⟩)
 .exact .inr h
noncomputable def ej(cells:List (Str×Addr)):List (Str×NameKind)->List (Str×Addr)->List (Str×Addr)
 | [],acc=>acc
 | (n,k)::r,acc=>ej cells r (if k == .free then (n,(cells.lookup n).getD 0)::acc else acc)
theorem rR{env:Env}{f:(Str×NameKind)->List (Str×Addr)->Sem (ForInStep (List (Str×Addr)))}
  (hf:∀n k cs,f (n,k) cs=if (k==NameKind.free)=true then (cellOf env n >>= λc=>pure (ForInStep.yield ((n,c)::cs))) else pure (ForInStep.yield cs)) :
  ∀(names:List (Str×NameKind)) (acc:List (Str×Addr)),(∀x∈names,x.2 = .free->∃c,env.cells.lookup x.1=some c)->
  forIn names acc f=(pure (ej env.cells names acc):Sem _)
 | [],acc,_=>rfl
 | (n,k)::r,acc,h=>by
  rw[List.forIn_cons,hf];have ih:=λacc=>rR hf r acc λx hx=>h x (yc _ hx)
  by_cases hk:(k==NameKind.free)=true
  .rw[Kx hk]
   obtain⟨c,F⟩:=h (n,k) yb (by simpa using hk)
   have e:cellOf env n=pure c:=by unfold cellOf;rw[F]
   rw[e,pure_bind,pure_bind];show forIn r ((n,c)::acc) f=_
   rw[ih];show _=pure (ej env.cells r (if (k==NameKind.free)=true then (n,(env.cells.lookup n).getD 0)::acc else acc))
   rw[Kx hk,F];rfl
  .rw[Kt hk,pure_bind]
   show forIn r acc f=_
   rw[ih];show _=pure (ej env.cells r (if (k==NameKind.free)=true then (n,(env.cells.lookup n).getD 0)::acc else acc))
   rw[Kt hk]
theorem jP{env:Env}{scope:Scope}(h:∀x∈scope.names,x.2 = .free->∃c,env.cells.lookup x.1=some c):closureFor scope env=pure (ej env.cells scope.names []):=by
 unfold closureFor;show (forIn scope.names ([]:List (Str×Addr)) _ >>= λcs=>pure cs)=_
 rw[rR (env:=env) (λn k cs=>?_) _ _ h]
 .rfl
 .rfl
theorem lz{cells:List (Str×Addr)}:∀ {names:List (Str×NameKind)} {acc:List (Str×Addr)} {x:Str} {c:Addr},(∀y∈names,y.2 = .free->∃c,cells.lookup y.1=some c)->
  (∀y c,acc.lookup y=some c->cells.lookup y=some c)->(ej cells names acc).lookup x=some c->cells.lookup x=some c
 | [],acc,x,c,_,ha,h=>ha x c h
 | (n,k)::r,acc,x,c,hn,ha,h=>by
  refine lz (names:=r) (λy F=>hn y (yc _ F)) ?_ h
  intro y d F
  by_cases hk:(k==NameKind.free)=true
  .rw[Kx hk]at F
   obtain⟨e,U⟩:=hn (n,k) yb (by simpa using hk)
   have J:cells.lookup n=some e:=U
   rw[Kb]at F
   by_cases hyn:(y==n)=true
   .rw[hyn]at F
    have O:(cells.lookup n).getD 0=d:=Option.some.inj F
    rw[J]at O
    have W:y=n:=by simpa using hyn
    rw[W,J,<-O];rfl
   .have hf:(y==n)=false:=by simpa using hyn
    rw[hf]at F
    exact ha y d F
  .rw[Kt hk]at F
   exact ha y d F
theorem ml{cells:List (Str×Addr)}:∀ {names:List (Str×NameKind)} {acc:List (Str×Addr)} {x:Str},(∃c,acc.lookup x=some c)->∃c,(ej cells names acc).lookup x=some c
 | [],_,_,h=>h
 | (n,k)::r,acc,x,h=>by
  refine ml (names:=r) ?_
  by_cases hk:(k==NameKind.free)=true
  .rw[Kx hk,Kb]
   cases hx:(x==n) with
   | true=>exact⟨_,rfl⟩
   | false=>exact h
  .rw[Kt hk];exact h
theorem jI{cells:List (Str×Addr)}:∀ {names:List (Str×NameKind)} {acc:List (Str×Addr)} {x:Str},(x,NameKind.free)∈names->∃c,(ej cells names acc).lookup x=some c
 | (n,k)::r,acc,x,h=>by
  rcases KC.mp h with e | h
  .have F:x=n:=congrArg (·.1) e
   have J:NameKind.free=k:=congrArg (·.2) e
   subst F J;refine ml (names:=r) ?_
   rw[Kx (by rfl),Kb]
   rw[beq_self_eq_true];exact⟨_,rfl⟩
  .exact jI (names:=r) h
theorem fc{env:Env}:∀ {names:List (Str×NameKind)} {x:Str} {k:NameKind},(∀y∈names,y.2 ≠ .cell)->
  (names.map λ(n,k)=>if (k==NameKind.free&&env.scope.kind == .function&&env.kindOf n==some .cell) then (n,NameKind.cell) else (n,k)).lookup x=some k->(k = .cell\/k = .free)->(x,NameKind.free)∈names
 | [],_,_,_,h,_=>by simp at h
 | (n,k0)::r,x,k,hc,h,hk=>by
  have ih:=@fc env r x k (λy J=>hc y (yc _ J))
  rw[yj]at h
  by_cases hf:(k0==NameKind.free&&env.scope.kind == .function&&env.kindOf n==some .cell)=true
  .have F:k0 = .free:=by
    have:(k0==NameKind.free)=true:=by
     rw[zaR,zaR]at hf;exact hf.1.1
    simpa using this
   dsimp only at h
   rw[Kx hf,Kb]at h
   cases hx:(x==n) with
   | true=>
    have:x=n:=by simpa using hx
    rw[this,F];exact yb
   | false=>rw[hx]at h;exact yc _ (ih h hk)
  .dsimp only at h
   rw[Kt hf,Kb]at h
   cases hx:(x==n) with
   | true=>
    rw[hx]at h
    have e:k0=k:=Option.some.inj h
    have:x=n:=by simpa using hx
    rcases hk with z | z
    .exact absurd (e.trans z) (hc (n,k0) yb)
    .rw[this,e,z];exact yb
   | false=>rw[hx]at h;exact yc _ (ih h hk)
noncomputable def ce(X:Cx)(N0 T:KZ)(scope:Scope)(C:Addr)(fp:LC)(s:Shared)(H:Hp):Cx:=
 {X with N:=N0++T,s₀:=s,H₀:=H,env:=compEnvC scope (ej X.env.cells scope.names []) C X.env,outer:=X.stack,stack:=X.stack,ex:=fp,fn:=λ_=>false,pn:=[],xe:=λ_ _=>False}
structure iJ (X:Cx) (N0 T:KZ) (scope:Scope):Prop where
 kind:scope.kind = .function
 nocell:∀y∈scope.names,y.2 ≠ .cell
 names:∀y∈scope.names,y.2 = .local->scope.names.lookup y.1=some .local
 free:∀y∈scope.names,y.2 = .free->X.env.kindOf y.1=some .cell\/X.env.kindOf y.1=some .free
 apart:∀y∈scope.names,y.2 = .local->y.1∉N0
 len0:N0.length=X.N.length
 same:∀(i:Nat) (x:Str) (k:NameKind),N0[i]?=some x->(x,k)∈scope.names->X.N[i]?=some x
theorem jR{prog:Program}{w:World}{A:Around}{R:Result->Shared->Prop}{s:Shared}{elt F iter:Expr}{ifs:LL}{scope:Scope}{pos:Pos}{it acc:Value}{env:Env}(I:Nat->Shared->Prop)
  (J:∀n s,I n s->wpAny (model prog w) A (pyNext it) (λr U=>match r with
   | none=>R (.ok .next) U
   | some v=>wpAny (model prog w) A (letOwnedTupleGo F it v) (λ_ s₀=>wpAny (model prog w) A (assign F env v) (λ_ s₂=>
     wpAny (model prog w) A (forIn ifs true λc r=>if r=true then do let ok <-isTrue c env (eval c env);pure (ForInStep.yield ok) else pure (ForInStep.yield r)) (λok O=>
      if ok=true then wpAny (model prog w) A (eval elt env) (λx s₄=>
       wpAny (model prog w) A (call (.builtin "list.append") [acc,x]) (λ_ W=>∃m,m<n/\I m W) (λ_ _=>False) s₄) (λ_ _=>False) O
      else ∃m,m<n/\I m O) (λ_ _=>False) s₂) (λ_ _=>False) s₀) (λ_ _=>False) U) (λ_ _=>False) s)
  (n:Nat) (h:I n s) :
  codeAny (model prog w) A (.compLoop (.ListComp elt [⟨F,iter,ifs,0⟩] scope pos) 0 it acc env) R s:=by
 refine codeAny_loop rfl I (λn s hI=>?_) n h
 show wpAny _ A ((compTurn (.ListComp elt [⟨F,iter,ifs,0⟩] scope pos) 0 it acc env).onRaise (λx=>do noteFrame x env;theTreesLotGoes x)) _ _ s
 refine wpAny_noted ?_
 rw[compTurn_list];refine Kn (wpAny_standAt (Kn (wpAny_mono (J n s hI) (λr U Z=>?_) λ_ _ h'=>h'.elim)))
 cases r with
 | none=>exact Kr Z
 | some v=>
  refine Kn (wpAny_mono Z (λ_ s₀ h₀=>?_) λ_ _ h'=>h'.elim)
  refine Kn (wpAny_mono h₀ (λ_ s₂ h₂=>Kn (wpAny_mono h₂ (λok O Y=>?_) λ_ _ h'=>h'.elim)) λ_ _ h'=>h'.elim)
  cases ok with
  | false=>exact Kr ⟨rfl,Y⟩
  | true=>
   exact Kn (Kn (wpAny_mono Y (λx s₄ h₄=>Kn (wpAny_mono h₄ (λ_ W h₅=>Kr (Kr ⟨rfl,h₅⟩)) λ_ _ h'=>h'.elim)) λ_ _ h'=>h'.elim))
def Hy(X:Cx)(ifs:LL)(tc:TT):Prop:=
 ∀(pins:List (Addr×Obj)) (s:Shared) (σ : St) (H:Hp) (Q:Bool->Hp->Prop),Inv X pins σ H s->tc σ H Q->
  wpAny (model X.prog X.w) X.A (forIn ifs true λc r=>if r=true then do let ok <-isTrue c X.env (eval c X.env);pure (ForInStep.yield ok) else pure (ForInStep.yield r)) (TP X pins σ Q) X.xe s
def lH:TT:=λ_ H Q=>Q true H
theorem c7:Hy X [] lH:=λ_ _ _ H _ I h=>wpAny_tests_nil ⟨H,I,h⟩
theorem iC{c:Expr}{tc:TT}(F:PT X c tc):Hy X [c] tc:=λpins s σ H Q I h=>wpAny_tests_one (F pins s σ H Q I h)
def wm(g:TG)(n:Nat):Prop:=∀x σ H Q,g x σ H Q->g x σ H λσ' H'=>Q σ' H'/\σ'.length=σ.length/\∀k,k<n->σ'[k]? = σ[k]?
def wz(g:gq)(n:Nat):Prop:=∀x σ H Q,g x σ H Q->g x σ H λσ' H'=>Q σ' H'/\σ'.length=σ.length/\∀k,k<n->σ'[k]? = σ[k]?
theorem ci(h:n<=i):wm (iO i) n:=λx σ H Q q=>⟨q,by simp,λk F=>by rw[zba (by lia)]⟩
theorem Bv:wz xv n:=λx σ H Q q=>⟨q.1,q.2,rfl,λ_ _=>rfl⟩
def xW(g:TG):Prop:=∀x σ H Q Q',(∀σ' H',Q σ' H'->Q' σ' H')->g x σ H Q->g x σ H Q'
def my(g:gq):Prop:=∀x σ H Q Q',(∀σ' H',Q σ' H'->Q' σ' H')->g x σ H Q->g x σ H Q'
theorem nv:xW (iO i):=λx σ H Q F h q=>h _ _ q
theorem v7:my xv:=λx σ H Q F h q=>⟨q.1,h _ _ q.2⟩
theorem C4{t:TG}{u:gq}(h1:xW t)(h2:my u):my (p7 t u):=λx σ H Q J h ⟨v,r,e,q⟩=>⟨v,r,e,h1 _ _ _ _ _ (λF H' z=>h2 _ _ _ _ _ h z) q⟩
theorem pH{t:TG}{u:gq}(h1:wm t n)(U:xW t)(h2:wz u n)(O:my u):wz (p7 t u) n:=λx σ H Q ⟨v,r,e,q⟩=>by
 refine⟨v,r,e,?_⟩
 refine U _ _ _ _ _ (λW H' z=>?_) (h1 _ _ _ _ q)
 obtain⟨z,J,k1⟩:=z
 exact O _ _ _ _ _ (λY H2 y=>⟨y.1,y.2.1.trans J,λk F=>(y.2.2 k F).trans (k1 k F)⟩) (h2 _ _ _ _ z)
theorem E1{K:W.Frag}{m:Nat}{t:gq}(h:wz t n):wm (yu K m t) n:=λx σ H Q ⟨a,xs,e,q,l,z⟩=>⟨a,xs,e,q,l,h _ _ _ _ z⟩
def f6(J:It)(g:TG)(tc:TT)(te:TE)(nT:Nat)(σ : St)(D:Addr)(Q:VK)(H:Hp):Prop:=
 ∃W:Nat->Nat->LB->Hp->Prop,(∃m,W 0 m [] H)/\∀i m ys H2,W i m ys H2->
  (J.stop i H2/\Q (.ref D) H2)\/(J.go i H2/\∀x H',J.yld i H2 x H'->g x (σ++List.replicate nT none) H' λσ2 H3=>tc σ2 H3 λb H4=>
   if b=true then te σ2 H4 λy H5=>H5 D=some (.lst ys)/\ys.length<sizeLine/\∃m',m'<m/\W (i+1) m' (ys++[y]) (upd H5 D (.lst (ys++[y]))) else ∃m',m'<m/\W (i+1) m' ys H4)
def wO(wi:TI)(g:TG)(tc:TT)(te:TE)(nT:Nat):TE:=λσ H Q=>wi σ H λJ H1=>∀D,H1 D=none->f6 J g tc te nT σ D Q (upd H1 D (.lst []))
theorem Gv.sameBut{P:Program}{w:World}{h h':Heap}{C:Addr}(x:Gv P w H h)(O:Heap.SameBut C h h')(F:H C=none):Gv P w H h':=λa o e=>
 (x a o e).stay (λb u J q=>(O.2 b (by
  rintro rfl
  rcases J with z | z
  .rw[z]at F;rw[F]at e;cases e
  .rw[F]at z;cases z)).trans q) (λ_ q=>q) λ_ _ q=>q
section
variable{X:Cx}{N0 T:KZ}{scope:Scope}{tg elt iter:Expr}{ifs:LL}{pos:Pos}{wi:TI}{g:TG}{tc:TT}{te:TE}
theorem oA{pins:List (Addr×Obj)}{σ:St}{H:Hp}{s:Shared}{E:KY}{it:Addr}{fp:LC}{tn:Nat->Heap->Prop}{J:It}{Q:VK}{RR:Value->Addr->Result->Shared->Prop}
  (S:iJ X N0 T scope) (hc:X.calm=true)
  (hg:∀C fp s H,PG (ce X N0 T scope C fp s H) tg g) (c1:wm g X.N.length) (hi:∀C fp s H,Hy (ce X N0 T scope C fp s H) ifs tc) (he:∀C fp s H,PE (ce X N0 T scope C fp s H) elt te)
  (I:Inv X pins σ H s) (Tn:kC X.prog X.w X.K tg J fp it tn) (st:tn 0 s.heap) (hf:∀b∈fp,iA X pins H b)
  (h:∀D,H D=none->f6 J g tc te T.length σ D Q (upd H D (.lst [])))
  (c2:∀D C s' H' m,s'.heap.Ns C m->H' C=none->C≠X.env.locals->(∀x c,X.env.cells.lookup x=some c->c≠C)->(∀p∈X.pn++pins,p.1≠C)->X.s₀.heap.objs.size<=C->Inv X pins σ H' s'->
   (∀h',Heap.SameBut C s'.heap h'->Inv X pins σ H' {s' with heap:=h'})->Q (.ref D) H'->RR (.ref D) C (.ok .next) s') :
  wpAny (model X.prog X.w) X.A (newList []) (λacc s₃=>wpAny (model X.prog X.w) X.A (newFunctionEnv scope X.env.globals (ej X.env.cells scope.names []) [] X.env.qual none .none (some X.env)) (λa3 s₄=>
   codeAny (model X.prog X.w) X.A (.compStart (.ListComp elt [⟨tg,iter,ifs,0⟩] scope pos) 0 (.ref it) acc {a3 with scope:=relabel scope X.env}) (RR acc a3.locals) s₄) E s₃) E s:=by
 refine wpAny_newObj_type (wpAny_newFunctionEnv S.nocell (by intro y hy;simp at hy) (λh₁ Z O=>?_) S.kind)
 dsimp only at Z O |-
 generalize hH2:s.heap.push {cls:=.type "list",dict:=none,data:=.seq ([]:LD).toArray}=P2 at Z O |-;have hC:P2.objs.size=s.heap.objs.size+1:=by rw[<-hH2,rW]
 -- the new list D,the block's names C
 obtain⟨D,hD⟩ : ∃D:Nat,D=s.heap.objs.size:=⟨_,rfl⟩
 obtain⟨C,ca⟩ : ∃C:Nat,C=P2.objs.size:=⟨_,rfl⟩
 rw[<-ca]at Z O hC |-
 rw[<-hD]at hC |-
 have a8:D≠C:=by lia
 have ac:D<C:=by lia
 have bc:∀b o,s.heap.get? b=some o->b≠D:=λb o e=>hD ▸ xa (wD e)
 have U:∀b o,s.heap.get? b=some o->b≠C:=λb o e=>xa (Nat.lt_trans (hD ▸ wD e) ac)
 have ab:∀b o,s.heap.get? b=some o->h₁.get? b=some o:=λb o e=>O.extBut b o (U b o e) (wR _ (hH2 ▸ wR _ e))
 have a9:H D=none:=I.hok.fresh (by lia)
 have b3:H C=none:=I.hok.fresh (by lia)
 have dat:h₁.get? D=some {cls:=.type "list",data:=.seq ([]:LD).toArray 0}:=by
  refine O.extBut _ _ a8 (wR _ ?_)
  rw[<-hH2,hD];exact yk _ rfl
 -- the block's context stands
 have Y:∀x c,(ej X.env.cells scope.names []).lookup x=some c->X.env.cells.lookup x=some c:=λx c e=>
  lz (λy hy hk=>I.ok.has y.1 (S.free y hy hk)) (λy c z=>by simp at z) e
 have ag:(ce X N0 T scope C fp s H).Ok:=by
  refine⟨I.ok.mod,?_,I.ok.glob,I.ok.blt,?_,λx y c e1 e2=>I.ok.inj x y c (Y x c e1) (Y y c e2),λx hx=>?_,λx c z _=>(by cases z),I.ok.hd,I.ok.frames,.inl rfl,λb F=>⟨?_,λx c e=>(hf b F).2.2.2.2.1 x c (Y x c e)⟩,
   I.bs,?_,λb o e F=>?_,λb F z=>?_,I.stack,I.stkFree⟩
  .show (relabel scope X.env).kind = .function
   exact S.kind
  .show s.heap.objs.size<=C
   lia
  .have c3:(relabel scope X.env).names.lookup x=some .cell\/(relabel scope X.env).names.lookup x=some .free:=hx
   have m:(x,NameKind.free)∈scope.names:=by
    rcases c3 with z | z
    .exact fc S.nocell z (.inl rfl)
    .exact fc S.nocell z (.inr rfl)
   exact jI m
  .show b≠C
   obtain⟨o,e,_⟩:=Tn.obj 0 _ st b F
   exact U b o e
  .exact xB I.ok.bsz I.sz
  .obtain⟨_,_,_,z,_⟩:=hf b F
   rcases z with z | z
   .exact I.ok.noex b o e z
   .exact absurd (uo (uo (wD e) I.ok.bsz) z) (IP _)
  .obtain⟨_,z1,z2,_⟩:=hf b F
   rcases KC.mp (I.stkSub b z) with q | q
   .exact z1 q
   .exact z2 q
 have I1:Inv (ce X N0 T scope C fp s H) [] (σ++List.replicate T.length none) (upd H D (.lst [])) {s with heap:=h₁,toks:=s.toks+([]:List (Str×Value)).length}:=by
  refine⟨ag,rfl,I.bare,Un.laid (h:=s.heap) ab (by lia) a9,⟨_,Z,λi x v e1 e2 e3=>?_⟩,λx c e=>?_,?_,λx c e=>?_,λp hp=>(by simp[ce]at hp),I.hok.laid ab (by lia) ?_,?_⟩
  .have a4:(N0++T)[i]?=some x:=e1
   have hl:=I.len;have c5:=S.len0
   have hi:i<σ.length:=by
    rcases iz i σ.length with z | z
    .exact z
    .rw[gT z]at e2
     rw[za0]at e2
     split at e2<;>cases e2
   rw[xG hi]at e2
   rw[xG (by lia)]at a4
   have cq:x∈N0:=kg a4
   have cu:(relabel scope X.env).names.lookup x=some .local\/(relabel scope X.env).names.lookup x=some .cell\/(relabel scope X.env).names.lookup x=some .free:=e3
   have fr:(relabel scope X.env).names.lookup x=some .cell\/(relabel scope X.env).names.lookup x=some .free:=by
    rcases cu with z | z | z
    .exfalso
     -- a local of the block is no tracked name
     have b1:∀(names:List (Str×NameKind)),(names.map λ(n,k)=>if (k==NameKind.free&&X.env.scope.kind == .function&&X.env.kindOf n==some .cell) then (n,NameKind.cell) else (n,k)).lookup x=some .local->(x,NameKind.local)∈names:=by
      intro names
      induction names with
      | nil=>intro z;simp at z
      | cons y r ih=>
       obtain⟨n,k⟩:=y
       intro z
       rw[yj]at z
       dsimp only at z
       by_cases hfk:(k==NameKind.free&&X.env.scope.kind == .function&&X.env.kindOf n==some .cell)=true
       .rw[Kx hfk,Kb]at z
        cases hx:(x==n) with
        | true=>rw[hx]at z;cases z
        | false=>rw[hx]at z;exact yc _ (ih z)
       .rw[Kt hfk,Kb]at z
        cases hx:(x==n) with
        | true=>
         rw[hx]at z
         have ek:k = .local:=Option.some.inj z
         have en:x=n:=by simpa using hx
         rw[ek,en];exact yb
        | false=>rw[hx]at z;exact yc _ (ih z)
     exact S.apart (x,.local) (b1 _ z) rfl cq
    .exact .inl z
    .exact .inr z
   have m:(x,NameKind.free)∈scope.names:=by
    rcases fr with z | z
    .exact fc S.nocell z (.inl rfl)
    .exact fc S.nocell z (.inr rfl)
   have kX:=S.free _ m rfl;obtain⟨mm,hn,b2⟩:=I.loc
   obtain⟨u,r,lk⟩:=b2 i x v (S.same i x _ a4 m) e2 (.inr kX)
   refine⟨u,r,.inr ⟨fr,?_⟩⟩
   rcases lk with ⟨z,_⟩ | ⟨_,c,ec,cc⟩
   .rcases kX with q | q
    .rw[q]at z;cases z
    .rw[q]at z;cases z
   .obtain⟨c',a7⟩:=jI (cells:=X.env.cells) (acc:=[]) m
    have:=Y x c' a7
    rw[ec]at this;cases this
    exact⟨c,a7,cc.keeps ab⟩
  .obtain⟨v,z⟩:=I.cell x c (Y x c e)
   exact⟨v,z.keeps ab⟩
  .show upd H D (.lst []) C=none
   rw[au (mS a8)];exact b3
  .have q:=I.freeC x c (Y x c e)
   obtain⟨v,o,z,_⟩:=I.cell x c (Y x c e)
   rw[au (bc c o z)];exact q
  .exact⟨xR _,[],0,.nil,dat⟩
  .show (σ++List.replicate T.length none).length=(N0++T).length
   rw[qL,qL,Kk,I.len,S.len0]
 have bg:tn 0 h₁:=Tn.keep _ _ _ st λb _ o e=>ab b o e
 have a6:∀ {H':Hp},(∀b∈fp,H' b=none)->∀b∈fp,iA (ce X N0 T scope C fp s H) [] H' b:=λhn b F=>
  ⟨hn b F,(ag.exf b F).1,ag.exfs b F,.inl F,(ag.exf b F).2,λp hp=>(by simp[ce]at hp)⟩
 have c4:∀b∈fp,upd H D (.lst []) b=none:=λb F=>by
  obtain⟨o,e,_⟩:=Tn.obj 0 _ st b F
  rw[au (bc b o e)];exact(hf b F).1
 obtain⟨W,⟨m0,w0⟩,bt⟩:=h D a9
 have al:∀s₃ : Shared,s₃={s with heap:=h₁,toks:=s.toks+([]:List (Str×Value)).length}->
   codeAny (model X.prog X.w) X.A (.compLoop (.ListComp elt [⟨tg,iter,ifs,0⟩] scope pos) 0 (.ref it) (.ref D) (compEnvC scope (ej X.env.cells scope.names []) C X.env)) (RR (.ref D) C) s₃:=by
  rintro s₃ rfl
  refine jR (λn s'=>∃i H' ys,Inv (ce X N0 T scope C fp s H) [] (σ++List.replicate T.length none) H' s'/\tn i s'.heap/\(∀b∈fp,H' b=none)/\W i n ys H') ?_ m0 ⟨0,_,[],I1,bg,c4,w0⟩
  rintro n s3 ⟨i,H3,ys,I3,bp,be,w3⟩
  rcases bt i n ys H3 w3 with ⟨stop,qn⟩ | ⟨go,step⟩
  .refine bz (Tn.done (ce X N0 T scope C fp s H) rfl rfl rfl hc i [] s3 _ H3 (λ_ _=>False) I3 (a6 be) bp stop) λr s4 ⟨hr,I4⟩=>?_
   subst hr;obtain⟨m,hm,_⟩:=I4.loc
   have b0:∀b∈fp,(b∈X.ex\/X.s₀.heap.objs.size<=b)/\b≠X.env.locals/\(∀x c,X.env.cells.lookup x=some c->c≠b)/\∀p∈X.pn++pins,p.1≠b:=λb F=>
    ⟨(hf b F).2.2.2.1,(hf b F).2.1,(hf b F).2.2.2.2.1,(hf b F).2.2.2.2.2⟩
   have u4:Un (jN X.stack) fp H H3 s.heap s4.heap:=I4.base
   refine c2 D C s4 H3 m hm I4.free (mS (xa (Nat.lt_trans (hD ▸ I.lt) ac))) (λx c e=>?_) (λp hp=>?_) (xB (hD ▸ I.sz) (xF ac)) (I.call' (ch:=fp) I4.os u4 I4.hok I4.bare b0) (λh' ad=>?_) qn
   .obtain⟨v,o,q,_⟩:=I.cell x c e
    exact U c o q
   .exact U _ _ (I.pin p hp).1
   .refine I.call' (ch:=fp) (s':={s4 with heap:=h'}) I4.os ⟨λb o q n' F hx=>(ad.2 b (U b o q)).trans (u4.keep b o q n' F hx),λb o q n' F hx=>?_,u4.free,λb o q hx=>?_,u4.tups,u4.frzs,u4.tbls⟩ (I4.hok.sameBut ad I4.free) I4.bare b0
    .obtain⟨sl,e⟩:=u4.slot b o q n' F hx
     exact⟨sl,(ad.2 b (U b o q)).trans e⟩
    .obtain⟨o',e⟩:=u4.there b o q hx
     exact⟨o',(ad.2 b (U b o q)).trans e⟩
  .refine bz (Tn.item (ce X N0 T scope C fp s H) rfl rfl rfl hc i [] s3 _ H3 (λ_ _=>False) I3 (a6 be) bp go) λr s4 ⟨u,hr,h4⟩=>?_
   subst hr;refine bz h4 λ_ s5 ⟨x,H5,I5,r5,y5,a5,cv⟩=>?_
   have cb:=I5.pinned (a6 cv) (Tn.obj _ _ a5);refine bz (hg C fp s H _ s5 _ H5 x u _ cb r5 (c1 _ _ _ _ (step x H5 y5))) λ_ s6 ⟨σ6,H6,I6,q6,l6,k6⟩=>?_
   have as:∀ {H7:Hp} {s7:Shared},Inv (ce X N0 T scope C fp s H) ([]++km fp s5.heap) σ6 H7 s7->(∀ {m':Nat} {zs:LB},m'<n->W (i+1) m' zs H7->∃m,m<n/\∃i H' ys,Inv (ce X N0 T scope C fp s H) [] (σ++List.replicate T.length none) H' s7/\tn i s7.heap/\(∀b∈fp,H' b=none)/\W i m ys H'):=λ{H7 s7} I7 {m' zs} hm w7=>by
    refine⟨m',hm,i+1,H7,zs,I7.unpinned.weak (by rw[l6]) (λj v e=>?_),Tn.keep _ _ _ a5 λb F o e=>(I7.pin (b,o) (gV _ (gV _ (gZ F e)))).1,λb F=>?_,w7⟩
    .have hj:j<σ.length:=by
      rcases iz j σ.length with z | z
      .exact z
      .rw[gT z,za0]at e
       split at e<;>cases e
     rw[k6 j (by rw[<-I.len];exact hj)]
     exact e
    .obtain⟨o,e,d⟩:=Tn.obj _ _ a5 b F
     exact(I7.pin (b,o) (gV _ (gV _ (gZ F e)))).2.1
   refine bz (hi C fp s H _ s6 σ6 H6 _ I6 q6) λb s7 ⟨H7,I7,q7⟩=>?_
   cases b with
   | false=>
    obtain⟨m',hm,w7⟩:=(show ∃m',m'<n/\W (i+1) m' ys H7 from by simpa using q7)
    exact as I7 hm w7
   | true=>
    rw[Kx rfl]at q7
    refine bz (he C fp s H _ s7 σ6 H7 _ I7 q7) λv s8 ⟨y,H8,I8,r8,cd,hz,m',hm,w8⟩=>?_
    refine bz (oY (X:=ce X N0 T scope C fp s H) _ s8 σ6 H8 (.ref D) [y] (.ref D) [v] (λ_ H9=>H9=upd H8 D (.lst (ys++[y]))) I8 rfl (.cons r8 .nil) ⟨D,ys,y,rfl,rfl,cd,hz,rfl⟩) λv9 s9 ⟨y9,H9,I9,_,e9⟩=>?_
    subst e9;exact as I9 hm w8
 exact codeAny_compStart_list (al _ rfl) (Tn.self X.A 0 _ _ _ bg (al _ rfl))
theorem dz(S:iJ X N0 T scope)(hc:X.calm=true)(hI:PI X tg iter wi)
  (hg:∀C fp s H,PG (ce X N0 T scope C fp s H) tg g) (W:wm g X.N.length) (hi:∀C fp s H,Hy (ce X N0 T scope C fp s H) ifs tc) (he:∀C fp s H,PE (ce X N0 T scope C fp s H) elt te)
  (hs:∀x,foldedSetIterable iter X.env x=pure x:=by intro _;rfl):PE X (.ListComp elt [⟨tg,iter,ifs,0⟩] scope pos) (wO wi g tc te T.length):=by
 intro pins s σ H Q I h
 rw[eval_ListComp];refine wpAny_comprehension_free (use:=none) rfl hs (jP λx hx hk=>I.ok.has x.1 (S.free x hx hk)) S.kind S.names (bz (hI pins s σ H _ I h) λv s1 h1=>bz h1 λac s2 h2=>?_)
 obtain⟨it,fp,tn,J,H2,e,I2,Tn,U,f2,q2⟩:=h2
 subst e;refine oA (RR:=λacc C=>compPost (model X.prog X.w) X.A X.xe none (EP X pins σ Q) acc C) S hc hg W hi he I2 Tn U f2 q2 ?_
 intro D C s' H' m hn hC hL O Z F I' Y q
 exact⟨m,hn,λh' ab=>⟨.ref D,H',Y h' ab,rfl,q⟩⟩
theorem gg{pos' U:Pos}(S:iJ X N0 T scope)(hc:X.calm=true)(hN:X.N.Nodup)(as:X.N[i]?=some x)(hx:X.env.scope.names.lookup x=some .local)(hI:PI X tg iter wi)
  (hg:∀C fp s H,PG (ce X N0 T scope C fp s H) tg g) (ac:wm g X.N.length) (hi:∀C fp s H,Hy (ce X N0 T scope C fp s H) ifs tc) (he:∀C fp s H,PE (ce X N0 T scope C fp s H) elt te)
  (al:swapsWith (.ListComp elt [⟨tg,iter,ifs,0⟩] scope pos) (some (.Name x pos')) U.line X.env=pure true:=by rfl)
  (hs:∀x,foldedSetIterable iter X.env x=pure x:=by intro _;rfl):PS X (.Assign [.Name x pos'] (.ListComp elt [⟨tg,iter,ifs,0⟩] scope pos) U) (qI (wO wi g tc te T.length) (iO i)):=by
 intro pins s σ H D I h
 rw[exec_Assign_Name_used _ _ _ _ al];refine Kn (wpAny_standAt (Kn ?_))
 show wpAny _ X.A (do let _ <-comprehension (.ListComp elt [⟨tg,iter,ifs,0⟩] scope pos) scope X.env _ (newList []) false (eval iter X.env) (some (assign (.Name x pos') X.env))) _ _ s
 refine Kn (wpAny_mono (wpAny_comprehension_free (use:=some (assign (.Name x pos') X.env)) (Q:=λ_ s'=>SP X pins D .next s') rfl hs (jP λx hx hk=>I.ok.has x.1 (S.free x hx hk)) S.kind S.names
  (bz (hI pins s σ H _ I h) λv s1 h1=>bz h1 λa5 s2 h2=>?_)) (λ_ s' hq=>Kr (Kr hq)) λ_ _ e=>e)
 obtain⟨it,fp,tn,J,H2,e,I2,Tn,Y,f2,q2⟩:=h2
 subst e;refine oA (RR:=λacc C=>compPost (model X.prog X.w) X.A X.xe (some (assign (.Name x pos') X.env)) (λ_ s'=>SP X pins D .next s') acc C) S hc hg ac hi he I2 Tn Y f2 q2 ?_
 intro L C s' H' m hn hC hL F W O I' a4 q
 show wpAny _ X.A (assign (.Name x pos') X.env (.ref L)) _ _ _
 refine wpAny_assign_Name (pI (v:=.ref L) I' hN as (.inl hx) rfl (λZ ab ⟨a,ad,ha⟩=>?_) (.inr hx))
 have ag:C≠a:=by
  rintro rfl
  rcases ha with z | z
  .exact hL z
  .exact F x C z rfl
 refine⟨m,hn.sameBut ad ag,λh' a3=>?_⟩
 exact⟨σ.set i (some (.ref L)),H',ab.turned (t':=Z.toks) (λb o hb e=>(a3.2 b hb).trans e) hC hL (.inr O) F W,q⟩
end
theorem A1.of:∀ {xs:LB} {F:LD} {i:Nat} {u:Value},A1 xs F->F[i]?=some u->∃x,xs[i]?=some x/\RelV x u
 | _,_,0,u,.cons r _,e=>⟨_,rfl,by simp at e;subst e;exact r⟩
 | _,_,i+1,u,.cons _ rr,e=>by
  obtain⟨x,hx,r⟩:=A1.of (i:=i) rr (by simpa using e)
  exact⟨x,by simpa using hx,r⟩
theorem kB:∀ {F:KZ} {J:LD},A1 (F.map V.str) J->StrsAre J F
 | [],_,.nil=>.nil
 | s::F,_,.cons r rr=>by
  obtain⟨t,rfl⟩:=r
  exact .cons s t (kB rr)
theorem oh:∀ {J:LD} {F:KZ},StrsAre J F->A1 (F.map V.str) J
 | _,_,.nil=>.nil
 | _,_,.cons y t h=>.cons ⟨t,rfl⟩ (oh h)
section
variable{X:Cx}
noncomputable def cY(H:Hp):V->Option String
 | .non=>some "NoneType"
 | .bl _=>some "bool"
 | .int _=>some "int"
 | .str _=>some "str"
 | .ref a=>match H a with
  | some (.lst _)=>some "list"
  | some (.frz _ (.lst _))=>some "list"
  | some (.tup _)=>some "tuple"
  | some (.dK _)=>some "dict"
  | some (.dT _)=>some "dict"
  | _=>none
 | _=>none
theorem AI{K:W.Frag}{H:Hp}:∀ {x:V} {T:String},cY H x=some T->gB K H x (.type T)
 | .non,T,h=>by cases h;exact .non
 | .bl b,T,h=>by cases h;exact .bl b
 | .int i,T,h=>by cases h;exact .int i
 | .str y,T,h=>by cases h;exact .str y
 | .byt _,T,h=>by cases h
 | .flt _,T,h=>by cases h
 | .ty _,T,h=>by cases h
 | .ref a,T,h=>by
  cases e:H a with
  | none=>simp[cY,e]at h
  | some o=>
   cases o with
   | lst xs=>simp[cY,e]at h;subst h;exact .lst e
   | tup xs=>simp[cY,e]at h;subst h;exact .tup e
   | dK xs=>simp[cY,e]at h;subst h;exact .dK e
   | dT xs=>simp[cY,e]at h;subst h;exact .dT e
   | frz ob u=>
    cases u with
    | lst xs=>simp[cY,e]at h;subst h;exact .frz e
    | _=>simp[cY,e]at h
   | _=>simp[cY,e]at h
noncomputable def DZ(T C:String):Bool:=T==C||(T == "bool" && C == "int")
theorem C7(K:W.Frag){T C:String}(F:T∈["NoneType","bool","int","str","list","tuple","dict"]) (J:C∈["bool","int","str","list","tuple"]):W.kitOne K (.type T) (.type C)=some (DZ T C):=by
 simp only[wQ,tK,or_false]at F J
 rcases F with rfl | rfl | rfl | rfl | rfl | rfl | rfl<;>rcases J with rfl | rfl | rfl | rfl | rfl<;>(with_unfolding_all rfl)
theorem yH{H:Hp}{x:V}{T:String}(h:cY H x=some T):T∈["NoneType","bool","int","str","list","tuple","dict"]:=by
 cases x with
 | ref a=>
  cases e:H a with
  | none=>simp[cY,e]at h
  | some o=>
   cases o with
   | frz ob u=>cases u<;>simp[cY,e]at h<;>subst h<;>decide
   | _=>simp[cY,e]at h<;>subst h<;>decide
 | _=>first | (cases h;decide) | cases h
def FM:LB->Hp->VK->Prop:=λxs H Q=>∃(x:V) (T C:String),xs=[x,.ty C]/\cY H x=some T/\C∈["bool","int","str","list","tuple"]/\Q (.bl (DZ T C)) H
theorem vW{Q:VK}(x:V)(C:String):FM [x,.ty C] H Q=∃T,cY H x=some T/\C∈["bool","int","str","list","tuple"]/\Q (.bl (DZ T C)) H:=
 propext ⟨λ⟨_,T,_,e,q⟩=>by cases e;exact⟨T,q⟩,λ⟨T,q⟩=>⟨x,T,C,rfl,q⟩⟩
theorem sU:BB X (.builtin "isinstance") FM:=by
 intro pins s σ H xs W Q I r h
 obtain⟨x,T,C,rfl,J,U,q⟩:=h
 obtain⟨u,Y,rfl,O,F⟩:=jr r
 cases F;exact zi I O (AI J) (C7 X.K (yH J) U) λtk=>⟨.bl (DZ T C),H,I.tok tk,rfl,q⟩
def xQ(K:W.Frag):V->LB->Hp->VK->Prop:=λx vs H Q=>∃(sep:Str) (p:Addr) (ss:KZ),x = .str sep/\vs=[.ref p]/\su K H p (ss.map V.str)/\(ss.map (·.length)).sum+ss.length*sep.length<=16777216/\Q (.str (Txt.join sep ss)) H
theorem Fq:G7 X "str.join" (xQ X.K):=by
 intro pins s σ H x xs v us Q I Z r h
 obtain⟨F,p,Y,rfl,rfl,J,hz,q⟩:=h
 obtain⟨t,rfl⟩:=Z
 obtain⟨u,rfl,O⟩:=cU r
 cases O;obtain⟨W,U,pl,_⟩:=I.list J
 exact join_list pl.isList (by simpa using kB U) hz λt' k=>⟨.str (Txt.join F Y),H,I.tok k,⟨t',rfl⟩,q⟩
end
def kG(J:It)(g:TG)(tb:TS)(D:dN)(σ : St)(H:Hp):Prop:=∃W:Nat->Nat->St->Hp->Prop,(∃m,W 0 m σ H)/\∀i m σ H,W i m σ H->
 (J.stop i H/\D.nx σ H)\/(J.go i H/\∃N:St->Hp->Prop,(∀σ' H',N σ' H'->∃m',m'<m/\W (i+1) m' σ' H')/\∀x H',J.yld i H x H'->g x σ H' λσ2 H2=>tb {D with nx:=N,ct:=N,bk:=D.nx} σ2 H2)
theorem vL(wi:TI)(g:TG)(tb:TS)(D:dN)(σ : St)(H:Hp):Ii wi g tb D σ H=wi σ H λJ H1=>kG J g tb D σ H1:=rfl
theorem kZ{J:It}{tb:TS}{D:dN}(n:Nat)(F:Nat->St->Hp->Prop)(Z:F 0 σ H)(O:∀i σ H,i<n->F i σ H->J.go i H)(U:∀σ H,F n σ H->J.stop n H)
  (W:∀i σ H x H',i<n->F i σ H->J.yld i H x H'->g x σ H' λY H2=>tb {D with nx:=F (i+1),ct:=F (i+1),bk:=D.nx} Y H2) (hd:∀σ H,F n σ H->D.nx σ H):kG J g tb D σ H:=by
 refine⟨λi m σ H=>m=n-i/\i<=n/\F i σ H,⟨n,by simp,xR _,Z⟩,?_⟩
 rintro i m σ H ⟨rfl,hi,p⟩
 by_cases hlt:i<n
 .exact .inr ⟨O i σ H hlt p,F (i+1),λσ' H' p'=>⟨n-(i+1),by lia,rfl,hlt,p'⟩,λx H' y=>W i σ H x H' hlt p y⟩
 .have e:i=n:=by lia
  subst e;exact .inl ⟨U σ H p,hd σ H p⟩
theorem cB{K:W.Frag}{a:Addr}{xs:LB}{tb:TS}{D:dN}(F:Nat->St->Hp->Prop)(O:F 0 σ H)(hl:∀i σ H,i<=xs.length->F i σ H->su K H a xs)
  (U:∀i x σ H,xs[i]?=some x->F i σ H->g x σ H λJ H2=>tb {D with nx:=F (i+1),ct:=F (i+1),bk:=D.nx} J H2) (hd:∀σ H,F xs.length σ H->D.nx σ H):kG (k8 K a) g tb D σ H:=
 Bq F O hl U hd
theorem d_{lo:Int}{tb:TS}{D:dN}(F:Nat->St->Hp->Prop)(O:F 0 σ H)
  (U:∀i σ H,i<n->F i σ H->g (.int (lo+i)) σ H λJ H2=>tb {D with nx:=F (i+1),ct:=F (i+1),bk:=D.nx} J H2) (hd:∀σ H,F n σ H->D.nx σ H):kG (lY lo n) g tb D σ H:=
 zS F O U hd
def g_(n i:Nat)(Pv:Nat->LB->Hp->Prop)(D:Addr)(ys:LB)(y:V)(H:Hp):Prop:=
 H D=some (.lst ys)/\ys.length<sizeLine/\∃m',m'<n-i/\(m'=n-(i+1)/\i+1<=n/\Pv (i+1) (ys++[y]) (upd H D (.lst (ys++[y]))))
theorem fM{F:Nat->LB->Hp->Prop}{ys:LB}{y:V}(hi:i<n)(J:ys.length=i)(hz:n<=sizeLine)(h1:H D=some (.lst ys))(h2:F (i+1) (ys++[y]) (upd H D (.lst (ys++[y])))):g_ n i F D ys y H:=
 ⟨h1,by lia,n-(i+1),by lia,rfl,hi,h2⟩
def jC(n i:Nat)(Pv:Nat->LB->Hp->Prop)(D:Addr)(ys:LB)(te:TE)(σ : St)(H:Hp):Prop:=
 if true=true then te σ H (g_ n i Pv D ys) else ∃m',m'<n-i/\(m'=n-(i+1)/\i+1<=n/\Pv (i+1) ys H)
theorem lK{F:Nat->LB->Hp->Prop}{ys:LB}:jC n i F D ys te σ H=te σ H (g_ n i F D ys):=by
 unfold jC;rw[Kx rfl]
theorem lD{J:It}{nT:Nat}{Q:VK}(n:Nat)(F:Nat->LB->Hp->Prop)(Y:F 0 [] H)(O:∀i ys H,i<n->F i ys H->J.go i H)(U:∀ys H,F n ys H->J.stop n H)
  (W:∀i ys H x H',i<n->F i ys H->J.yld i H x H'->g x (σ++List.replicate nT none) H' (jC n i F D ys te))
  (hd:∀ys H,F n ys H->Q (.ref D) H):f6 J g lH te nT σ D Q H:=by
 refine⟨λi m ys H=>m=n-i/\i<=n/\F i ys H,⟨n,by simp,xR _,Y⟩,?_⟩
 rintro i m ys H ⟨rfl,hi,p⟩
 by_cases hlt:i<n
 .exact .inr ⟨O i ys H hlt p,λx H' y=>W i ys H x H' hlt p y⟩
 .have e:i=n:=by lia
  subst e;exact .inl ⟨U ys H p,hd ys H p⟩
theorem fu{K:W.Frag}{a:Addr}{xs:LB}{nT:Nat}{Q:VK}(F:Nat->LB->Hp->Prop)(O:F 0 [] H)(hl:∀i ys H,i<=xs.length->F i ys H->su K H a xs)
  (J:∀i ys H x,xs[i]?=some x->i<xs.length->F i ys H->g x (σ++List.replicate nT none) H (jC xs.length i F D ys te))
  (hd:∀ys H,F xs.length ys H->Q (.ref D) H):f6 (k8 K a) g lH te nT σ D Q H:=by
 refine lD xs.length F O (λi ys H hi p=>⟨xs,xs[i],hl i ys H (xF hi) p,by simp[hi]⟩) (λys H p=>⟨xs,hl _ ys H (qt _) p,qt _⟩) (λi ys H x H' hi p U=>?_) hd
 obtain⟨rfl,y⟩:=U
 exact J i ys _ x (y xs (hl i ys _ (xF hi) p)) hi p
theorem iV{lo:Int}{nT:Nat}{Q:VK}(F:Nat->LB->Hp->Prop)(O:F 0 [] H)
  (J:∀i ys H,i<n->F i ys H->g (.int (lo+i)) (σ++List.replicate nT none) H (jC n i F D ys te))
  (hd:∀ys H,F n ys H->Q (.ref D) H):f6 (lY lo n) g lH te nT σ D Q H:=by
 refine lD n F O (λi ys H hi p=>hi) (λys H p=>qt _) (λi ys H x H' hi p U=>?_) hd
 obtain⟨rfl,rfl⟩:=U
 exact J i ys _ hi p
def xi(u:TS)(D:dN)(σ : St)(H:Hp):Prop:=u D σ H
section
variable{D:dN}{σ:St}{H:Hp}{Q:VK}{B:Bool->Hp->Prop}{L:LB->Hp->Prop}{R:It->Hp->Prop}{G:St->Hp->Prop}
theorem vM(t u:TS):C9 t u D σ H=t {D with nx:=xi u D} σ H:=rfl
theorem m6(u:TS):xi u D σ H=u D σ H:=rfl
theorem sS:DH D σ H=D.nx σ H:=rfl
theorem vz(c:TT)(t u:TS):GL c t u D σ H=c σ H λb H1=>if b=true then t D σ H1 else u D σ H1:=rfl
theorem vt(t:TE):Iu t D σ H=t σ H D.rt:=rfl
theorem sV(t:TE):Dk t D σ H=t σ H λ_ H1=>D.nx σ H1:=rfl
theorem ww(t:TE)(g:TG):qI t g D σ H=t σ H λx H1=>g x σ H1 D.nx:=rfl
theorem sE(i:Nat)(v:V):iO i v σ H G=G (σ.set i (some v)) H:=rfl
theorem vc(vs:LB):xv vs σ H G=(vs=[]/\G σ H):=rfl
theorem qK(t:TG)(u:gq)(vs:LB):p7 t u vs σ H G=∃v r,vs=v::r/\t v σ H λF H'=>u r F H' G:=rfl
theorem vJ(K:W.Frag)(n:Nat)(t:gq)(v:V):yu K n t v σ H G=∃a xs,v = .ref a/\vr K H a xs/\xs.length=n/\t xs σ H G:=rfl
theorem uS(to ti:TE)(t:nW)(v:V):F9 to ti t v σ H G=to σ H λo H1=>ti σ H1 λi H2=>t o i v H2 λF=>G σ F:=rfl
theorem vh(i:Nat):Cz i σ H Q=∃v,σ[i]?=some (some v)/\Q v H:=rfl
theorem Dw(v:V):tC v σ H Q=Q v H:=rfl
theorem yW(r:R2)(ta tb:TE):y3 r ta tb σ H Q=ta σ H λx H1=>tb σ H1 λy H2=>r x y H2 Q:=rfl
theorem AG(r:V->Hp->VK->Prop)(ta:TE):JY r ta σ H Q=ta σ H λx H1=>r x H1 Q:=rfl
theorem rV(t:TE):DX t σ H B=t σ H λx H'=>∃k,x = .bl k/\B k H':=rfl
theorem Eb(t:TE):tB t σ H B=t σ H λx H'=>∃k,x = .bl k/\B k H':=rfl
theorem vP(t u:TT):Ih t u σ H B=t σ H λc H1=>if c=true then u σ H1 B else B false H1:=rfl
theorem zo(t u:TT):JT t u σ H B=t σ H λc H1=>if c=true then B true H1 else u σ H1 B:=rfl
theorem vQ(t:TT):FW t σ H B=t σ H λc H1=>B (!c) H1:=rfl
theorem Ar(t:TT)(ta tb:TE):Ka t ta tb σ H Q=t σ H λc H1=>if c=true then ta σ H1 Q else tb σ H1 Q:=rfl
theorem zL(r:LB->Hp->VK->Prop)(t:TA):AR r t σ H Q=t σ H λvs H1=>r vs H1 Q:=rfl
theorem sI(ta:TE)(F:TA):DP ta F σ H L=ta σ H λx H1=>F σ H1 λxs H2=>L (x::xs) H2:=rfl
theorem vw:Hf σ H L=L [] H:=rfl
theorem u9(t:TA):Iw t σ H Q=t σ H λxs H1=>xs.length<=sizeLine/\∀p,H1 p=none->Q (.ref p) (upd H1 p (.tup xs)):=rfl
theorem vy(t:TA):IE t σ H Q=t σ H λxs H1=>xs.length<=sizeLine/\∀p,H1 p=none->Q (.ref p) (upd H1 p (.lst xs)):=rfl
theorem ub(sp:Sp)(dvs:LB)(E:XK)(t:TA):xO sp dvs E t σ H Q=t σ H λvs H1=>sp (vs++dvs) H1 Q E:=rfl
theorem Ae(K:W.Frag)(T:String)(r:V->LB->Hp->VK->Prop)(to:TE)(t:TA):Hg K T r to t σ H Q=to σ H λx H1=>uy K T x H1/\t σ H1 λxs H2=>r x xs H2 Q:=rfl
theorem vd(K:W.Frag)(T:String)(r:V->LB->Hp->VK->Prop)(to:TE):Bn K T r to σ H Q=to σ H λx H1=>uy K T x H1/\r x [] H1 Q:=rfl
theorem yR(r:V->LI->LI->Hp->VK->Prop)(te:TE)(tl th:TO):JM r te tl th σ H Q=te σ H λx H1=>tl σ H1 λl H2=>th σ H2 λu F=>r x l u F Q:=rfl
theorem tJ(t:TE)(O:LI->Hp->Prop):De t σ H O=t σ H λx H1=>∃i,x = .int i/\O (some i) H1:=rfl
theorem mo(O:LI->Hp->Prop):vR σ H O=O none H:=rfl
theorem um(wi:TI)(g:TG)(tc:TT)(te:TE)(nT:Nat):wO wi g tc te nT σ H Q=wi σ H λJ H1=>∀D,H1 D=none->f6 J g tc te nT σ D Q (upd H1 D (.lst [])):=rfl
theorem v0:lH σ H B=B true H:=rfl
theorem sH(K:W.Frag)(tl:TE):yL K tl σ H R=tl σ H λx H1=>∃a,x = .ref a/\(∃xs,su K H1 a xs)/\R (k8 K a) H1:=rfl
theorem ug(ta:TA):Ed ta σ H R=ta σ H λvs H1=>∃j:Int,vs=[.int j]/\-(2^62)<=j/\j<2^62/\R (lY 0 j.toNat) H1:=rfl
theorem zF(g:Int->Int->V)(i j:Int):k_ g (.int i) (.int j) H Q=Q (g i j) H:=propext ⟨λ⟨_,_,F,J,q⟩=>by cases F;cases J;exact q,λq=>⟨i,j,rfl,rfl,q⟩⟩
theorem Ea(C:Int->Int->Prop)(g:Int->Int->V)(i j:Int):rI C g (.int i) (.int j) H Q=(C i j/\Q (g i j) H):=propext ⟨λ⟨_,_,F,J,q⟩=>by cases F;cases J;exact q,λq=>⟨i,j,rfl,rfl,q⟩⟩
end
structure xn (K:W.Frag) (mg:Str->LF) (x:Str) (st:Stmt):Prop where
 ex:∃f fd,JQ K x x st f fd/\mg x=some (.ref f)
structure aF (P:Program) (w:World) (K:W.Frag) (mg:Str->LF) (base:Heap) (k:Nat) (x:Str) (ps:KZ) (sp:Sp):Prop where
 ex:∃f fd,Gk P w K mg base j5 k f fd ps sp/\Binds K fd ps []/\W.keepIn K (.ref f)=true/\mg x=some (.ref f)
section
variable{P:Program}{w:World}{K:W.Frag}{mg:Str->LF}{base:Heap}
theorem xn.cal{N:KZ}{k:Nat}{sp:Sp}(D:xn K mg x st)(S:aC N ps (sg st))
  (O:∀(f:Addr) (J:Value) (A:Around) (outer:List Env) (s:Shared) (H:Hp) (vs:LB) (Q:VK) (E:XK),B4 k (A.deeper (envOfC x (sg st) s.heap.objs.size f J))->sp vs H Q E->
   ∃t,G0 (j8 j5 P w K mg base N x (sg st) f J A outer s H E).nox (Cm st) t/\t {nx:=λ_ H'=>Q .non H',rt:=Q} (start N vs) H) (hb:∀(kV U Z:Value) (an:LO) (J ct:Value) (Y:LD),Y.length=ps.length->bindArgs (W.fnOf x x (C5 st) (Cm st) (sg st) .none kV U Z an J ct) ⟨Y,[]⟩=pure (ps.zip Y):=by walk_at "z") (len:∀vs H Q E,sp vs H Q E->vs.length=ps.length:=by walk_at "v"):aF P w K mg base (k+1) x ps sp:=by
 obtain⟨f,fd,F,m⟩:=D.ex
 exact⟨f,fd,F.ok S len λJ A outer s H vs Q E hr h=>O f J A outer s H vs Q E hr h,F.binds hb,F.kp,m⟩
end
section
variable{X:Cx}
theorem ay{j k:Nat}{sp:Sp}{p:Pos}{t:TA}(c:aF X.prog X.w X.K X.mg X.base j x ps sp)(O:B4 k X.A)(J:PA X (e::es) t)(hle:j<=k:=by decide)(hg:Gl X x:=by first | exact vGg (by decide +kernel) | rfl | exact kE _ (by decide +kernel))
  (hdb:(x==("__debug__" : Str))=false:=by decide) (he:starEach (e::es) X.env=(false,eval e X.env)::starEach es X.env:=by rfl) (hpl:(backTo pos (starEach es X.env)).any (·.1)=false:=by rfl) :
  PE X (.Call (.Name x p) (e::es) [] pos) (xO sp [] E0 t):=by
 obtain⟨f,fd,F,b,kp,m⟩:=c.ex
 exact ES F (O.mono hle) hg m kp b .nil DG J hdb he hpl
theorem Ai{T:String}(F:X.mg x=none)(hv:bootBuiltins x=some (.type T))(hg:Gl X x:=by first | exact vGg (by decide +kernel) | rfl)(hn:x ≠ "__name__" := by decide) (hd:(x==("__debug__" : Str))=false:=by decide):PE X (.Name x pos) (tC (.ty T)):=
 EI hg F hv rfl hn hd
theorem bm{p:Pos}{t:TA}{id:String}{r:LB->Hp->VK->Prop}(O:BB X (.builtin id) r)(J:X.mg x=none)(hv:bootBuiltins x=some (.builtin id))(F:PA X (e::es) t)(hg:Gl X x:=by first | exact vGg (by decide +kernel) | rfl | exact kE _ (by decide +kernel))
  (hn:x ≠ "__name__" := by decide) (hdb:(x==("__debug__" : Str))=false:=by decide) (he:starEach (e::es) X.env=(false,eval e X.env)::starEach es X.env:=by rfl) (hpl:(backTo pos (starEach es X.env)).any (·.1)=false:=by rfl) :
  PE X (.Call (.Name x p) (e::es) [] pos) (AR r t):=C_ O hg J hv F hn hdb he hpl
theorem ee{p:Pos}{t:TA}{T:String}{r:LB->Hp->VK->Prop}(O:BB X (.type T) r)(J:X.mg x=none)(hv:bootBuiltins x=some (.type T))(F:PA X (e::es) t)(hg:Gl X x:=by first | exact vGg (by decide +kernel) | rfl | exact kE _ (by decide +kernel))
  (hn:x ≠ "__name__" := by decide) (hdb:(x==("__debug__" : Str))=false:=by decide) (he:starEach (e::es) X.env=(false,eval e X.env)::starEach es X.env:=by rfl) (hpl:(backTo pos (starEach es X.env)).any (·.1)=false:=by rfl) :
  PE X (.Call (.Name x p) (e::es) [] pos) (AR r t):=yZ O hg J hv F hn hdb he hpl
end
section
variable{X:Cx}
def qc:R2:=λx y H Q=>match x,y with
 | .int i,.int j=>Q (.int (i+j)) H
 | .str a,.str b=>a.length+b.length<=sizeLine/\Q (.str (a++b)) H
 | .ref l,.ref b=>∃xs zs,H l=some (.lst xs)/\H b=some (.lst zs)/\xs.length+zs.length<=sizeLine/\∀p,H p=none->Q (.ref p) (upd H p (.lst (xs++zs)))
 | _,_=>False
theorem aB:FS X (binaryOp .Add) qc:=by
 intro pins s σ H x y v u Q I F J h
 cases x<;>cases y<;>first
  | exact(show False from h).elim
  | exact F8 pins s σ H _ _ v u Q I F J ⟨_,_,rfl,rfl,h⟩
  | exact x3 pins s σ H _ _ v u Q I F J ⟨_,_,rfl,rfl,h⟩
  | (obtain⟨xs,zs,h1,h2,U,O⟩:=h;exact Gy pins s σ H _ _ v u Q I F J ⟨_,_,xs,zs,rfl,rfl,h1,h2,U,O⟩)
def Bf:R2:=λx y H Q=>match x,y with
 | .int i,.int j=>Q (.bl (decide (i<j))) H
 | .str i,.str j=>Q (.bl (decide (i.cps.toList<j.cps.toList))) H
 | _,_=>False
theorem ID:FS X (compareOp .Lt) Bf:=by
 intro pins s σ H x y v u Q I J F h
 cases x<;>cases y<;>first
  | exact(show False from h).elim
  | exact Jb pins s σ H _ _ v u Q I J F ⟨_,_,rfl,rfl,h⟩
  | exact AV pins s σ H _ _ v u Q I J F ⟨_,_,rfl,rfl,h⟩
def xA(K:W.Frag):R2:=λx y H Q=>match x,y with
 | .str i,.str j=>Q (.bl (!(Builtin.Str.occurrences j i 0 j.length 1).isEmpty)) H
 | x,.ref p=>∃xs,(su K H p xs\/vr K H p xs)/\bU x=true/\xs.all bU=true/\Q (.bl (jQ x xs)) H
 | _,_=>False
theorem GK:FS X (compareOp .In) (xA X.K):=by
 intro pins s σ H x y v u Q I F J h
 cases y with
 | str j=>
  cases x with
  | str i=>exact yP pins s σ H _ _ v u Q I F J ⟨i,j,rfl,rfl,h⟩
  | _=>exact(show False from h).elim
 | ref p=>
  have h':∃xs,(su X.K H p xs\/vr X.K H p xs)/\bU x=true/\xs.all bU=true/\Q (.bl (jQ x xs)) H:=by cases x<;>exact h
  obtain⟨xs,h1,h2,U,O⟩:=h'
  exact AS pins s σ H _ _ v u Q I F J ⟨p,xs,rfl,h1,h2,U,O⟩
 | _=>cases x<;>exact(show False from h).elim
def kY(K:W.Frag):R2:=λx y H Q=>match x,y with
 | .str i,.str j=>Q (.bl (!(!(Builtin.Str.occurrences j i 0 j.length 1).isEmpty))) H
 | x,.ref p=>∃xs,(su K H p xs\/vr K H p xs)/\bU x=true/\xs.all bU=true/\Q (.bl (!jQ x xs)) H
 | _,_=>False
theorem zW:FS X (compareOp .NotIn) (kY X.K):=by
 intro pins s σ H x y v u Q I F J h
 cases y with
 | str j=>
  cases x with
  | str i=>exact si pins s σ H _ _ v u Q I F J ⟨i,j,rfl,rfl,h⟩
  | _=>exact(show False from h).elim
 | ref p=>
  have h':∃xs,(su X.K H p xs\/vr X.K H p xs)/\bU x=true/\xs.all bU=true/\Q (.bl (!jQ x xs)) H:=by cases x<;>exact h
  obtain⟨xs,h1,h2,U,O⟩:=h'
  exact qB pins s σ H _ _ v u Q I F J ⟨p,xs,rfl,h1,h2,U,O⟩
 | _=>cases x<;>exact(show False from h).elim
def p9(K:W.Frag):LB->Hp->VK->Prop:=λxs H Q=>match xs with
 | [.str z]=>z.length<=sizeLine/\Q (.int z.length) H
 | [.ref p]=>∃ys,(su K H p ys\/vr K H p ys)/\Q (.int ys.length) H
 | _=>False
theorem z9:BB X (.builtin "len") (p9 X.K):=by
 intro pins s σ H xs F Q I r h
 cases xs with
 | nil=>exact(show False from h).elim
 | cons x xs=>
  cases xs with
  | nil=>
   cases x with
   | str z=>exact sQ pins s σ H _ F Q I r ⟨z,rfl,h⟩
   | ref p=>
    obtain⟨ys,h1,h2⟩:=h
    exact qW pins s σ H _ F Q I r ⟨p,ys,rfl,h1,h2⟩
   | _=>exact(show False from h).elim
  | cons y ys=>cases x<;>exact(show False from h).elim
def qQ(K:W.Frag):R2:=λx y H Q=>match x,y with
 | .ref p,.int i=>∃xs v,(su K H p xs\/vr K H p xs)/\di xs i=some v/\Q v H
 | .str z,.int i=>∃c,z.length<=sizeLine/\di z.cps.toList i=some c/\Q (.str ⟨#[c]⟩) H
 | _,_=>False
theorem OU:Ha X (qQ X.K):=by
 intro value F pins s σ H x y v u Q I Y U h W
 refine HZ value F pins s σ H x y v u Q I Y U ?_ W
 cases x with
 | ref p=>
  cases y with
  | int i=>
   obtain⟨xs,O,h1,h2,J⟩:=h
   rcases h1 with h1 | h1
   .exact .inl ⟨p,xs,i,O,rfl,rfl,h1,h2,J⟩
   .exact .inr (.inl ⟨p,xs,i,O,rfl,rfl,h1,h2,J⟩)
  | _=>exact(show False from h).elim
 | str z=>
  cases y with
  | int i=>
   obtain⟨c,h1,h2,J⟩:=h
   exact .inr (.inr ⟨z,i,c,rfl,rfl,h1,h2,J⟩)
  | _=>exact(show False from h).elim
 | _=>exact(show False from h).elim
end
section
variable{K:W.Frag}{H:Hp}{Q:VK}
theorem pN(i j:Int):qc (.int i) (.int j) H Q=Q (.int (i+j)) H:=rfl
theorem pG(a b:Str):qc (.str a) (.str b) H Q=(a.length+b.length<=sizeLine/\Q (.str (a++b)) H):=rfl
theorem j4(l b:Addr):qc (.ref l) (.ref b) H Q=∃xs zs,H l=some (.lst xs)/\H b=some (.lst zs)/\xs.length+zs.length<=sizeLine/\∀p,H p=none->Q (.ref p) (upd H p (.lst (xs++zs))):=rfl
theorem qP(i j:Int):Bf (.int i) (.int j) H Q=Q (.bl (decide (i<j))) H:=rfl
theorem qo(i j:Str):Bf (.str i) (.str j) H Q=Q (.bl (decide (i.cps.toList<j.cps.toList))) H:=rfl
theorem uu(i j:Str):xA K (.str i) (.str j) H Q=Q (.bl (!(Builtin.Str.occurrences j i 0 j.length 1).isEmpty)) H:=rfl
theorem s_(x:V)(p:Addr):xA K x (.ref p) H Q=∃xs,(su K H p xs\/vr K H p xs)/\bU x=true/\xs.all bU=true/\Q (.bl (jQ x xs)) H:=by cases x<;>rfl
theorem lg(i j:Str):kY K (.str i) (.str j) H Q=Q (.bl (!(!(Builtin.Str.occurrences j i 0 j.length 1).isEmpty))) H:=rfl
theorem lc(x:V)(p:Addr):kY K x (.ref p) H Q=∃xs,(su K H p xs\/vr K H p xs)/\bU x=true/\xs.all bU=true/\Q (.bl (!jQ x xs)) H:=by cases x<;>rfl
theorem oF(z:Str):p9 K [.str z] H Q=(z.length<=sizeLine/\Q (.int z.length) H):=rfl
theorem oH(p:Addr):p9 K [.ref p] H Q=∃ys,(su K H p ys\/vr K H p ys)/\Q (.int ys.length) H:=rfl
theorem qG(p:Addr)(i:Int):qQ K (.ref p) (.int i) H Q=∃xs v,(su K H p xs\/vr K H p xs)/\di xs i=some v/\Q v H:=rfl
theorem tQ(z:Str)(i:Int):qQ K (.str z) (.int i) H Q=∃c,z.length<=sizeLine/\di z.cps.toList i=some c/\Q (.str ⟨#[c]⟩) H:=rfl
theorem qV(p:Addr)(k:Int)(v:V)(G:Hp->Prop):xY (.ref p) (.int k) v H G=∃xs j,H p=some (.lst xs)/\iR xs.length k=some j/\G (upd H p (.lst (xs.set j v))):=
 propext ⟨λ⟨_,xs,_,j,F,J,q⟩=>by cases F;cases J;exact⟨xs,j,q⟩,λ⟨xs,j,q⟩=>⟨p,xs,k,j,rfl,rfl,q⟩⟩
theorem l8(p:Addr)(y:V):nj (.ref p) [y] H Q=∃xs,H p=some (.lst xs)/\xs.length<sizeLine/\Q .non (upd H p (.lst (xs++[y]))):=
 propext ⟨λ⟨_,xs,_,F,J,q⟩=>by cases F;cases J;exact⟨xs,q⟩,λ⟨xs,q⟩=>⟨p,xs,y,rfl,rfl,q⟩⟩
theorem tI(F:Str)(p:Addr):xQ K (.str F) [.ref p] H Q=∃J,su K H p (J.map V.str)/\(J.map (·.length)).sum+J.length*F.length<=16777216/\Q (.str (Txt.join F J)) H:=
 propext ⟨λ⟨_,_,J,O,U,q⟩=>by cases O;cases U;exact⟨J,q⟩,λ⟨J,q⟩=>⟨F,p,J,rfl,rfl,q⟩⟩
theorem u7(y:Str):uy K "str" (.str y) H=True:=eq_true rfl
theorem uY(p:Addr):(uy K "list" (.ref p) H)=∃xs,su K H p xs:=by
 refine propext ⟨λh=>?_,λh=>.inl ⟨rfl,h⟩⟩
 rcases h with ⟨_,h⟩ | ⟨h,_⟩ | ⟨h,_⟩ | ⟨h,_⟩
 .exact h
 .exact absurd h (by decide)
 .exact absurd h (by decide)
 .exact absurd h (by decide)
end
theorem bG:bootBuiltins "len" = some (.builtin "len"):=by decide +kernel
theorem jM:bootBuiltins "isinstance" = some (.builtin "isinstance"):=by decide +kernel
theorem IX:bootBuiltins "min" = some (.builtin "min"):=by decide +kernel
theorem iQ:bootBuiltins "sorted" = some (.builtin "sorted"):=by decide +kernel
theorem HR:bootBuiltins "str" = some (.type "str"):=by decide +kernel
theorem yY:bootBuiltins "int" = some (.type "int"):=by decide +kernel
theorem i8:bootBuiltins "list" = some (.type "list"):=by decide +kernel
theorem lN:bootBuiltins "tuple" = some (.type "tuple"):=by decide +kernel
theorem aw(i:Nat){pos pos':Pos}(hN:X.N.Nodup)(F:PE X e te)(hi:X.N[i]?=some x:=by rfl)(hx:aH X.env.scope x:=by first | exact vLl (by decide +kernel) | exact Or.inl rfl)(hs:swapsWith e (some (.Name x pos')) pos.line X.env=pure false:=by rfl)
  (hf:X.fn x=true\/X.env.scope.names.lookup x=some .local:=by first | exact .inl rfl | exact .inr rfl | assumption):PS X (.Assign [.Name x pos'] e pos) (qI te (iO i)):=GQ hN hi hx F hs hf
theorem aM(i:Nat)(hN:X.N.Nodup)(hi:X.N[i]?=some x:=by rfl)(hx:aH X.env.scope x:=by first | exact vLl (by decide +kernel) | exact Or.inl rfl | exact eT _ (by decide +kernel))
  (hf:X.fn x=true\/X.env.scope.names.lookup x=some .local:=by first | exact .inl rfl | exact .inr rfl | assumption | exact gw _ (by decide +kernel)):PG X (.Name x pos) (iO i):=Fm hN hi hx hf
structure Cq (fsc:Scope) (N N0 T:KZ) (scope:Scope):Prop where
 kind:scope.kind = .function
 nocell:∀y∈scope.names,y.2 ≠ .cell
 names:∀y∈scope.names,y.2 = .local->scope.names.lookup y.1=some .local
 free:∀y∈scope.names,y.2 = .free->fsc.names.lookup y.1=some .cell\/fsc.names.lookup y.1=some .free
 apart:∀y∈scope.names,y.2 = .local->y.1∉N0
 len0:N0.length=N.length
 same:((N0.zip N).all λp=>p.1==p.2 || !(scope.names.any λy=>y.1==p.1))=true
theorem Cq.to{fsc:Scope}{N N0 T:KZ}{scope:Scope}(S:Cq fsc N N0 T scope:=by constructor<;>decide +kernel)(h1:X.env.scope=fsc:=by rfl)(h2:X.N=N:=by rfl):iJ X N0 T scope:=by
 subst h1 h2;refine⟨S.kind,S.nocell,S.names,S.free,S.apart,S.len0,λi x k e m=>?_⟩
 have hl:=S.len0;have hi:i<N0.length:=(Kq.mp e).1
 have hN:X.N[i]?=some X.N[i]:=qz (by lia)
 have hz:(x,X.N[i])∈N0.zip X.N:=kg (i:=i) (by rw[List.getElem?_zip_eq_some];exact⟨e,hN⟩)
 have q:=List.all_eq_true.mp S.same _ hz;simp only[Bool.or_eq_true,beq_iff_eq,Bool.not_eq_true']at q
 rcases q with q | q
 .rw[hN,<-q]
 .have:(scope.names.any λy=>y.1==x)=true:=List.any_eq_true.mpr ⟨_,m,by simp⟩
  rw[this]at q;cases q
def Bw:R2:=JS
def Bj:R2:=JO
theorem bn:FS X (compareOp .Eq) Bw:=Jl
theorem qF:FS X (compareOp .NotEq) Bj:=Jw
section
variable{K:W.Frag}{H:Hp}{Q:VK}
theorem rz(i j:Int):Bw (.int i) (.int j) H Q=Q (.bl (decide (i=j))) H:=by
 have e:decide (V.int i=V.int j)=decide (i=j):=by by_cases h:i=j<;>simp[h]
 show (m9 (.int i) (.int j)=true/\Q (.bl (decide (V.int i=V.int j))) H)=_
 rw[e];exact propext ⟨λh=>h.2,λh=>⟨rfl,h⟩⟩
theorem rX(i j:Str):Bw (.str i) (.str j) H Q=Q (.bl (decide (i=j))) H:=by
 have e:decide (V.str i=V.str j)=decide (i=j):=by by_cases h:i=j<;>simp[h]
 show (m9 (.str i) (.str j)=true/\Q (.bl (decide (V.str i=V.str j))) H)=_
 rw[e];exact propext ⟨λh=>h.2,λh=>⟨rfl,h⟩⟩
theorem tO(i j:Int):Bj (.int i) (.int j) H Q=Q (.bl (!decide (i=j))) H:=by
 have e:decide (V.int i=V.int j)=decide (i=j):=by by_cases h:i=j<;>simp[h]
 show (m9 (.int i) (.int j)=true/\Q (.bl (!decide (V.int i=V.int j))) H)=_
 rw[e];exact propext ⟨λh=>h.2,λh=>⟨rfl,h⟩⟩
theorem rD(i j:Str):Bj (.str i) (.str j) H Q=Q (.bl (!decide (i=j))) H:=by
 have e:decide (V.str i=V.str j)=decide (i=j):=by by_cases h:i=j<;>simp[h]
 show (m9 (.str i) (.str j)=true/\Q (.bl (!decide (V.str i=V.str j))) H)=_
 rw[e];exact propext ⟨λh=>h.2,λh=>⟨rfl,h⟩⟩
end
theorem kW:Ht X xY:=Bb
section
variable{X:Cx}(K:W.Frag)
theorem j3(F:X.K=K:=by rfl):FS X (compareOp .In) (xA K):=F ▸ GK
theorem kh(F:X.K=K:=by rfl):FS X (compareOp .NotIn) (kY K):=F ▸ zW
theorem aR(F:X.K=K:=by rfl):BB X (.builtin "len") (p9 K):=F ▸ z9
theorem av(F:X.K=K:=by rfl):Ha X (qQ K):=F ▸ OU
theorem tz(F:X.K=K:=by rfl):G7 X "str.join" (xQ K):=F ▸ Fq
theorem tf(F:X.K=K:=by rfl):CY X (Bh K):=F ▸ EE
theorem bL{tg l:Expr}{tl:TE}(hl:PE X l tl)(F:X.K=K:=by rfl):PI X tg l (yL K tl):=F ▸ Ew hl
theorem jf{k:Nat}{t:gq}(h:Km X es t)(F:(assignEach es X.env).length=n:=by rfl)(hst:(assignEach es X.env).findIdx? (·.1)=none:=by rfl)(hK:X.K=K:=by rfl)(hc:X.calm=true:=by rfl):PG X (.Tuple es k pos) (yu K n t):=hK ▸ Ga hc h F hst
theorem bH{o:Expr}{to:TE}{t:TA}{name:Str}{apos cpos:Pos}{T id:String}{r:V->LB->Hp->VK->Prop}(Y:PlainAttrs T)(slot:Slot T name id)(J:typeOf (.builtin id)=pure (.type "method_descriptor")) (O:G7 X id r) (U:PE X o to) (W:PA X (e::es) t)
  (F:attributeBase o name X.env (eval o X.env)=eval o X.env:=by rfl)
  (hfew:((backTo cpos (starEach (e::es) X.env)).all (λx=>!x.1)&&(backToKw cpos (keywordEach [] X.env)).all (λx=>x.1.isSome)&&decide ((e::es).length+([]:List Keyword).length+(if ([]:List Keyword).isEmpty then 0 else 1)<30))=true:=by rfl)
  (hline:(apos.endLine==cpos.line)=true:=by rfl) (hs:starEach (e::es) X.env=(false,eval e X.env)::starEach es X.env:=by rfl) (hplain:(backTo cpos (starEach es X.env)).any (·.1)=false:=by rfl) (hK:X.K=K:=by rfl) :
  PE X (.Call (.Attribute o name apos) (e::es) [] cpos) (Hg K T r to t):=hK ▸ Jh Y slot J O U W F hfew hline hs hplain
theorem ym(F:X.K=K:=by rfl):BB X (.type "list") (λxs H Q=>∃p ys,xs=[.ref p]/\(su K H p ys\/vr K H p ys)/\∀l,H l=none->Q (.ref l) (upd H l (.lst ys))):=F ▸ rY
theorem uE(F:X.K=K:=by rfl):BB X (.type "tuple") (λxs H Q=>∃p ys,xs=[.ref p]/\((su K H p ys/\∀l,H l=none->Q (.ref l) (upd H l (.tup ys)))\/(vr K H p ys/\Q (.ref p) H))):=F ▸ pX
end
theorem zw(n:Int)(P:Int->Prop):(∃j,[V.int n]=[V.int j]/\P j)=P n:=propext ⟨λ⟨_,e,h⟩=>by cases e;exact h,λh=>⟨n,rfl,h⟩⟩
theorem uX(x:V)(xs:LB)(P:V->LB->Prop):(∃v r,x::xs=v::r/\P v r)=P x xs:=propext ⟨λ⟨_,_,e,h⟩=>by cases e;exact h,λh=>⟨x,xs,rfl,h⟩⟩
noncomputable def gF(scope fsc:Scope):Scope:={scope with names:=scope.names.map λ(n,k)=>if (k == .free&&fsc.kind == .function&&fsc.names.lookup n==some .cell) then (n,.cell) else (n,k)}
section
variable{X:Cx}{N0 T:KZ}{scope:Scope}{C:Addr}{fp:LC}{s:Shared}{H:Hp}{x:Str}
theorem kE(fsc:Scope)(h:(gF scope fsc).names.lookup x=some .globalImplicit)(e:X.env.scope=fsc:=by rfl):Gl (ce X N0 T scope C fp s H) x:=by subst e;exact h
theorem cr(fsc:Scope)(h:((gF scope fsc).names.lookup x=some .local||(gF scope fsc).names.lookup x=some .cell||(gF scope fsc).names.lookup x=some .free)=true)(e:X.env.scope=fsc:=by rfl):aq (ce X N0 T scope C fp s H).env.scope x:=by
 subst e;simp only[Bool.or_eq_true,decide_eq_true_eq]at h
 rcases h with (h | h) | h
 .exact .inl h
 .exact .inr (.inl h)
 .exact .inr (.inr h)
theorem eT(fsc:Scope)(h:(gF scope fsc).names.lookup x=some .local)(e:X.env.scope=fsc:=by rfl):aH (ce X N0 T scope C fp s H).env.scope x:=by subst e;exact .inl h
theorem gw(fsc:Scope)(h:(gF scope fsc).names.lookup x=some .local)(e:X.env.scope=fsc:=by rfl):(ce X N0 T scope C fp s H).fn x=true\/(ce X N0 T scope C fp s H).env.scope.names.lookup x=some .local:=by subst e;exact .inr h
end
theorem bA:G7 X "list.append" nj:=oY
theorem PW.pt'{t:TT}(h:PW X e t):PT X e t:=h.pt
theorem kF{t u:TS}{D:dN}(I:St->Hp->Prop)(h:∀k:St->Hp->Prop,(∀σ' H',I σ' H'->k σ' H')->t {D with nx:=k} σ H)(hu:∀σ' H',I σ' H'->xi u D σ' H'):xi (C9 t u) D σ H:=h _ hu
theorem mq{Q:List (V×V)->Hp->Prop}:jT [] σ H Q=Q [] H:=rfl
theorem lj{Q:List (V×V)->Hp->Prop}(tk tv:TE)(r:List (TE×TE)):jT ((tk,tv)::r) σ H Q=tk σ H λx H1=>tv σ H1 λy H2=>jT r σ H2 λps F=>Q ((x,y)::ps) F:=rfl
theorem sj.upd{H':Hp}{p:Addr}(sm:sj H H')(h:H p=none)(o:HO):sj H (upd H' p o):=λb u q=>by rw[au (aP q h)];exact sm b u q
theorem am{p:Addr}(h:H p=none)(o:HO):sj H (upd H p o):=λb u q=>by rw[au (aP q h)];exact q
end L2
namespace L2
open PySem PySem.Spec PyProof.Rows PySem.SeqAt
variable{n:Nat}{α:Type}
def Gr(K:W.Frag)(H:Hp):Nat->V->V->Bool->Prop
 | 0,x,y,b=>bU x=true/\bU y=true/\b=gn x y
 | n+1,x,y,b=>(bU x=true/\bU y=true/\b=gn x y)\/∃a c xs ys,x = .ref a/\y = .ref c/\((su K H a xs/\su K H c ys)\/(vr K H a xs/\vr K H c ys))/\
   ((∃e:Nat->Bool,xs.length=ys.length/\(∀(i:Nat) x y,xs[i]?=some x->ys[i]?=some y->Gr K H n x y (e i))/\b=(List.range xs.length).all e)\/
    (su K H a xs/\su K H c ys/\xs.length≠ys.length/\b=false))
theorem lM:∀ {x:V},bU x=true->gn x x=true
 | .non,_=>rfl
 | .bl b,_=>by simp[gn]
 | .int i,_=>by simp[gn]
 | .str y,_=>by simp[gn]
section
variable{X:Cx}{pins:List (Addr×Obj)}{σ:St}{H:Hp}{s:Shared}
theorem Gr.self(I:Inv X pins σ H s):∀ {n:Nat} {x:V} {b:Bool},Gr X.K H n x x b->b=true
 | 0,x,b,h=>by obtain⟨h1,_,rfl⟩:=h;exact lM h1
 | n+1,x,b,h=>by
  rcases h with ⟨h1,_,rfl⟩ | ⟨a,c,xs,ys,rfl,e,W,h⟩
  .exact lM h1
  .cases e
   have J:xs=ys:=by
    rcases W with ⟨U,O⟩ | ⟨U,O⟩
    .exact I.list_inj U O
    .exact I.tuple_inj U O
   subst J;rcases h with ⟨e,_,Y,rfl⟩ | ⟨_,_,z,_⟩
   .rw[zbu]
    intro i hi
    have F:=KH.mp hi;have q:=Y i xs[i] xs[i] (qz F) (qz F);exact Gr.self I q
   .exact absurd rfl z
theorem Gr.rc(I:Inv X pins σ H s)(ih:∀ {A:Around} {x y:V} {b:Bool} {u v:Value},A.units+n<cLine->Gr X.K H n x y b->RelV x u->RelV y v->EqAt A s u v b)
  {A:Around} {a c:Addr} {xs ys:LB} {b:Bool} (hu:A.units+(n+1)<cLine) (hq:(su X.K H a xs/\su X.K H c ys)\/(vr X.K H a xs/\vr X.K H c ys))
  (h:(∃e:Nat->Bool,xs.length=ys.length/\(∀(i:Nat) x y,xs[i]?=some x->ys[i]?=some y->Gr X.K H n x y (e i))/\b=(List.range xs.length).all e)\/(su X.K H a xs/\su X.K H c ys/\xs.length≠ys.length/\b=false)) :
  RcAt A s (.ref a) (.ref c) b/\RcNeAt A s (.ref a) (.ref c) (!b):=by
 have ab:A.in1.units+n<cLine:=by
  have:A.in1.units=A.units+1:=rfl
  lia
 rcases h with ⟨e,hl,he,rfl⟩ | ⟨Z,Y,hl,rfl⟩
 .rcases hq with ⟨Z,Y⟩ | ⟨Z,Y⟩
  .obtain⟨i1,O,J,z1⟩:=I.list Z
   obtain⟨i2,U,p2,z2⟩:=I.list Y
   have l1:=O.length;have l2:=U.length
   have F:∀j (h1:j<i1.toArray.size) (h2:j<i2.toArray.size),EqAt A.in1 s i1.toArray[j] i2.toArray[j] (e j):=λj h1 h2=>by
    obtain⟨x,hx,rx⟩:=O.of (i:=j) (u:=i1.toArray[j]) (by simp at h1 |-)
    obtain⟨y,hy,ry⟩:=U.of (i:=j) (u:=i2.toArray[j]) (by simp at h2 |-)
    exact ih ab (he j x y hx hy) rx ry
   have ez:xs.length=i1.toArray.size:=by simp;lia
   rw[ez];exact⟨RcAt.lists J.isList p2.isList (by simp;lia) (by lia) F,RcNeAt.lists J.isList p2.isList (by simp;lia) (by lia) F⟩
  .obtain⟨i1,O,J,z1⟩:=I.tuple Z
   obtain⟨i2,U,p2,z2⟩:=I.tuple Y
   have l1:=O.length;have l2:=U.length
   have F:∀j (h1:j<i1.toArray.size) (h2:j<i2.toArray.size),EqAt A.in1 s i1.toArray[j] i2.toArray[j] (e j):=λj h1 h2=>by
    obtain⟨x,hx,rx⟩:=O.of (i:=j) (u:=i1.toArray[j]) (by simp at h1 |-)
    obtain⟨y,hy,ry⟩:=U.of (i:=j) (u:=i2.toArray[j]) (by simp at h2 |-)
    exact ih ab (he j x y hx hy) rx ry
   have ez:(List.range xs.length).all e=((List.range (min i1.toArray.size i2.toArray.size)).all e&&i1.toArray.size==i2.toArray.size):=by
    have e1:i1.toArray.size=xs.length:=by simp;lia
    have e2:i2.toArray.size=xs.length:=by simp;lia
    rw[e1,e2,Nat.min_self];simp
   rw[ez];exact⟨RcAt.tuples (show s.heap.IsTuple a i1.toArray from J) (show s.heap.IsTuple c i2.toArray from p2) (by lia) F,RcNeAt.tuples (show s.heap.IsTuple a i1.toArray from J) (show s.heap.IsTuple c i2.toArray from p2) (by lia) F⟩
 .obtain⟨i1,O,J,z1⟩:=I.list Z
  obtain⟨i2,U,p2,z2⟩:=I.list Y
  have l1:=O.length;have l2:=U.length
  have W:(i1.toArray.size != i2.toArray.size)=true:=by
   rw[bne_iff_ne];simp;lia
  exact⟨RcAt.lists_lengths J.isList p2.isList W (by lia),RcNeAt.lists_lengths J.isList p2.isList W (by lia)⟩
theorem Gr.at(I:Inv X pins σ H s):∀ {n:Nat} {A:Around} {x y:V} {b:Bool} {u v:Value},A.units+n<cLine->Gr X.K H n x y b->RelV x u->RelV y v->EqAt A s u v b
 | 0,A,x,y,b,u,v,_,h,J,F=>by obtain⟨h1,h2,rfl⟩:=h;exact jY J F h1 h2
 | n+1,A,x,y,b,u,v,hu,h,J,F=>by
  have W:=h;rcases h with ⟨h1,h2,rfl⟩ | ⟨a,c,xs,ys,rfl,rfl,U,h⟩
  .exact jY J F h1 h2
  .cases J
   cases F
   by_cases hac:a=c
   .subst hac
    rw[Gr.self I W];exact EqAt.same _
   .exact EqAt.of_refs hac (Gr.rc I (λO q J F=>Gr.at I O q J F) hu U h).1
end
section
variable{X:Cx}
def Cy(K:W.Frag):R2:=λx y H Q=>∃(a c:Addr) (n:Nat) (b:Bool),x = .ref a/\y = .ref c/\n<=100/\Gr K H (n+1) x y b/\Q (.bl (!b)) H
theorem Gx(hu:X.A.units+101<cLine):FS X (compareOp .NotEq) (Cy X.K):=by
 intro pins s σ H x y v u Q I O F h
 obtain⟨a,c,n,b,rfl,rfl,hn,Y,q⟩:=h
 cases O
 cases F;rcases Y with ⟨h1,_⟩ | ⟨a',c',xs,ys,Z,W,U,h⟩
 .cases h1
 .cases Z
  cases W;exact(Gr.rc I (λJ q O F=>Gr.at I J q O F) (by lia) U h).2 _ _ _ _ ⟨.bl (!b),H,I,rfl,q⟩
theorem nA(K:W.Frag){k:Nat}(J:B4 k X.A)(F:X.K=K:=by rfl):FS X (compareOp .NotEq) (Cy K):=by subst F;exact Gx (by have:=J.un;lia)
end
section
variable{K:W.Frag}{H:Hp}{Q:VK}
theorem vS(a c:Addr):Cy K (.ref a) (.ref c) H Q=∃(n:Nat) (b:Bool),n<=100/\Gr K H (n+1) (.ref a) (.ref c) b/\Q (.bl (!b)) H:=
 propext ⟨λ⟨_,_,n,b,F,J,q⟩=>⟨n,b,q⟩,λ⟨n,b,q⟩=>⟨a,c,n,b,rfl,rfl,q⟩⟩
theorem Gr.flat{n:Nat}{x y:V}(hx:bU x=true)(F:bU y=true):Gr K H n x y (gn x y):=by
 cases n with
 | zero=>exact⟨hx,F,rfl⟩
 | succ n=>exact .inl ⟨hx,F,rfl⟩
theorem Gr.refl{x:V}(hx:bU x=true):Gr K H n x x true:=by
 have q:Gr K H n x x (gn x x):=Gr.flat hx hx
 rwa [lM hx]at q
theorem Gr.seq{a c:Addr}{xs ys:LB}(F:(su K H a xs/\su K H c ys)\/(vr K H a xs/\vr K H c ys))(hl:xs.length=ys.length)(J:∀(i:Nat) x y,xs[i]?=some x->ys[i]?=some y->Gr K H n x y true):Gr K H (n+1) (.ref a) (.ref c) true:=
 .inr ⟨a,c,xs,ys,rfl,rfl,F,.inl ⟨λ_=>true,hl,J,by simp⟩⟩
theorem Gr.seqFlat{a c:Addr}{xs:LB}(O:(su K H a xs/\su K H c xs)\/(vr K H a xs/\vr K H c xs))(hf:∀x∈xs,bU x=true):Gr K H (n+1) (.ref a) (.ref c) true:=
 Gr.seq O rfl λi x y F J=>by
  rw[F]at J;cases J
  exact Gr.refl (hf x (kg F))
end
theorem zV{y:Str}:∀ {l:KZ} {j:Nat},j<l.idxOf y->∀(h:j<l.length),l[j]≠y
 | n::r,0,h,_=>by
  intro e
  have F:n=y:=e
  subst F;simp at h
 | n::r,j+1,h,h2=>by
  by_cases e:n=y
  .subst e;simp at h
  .rw[List.idxOf_cons]at h
   have J:(n==y)=false:=beq_eq_false_iff_ne.mpr e
   rw[J]at h
   have h':j+1<r.idxOf y+1:=h
   have q:=zV (y:=y) (l:=r) (j:=j) (by lia) (by simpa using h2)
   simpa using q
section
variable{X:Cx}
def u0(K:W.Frag):V->LB->Hp->VK->Prop:=λx vs H Q=>∃(p:Addr) (ss:KZ) (y:Str),x = .ref p/\vs=[.str y]/\su K H p (ss.map V.str)/\y∈ss/\Q (.int (ss.idxOf y:Nat)) H
theorem mE{K:W.Frag}{H:Hp}{Q:VK}(p:Addr)(y:Str):u0 K (.ref p) [.str y] H Q=∃F:KZ,su K H p (F.map V.str)/\y∈F/\Q (.int (F.idxOf y:Nat)) H:=
 propext ⟨λ⟨_,F,_,J,O,q⟩=>by cases J;cases O;exact⟨F,q⟩,λ⟨F,q⟩=>⟨p,F,y,rfl,rfl,q⟩⟩
theorem pq(K:W.Frag)(hK:X.K=K:=by rfl):G7 X "list.index" (u0 K):=by
 subst hK;intro pins s σ H x xs v us Q I rx r h
 obtain⟨p,O,y,rfl,rfl,hq,hy,q⟩:=h
 cases rx;obtain⟨u,rfl,ru⟩:=cU r
 obtain⟨t,rfl⟩:=ru
 obtain⟨J,rv,pl,hz⟩:=I.list hq
 have Y:J.length=O.length:=by rw[<-rv.length,zj]
 rw[zj]at hz
 have hs:sizeLine=16777216:=sizeLine_eq
 obtain⟨⟨cls,dd,data,sl⟩,ho,hc,n,hd⟩:=pl.isList
 simp only at hc hd
 subst hc hd;have hj:O.idxOf y<O.length:=KM.mpr hy
 have U:∀(i:Nat) (h:i<J.length),∃t',J[i] = .str O[i] t':=λi h=>by
  obtain⟨x,hx,rx⟩:=rv.of (i:=i) (u:=J[i]) (qz h)
  rw[wC,qz (by lia)]at hx
  have Z:V.str O[i]=x:=Option.some.inj hx
  subst Z;exact rx
 refine call_meets zbv ⟨_,ho,rfl⟩ F.entry_list_index (F.args_list_index_2 _ _)
  (list_indexAt p J.toArray n dd sl (.str y t) (gu (.str y)) (O.idxOf y) (by simpa [Y] using hj) (by lia) ?_ ?_) ⟨ho,λz hz=>?_,⟨.int _,H,I.tok _,⟨_,rfl⟩,q⟩⟩
 .show gu (.str y) J[O.idxOf y]=true
  obtain⟨t',e⟩:=U (O.idxOf y) (by lia)
  rw[e];show (O[O.idxOf y]==y)=true
  rw[List.getElem_idxOf hj];simp
 .intro j ab ag
  have ad:j<J.length:=by simpa using ab
  show gu (.str y) J[j]=false
  obtain⟨t',e⟩:=U j ad
  rw[e];show (O[j]==y)=false
  exact beq_eq_false_iff_ne.mpr (zV ag _)
 .have ac:z∈J:=by simpa using hz
  obtain⟨i,hi,rfl⟩:=KD.mp ac
  obtain⟨t',e⟩:=U i hi
  have q':=jY (A:=X.A.in1) (s:=s) (y:=.str O[i]) (x:=.str y) (u:=J[i]) (v:=.str y t) ⟨t',e⟩ ⟨t,rfl⟩ rfl rfl;rw[e];rw[e]at q'
  exact q'
end
section
variable{X:Cx}
def Gi:R2:=λx y H Q=>y = .non/\Q (.bl (decide (x = .non))) H
def DN:R2:=λx y H Q=>y = .non/\Q (.bl (!decide (x = .non))) H
theorem kJ:FS X (compareOp .Is) Gi:=G4
theorem jy:FS X (compareOp .IsNot) DN:=Fo
def Du:LB->Hp->VK->Prop:=λxs H Q=>(∃i,xs=[.int i]/\Q (.int i) H)\/∃k,xs=[.bl k]/\Q (.int (if k then 1 else 0)) H
theorem oZ:BB X (.type "int") Du:=zz
def wx(K:W.Frag):LB->Hp->VK->Prop:=λxs H Q=>∃p ys,xs=[.ref p]/\(su K H p ys\/vr K H p ys)/\∀l,H l=none->Q (.ref l) (upd H l (.lst ys))
theorem jF(K:W.Frag)(F:X.K=K:=by rfl):BB X (.type "list") (wx K):=ym K F
def y6(K:W.Frag):LB->Hp->VK->Prop:=λxs H Q=>∃p ys,xs=[.ref p]/\((su K H p ys/\∀l,H l=none->Q (.ref l) (upd H l (.tup ys)))\/(vr K H p ys/\Q (.ref p) H))
theorem oS(K:W.Frag)(F:X.K=K:=by rfl):BB X (.type "tuple") (y6 K):=uE K F
def Dz:LB->Hp->VK->Prop:=λxs H Q=>∃i j,xs=[.int i,.int j]/\Q (.int (if j<i then j else i)) H
theorem zA(F:X.calm=true:=by rfl):BB X (.builtin "min") Dz:=Aq F
def wA:R2:=λx y H Q=>match x,y with
 | .int i,.int j=>HQ i j/\Q (.int (i*j)) H
 | .str z,.int n=>0<=n/\n<=4096/\z.length<=4096/\Q (.str (Txt.mul z n)) H
 | _,_=>False
theorem eQ:FS X (binaryOp .Mult) wA:=by
 intro pins s σ H x y v u Q I J F h
 cases x with
 | int i=>
  cases y with
  | int j=>exact IF pins s σ H _ _ v u Q I J F ⟨_,_,rfl,rfl,h⟩
  | _=>exact(show False from h).elim
 | str z=>
  cases y with
  | int n=>
   obtain⟨t,rfl⟩:=J
   obtain⟨t',rfl⟩:=F
   obtain⟨O,h1,h2,q⟩:=h
   exact SB.mul (mulOk_of 4096 4096 h2 (by lia) (by lia) (by decide) (by decide)) λt' k=>⟨.str (Txt.mul z n),H,I.tok k,⟨t',rfl⟩,q⟩
  | _=>exact(show False from h).elim
 | _=>exact(show False from h).elim
end
section
variable{K:W.Frag}{H:Hp}{Q:VK}
theorem wj(x:V):Gi x .non H Q=Q (.bl (decide (x = .non))) H:=propext ⟨λh=>h.2,λh=>⟨rfl,h⟩⟩
theorem t_(x:V):DN x .non H Q=Q (.bl (!decide (x = .non))) H:=propext ⟨λh=>h.2,λh=>⟨rfl,h⟩⟩
theorem tY(k:Bool):Du [.bl k] H Q=Q (.int (if k then 1 else 0)) H:=propext ⟨λh=>by rcases h with ⟨_,e,q⟩ | ⟨_,e,q⟩<;>cases e;exact q,λq=>.inr ⟨k,rfl,q⟩⟩
theorem ma(p:Addr):wx K [.ref p] H Q=∃ys,(su K H p ys\/vr K H p ys)/\∀l,H l=none->Q (.ref l) (upd H l (.lst ys)):=propext ⟨λ⟨_,ys,e,q⟩=>by cases e;exact⟨ys,q⟩,λ⟨ys,q⟩=>⟨p,ys,rfl,q⟩⟩
theorem oP(p:Addr):y6 K [.ref p] H Q=∃ys,((su K H p ys/\∀l,H l=none->Q (.ref l) (upd H l (.tup ys)))\/(vr K H p ys/\Q (.ref p) H)):=propext ⟨λ⟨_,ys,e,q⟩=>by cases e;exact⟨ys,q⟩,λ⟨ys,q⟩=>⟨p,ys,rfl,q⟩⟩
theorem uh(i j:Int):Dz [.int i,.int j] H Q=Q (.int (if j<i then j else i)) H:=propext ⟨λ⟨_,_,e,q⟩=>by cases e;exact q,λq=>⟨i,j,rfl,q⟩⟩
theorem oM(i j:Int):wA (.int i) (.int j) H Q=(HQ i j/\Q (.int (i*j)) H):=rfl
theorem ou(z:Str)(n:Int):wA (.str z) (.int n) H Q=(0<=n/\n<=4096/\z.length<=4096/\Q (.str (Txt.mul z n)) H):=rfl
theorem wv(a:Addr)(lo hi:LI):Bh K (.ref a) lo hi H Q=∃xs,su K H a xs/\∀p,H p=none->Q (.ref p) (upd H p (.lst (dH xs lo hi))):=propext ⟨λ⟨_,xs,e,q⟩=>by cases e;exact⟨xs,q⟩,λ⟨xs,q⟩=>⟨a,xs,rfl,q⟩⟩
theorem Dv(g:Int->V)(i:Int):rU g (.int i) H Q=Q (g i) H:=propext ⟨λ⟨_,e,q⟩=>by cases e;exact q,λq=>⟨i,rfl,q⟩⟩
end
theorem cJ(h:n<=1000000):n<sizeLine:=by
 have:sizeLine=16777216:=sizeLine_eq
 lia
theorem aU(h:n<=1000000):n<=sizeLine:=xF (cJ h)
theorem ji{f:α->V}{xs:List α}{i:Int}{x:α}(J:0<=i)(h:xs[i.toNat]?=some x):di (xs.map f) i=some (f x):=by
 have q:(xs.map f)[i.toNat]?=some (f x):=by rw[wC,h];rfl
 have F:=ap q
 rwa [show ((i.toNat:Nat):Int)=i by lia]at F
theorem sv{xs:List α}{i:Int}(J:0<=i)(h:i<xs.length):∃x,xs[i.toNat]?=some x/\di xs i=some x:=by
 have F:i.toNat<xs.length:=by lia
 refine⟨xs[i.toNat],qz F,?_⟩
 have q:=ap (qz F)
 rwa [show ((i.toNat:Nat):Int)=i by lia]at q
theorem ED{H H':Hp}{p:Addr}{o:HO}(h:upd H p o=H')(F:H p=none):sj H H':=h ▸ am F o
theorem JK{H H':Hp}{p:Addr}{o:HO}(h:upd H p o=H'):H' p=some o:=h ▸ ai
theorem rf{β: Type}{f:α->β}(xs:List α)(x:α):xs.map f++[f x]=(xs++[x]).map f:=by rw[yd];rfl
theorem sY{P:α->Prop}{xs:List α}{x:α}(h:∀y∈xs,P y)(hx:P x):∀y∈xs++[x],P y:=λy F=>(KA.mp F).elim (h y) λz=>by rw[Kw.mp z];exact hx
theorem lL{xs:List α}{x:α}(h:xs.length=n):(xs++[x]).length=n+1:=by simp[h]
end L2
namespace L2
open PySem PySem.Spec PyProof.Rows
variable{X:Cx}{σ:St}{H:Hp}{w:World}{pos:Pos}
theorem Inv.turnedL{pins:List (Addr×Obj)}{s:Shared}{h':Heap}{t':Nat}{ch:LC}(I:Inv X pins σ H s)(k:∀b o,b∉ch->s.heap.get? b=some o->h'.get? b=some o)
  (hf:∀b∈ch,iA X pins H b):Inv X pins σ H {s with heap:=h',toks:=t'}:=by
 have J:∀b u,H b=some u->b∉ch:=λb u e z=>by rw[(hf b z).1]at e;cases e
 refine I.step (g':=s.gens) (d':=s.drawn) (ch:=ch) (λb Y=>?_) (λb o _ _ F e _=>k b o F e) (λb o _ _ F e _=>⟨o.slots,k b o F e⟩) (λ_ _ _ _ n=>n)
  (λb o F e=>⟨o,k b o F e⟩) (λ_ _ e=>e) (λ_ _ _ e=>e) (λb ps e=>⟨#[],by rw[e];simp⟩) (λm O=>?_) (λb u e=>?_) I.bare
 .obtain⟨_,W,_,Z,U,f5⟩:=hf b Y
  exact⟨Z,W,U,f5⟩
 .obtain⟨o,es,ep,ho,r⟩:=O
  exact⟨o,es,ep,k _ o (λz=>(hf _ z).2.1 rfl) ho,r⟩
 .refine(I.hok b u e).stay (λc v F q=>k c v ?_ q) (λ_ q=>q) λ_ _ q=>q
  rcases F with z | z
  .rw[z];exact J b u e
  .exact J c _ z
theorem Inv.turnedLaid{pins:List (Addr×Obj)}{s:Shared}{h':Heap}{t':Nat}{ch:LC}{a:Addr}{o:HO}(I:Inv X pins σ H s)(k:∀b o,b∉ch->s.heap.get? b=some o->h'.get? b=some o)
  (hf:∀b∈ch,iA X pins H b) (W:s.heap.objs.size<=a) (new:BC X.prog X.w (upd H a o) h' a o):Inv X pins σ (upd H a o) {s with heap:=h',toks:=t'}:=by
 have J:H a=none:=I.hok.fresh W
 have O:∀b u,H b=some u->b∉ch:=λb u e z=>by rw[(hf b z).1]at e;cases e
 refine I.step (g':=s.gens) (d':=s.drawn) (ch:=ch) (λb U=>?_) (λb o _ _ F e _=>k b o F e) (λb o _ _ F e _=>⟨o.slots,k b o F e⟩) (λb u _ q n=>?_)
  (λb o F e=>⟨o,k b o F e⟩) (λb xs q=>?_) (λb u xs q=>?_) (λb ps q=>⟨#[],?_⟩) (λm Y=>?_) (λb u e=>?_) I.bare
 .obtain⟨_,f1,_,f3,Z,f5⟩:=hf b U
  exact⟨f3,f1,Z,f5⟩
 .rw[au (xa (uo (wD q) W))];exact n
 .rw[au (aP q J)];exact q
 .rw[au (aP q J)];exact q
 .rw[au (aP q J),q];simp
 .obtain⟨o,es,ep,ho,r⟩:=Y
  exact⟨o,es,ep,k _ o (λz=>(hf _ z).2.1 rfl) ho,r⟩
 .by_cases U:b=a
  .subst U;rw[ai]at e;cases e;exact new
  .rw[au U]at e
   refine(I.hok b u e).stay (λc v F q=>k c v ?_ q) (λc q=>by rw[au (aP q J)];exact q) λc xs q=>by rw[au (aP q J)];exact q
   rcases F with z | z
   .rw[z];exact O b u e
   .exact O c _ z
def DC(K:W.Frag)(a b:Addr):It:=
  ⟨λi H=>∃xs ys x y,su K H a xs/\su K H b ys/\xs[i]?=some x/\ys[i]?=some y,
   λi H v H'=>∃t x y,H t=none/\v = .ref t/\H'=upd H t (.tup [x,y])/\(∀xs,su K H a xs->xs[i]?=some x)/\∀ys,su K H b ys->ys[i]?=some y,
   λi H=>∃xs ys,su K H a xs/\su K H b ys/\(xs.length<=i\/ys.length<=i)⟩
structure ms (z TI TO i1 i2:Addr):Prop where
 TIz:TI≠z
 TOz:TO≠z
 i1z:i1≠z
 i2z:i2≠z
 TITO:TI≠TO
 TIi1:TI≠i1
 TIi2:TI≠i2
 TOi1:TO≠i1
 TOi2:TO≠i2
 i12:i1≠i2
theorem fU{h:Heap}{l c:Addr}{xs:LM}{o:Obj}(hl:h.IsList l xs)(e:h.get? c=some o)(O:o.cls ≠ .type "list"):l≠c:=by
 rintro rfl
 obtain⟨o',F,J,_⟩:=hl
 rw[e]at F;cases F
 exact O J
def JW(z TI TO i1 i2 l1 l2:Addr)(i:Nat)(h:Heap):Prop:=
 IsZip h z TI TO .none/\IsPair h TI (.ref i1) (.ref i2)/\(∃a b,IsPair h TO a b)/\h.IsListIter i1 l1 i/\h.IsListIter i2 l2 i
theorem z_{h:Heap}{z TI TO i1 i2 F J:Addr}{i:Nat}{xs ys:LM}(D:ms z TI TO i1 i2)(st:JW z TI TO i1 i2 F J i h)(h1:h.IsList F xs)(h2:h.IsList J ys):ZipApart z TI TO i1 i2 F J:=by
 obtain⟨U,s2,⟨a,b,s3⟩,⟨o4,s4,c4,_⟩,⟨o5,W,c5,_⟩⟩:=st
 have Y:o4.cls ≠ .type "list" := by rw[c4];decide
 have Z:o5.cls ≠ .type "list" := by rw[c5];decide
 have nz:Value.type "zip" ≠ Value.type "list" := by decide
 have O:Value.type "tuple" ≠ Value.type "list" := by decide
 exact⟨D.TIz,D.TOz,D.i1z,D.i2z,D.TITO,D.TIi1,D.TIi2,D.TOi1,D.TOi2,D.i12,fU h1 U nz,fU h1 s3 O,fU h1 s4 Y,fU h1 W Z,fU h2 U nz,fU h2 s3 O,fU h2 s4 Y,fU h2 W Z⟩
theorem Cg{P:Program}{K:W.Frag}{ag:LL}{k:Nat}{z TI TO i1 i2 l1 l2:Addr}(D:ms z TI TO i1 i2):kC P w K (.Tuple ag k pos) (DC K l1 l2) [z,TI,TO,i1,i2] z (JW z TI TO i1 i2 l1 l2) where
 mem:=by simp
 obj:=λi h st b F=>by
  obtain⟨U,s2,⟨_,_,s3⟩,⟨o4,Z,c4,d4⟩,⟨o5,Y,c5,d5⟩⟩:=st
  simp only[wQ,tK,or_false]at F
  rcases F with rfl | rfl | rfl | rfl | rfl
  .exact⟨_,U,λv e=>by cases e⟩
  .exact⟨_,s2,λv e=>by cases e⟩
  .exact⟨_,s3,λv e=>by cases e⟩
  .exact⟨_,Z,λv e=>by rw[d4]at e;cases e⟩
  .exact⟨_,Y,λv e=>by rw[d5]at e;cases e⟩
 keep:=λi h h' st kk=>by
  obtain⟨U,s2,⟨a,b,s3⟩,Z,Y⟩:=st
  exact⟨kk z (by simp) _ U,kk TI (by simp) _ s2,⟨a,b,kk TO (by simp) _ s3⟩,Z.at λo e=>kk i1 (by simp) o e,Y.at λo e=>kk i2 (by simp) o e⟩
 item:=by
  intro X hP hw hK hc i pins s σ H E I hf st hg
  subst hP hw hK;obtain⟨xs,ys,x,y,q1,q2,hx,hy⟩:=hg
  obtain⟨b1,ad,p1,_⟩:=I.list q1
  obtain⟨b0,ab,p2,_⟩:=I.list q2
  obtain⟨u1,a8,bc⟩:=ad.get hx
  obtain⟨u2,bg,bp⟩:=ab.get hy
  have D':=z_ D st p1.isList p2.isList;obtain⟨U,s2,⟨a,b,s3⟩,Z,Y⟩:=st
  refine wpAny_pyNext_zip_item D' U s2 s3 Z Y p1.isList p2.isList (x:=u1) (y:=u2) (by simpa using a8) (by simpa using bg) λh' a1 a2 a3 a4 a5 a6 kk=>?_
  refine⟨_,rfl,wpAny_letOwnedTupleGo_zip a1 λas be J=>?_⟩
  have lt:∀ {c o},s.heap.get? c=some o->s.heap.objs.size≠c:=λe=>Ie (wD e)
  have bt:s.heap.objs.size≠z:=lt U
  have ac:∀b o,b∉[z,TI,TO,i1,i2]->s.heap.get? b=some o->as.get? b=some o:=λb o F e=>by
   simp only[wQ,tK,or_false,not_or]at F
   exact J.extBut _ _ F.1 (kk b o F.1 F.2.2.1 F.2.2.2.1 F.2.2.2.2 e)
  have hsz:H s.heap.objs.size=none:=I.hok.fresh (qt _)
  have al:IsPair as s.heap.objs.size u1 u2:=J.extBut _ _ bt a5
  have a9:∀c∈[z,TI,TO,i1,i2],c≠s.heap.objs.size:=λc O=>by
   obtain⟨o4,e4,_⟩:=id Z
   obtain⟨o5,e5,_⟩:=id Y
   simp only[wQ,tK,or_false]at O
   rcases O with rfl | rfl | rfl | rfl | rfl
   .exact(lt U).symm
   .exact(lt s2).symm
   .exact(lt s3).symm
   .exact(lt e4).symm
   .exact(lt e5).symm
  refine⟨.ref s.heap.objs.size,upd H s.heap.objs.size (.tup [x,y]),I.turnedLaid (t':=s.toks) ac hf (qt _) ⟨aU (by show 2<=1000000;decide),[u1,u2],.cons bc (.cons bp .nil),⟨_,al,rfl,rfl,0,rfl⟩⟩,rfl,⟨_,x,y,hsz,rfl,rfl,λb2 q'=>?_,λb3 q'=>?_⟩,
   ⟨be,J.extBut _ _ D.TIz (kk _ _ D.TIz D.TITO D.TIi1 D.TIi2 s2),⟨_,_,J.extBut _ _ D.TOz a2⟩,a3.extBut J.extBut D.i1z,a4.extBut J.extBut D.i2z⟩,λc O=>?_⟩
  .rw[I.list_inj q' q1];exact hx
  .rw[I.list_inj q' q2];exact hy
  .rw[au (a9 c O)];exact(hf c O).1
 done:=by
  intro X hP hw hK hc i pins s σ H E I hf st hg
  subst hP hw hK;obtain⟨xs,ys,q1,q2,a7⟩:=hg
  obtain⟨b1,ad,p1,_⟩:=I.list q1
  obtain⟨b0,ab,p2,_⟩:=I.list q2
  have l1:=ad.length;have l2:=ab.length;have D':=z_ D st p1.isList p2.isList;obtain⟨U,s2,⟨a,b,s3⟩,Z,Y⟩:=st
  refine wpAny_pyNext_zip_end (I.ok.hd hc) D' U s2 s3 Z Y p1.isList p2.isList ?_ λh' kk=>⟨rfl,I.turnedL (t':=s.toks) (λb o F e=>?_) hf⟩
  .rcases a7 with z | z
   .exact .inl (by simp;lia)
   .exact .inr (by simp;lia)
  .simp only[wQ,tK,or_false,not_or]at F
   exact kk b o F.1 F.2.2.1 F.2.2.2.1 F.2.2.2.2 e
 self:=λA i s Q E st h=>wpAny_pyIter_zip st.1 h
theorem JL(n:Nat):ms (n+4) (n+2) (n+3) n (n+1):=⟨(show (@Ne Nat (n+2) (n+4):Prop) by lia),(show (@Ne Nat (n+3) (n+4):Prop) by lia),(show (@Ne Nat (n) (n+4):Prop) by lia),(show (@Ne Nat (n+1) (n+4):Prop) by lia),(show (@Ne Nat (n+2) (n+3):Prop) by lia),(show (@Ne Nat (n+2) (n):Prop) by lia),(show (@Ne Nat (n+2) (n+1):Prop) by lia),(show (@Ne Nat (n+3) (n):Prop) by lia),(show (@Ne Nat (n+3) (n+1):Prop) by lia),(show (@Ne Nat (n) (n+1):Prop) by lia)⟩
theorem rA:bootBuiltins "zip" = some (.type "zip"):=by decide +kernel
def Bs(K:W.Frag)(ta:TA):TI:=λσ H R=>ta σ H λvs H1=>∃a b:Addr,vs=[.ref a,.ref b]/\(∃xs,su K H1 a xs)/\(∃ys,su K H1 b ys)/\R (DC K a b) H1
theorem ve(K:W.Frag)(ta:TA){R:It->Hp->Prop}:Bs K ta σ H R=ta σ H λvs H1=>∃a b:Addr,vs=[.ref a,.ref b]/\(∃xs,su K H1 a xs)/\(∃ys,su K H1 b ys)/\R (DC K a b) H1:=rfl
theorem qm(n m:Addr)(P:Addr->Addr->Prop):(∃i j,[V.ref n,V.ref m]=[V.ref i,V.ref j]/\P i j)=P n m:=propext ⟨λ⟨_,_,e,h⟩=>by cases e;exact h,λh=>⟨n,m,rfl,h⟩⟩
theorem G3{U:LL}{k:Nat}{J:Pos}{a b:Expr}{ta:TA}{p:Pos}(hg:Gl X "zip") (hm:X.mg "zip" = none) (ha:PA X [a,b] ta) (hs:starEach [a,b] X.env=[(false,eval a X.env),(false,eval b X.env)]:=by rfl) (hs2:starEach [b] X.env=[(false,eval b X.env)]:=by rfl) :
  PI X (.Tuple U k J) (.Call (.Name "zip" p) [a,b] [] pos) (Bs X.K ta):=by
 intro pins s σ H R I h
 refine Call_ (iE I hg hm rA (zaY (bz (ha pos pins s σ H _ I h) λus F ⟨vs,H1,W,Y,q1⟩=>?_) (by rw[hs,hs2]) (by rw[hs2];rfl)))
 obtain⟨l1,l2,e,⟨xs,h1⟩,⟨ys,h2⟩,q⟩:=q1
 subst e;obtain⟨u1,u2,rfl,Y,r2⟩:=jr Y
 cases Y
 cases r2;obtain⟨ab,_,p1,_⟩:=W.list h1
 obtain⟨ac,_,p2,_⟩:=W.list h2
 refine call_zip_2 p1.isList p2.isList λh' a1 a2 a3 a4 a5 a6 kk=>?_
 refine wpAny_pyIter_zip a1 ⟨_,[F.heap.objs.size+4,F.heap.objs.size+2,F.heap.objs.size+3,F.heap.objs.size,F.heap.objs.size+1],_,_,H1,rfl,W.kept (t':=F.toks) kk,
  Cg (z:=F.heap.objs.size+4) (TI:=F.heap.objs.size+2) (TO:=F.heap.objs.size+3) (i1:=F.heap.objs.size) (i2:=F.heap.objs.size+1) (JL _),⟨a1,a2,⟨_,_,a3⟩,a4,a5⟩,λb Z=>?_,q⟩
 have O:F.heap.objs.size<=b:=by
  simp only[wQ,tK,or_false]at Z
  rcases Z with rfl | rfl | rfl | rfl | rfl<;>first | exact qt _ | exact za4 _ _
 exact W.fpOk O (W.hok.fresh O)
theorem ET(K:W.Frag){F:LL}{k:Nat}{J:Pos}{a b:Expr}{ta:TA}{p:Pos}(hg:Gl X "zip") (O:X.mg "zip" = none) (Y:PA X [a,b] ta) (U:starEach [a,b] X.env=[(false,eval a X.env),(false,eval b X.env)]:=by rfl) (hs2:starEach [b] X.env=[(false,eval b X.env)]:=by rfl) (hK:X.K=K:=by rfl) :
  PI X (.Tuple F k J) (.Call (.Name "zip" p) [a,b] [] pos) (Bs K ta):=hK ▸ G3 hg O Y U hs2
def x8(x:V)(H:Hp)(Q:VK):Prop:=match x with
 | .str y=>y.length<=sizeLine/\Q (.str y) H
 | .int i=>i.natAbs.log2<1920/\Q (.str (toString i)) H
 | _=>False
def Hz(te:TE):TE:=λσ H Q=>te σ H λx H1=>x8 x H1 Q
abbrev TJ:=Str->St->Hp->VK->Prop
def Dy:TJ:=λacc _ H Q=>acc.length<=sizeLine/\Q (.str acc) H
def zP(te:TE)(tj:TJ):TJ:=λacc σ H Q=>te σ H λx H1=>∃y,x = .str y/\(acc++y).length<=sizeLine/\tj (acc++y) σ H1 Q
def PJ(X:Cx)(es:LL)(tj:TJ):Prop:=∀(pins:List (Addr×Obj)) (s:Shared) (σ : St) (H:Hp) (acc:Str) (Q:VK),Inv X pins σ H s->tj acc σ H Q->wpAny (model X.prog X.w) X.A (joinParts acc (evalEach es X.env)) (EP X pins σ Q) X.xe s
def Dl(tj:TJ):TE:=λσ H Q=>tj Str.empty σ H Q
section
variable{X:Cx}
theorem AT{e:Expr}{te:TE}{pos:Pos}(U:PE X e te):PE X (.FormattedValue e (-1) none pos) (Hz te):=by
 intro pins s σ H Q I h
 refine FormattedValue_plain (bz (U pins s σ H _ I h) λv W ⟨x,H1,J,O,F⟩=>?_)
 cases x with
 | str y=>
  obtain⟨t,rfl⟩:=O
  exact formatField_str (λt' tk=>⟨.str y,H1,J.tok tk,⟨t',rfl⟩,F.2⟩) F.1
 | int i=>
  obtain⟨t,rfl⟩:=O
  exact formatField_int_small F.1 ⟨.str (toString i),H1,J.tok _,⟨_,rfl⟩,F.2⟩
 | _=>exact(show False from F).elim
theorem Hm:PJ X [] Dy:=λpins s σ H acc Q I h=>joinParts_nil ⟨.str acc,H,I.tok _,⟨_,rfl⟩,h.2⟩ h.1
theorem nR{e:Expr}{es:LL}{te:TE}{F:TJ}(W:PE X e te)(J:PJ X es F):PJ X (e::es) (zP te F):=by
 intro pins s σ H acc Q I h
 show wpAny _ _ (joinParts acc (eval e X.env::evalEach es X.env)) _ _ _
 refine joinParts_cons (bz (W pins s σ H _ I h) λv Y ⟨x,H1,U,O,y,e,hz,q⟩=>?_)
 subst e;obtain⟨t,rfl⟩:=O
 exact⟨hz,J pins Y σ H1 (acc++y) Q U q⟩
theorem EN{J F:Expr}{es:LL}{O:TJ}(h:PJ X (J::F::es) O):PE X (.JoinedStr (J::F::es) pos) (Dl O):=λpins s σ H Q I q=>JoinedStr_many (h pins s σ H Str.empty Q I q)
end
section
variable{σ:St}{H:Hp}{Q:VK}
theorem vO(te:TE):Hz te σ H Q=te σ H λx H1=>x8 x H1 Q:=rfl
theorem sr(F:TJ):Dl F σ H Q=F Str.empty σ H Q:=rfl
theorem uw(acc:Str):Dy acc σ H Q=(acc.length<=sizeLine/\Q (.str acc) H):=rfl
theorem oj(te:TE)(F:TJ)(acc:Str):zP te F acc σ H Q=te σ H λx H1=>∃y,x = .str y/\(acc++y).length<=sizeLine/\F (acc++y) σ H1 Q:=rfl
theorem rQ(y:Str):x8 (.str y) H Q=(y.length<=sizeLine/\Q (.str y) H):=rfl
theorem rZ(i:Int):x8 (.int i) H Q=(i.natAbs.log2<1920/\Q (.str (toString i)) H):=rfl
end
def Aw(K:W.Frag)(a:Addr):It:=
  ⟨λi H=>∃xs x,su K H a xs/\xs[i]?=some x,
   λi H v H'=>∃t x,H t=none/\v = .ref t/\H'=upd H t (.tup [.int i,x])/\∀xs,su K H a xs->xs[i]?=some x,
   λi H=>∃xs,su K H a xs/\xs.length<=i⟩
def QA(e it l:Addr)(i:Nat)(h:Heap):Prop:=(∃old,IsEnum h e it i old)/\h.IsListIter it l i
theorem zJ{P:Program}{K:W.Frag}{ad:LL}{k:Nat}{e it l:Addr}(al:e≠it):kC P w K (.Tuple ad k pos) (Aw K l) [e,it] e (QA e it l) where
 mem:=by simp
 obj:=λi h st b U=>by
  obtain⟨⟨J,O⟩,⟨o4,Y,c4,d4⟩⟩:=st
  simp only[wQ,tK,or_false]at U
  rcases U with rfl | rfl
  .exact⟨_,O,λv e=>by cases e⟩
  .exact⟨_,Y,λv e=>by rw[d4]at e;cases e⟩
 keep:=λi h h' st kk=>by
  obtain⟨⟨J,O⟩,Y⟩:=st
  exact⟨⟨J,kk e (by simp) _ O⟩,Y.at λo z=>kk it (by simp) o z⟩
 item:=by
  intro X hP hw hK hc i pins s σ H E I hf st hg
  subst hP hw hK;obtain⟨xs,x,q1,hx⟩:=hg
  obtain⟨be,ac,p1,_⟩:=I.list q1
  obtain⟨u1,as,a7⟩:=ac.get hx
  obtain⟨⟨J,O⟩,Y⟩:=st
  refine wpAny_pyNext_enum_item O Y p1.isList (x:=u1) (by simpa using as) al λh' a1 a3 a5 a6 kk=>?_
  refine⟨_,rfl,wpAny_letOwnedTupleGo_enum a1 λbc a8 ab=>?_⟩
  have lt:∀ {c o},s.heap.get? c=some o->s.heap.objs.size≠c:=λz=>Ie (wD z)
  have a9:s.heap.objs.size≠e:=lt O
  have Z:∀b o,b∉[e,it]->s.heap.get? b=some o->bc.get? b=some o:=λb o U z=>by
   simp only[wQ,tK,or_false,not_or]at U
   exact ab.extBut _ _ U.1 (kk b o U.1 U.2 z)
  have hsz:H s.heap.objs.size=none:=I.hok.fresh (qt _)
  have ag:=ab.extBut _ _ a9 a5
  have a4:∀c∈[e,it],c≠s.heap.objs.size:=λc F=>by
   obtain⟨o4,e4,_⟩:=id Y
   simp only[wQ,tK,or_false]at F
   rcases F with rfl | rfl
   .exact(lt O).symm
   .exact(lt e4).symm
  refine⟨.ref s.heap.objs.size,upd H s.heap.objs.size (.tup [.int i,x]),I.turnedLaid (t':=s.toks+1) Z hf (qt _) ⟨aU (by show 2<=1000000;decide),[.int i s.toks,u1],.cons ⟨_,rfl⟩ (.cons a7 .nil),⟨_,ag,rfl,rfl,0,rfl⟩⟩,rfl,⟨_,x,hsz,rfl,rfl,λbp q'=>?_⟩,
   ⟨⟨_,by simpa using a8⟩,a3.extBut ab.extBut al.symm⟩,λc F=>?_⟩
  .rw[I.list_inj q' q1];exact hx
  .rw[au (a4 c F)];exact(hf c F).1
 done:=by
  intro X hP hw hK hc i pins s σ H E I hf st hg
  subst hP hw hK;obtain⟨xs,q1,bg⟩:=hg
  obtain⟨be,ac,p1,_⟩:=I.list q1
  have l1:=ac.length;obtain⟨⟨J,O⟩,Y⟩:=st
  refine wpAny_pyNext_enum_end (I.ok.hd hc) O Y p1.isList (by simp;lia) λh' kk=>⟨rfl,I.turnedL (t':=s.toks) (λb o U z=>?_) hf⟩
  simp only[wQ,tK,or_false,not_or]at U
  exact kk b o U.2 z
 self:=λA i s Q E st h=>by
  obtain⟨⟨J,O⟩,_⟩:=st
  exact wpAny_pyIter_enum O h
theorem nS:bootBuiltins "enumerate" = some (.type "enumerate"):=by decide +kernel
def Ds(K:W.Frag)(ta:TA):TI:=λσ H R=>ta σ H λvs H1=>∃a:Addr,vs=[.ref a]/\(∃xs,H1 a=some (.lst xs))/\R (Aw K a) H1
theorem qu(K:W.Frag)(ta:TA){R:It->Hp->Prop}:Ds K ta σ H R=ta σ H λvs H1=>∃a:Addr,vs=[.ref a]/\(∃xs,H1 a=some (.lst xs))/\R (Aw K a) H1:=rfl
theorem vx(n:Addr)(P:Addr->Prop):(∃i,[V.ref n]=[V.ref i]/\P i)=P n:=propext ⟨λ⟨_,e,h⟩=>by cases e;exact h,λh=>⟨n,rfl,h⟩⟩
theorem qH(K:W.Frag){U:LL}{k:Nat}{Y:Pos}{a:Expr}{ta:TA}{p:Pos}(hg:Gl X "enumerate") (hm:X.mg "enumerate" = none) (ha:PA X [a] ta) (hs:starEach [a] X.env=[(false,eval a X.env)]:=by rfl) (hK:X.K=K:=by rfl) :
  PI X (.Tuple U k Y) (.Call (.Name "enumerate" p) [a] [] pos) (Ds K ta):=by
 subst hK;intro pins s σ H R I h
 refine Call_ (iE I hg hm nS (zaY (bz (ha pos pins s σ H _ I h) λus J ⟨vs,H1,Z,r1,q1⟩=>?_) hs rfl))
 obtain⟨l,e,⟨xs,h1⟩,q⟩:=q1
 subst e;obtain⟨u1,rfl,ab⟩:=cU r1
 obtain rfl:u1=Value.ref l:=ab
 obtain⟨hz,F,n,rv,hl⟩ : xs.length<=sizeLine/\∃(F:LD) (n:Nat),A1 xs F/\J.heap.get? l=some {cls:=.type "list",data:=.seq F.toArray n}:=Z.hok l _ h1
 refine call_enumerate_1 hl λh' a1 a4 a6 kk=>?_
 refine wpAny_pyIter_enum a1 ⟨_,[J.heap.objs.size+1,J.heap.objs.size],_,_,H1,rfl,Z.kept (t':=J.toks) kk,
  zJ (e:=J.heap.objs.size+1) (it:=J.heap.objs.size) (Ie (Kg _)),⟨⟨_,a1⟩,a4⟩,λb hb=>?_,q⟩
 have O:J.heap.objs.size<=b:=by
  simp only[wQ,tK,or_false]at hb
  rcases hb with rfl | rfl<;>first | exact qt _ | exact za4 _ _
 exact Z.fpOk O (Z.hok.fresh O)
section
variable{K:W.Frag}{a b:Addr}{xs ys:LB}{g:TG}{te:TE}{nT:Nat}{σ:St}{D:Addr}{Q:VK}{H:Hp}
theorem yU{tb:TS}{D:dN}(F:Nat->St->Hp->Prop)(Y:F 0 σ H)(hl:∀i σ H,i<=xs.length->F i σ H->su K H a xs)
  (J:∀i x t σ H,xs[i]?=some x->F i σ H->H t=none->g (.ref t) σ (upd H t (.tup [.int i,x])) λW H2=>tb {D with nx:=F (i+1),ct:=F (i+1),bk:=D.nx} W H2) (hd:∀σ H,F xs.length σ H->D.nx σ H):kG (Aw K a) g tb D σ H:=by
 refine kZ xs.length F Y (λi σ H hi p=>⟨xs,xs[i],hl i σ H (xF hi) p,by simp[hi]⟩) (λσ H p=>⟨xs,hl _ σ H (qt _) p,qt _⟩) (λi σ H v H' hi p Z=>?_) hd
 obtain⟨t,x,U,rfl,rfl,O⟩:=Z
 exact J i x t σ H (O xs (hl i σ H (xF hi) p)) p U
theorem BR{tb:TS}{D:dN}(F:Nat->St->Hp->Prop)(O:xs.length=ys.length)(h0:F 0 σ H)(hl:∀i σ H,i<=xs.length->F i σ H->su K H a xs/\su K H b ys)
  (U:∀i x y t σ H,xs[i]?=some x->ys[i]?=some y->F i σ H->H t=none->g (.ref t) σ (upd H t (.tup [x,y])) λZ H2=>tb {D with nx:=F (i+1),ct:=F (i+1),bk:=D.nx} Z H2) (hd:∀σ H,F xs.length σ H->D.nx σ H):kG (DC K a b) g tb D σ H:=by
 refine kZ xs.length F h0 (λi σ H hi p=>⟨xs,ys,xs[i],ys[i],(hl i σ H (xF hi) p).1,(hl i σ H (xF hi) p).2,by simp[hi],by simp[O ▸ hi]⟩) (λσ H p=>⟨xs,ys,(hl _ σ H (qt _) p).1,(hl _ σ H (qt _) p).2,.inl (qt _)⟩) (λi σ H v H' hi p yl=>?_) hd
 obtain⟨t,x,y,Y,rfl,rfl,W,J⟩:=yl
 exact U i x y t σ H (W xs (hl i σ H (xF hi) p).1) (J ys (hl i σ H (xF hi) p).2) p Y
def yv(n i:Nat)(Pv:Nat->LB->Hp->Prop)(ys:LB)(H:Hp):Prop:=∃m',m'<n-i/\(m'=n-(i+1)/\i+1<=n/\Pv (i+1) ys H)
theorem xy{n i:Nat}{F:Nat->LB->Hp->Prop}{ys:LB}(hi:i<n)(h:F (i+1) ys H):yv n i F ys H:=⟨n-(i+1),by lia,rfl,hi,h⟩
theorem zg{n i:Nat}{F:Nat->LB->Hp->Prop}{D:Addr}{ys:LB}{y:V}(hi:i<n)(J:ys.length<=i)(hz:n<=sizeLine)(h1:H D=some (.lst ys))(h2:F (i+1) (ys++[y]) (upd H D (.lst (ys++[y])))):g_ n i F D ys y H:=
 ⟨h1,by lia,n-(i+1),by lia,rfl,hi,h2⟩
def qe(n i:Nat)(Pv:Nat->LB->Hp->Prop)(D:Addr)(ys:LB)(tc:TT)(te:TE)(σ : St)(H:Hp):Prop:=
 tc σ H λb H4=>if b=true then te σ H4 (g_ n i Pv D ys) else yv n i Pv ys H4
theorem tT{n i:Nat}{F:Nat->LB->Hp->Prop}{D:Addr}{ys:LB}{tc:TT}{te:TE}:qe n i F D ys tc te σ H=tc σ H λb J=>if b=true then te σ J (g_ n i F D ys) else yv n i F ys J:=rfl
theorem tL{J:It}{tc:TT}(n:Nat)(F:Nat->LB->Hp->Prop)(Y:F 0 [] H)(O:∀i ys H,i<n->F i ys H->J.go i H)(U:∀ys H,F n ys H->J.stop n H)
  (W:∀i ys H x H',i<n->F i ys H->J.yld i H x H'->g x (σ++List.replicate nT none) H' (qe n i F D ys tc te))
  (hd:∀ys H,F n ys H->Q (.ref D) H):f6 J g tc te nT σ D Q H:=by
 refine⟨λi m ys H=>m=n-i/\i<=n/\F i ys H,⟨n,by simp,xR _,Y⟩,?_⟩
 rintro i m ys H ⟨rfl,hi,p⟩
 by_cases hlt:i<n
 .exact .inr ⟨O i ys H hlt p,λx H' y=>W i ys H x H' hlt p y⟩
 .have e:i=n:=by lia
  subst e;exact .inl ⟨U ys H p,hd ys H p⟩
theorem jB{tc:TT}(F:Nat->LB->Hp->Prop)(J:F 0 [] H)(hl:∀i ys H,i<=xs.length->F i ys H->su K H a xs)
  (O:∀i ys H x,xs[i]?=some x->i<xs.length->F i ys H->g x (σ++List.replicate nT none) H (qe xs.length i F D ys tc te))
  (hd:∀ys H,F xs.length ys H->Q (.ref D) H):f6 (k8 K a) g tc te nT σ D Q H:=by
 refine tL xs.length F J (λi ys H hi p=>⟨xs,xs[i],hl i ys H (xF hi) p,by simp[hi]⟩) (λys H p=>⟨xs,hl _ ys H (qt _) p,qt _⟩) (λi ys H x H' hi p U=>?_) hd
 obtain⟨rfl,y⟩:=U
 exact O i ys _ x (y xs (hl i ys _ (xF hi) p)) hi p
end
set_option genInjectivity false in
set_option genSizeOf false in
structure IK (prog:Program) (w:World) (κ : Type) [DecidableEq κ] where
 is:Heap->κ->Value->Prop
 hash:κ->Int
 draws:κ->Nat
 deep:Nat
 inj:∀ {h:Heap} {v:Value} {x y:κ},is h x v->is h y v->x=y
 keeps:∀ {h h':Heap} {k:κ} {v:Value} {d:Addr} {o:Obj} {es ep},is h k v->h.get? d=some o->o.data = .dict es ep->Heap.SameBut d h h'->is h' k v
 pyHash:∀ {A:Around} {E:KY} {s:Shared} {k:κ} {v:Value} {Q:Int->Shared->Prop},A.units+deep<cLine->is s.heap k v->Q (hash k) {s with toks:=s.toks+draws k}->
  wpAny (model prog w) A (PySem.pyHash v) Q E s
 eqBool:∀ {A:Around} {E:KY} {s:Shared} {x y:κ} {u v:Value} {Q:Bool->Shared->Prop},A.units+deep<cLine->is s.heap x u->is s.heap y v->Q (decide (x=y)) s->
  wpAny (model prog w) A (PySem.eqBool u v) Q E s
 quiet:∀ {A:Around} {E:KY} {s:Shared} {k:κ} {v:Value} {n:Nat} {Q:Bool->Shared->Prop},is s.heap k v->Q true s->wpAny (model prog w) A (eqIsQuiet (n+deep) v) Q E s
section
variable{prog:Program}{w:World}{κ:Type}[DecidableEq κ](K:IK prog w κ)
inductive BV (h:Heap):List κ->LD->Prop
 | nil:BV h [] []
 | cons {k:κ} {v:Value} {ks:List κ} {vs:LD}:K.is h k v->BV h ks vs->BV h (k::ks) (v::vs)
def B6(h:Heap)(ks:List κ)(v:Value):Prop:=∃a o items n,v = .ref a/\h.get? a=some o/\o.cls = .type "tuple" /\ o.data = .seq items n/\BV K h ks items.toList
variable{K}
theorem BV.inj{h:Heap}{x y:List κ}{vs:LD}(i:BV K h x vs)(j:BV K h y vs):x=y:=by
 induction i generalizing y with
 | nil=>cases j;rfl
 | cons a b ih=>
  cases j with
  | cons c d=>rw[K.inj a c,ih d]
theorem BV.keeps{h h':Heap}{d:Addr}{o:Obj}{es ep}(F:h.get? d=some o)(hd:o.data = .dict es ep)(J:Heap.SameBut d h h'):∀ {x:List κ} {vs:LD},BV K h x vs->BV K h' x vs
 | _,_,.nil=>.nil
 | _,_,.cons a b=>.cons (K.keeps a F hd J) (b.keeps F hd J)
theorem BV.len{h:Heap}:∀ {x:List κ} {vs:LD},BV K h x vs->x.length=vs.length
 | _,_,.nil=>rfl
 | _,_,.cons _ b=>by rw[qY,qY,b.len]
noncomputable def iZ(K:IK prog w κ)(ks:List κ):Nat:=(ks.map K.draws).sum
noncomputable def rS(K:IK prog w κ)(ks:List κ):Int:=reduceHash (Builtin.Tuple.tupleHashOf (ks.map K.hash))
theorem j7{A:Around}{E:KY}{s:Shared}{ks:List κ}{v:Value}{Q:Int->Shared->Prop}(hu:A.units+(K.deep+1)<cLine)(Z:B6 K s.heap ks v)(h:Q (rS K ks) {s with toks:=s.toks+(iZ K ks+1)}) :
  wpAny (model prog w) A (PySem.pyHash v) Q E s:=by
 obtain⟨a,o,U,n,rfl,Y,hc,hd,hi⟩:=Z
 have O:s.TypeIs (.ref a) "tuple" := ⟨o,Y,hc⟩
 unfold PySem.pyHash
 first | unfold pyHashByItsType | skip
 first | refine Kn (wpAny_cRoomFor_or (.inr (by lia)) ?_) | skip
 refine Kn (wpAny_specialOf O F.slot_tuple_hash.lookup ?_)
 rw[Kt (by rw[beq_builtin_none];exact xN)]
 refine Kn (wpAny_specialOf O F.slot_tuple_hash.lookup ?_)
 show wpAny _ _ (callSpecialIfBoundUnlessNone? (.ref a) "__hash__" _ >>= _) Q E s
 refine Kn (wpAny_callSpecialIfBoundUnlessNone?_slot O F.slot_tuple_hash (wpAny_call_entry F.slot_tuple_hash O
  F.entry_tuple_hash ?_ (F.args_tuple_hash_1 _)))
 show wpAny _ _ (Builtin.Tuple.tupleItemsOf (.ref a) >>= _) _ _ s
 refine Kn (wpAny_tupleItemsOf Y hd (Kn ?_))
 rw[<-Array.forIn_toList];refine wpAny_forIn_list _ (λBG (b:Array Int) s'=>∃done left,ks=done++left/\BV K s.heap left BG/\b.toList=done.map K.hash/\s'={s with toks:=s.toks+iZ K done}) _ ?_ ?_ _ _ ⟨[],ks,rfl,hi,rfl,rfl⟩
 .rintro x BG b s' ⟨done,left,rfl,hl,W,rfl⟩
  cases hl with
  | @cons k _ ks' _ h1 hl'=>
   have e:iZ K (done++[k])=iZ K done+K.draws k:=by simp[iZ]
   refine Kn (K.pyHash (show A.in1.units+K.deep<cLine from by show A.units+1+K.deep<cLine;lia) h1 ?_)
   have J:∃done' left',done++k::ks'=done'++left'/\BV K s.heap left' BG/\(b.push (K.hash k)).toList=done'.map K.hash/\({s with toks:=s.toks+iZ K done+K.draws k}:Shared)={s with toks:=s.toks+iZ K done'}:=
    ⟨done++[k],ks',by simp,hl',by simp[W],by rw[e,lR]⟩
   first
    | exact Kr J
    | exact Kn (Kr (Kr J))
 .rintro b s' ⟨done,left,rfl,hl,W,rfl⟩
  cases hl;rw[IJ]at h
  show wpAny _ _ (retInt (Builtin.Tuple.tupleHashOf b.toList)) _ _ _
  rw[W];refine wpAny_ret_mkInt ?_
  unfold rS reduceHash at h;show wpAny _ _ (if (decide (-(2:Int)^63<=Builtin.Tuple.tupleHashOf (done.map K.hash))&&decide (Builtin.Tuple.tupleHashOf (done.map K.hash)<2^63))=true then _ else _) Q E _
  by_cases hr:(decide (-(2:Int)^63<=Builtin.Tuple.tupleHashOf (done.map K.hash))&&decide (Builtin.Tuple.tupleHashOf (done.map K.hash)<2^63))=true
  .rw[Kx hr]at h |-
   exact Kr (by simpa [lR] using h)
  .rw[Kt hr]at h |-
   exact Kn (wpAny_rule (Kr (by simpa [lR] using h)))
theorem x_{A:Around}{E:KY}{s:Shared}{x y:List κ}{a b:Addr}{P:Fin->Shared->Prop}(hu:A.units+K.deep<cLine)(hx:B6 K s.heap x (.ref a))(hy:B6 K s.heap y (.ref b))(h:P (.done (.ret (.bool (decide (x=y))))) s) :
  wpAny (model prog w) A (Builtin.«tuple.__eq__» ⟨[.ref a,.ref b],[]⟩) P E s:=by
 obtain⟨_,oa,xs,na,e1,ad,ca,al,ac⟩:=hx
 obtain⟨_,ob,ys,nb,e2,Z,cb,as,ag⟩:=hy
 cases e1
 cases e2;show wpAny _ _ (isInstance (.ref b) (.type "tuple") >>= _) _ _ s
 refine Kn (wpAny_isInstance ⟨ob,Z,cb⟩ isSubtype_tuple_tuple ?_)
 simp only[zaT,sZ,if_false]
 refine Kn (wpAny_tupleItemsOf ad al (Kn (wpAny_tupleItemsOf Z as (Kn ?_))))
 refine wpAny_forIn_list _ (λBG r s'=>r.1=none/\s'=s/\∃x' y' J U,BG=List.zip J U/\BV K s.heap x' J/\BV K s.heap y' U/\decide (x'=y')=decide (x=y)/\(J.length==U.length)=(xs.size==ys.size)) _ ?_ ?_ _ _
  ⟨rfl,rfl,x,y,xs.toList,ys.toList,rfl,ac,ag,rfl,by simp⟩
 .rintro⟨u,v⟩ BG r s' ⟨hr,rfl,x',y',J,U,hz,Y,W,F,O⟩
  cases Y with
  | nil=>simp at hz
  | @cons k1 u' x'' xs'' h1 hx''=>
   cases W with
   | nil=>simp at hz
   | @cons k2 v' y'' ys'' h2 hy''=>
    simp only[zbc,List.cons.injEq,Prod.mk.injEq]at hz
    obtain⟨⟨rfl,rfl⟩,rfl⟩:=hz
    refine Kn (K.eqBool (x:=k1) (y:=k2) hu h1 h2 ?_)
    by_cases hk:k1=k2
    .subst hk
     rw[decide_eq_true rfl];simp only[zaT,sZ,if_false]
     refine Kr ⟨rfl,rfl,x'',y'',xs'',ys'',rfl,hx'',hy'',?_,by simpa using O⟩
     rw[<-F]
     by_cases hxy:x''=y''<;>simp[hxy]
    .rw[decide_eq_false hk]
     simp only[Bool.not_false,if_true]
     have hf:decide (x=y)=false:=by rw[<-F];simp[hk]
     rw[hf]at h
     exact Kn (Kr (Kr (Kr h)))
 .rintro⟨r1,r2⟩ s' ⟨hr,rfl,x',y',J,U,hz,Y,W,F,O⟩
  simp only at hr
  subst hr;refine Kr ?_
  have ab:(xs.size==ys.size)=decide (x=y):=by
   rw[<-F,<-O]
   cases Y with
   | nil=>cases W<;>simp
   | cons _ _=>
    cases W with
    | nil=>simp
    | cons _ _=>simp at hz
  show P (.done (.ret (.bool (xs.size==ys.size)))) s'
  rw[ab];exact h
theorem nK{A:Around}{E:KY}{s:Shared}{x y:List κ}{u v:Value}{Q:Bool->Shared->Prop}(hu:A.units+(K.deep+1)<cLine)(hx:B6 K s.heap x u)(hy:B6 K s.heap y v)(h:Q (decide (x=y)) s) :
  wpAny (model prog w) A (PySem.eqBool u v) Q E s:=by
 have ac:=hx;have Y:=hy;obtain⟨a,oa,xs,na,rfl,U,ca,ab,W⟩:=hx
 obtain⟨b,ob,ys,nb,rfl,J,cb,O,Z⟩:=hy
 unfold PySem.eqBool
 try with_reducible refine wpAny_holding ?_
 show wpAny _ _ (if (Value.ref a==Value.ref b)=true then _ else _) Q E s
 by_cases hab:(Value.ref a==Value.ref b)=true
 .rw[Kx hab]
  have e:a=b:=by have:=eq_of_beq hab;injection this
  subst e;rw[U]at J
  cases J;rw[ab]at O
  injection O with e1 _
  subst e1;rw[decide_eq_true (W.inj Z)]at h
  exact Kn (wpAny_rule (Kr h))
 .rw[Kt hab]
  have ta:s.TypeIs (.ref a) "tuple" := ⟨oa,U,ca⟩
  have tb:s.TypeIs (.ref b) "tuple" := ⟨ob,J,cb⟩
  refine Kn (wpAny_richCompare_same_room (op:=.Eq) ta tb F.slot_tuple_eq (wpAny_call_entry F.slot_tuple_eq ta F.entry_tuple_eq ?_ (F.args_tuple_eq_2 _ _)) (by lia))
  refine x_ (K:=K) ?_ ac Y ⟨_,rfl,(λe=>nomatch e),wpAny_truthy_bool h⟩
  show A.units+1+K.deep<cLine
  lia
theorem jH{A:Around}{E:KY}{s:Shared}{ks:List κ}{v:Value}{n:Nat}{Q:Bool->Shared->Prop}(hk:B6 K s.heap ks v)(h:Q true s):wpAny (model prog w) A (eqIsQuiet (n+(K.deep+1)) v) Q E s:=by
 obtain⟨a,o,J,m,rfl,Z,hc,hd,hi⟩:=hk
 have Y:s.TypeIs (.ref a) "tuple" := ⟨o,Z,hc⟩
 rw[show n+(K.deep+1)=(n+K.deep)+1 from rfl];unfold eqIsQuiet;refine Kn (wpAny_specialOf Y F.slot_tuple_eq.lookup ?_)
 show wpAny _ _ (isInstance (.ref a) (.type "tuple") >>= _) _ _ s
 refine Kn (wpAny_isInstance Y isSubtype_tuple_tuple ?_)
 simp only[zaT,sZ,if_false]
 refine Kn (wpAny_seqItems Z hd (Kn ?_))
 show wpAny _ _ (forIn J _ _) _ _ s
 rw[<-Array.forIn_toList];refine wpAny_forIn_list _ (λBG r s'=>r.1=none/\s'=s/\∃O,BV K s.heap O BG) _ ?_ ?_ _ _ ⟨rfl,rfl,ks,hi⟩
 .rintro v BG r s' ⟨W,rfl,O,U⟩
  cases U with
  | cons h1 h2=>
   refine Kn (K.quiet h1 ?_)
   simp only[zaT,sZ,if_false]
   exact Kr ⟨rfl,rfl,_,h2⟩
 .rintro⟨r1,r2⟩ s' ⟨W,rfl,_⟩
  simp only at W
  subst W;exact Kr h
noncomputable def tupK(K:IK prog w κ):IK prog w (List κ) where
 is:=B6 K
 hash:=rS K
 draws:=λks=>iZ K ks+1
 deep:=K.deep+1
 inj:=by
  rintro h v x y ⟨a,oa,xs,na,rfl,hoa,ca,hda,hia⟩ ⟨b,ob,ys,nb,e,hob,cb,hdb,hib⟩
  cases e;rw[hoa]at hob
  cases hob;rw[hda]at hdb
  injection hdb with e1 _
  subst e1;exact hia.inj hib
 keeps:=by
  rintro h h' k v d o es ep ⟨a,oa,xs,na,rfl,hoa,ca,hda,hia⟩ ho hd hs
  have hne:a≠d:=by
   rintro rfl
   rw[hoa]at ho
   cases ho;rw[hd]at hda;cases hda
  exact⟨a,oa,xs,na,rfl,(hs.2 a hne).trans hoa,ca,hda,hia.keeps ho hd hs⟩
 pyHash:=λhu hk h=>j7 hu hk h
 eqBool:=λhu hx hy h=>nK hu hx hy h
 quiet:=λhk h=>jH hk h
noncomputable def Dx(K:IK prog w κ)(hd:K.deep<=7):HeapKind prog w (List κ) where
 is:=λh k a=>B6 K h k (.ref a)
 hash:=rS K
 draws:=λks=>iZ K ks+1
 room:=λA=>A.units+(K.deep+1)<cLine
 inj:=(tupK K).inj
 keeps:=(tupK K).keeps
 pyHash:=λhu hk h=>j7 hu hk h
 eqBool:=λhu hx hy h=>nK hu hx hy h
 quiet:=λ{A E s k a Q} hk h=>by
  have q:=jH (n:=7-K.deep) (A:=A) (E:=E) hk h
  rwa [show 7-K.deep+(K.deep+1)=8 by lia]at q
end
noncomputable def jG:LI->V
 | none=>.non
 | some i=>.int i
theorem Bz{x y:LI}{v:Value}(a:RelV (jG x) v)(b:RelV (jG y) v):x=y:=by
 have e:=a.inj b
 cases x<;>cases y<;>simp_all [jG]
theorem oG(x:LI):bU (jG x)=true:=by cases x<;>rfl
theorem EA(x y:LI):gn (jG x) (jG y)=decide (x=y):=by
 cases x with
 | none=>cases y<;>rfl
 | some i=>
  cases y with
  | none=>rfl
  | some j=>
   show (i==j)=_
   by_cases h:i=j<;>simp[h]
theorem zI{prog:Program}{A:Around}{E:KY}{s:Shared}{Q:Int->Shared->Prop}(h:Q 0xFCA86420 {s with toks:=s.toks+1}):wpAny (model prog w) A (PySem.pyHash .none) Q E s:=by
 have J:s.TypeIs .none "NoneType" := rfl
 unfold PySem.pyHash
 first | unfold pyHashByItsType | skip
 refine Kn ?_
 rw[cRoomFor,Kt (by decide)]
 refine Kr (Kn (wpAny_specialOf J F.slot_NoneType_hash.lookup ?_))
 rw[Kt (by rw[beq_builtin_none];exact xN)]
 refine Kn (wpAny_specialOf J F.slot_NoneType_hash.lookup ?_)
 show wpAny _ _ (callSpecialIfBoundUnlessNone? .none "__hash__" _ >>= _) Q E s
 refine Kn (wpAny_callSpecialIfBoundUnlessNone?_slot J F.slot_NoneType_hash (wpAny_call_entry F.slot_NoneType_hash J
  F.entry_NoneType_hash ?_ (F.args_NoneType_hash_1 _)))
 show wpAny _ _ (retInt 0xFCA86420) _ _ s
 refine wpAny_ret_mkInt ?_
 exact Kr h
noncomputable def fg(prog:Program)(w:World):IK prog w LI where
 is:=λ_ k v=>RelV (jG k) v
 hash:=λk=>match k with
  | none=>0xFCA86420
  | some i=>hashInt i
 draws:=λ_=>1
 deep:=0
 inj:=λa b=>Bz a b
 keeps:=λa _ _ _=>a
 pyHash:=λ{A E s k v Q} _ hk h=>by
  cases k with
  | none=>
   obtain rfl:v=Value.none:=hk
   exact zI h
  | some i=>
   obtain⟨t,rfl⟩:=(show ∃t,v=Value.int i t from hk)
   exact wpAny_pyHash_int h
 eqBool:=λ{A E s x y u v Q} _ hx hy h=>by
  have q:=jY (A:=A) (s:=s) hx hy (oG x) (oG y);rw[EA]at q
  exact q prog w E Q h
 quiet:=λ{A E s k v n Q} hk h=>by
  have e:carriedByValue v=true:=by
   cases k with
   | none=>obtain rfl:v=Value.none:=hk;rfl
   | some i=>obtain⟨t,rfl⟩:=(show ∃t,v=Value.int i t from hk);rfl
  rw[eqIsQuiet_byValue _ e];exact Kr h
abbrev NI:=Sum Int (List LI)
theorem B6.tup{prog:Program}{κ:Type}[DecidableEq κ]{K:IK prog w κ}{h:Heap}{l:List κ}{v:Value}(x:B6 K h l v):∃a its,v = .ref a/\h.IsTuple a its:=by
 obtain⟨a,o,F,n,rfl,J,O,hd,hi⟩:=x
 exact⟨a,F,rfl,o,J,O,n,hd⟩
theorem u3{A:Around}{prog:Program}(F:A.units+1<cLine):A.units+((fg prog w).deep+1)<cLine:=F
abbrev BY:=Int×List LI
noncomputable def nk(k:BY):List NI:=[.inl k.1,.inr k.2]
section
variable{X:Cx}{pins:List (Addr×Obj)}{σ:St}{H:Hp}{s:Shared}{a b:Addr}{k:BY}{kvs:List (BY×V)}
theorem Paired.snoc{α β : Type}{F:α->β->Prop}{x:α}{y:β}(h:F x y):∀ {l:List α} {m:List β},Paired F l m->Paired F (l++[x]) (m++[y])
 | _,_,.nil=>.cons h .nil
 | _,_,.cons r t=>.cons r (Paired.snoc h t)
end
end L2
namespace L2
open PySem PySem.Spec PyProof.Rows PySem.SeqAt
section
variable{X:Cx}
def OC(K:W.Frag):R2:=λx y H Q=>qQ K x y H Q\/∃a kvs k v,x = .ref a/\y=kV k/\H a=some (.dK kvs)/\bT kvs k=some v/\Q v H
theorem tX(K:W.Frag)(hK:X.K=K:=by rfl):Ha X (OC K):=by
 intro value J pins s σ H x y v u Q I rx Y h Z
 rcases h with h | ⟨a,kvs,k,z,rfl,rfl,e,l,q⟩
 .exact av K hK value J pins s σ H x y v u Q I rx Y h Z
 .cases rx
  obtain⟨_,hd,vs,U,dd⟩:=qh I.hok (.inl e)
  obtain⟨w',hw,O⟩:=GB.some_of (v:=z) (o:=valueAt vs k) (by rw[<-l];exact U.val k)
  have hl:typeLookup (.type "dict") "__getitem__" = pure (some (.builtin "dict.__getitem__")):=F.slot_dict_getitem.lookup
  exact subscriptTail_builtinR (x:=w') dd.typeIs hl (wpAny_getItem_of (p_ Y) dd.mapOf hw ⟨rfl,z,H,I.tok _,O,q⟩) Z
def Jo:nW:=λo i v H Q=>∃a kvs k,o = .ref a/\i=kV k/\H a=some (.dK kvs)/\kvs.length<sizeLine/\Q (upd H a (.dK (cX kvs k v)))
theorem D3{n:Nat}(W:B4 n X.A):Ht X Jo:=by
 intro pins s σ H o i v Y Z u Q I U F J h
 obtain⟨a,kvs,k,rfl,rfl,e,hl,q⟩:=h
 cases U;exact oy (by have:=W.un;lia) I (G2.k e hl) F J λs' O=>⟨_,O,q⟩
end
variable{n i ep:Nat}{xs:LQ}{a it:Addr}{o:Obj}{es:Array (Int×Value)}{K:Type}{ps:LN}
theorem uU{X:Cx}:G7 X "list.pop" CC:=Gu
section
variable{K:W.Frag}{H:Hp}{Q:VK}
theorem vI(p:Addr):CC (.ref p) [] H Q=∃xs y,H p=some (.lst xs)/\xs[xs.length-1]?=some y/\Q y (upd H p (.lst xs.dropLast)):=
 propext ⟨λ⟨_,xs,y,F,_,q⟩=>by cases F;exact⟨xs,y,q⟩,λ⟨xs,y,q⟩=>⟨p,xs,y,rfl,rfl,q⟩⟩
end
theorem wk{X:Cx}(K:W.Frag){o:Expr}{to:TE}{name:Str}{apos cpos:Pos}{T id:String}{r:V->LB->Hp->VK->Prop}(Y:PlainAttrs T)(slot:Slot T name id)(J:typeOf (.builtin id)=pure (.type "method_descriptor")) (O:G7 X id r) (U:PE X o to)
  (F:attributeBase o name X.env (eval o X.env)=eval o X.env:=by rfl) (hline:(apos.endLine==cpos.line)=true:=by rfl) (hK:X.K=K:=by rfl):PE X (.Call (.Attribute o name apos) [] [] cpos) (Bn K T r to):=hK ▸ Hb Y slot J O U F hline
theorem vN:∀(xs:LB) (F:LD),xs.length=F.length->(∀(j:Nat) x u,xs[j]?=some x->F[j]?=some u->RelV x u)->A1 xs F
 | [],[],_,_=>.nil
 | [],u::F,hl,_=>by simp at hl
 | x::xs,[],hl,_=>by simp at hl
 | x::xs,u::F,hl,h=>.cons (h 0 x u rfl rfl) (vN xs F (by simpa using hl) λj a b J O=>h (j+1) a b J O)
section
variable{X:Cx}
theorem hU{α β : Type}{F:α->β->Prop}:∀ {l:List α} {m:List β} {j:Nat} {a:α} {b:β},Paired F l m->l[j]?=some a->m[j]?=some b->F a b
 | _,_,0,_,_,.cons h _,e1,e2=>by
  cases e1;cases e2;exact h
 | _,_,j+1,_,_,.cons _ t,e1,e2=>hU (j:=j) t e1 e2
 | _,_,0,_,_,.nil,e1,_=>by cases e1
 | _,_,_+1,_,_,.nil,e1,_=>by cases e1
theorem tu:bootBuiltins "set" = some (.type "set"):=by decide +kernel
def DB(K:W.Frag)(SO:Addr->LJ->HO):LB->Hp->VK->Prop:=λxs H Q=>∃p,∃ns:LJ,xs=[.ref p]/\su K H p (ns.map V.int)/\ns.length<=60/\∀(l:Addr) (ds:LJ),H l=none->ds.Nodup->(∀x,x∈ds ↔ x∈ns)->ds.length<=ns.length->Q (.ref l) (upd H l (SO l ds))
def ux(SO:Addr->LJ->HO):LB->Hp->VK->Prop:=λxs H Q=>∃p,∃ds:LJ,xs=[.ref p]/\H p=some (SO p ds)/\ds.length<=60/\∀(l:Addr) (ts:LJ),H l=none->ts.Perm ds->ts.Pairwise (· <= ·)->Q (.ref l) (upd H l (.lst (ts.map V.int)))
end
def gH(xs:LQ):Prop:=∀(a b:Nat) (ha:a<xs.size) (hb:b<xs.size),a<b->xs[a]<xs[b]
theorem lS{xs:LQ}(h:gH xs)(j:Nat):∀(F lo hi:Nat),lo<=hi->hi<=xs.size->hi-lo<=F->(∀k (J:k<xs.size),k<lo->xs[k]<j)->(∀k (J:k<xs.size),hi<=k->j<=xs[k])->
  SetTable.below.go xs j F lo hi<=xs.size/\(∀k (J:k<xs.size),k<SetTable.below.go xs j F lo hi->xs[k]<j)/\(∀k (J:k<xs.size),SetTable.below.go xs j F lo hi<=k->j<=xs[k])
 | 0,lo,hi,h1,h2,h3,h4,h5=>by
  have e:lo=hi:=by lia
  subst e;exact⟨h2,h4,h5⟩
 | F+1,lo,hi,h1,h2,h3,h4,h5=>by
  unfold SetTable.below.go;split
  .rename_i hlt
   have O:(lo+hi)/2<xs.size:=by lia
   have W:xs.getD ((lo+hi)/2) j=xs[(lo+hi)/2]:=by simp[Array.getD,O]
   dsimp only
   rw[W];split
   .rename_i hj
    refine lS h j F _ hi (by lia) h2 (by lia) (λk J U=>?_) h5
    rcases iz k ((lo+hi)/2) with z | z
    .exact Nat.lt_trans (h k _ J O z) hj
    .have:k=(lo+hi)/2:=by lia
     subst this;exact hj
   .rename_i hj
    refine lS h j F lo _ (by lia) (by lia) (by lia) h4 (λk J U=>?_)
    rcases iz ((lo+hi)/2) k with z | z
    .exact xB (Nat.le_of_not_lt hj) (xF (h _ k O J z))
    .have:k=(lo+hi)/2:=by lia
     subst this;exact Nat.le_of_not_lt hj
  .have e:lo=hi:=by lia
   subst e;exact⟨h2,h4,h5⟩
theorem g0(h:gH xs)(j:Nat):SetTable.below xs j<=xs.size/\(∀k (F:k<xs.size),k<SetTable.below xs j->xs[k]<j)/\(∀k (F:k<xs.size),SetTable.below xs j<=k->j<=xs[k]):=
 lS h j xs.size 0 xs.size (xR _) (qt _) (by lia) (λk _ z=>absurd z (za5 _)) (λk F z=>absurd F (by lia))
theorem xx(h:gH xs):SetTable.below xs 0=0:=by
 obtain⟨h1,h2,F⟩:=g0 h 0
 refine Classical.byContradiction λJ=>?_
 exact absurd (h2 0 (by lia) (by lia)) (za5 _)
theorem yx(h:gH xs)(hi:i<xs.size):SetTable.below xs (xs[i]+1)=i+1:=by
 obtain⟨h1,h2,F⟩:=g0 h (xs[i]+1)
 rcases Nat.lt_trichotomy (SetTable.below xs (xs[i]+1)) (i+1) with z | z | z
 .have:=F i hi (by lia);lia
 .exact z
 .have J:=h2 (i+1) (by lia) z
  have O:=h i (i+1) hi (by lia) (by lia)
  lia
theorem oX{p x k:Nat}(O:p<=xs.size)(J:k<(SetTable.insertAt xs p x).size):(SetTable.insertAt xs p x)[k]=if h:k<p then xs[k]'(by lia) else if k=p then x else xs.getD (k-1) 0:=by
 have U:(SetTable.insertAt xs p x).size=xs.size+1:=by
  unfold SetTable.insertAt;simp;lia
 have e:(SetTable.insertAt xs p x)[k]?=some (if h:k<p then xs[k]'(by lia) else if k=p then x else xs.getD (k-1) 0):=by
  unfold SetTable.insertAt;rw[Array.getElem?_append];simp only[Array.size_push,J1]
  split
  .rename_i h
   rw[Array.getElem?_push];simp only[J1]
   by_cases hkp:k<p
   .rw[Kt (by lia),dif_pos hkp,Array.getElem?_extract]
    simp;lia
   .have:k=p:=by lia
    subst this;rw[Kx (by lia),dif_neg hkp,Kx rfl]
  .rename_i h
   rw[dif_neg (by lia),Kt (by lia),Array.getElem?_extract]
   have F:k-1<xs.size:=by lia
   rw[Kx (by lia),show p+(k-(min p xs.size-0+1))=k-1 by lia]
   simp[Array.getD,F]
 rw[G8 J]at e
 exact Option.some.inj e
theorem qO(h:gH xs){j:Nat}(W:∀k (F:k<xs.size),xs[k]≠j):gH (SetTable.insertAt xs (SetTable.below xs j) j):=by
 obtain⟨h1,h2,U⟩:=g0 h j
 have Y:(SetTable.insertAt xs (SetTable.below xs j) j).size=xs.size+1:=by
  unfold SetTable.insertAt;simp;lia
 generalize SetTable.below xs j=p at h1 h2 U Y;intro a b ha Z O
 rw[oX h1 ha,oX h1 Z];have J:∀k,k<xs.size->∃F:k<xs.size,xs.getD k 0=xs[k]:=λk F=>⟨F,by simp[Array.getD,F]⟩
 by_cases a1:a<p
 .rw[dif_pos a1]
  by_cases b1:b<p
  .rw[dif_pos b1];exact h a b _ _ O
  .rw[dif_neg b1]
   by_cases b2:b=p
   .rw[Kx b2];exact h2 a (by lia) a1
   .rw[Kt b2]
    obtain⟨F,e⟩:=J (b-1) (by lia)
    rw[e];exact h a (b-1) _ _ (by lia)
 .rw[dif_neg a1,dif_neg (by lia)]
  by_cases a2:a=p
  .rw[Kx a2,Kt (by lia)]
   obtain⟨F,e⟩:=J (b-1) (by lia)
   rw[e];have:=U (b-1) F (by lia)
   have:=W (b-1) F
   lia
  .rw[Kt a2,Kt (by lia)]
   obtain⟨F,e⟩:=J (b-1) (by lia)
   obtain⟨ab,e2⟩:=J (a-1) (by lia)
   rw[e,e2];exact h _ _ _ _ (by lia)
theorem Ap{t:SetTable}{j:Nat}(h:gH t.place)(e:∀i,t.slot j ≠ .live i):∀k (F:k<t.place.size),t.place[k]≠j:=λk F U=>by
 obtain⟨h1,h2,J⟩:=g0 h j
 have O:SetTable.below t.place j=k:=by
  rcases Nat.lt_trichotomy (SetTable.below t.place j) k with z | z | z
  .have:=J (SetTable.below t.place j) (by lia) (qt _)
   have:=h (SetTable.below t.place j) k (by lia) F z
   lia
  .exact z
  .have:=h2 k F z;lia
 refine e k ?_
 unfold SetTable.slot;rw[O]
 dsimp only
 rw[G8 F,U];simp
theorem lP{t:SetTable}{hashAt:Nat->Int}{h:Int}:∀(F:Nat) (p:SetTable.Probe),(∀d,p.dummy=some d->t.slot d = .dummy)->∀j dm,SetTable.probe.go t hashAt h F p=some (.empty j dm)->t.slot j = .empty/\∀d,dm=some d->t.slot d = .dummy
 | 0,p,_,j,dm,e=>by unfold SetTable.probe.go at e;cases e
 | F+1,p,hp,j,dm,e=>by
  unfold SetTable.probe.go at e;have adv:∀q:SetTable.Probe,(t.advance q).dummy=q.dummy:=λq=>by unfold SetTable.advance;split<;>rfl
  cases hs:t.slot p.j with
  | empty=>
   rw[hs]at e
   cases e;exact⟨hs,hp⟩
  | dummy=>
   rw[hs]at e
   refine lP F _ (λd hd=>?_) j dm e
   rw[adv]at hd
   cases hd;exact hs
  | live i=>
   rw[hs]at e
   dsimp only at e
   split at e
   .cases e
   .exact lP F _ (λd hd=>by rw[adv]at hd;exact hp d hd) j dm e
structure cw (L:Bool) (t:SetTable):Prop where
 led:t.led=L
 rise:gH t.place
theorem uP(n:Nat):gH (Array.range n):=λa b J O F=>by simpa using F
theorem gf{L:Bool}{t:SetTable}(h:cw L t)(n:Nat):cw L (t.standIn n):=⟨h.led,uP n⟩
theorem AN{L:Bool}{t:SetTable}(h:cw L t){hh:Int}{j:Nat}{b:Bool}(e:t.freeSlot hh=some (j,b)):cw L (t.put j).1:=by
 refine⟨h.led,qO h.rise (Ap h.rise ?_)⟩
 unfold SetTable.freeSlot at e;split at e
 .rename_i j' dm hpr
  have:=lP (t:=t) _ (t.probeStart hh) (λd hd=>by cases hd) j' dm hpr
  cases dm with
  | none=>
   cases e;exact λi z=>by have:=this.1;rw[show (none:LG).getD j'=j' from rfl,this]at z;cases z
  | some d=>
   cases e;exact λi z=>by have:=this.2 d rfl;rw[show (some d:LG).getD j'=d from rfl,this]at z;cases z
 .cases e
theorem uL{L:Bool}{t:SetTable}(h:cw L t)(es:Array (Int×Value))(hh:Int)(x:Value):cw L (layNew t es hh x).2.1:=by
 unfold layNew
 cases e:t.freeSlot hh with
 | none=>exact gf h _
 | some q=>
  obtain⟨j,b⟩:=q
  have hg:=AN h e;show cw L ((t.put j).1.orStandIn _)
  unfold SetTable.orStandIn;split
  .exact hg
  .exact gf hg _
theorem k7{l:LN}(h:l.Pairwise (· < ·)):gH l.toArray:=λa b J O F=>by
 have:=(List.pairwise_iff_getElem.mp h) a b (by simpa using J) (by simpa using O) F
 simpa using this
theorem yM{L:Bool}{t:SetTable}(h:cw L t)(es:Array (Int×Value))(n:Nat):cw L (relayAll t es n).2.1:=by
 unfold relayAll;split
 .rename_i t' order e
  dsimp only
  split
  .unfold SetTable.relaid SetTable.laid at e
   cases ho:SetTable.layClean (SetTable.sizeAbove n-1) (es.map (·.1)) with
   | none=>rw[ho]at e;cases e
   | some owner=>
    rw[ho]at e
    cases e;refine⟨h.led,k7 ?_⟩
    refine List.pairwise_map.mpr ?_
    refine List.Pairwise.filterMap _ ?_ List.pairwise_lt_range
    intro a b F x hx y J
    obtain⟨k,_,rfl⟩:=KF.mp hx
    obtain⟨O,_,rfl⟩:=KF.mp J
    exact F
  .exact gf h _
 .exact gf h _
section
variable{prog:Program}{w:World}{K:Type}[DecidableEq K]{knd:KeyKind prog w K}{A:Around}{E:KY}{s:Shared}{G:SetTable->Prop}
def Apart(knd:KeyKind prog w K)(l:List (Int×Value)):Prop:=l.Pairwise λe e'=>∀k,knd.is k e.2=true->knd.is k e'.2=false
theorem Apart.perm{l O:List (Int×Value)}(h:Apart knd l)(p:O.Perm l):Apart knd O:=
 (p.pairwise_iff λ{x y} F k J=>by
  cases e:knd.is k x.2 with
  | false=>rfl
  | true=>rw[F k e]at J;cases J).mpr h
theorem Apart.push{l:List (Int×Value)}{k:K}{x:Value}{hh:Int}(h:Apart knd l)(O:∀e∈l,knd.is k e.2=false)(Z:knd.is k x=true):Apart knd (l++[(hh,x)]):=by
 refine List.pairwise_append.mpr ⟨h,List.pairwise_singleton _ _,λe W b U J F=>?_⟩
 rw[Kw.mp U];show knd.is J x=false
 rw[KeyKind.is_eq_decide Z J];refine decide_eq_false λY=>?_
 subst Y;rw[O e W]at F;cases F
structure rB (knd:KeyKind prog w K) (G:SetTable->Prop) (o:Obj) (es:Array (Int×Value)) (ep:Nat) (t:SetTable) (S:K->Bool) (n:Nat):Prop where
 ex:o.ExactSet
 dat:o.data = .set es ep t
 el:ElemsOf knd es.toList
 mem:∀k,S k=true ↔ ∃e∈es.toList,knd.is k e.2=true
 few:es.size<scanBound
 fit:t.fits es.size=true
 num:es.size=n
 good:G t
 apart:Apart knd es.toList
def GI(knd:KeyKind prog w K)(G:SetTable->Prop)(h:Heap)(a:Addr)(S:K->Bool)(n:Nat):Prop:=∃o es ep t,h.get? a=some o/\rB knd G o es ep t S n
theorem stored{h:Heap}{t:SetTable}{S:K->Bool}{es':Array (Int×Value)}{t':SetTable}{S':K->Bool}{n':Nat}(J:h.get? a=some o)(T:rB knd G o es ep t S n)
  (O:∀o',o'.ExactSet->o'.data = .set es' (ep+1) t'->rB knd G o' es' (ep+1) t' S' n'):∃o',(h.update a (Obj.putSet es' t')).get? a=some o'/\rB knd G o' es' (ep+1) t' S' n':=by
 have F:=putSet_of es' t' T.dat;have hg:=HK (Obj.putSet es' t') J (by rw[F];rfl)
 rw[F]at hg
 exact⟨_,hg,O _ T.ex rfl⟩
theorem ua(gr:∀t es n,G t->G (relayAll t es n).2.1){g:Bool->Sem Unit}(hg:∀(b:Bool) (s₁:Shared) (Q':Unit->Shared->Prop),Q' () s₁->wpAny (model prog w) A (g b) Q' E s₁)
      {t:SetTable} {S:K->Bool}  (ho:s.heap.get? a=some o) (T:rB knd G o es ep t S n)
  {F:Array (Int×Value)} {t2:SetTable} {S':K->Bool} {n':Nat} (T1:∀o',o'.ExactSet->o'.data = .set F (ep+1) t2->rB knd G o' F (ep+1) t2 S' n') {J:Bool} {R:Option Bool->Shared->Prop}
  (h:∀h',Heap.SameBut a s.heap h'->GI knd G h' a S' n'->R (some true) {s with heap:=h'}) :
  wpAny (model prog w) A (do
    storeSet a F t2
    if (!J&&t2.tooFull)=true then do
      g (relayAll t2 F (SetTable.grown F.size)).2.2
      storeSet a (relayAll t2 F (SetTable.grown F.size)).1 (relayAll t2 F (SetTable.grown F.size)).2.1
      pure (some true)
     else pure (some true)) R E s:=by
 obtain⟨o1,Z,O⟩:=stored ho T T1
 refine Kn (wpAny_storeSet_of ho T.dat ?_ (fits_of_scanBound O.few))
 have U:=Hi s.heap a (Obj.putSet F t2);split
 .have hp:=relayAll_perm t2 F (SetTable.grown F.size)
  have Y:=relayAll_fits t2 F (SetTable.grown F.size);have W:=gr t2 F (SetTable.grown F.size) O.good;generalize relayAll t2 F (SetTable.grown F.size)=Rl at hp Y W |-;obtain⟨ab,t3,ad⟩:=Rl
  dsimp only at hp Y W |-
  have hsz:ab.size=F.size:=by rw[<-nX,hp.length_eq,nX]
  obtain⟨o2,ac,U2⟩:=stored (es':=ab) (t':=t3) (S':=S') (n':=n') Z O λo' ex da=>⟨ex,da,O.el.perm hp,λk'=>(O.mem k').trans ⟨λ⟨e,he,q⟩=>⟨e,hp.mem_iff.mpr he,q⟩,λ⟨e,he,q⟩=>⟨e,hp.mem_iff.mp he,q⟩⟩,by rw[hsz];exact O.few,Y,by rw[hsz];exact O.num,W,O.apart.perm hp⟩
  refine Kn (hg _ _ _ ?_)
  refine Kn (wpAny_storeSet_of Z O.dat ?_ (fits_of_scanBound U2.few))
  exact Kr (h _ (U.trans (Hi _ a _)) ⟨_,_,_,_,ac,U2⟩)
 .exact Kr (h _ U ⟨_,_,_,_,Z,O⟩)
theorem Nr(gl:∀t es h x,G t->G (layNew t es h x).2.1)(gr:∀t es n,G t->G (relayAll t es n).2.1)(gp:∀t:SetTable,G t->G {t with plain:=false})
  {a:Addr} {S:K->Bool} {n:Nat} {k:K} {x:Value} {Q:Bool->Shared->Prop} (hkey:knd.is k x=true) (hsc:x.scannable=true) (hS:GI knd G s.heap a S n) (hroom:n+1<scanBound)
  (h:∀h',Heap.SameBut a s.heap h'->GI knd G h' a (λZ=>S Z||decide (Z=k)) (if S k then n else n+1)->Q (!S k) {s with heap:=h'}) :
  wpAny (model prog w) A (setAddHashed a x (knd.hash k)) Q E s:=by
 obtain⟨o,es,ep,t,ho,T⟩:=hS
 have a6:es.size+1<scanBound:=by rw[T.num];exact hroom
 unfold setAddHashed setAddHashedIn;refine wpAny_holding (Kn (wpAny_setState_of ho T.dat T.fit ?_))
 dsimp only
 rw[byScan_of hsc T.few T.el];simp only[↓reduceIte]
 unfold setAddByScan;refine Kn ?_
 refine Kn (wpAny_rule ?_)
 refine Kn (wpAny_setScan_of hkey ho T.dat T.fit T.el ?_)
 cases hr:List.findIdx? (λe=>knd.is k e.2) es.toList with
 | some j=>
  dsimp only
  obtain⟨hj,a3,_⟩:=List.findIdx?_eq_some_iff_getElem.mp hr
  have U:S k=true:=(T.mem k).mpr ⟨es.toList[j],nY hj,a3⟩
  refine Kr (Kr ?_)
  have e:s={s with heap:=s.heap}:=by cases s;rfl
  have q:=h s.heap (Heap.SameBut.refl a s.heap) ⟨o,es,ep,t,ho,T.ex,T.dat,T.el,λZ=>by
   rw[Bool.or_eq_true,decide_eq_true_eq,<-T.mem Z];exact⟨λhk=>hk.elim id (λe=>e ▸ U),.inl⟩,T.few,T.fit,by rw[U];exact T.num,T.good,T.apart⟩
  rw[U]at q;rw[e];exact q
 | none=>
  dsimp only
  have al:=List.findIdx?_eq_none_iff.mp hr
  have U:S k=false:=by
   cases hk:S k with
   | false=>rfl
   | true=>obtain⟨e,he,hp⟩:=(T.mem k).mp hk;rw[al e he]at hp;cases hp
  have as:∀(b:Bool) {s₁:Shared} {Q':Unit->Shared->Prop},Q' () s₁->wpAny (model prog w) A (match b with | true=>rule "set.scan.the-table-gave-way" | false=>pure ()) Q' E s₁:=λb s₁ Q' hq=>by
   cases b<;>first | exact Kr hq | exact wpAny_rule hq
  have F:=layNew_perm t es (knd.hash k) x;have J:=layNew_fits t es (knd.hash k) x;have O:=gl t es (knd.hash k) x T.good;generalize layNew t es (knd.hash k) x=Ly at F J O |-;obtain⟨ab,t1,ag,a5⟩:=Ly
  dsimp only at F J O |-
  rw[Ke]at F
  have ac:ab.size=n+1:=by rw[<-nX,F.length_eq,qL,nX,T.num];rfl
  have mk:∀t2:SetTable,t2.fits ab.size=true->G t2->∀o',o'.ExactSet->o'.data = .set ab (ep+1) t2->rB knd G o' ab (ep+1) t2 (λZ=>S Z||decide (Z=k)) (n+1):=λt2 a4 g2 o' ex da=>
   ⟨ex,da,(T.el.push hkey hsc).perm F,mem_push_iff hkey T.mem F,by rw[ac];exact hroom,a4,ac,g2,(T.apart.push (λe he=>by have:=al e he;simpa using this) hkey).perm F⟩
  refine Kn (as _ ?_)
  have ad:∀h',Heap.SameBut a s.heap h'->GI knd G h' a (λZ=>S Z||decide (Z=k)) (n+1)->Q true {s with heap:=h'}:=by
   intro h' Y W;have:=h h' Y;rw[U]at this;exact this W
  split
  .refine Kn ?_
   rw[hashByValue_scannable 8 hsc];refine Kr ?_
   refine ua gr ?_ ho T (mk _ ?_ ?_) ?_
   .intro b s₁ Q' hq;cases b<;>first | exact Kr hq | exact wpAny_rule hq
   .split
    .exact J
    .exact SetTable.fits_plain_off J
   .split
    .exact O
    .exact gp _ O
   .intro h' Y W;dsimp only;exact wpAny_pure (ad h' Y W)
  .refine Kn (Kr ?_)
   simp only[↓reduceIte]
   refine ua gr ?_ ho T (mk _ J O) ?_
   .intro b s₁ Q' hq;cases b<;>first | exact Kr hq | exact wpAny_rule hq
   .intro h' Y W;dsimp only;exact wpAny_pure (ad h' Y W)
end
section
variable{prog:Program}{w:World}{A:Around}{R:Result->Shared->Prop}{I:Addr}{fp wr:LC}{Gm:Array GenState->Array GenState->Prop}{n:Nat}{P:Nat->Value->Prop}{St:Nat->Shared->Prop}{L:Bool}
theorem md{t:SetTable}(h:cw L t):cw L {t with plain:=false}:=⟨h.led,h.rise⟩
theorem GI.at'[DecidableEq K]{knd:KeyKind prog w K}{G:SetTable->Prop}{h h':Heap}{a:Addr}{S S':K->Bool}{m m':Nat}(x:GI knd G h a S m)(e:∀o,h.get? a=some o->h'.get? a=some o)(F:∀k,S k=S' k)(O:m=m'):GI knd G h' a S' m':=by
 obtain⟨o,es,ep,t,J,T⟩:=x
 have:S=S':=funext F
 subst this;subst O
 exact⟨o,es,ep,t,e o J,T⟩
end
section
variable{prog:Program}{w:World}{A:Around}{E:KY}{s:Shared}
noncomputable def cF(w:World):Bool:=!(w.params.followText "set-order")
theorem Cj(a:Value){Q₁:KY}
  (h:Q₁ (.ref s.heap.objs.size) {s with heap:=s.heap.push {cls:=.type "set",dict:=none,data:=.set #[] 0 (.fresh 0 0 (cF w))}}) :
  codeAny (model prog w) A (.call (.builtin "set.__new__") ⟨[.type "set",a],[]⟩) (wants Q₁ E) s:=by
 refine codeAny_of_tree ?_
 show wpAny _ A.in1 (do checkBuiltinCall "set.__new__" ⟨[.type "set",a],[]⟩;again (.builtin "set.__new__" ⟨[.type "set",a],[]⟩)) _ _ s
 refine Kn (wpAny_of_eq (F.newCall_set_1 a) (Kr ⟨plainId_quiet F.plain_set_new _,codeAny_builtin F.entry_set_new ?_⟩))
 rw[IC F.plain_set_new _];unfold Builtin.«set.__new__» Builtin.Frozenset.newClass
 have J:=sub_set_self;obtain⟨O,g,d,tk,os⟩:=s
 dsimp only
 wp_walk
 refine wpAny_askSetting (Kr ?_)
 dsimp only
 simp only[newObj]
 refine Kn (wpAny_alloc (Kr ?_))
 exact Kr h
end
section
variable{prog:Program}{w:World}{A:Around}{R:Result->Shared->Prop}{I:Addr}{fp wr:LC}{Gm:Array GenState->Array GenState->Prop}{n:Nat}{P:Nat->Value->Prop}{St:Nat->Shared->Prop}{L:Bool}
theorem Fj[DecidableEq K](val:Nat->K)(i:Nat)(k:K):((List.range (i+1)).map val).contains k=(((List.range i).map val).contains k||decide (k=val i)):=by
 rw[List.range_succ,yd,List.contains_eq_any_beq,List.contains_eq_any_beq,List.any_append]
 congr 1
 by_cases e:k=val i
 .simp[e]
 .simp[e]
theorem C3{K:Type}[DecidableEq K]{knd:KeyKind prog w K}(W:WalksS prog w A.in1 I fp wr Gm n P St)(S:Addr)(ac:S∉fp)(val:Nat->K)(Z:∀i v,P i v->knd.is (val i) v=true/\v.scannable=true)(O:n+1<scanBound) :
  ∀(k i:Nat) (s:Shared),n-i=k->i<=n->St i s->(∃m,m<=i/\GI knd (cw L) s.heap S (λU=>((List.range i).map val).contains U) m)->
   (∀s',Moved (S::wr) Gm s s'->(∃m,m<=n/\GI knd (cw L) s'.heap S (λU=>((List.range n).map val).contains U) m)->R (.ok (.ret .none)) s')->
   codeAny (model prog w) A (.builtin "set.update.loop" ⟨[.ref S,.ref I],[]⟩) R s:=by
 have ad:S∉wr:=λh=>ac (W.sub _ h)
 have F:∀b∈wr,b∈S::wr:=λb O=>yc _ O
 intro k
 induction k with
 | zero=>
  rintro i s hk hi J ⟨m,ag,hS⟩ hR
  have a8:i=n:=by lia
  subst a8;refine codeAny_builtin zbd ?_
  rw[IC zaU _];show wpAny _ A.in1 (pyNext (.ref I) >>= _) _ _ s
  refine Kn (W.done s _ _ J λs' hm=>?_)
  show wpAny _ A.in1 (ret Value.none) _ _ s'
  exact Kr (hR s' (hm.mono F) ⟨m,ag,hS.at' (λo e=>hm.heap S _ ad e) (λ_=>rfl) rfl⟩)
 | succ k ih=>
  rintro i s hk hi J ⟨m,ag,hS⟩ hR
  have as:i<n:=by lia
  refine codeAny_builtin zbd ?_
  rw[IC zaU _];show wpAny _ A.in1 (pyNext (.ref I) >>= _) _ _ s
  refine Kn (W.item i s _ _ as J λv s' hP al hm=>?_)
  obtain⟨hv,a7⟩:=Z i v hP
  have a5:=hS.at' (h':=s'.heap) (λo e=>hm.heap S _ ad e) (λ_=>rfl) rfl
  show wpAny _ A.in1 (holding [v] (setAdd S v) >>= _) _ _ s'
  refine Kn (wpAny_holding ?_)
  unfold setAdd;refine wpAny_holding ?_
  refine Kn (knd.pyHash (k:=val i) hv ?_)
  refine Nr (G:=cw L) (knd:=knd) (s:={s' with toks:=s'.toks+1}) (λt es h x g=>uL g es h x) (λt es m g=>yM g es m) (λt g=>md g) hv a7 a5 (by lia) λh' ab a6=>?_
  refine Kr ⟨plainId_quiet zaU _,ih (i+1) _ (by lia) as (W.frame _ s' _ _ al (Nat.le_succ _) λb O o e=>?_) ⟨_,?_,a6.at' (h':=h') (λo e=>e) (λU=>(Fj val i U).symm) rfl⟩ λa4 Y a3=>?_⟩
  .rw[ab.2 b (λh:b=S=>ac (by rw[<-h];exact O))];exact e
  .split<;>lia
  .refine hR a4 (Moved.trans W.gtrans ((hm.mono F).then_heap (Nat.le_succ _) λb o O e=>?_) Y) a3
   rw[ab.2 b (λh:b=S=>O (by rw[h];exact yb))];exact e
end
section
variable{prog:Program}{w:World}{A:Around}{E:KY}{s:Shared}
noncomputable def iY(w:World):Obj:={cls:=.type "set",dict:=none,data:=.set #[] 0 (.fresh 0 0 (cF w))}
theorem pA{l:Addr}{J:LM}{Po:Heap->Prop}{Q:KY}(hh:A.handled=none)(hl:s.heap.IsList l J)
  (ab:∀(R:Result->Shared->Prop) (s1:Shared) (I:Addr) (St:Nat->Shared->Prop),I=s.heap.objs.size+1->s1.heap.get? s.heap.objs.size=some (iY w)->(∀b o,s.heap.get? b=some o->s1.heap.get? b=some o)->
   WalksS prog w A.in1.in1.in1 I [I,l] [I] (λa b=>b=a) J.size (λi v=>J[i]?=some v) St->St 0 s1->s.heap.objs.size∉[I,l]->(∀s',Moved [s.heap.objs.size,I] (λa b=>b=a) s1 s'->Po s'.heap->R (.ok (.ret .none)) s')->
   codeAny (model prog w) A.in1.in1 (.builtin "set.update.loop" ⟨[.ref s.heap.objs.size,.ref I],[]⟩) R s1)
  (h:∀(h':Heap) (tk:Nat),Po h'->(∀b o,b<s.heap.objs.size->s.heap.get? b=some o->h'.get? b=some o)->Q (.ref s.heap.objs.size) {s with heap:=h',toks:=tk}) :
  wpAny (model prog w) A (call (.type "set") [.ref l]) Q E s:=by
 obtain⟨c,tl,bt⟩:=F.called_set.mro
 have bc:=F.called_set.made;have bp:=F.called_set.sub;refine wpAny_call (codeAny_of_tree ?_)
 show wpAny _ _ (callAny (.type "set") _) _ _ _
 refine Kr ⟨Code.quiet_builtin _ (by decide +kernel),codeAny_builtin F.entry_type_call ?_⟩
 rw[Around.under_plain (weight_type_call_type "set" [.ref l] []) rfl];have h1:=F.called_set.notType;have h2:=F.called_set.canCreate;have cb:=F.typeCall_set_1 (.ref l)
 repeat (any_goals (first | assumption | wp_step))
 refine codeAny_mono (Cj (.ref l) (E:=E) (Q₁:=λobj s₁=>obj = .ref s.heap.objs.size/\s₁={s with heap:=s.heap.push (iY w)}) ⟨rfl,rfl⟩) λr s₁ hr=>?_
 cases r with
 | error e=>exact hr
 | ok fl=>
  cases fl with
  | ret obj=>
   obtain⟨rfl,rfl⟩:=hr
   have hS:(s.heap.push (iY w)).get? s.heap.objs.size=some (iY w):=yk _ rfl
   have hT:Shared.TypeIs {s with heap:=s.heap.push (iY w)} (.ref s.heap.objs.size) "set" := ⟨_,hS,rfl⟩
   have cc:=F.called_set.init.lookup;have ca:=F.called_set.init.bind (.ref s.heap.objs.size)
   repeat (any_goals (first | assumption | wp_step))
   refine codeAny_mono (codeAny_call_builtin (R:=wants (λr s₂=>r = .none/\∃h' tk,s₂={s with heap:=h',toks:=tk}/\
     Po h'/\
     (∀b o,b<s.heap.objs.size->s.heap.get? b=some o->h'.get? b=some o)) E) F.called_set.init.plain F.entry_set_init (check_set_init_1 hT ?_)) λr₂ s₂ Y=>?_
   .obtain⟨ol,ad,Z,nl,al⟩:=hl
    obtain⟨b0,U,a7,O⟩:=ol
    simp only at Z al
    subst Z;subst al
    have as:(s.heap.push (iY w)).get? l=some {cls:=.type "list",dict:=U,data:=.seq J nl,slots:=O}:=wR _ ad
    have b1:=F.sub_list_set;have b2:=F.sub_list_frozenset;have b3:(Value.type "list" == Value.type "dict")=false:=by decide
    have a3:(s.heap.push (iY w)).IsList l J:=⟨_,as,rfl,nl,rfl⟩
    unfold Builtin.«set.__init__» noKeywords Builtin.Frozenset.updateFrom
    generalize hPI:pyIter=PI
    wp_walk
    subst hPI;refine wpAny_pyIter_list a3 ?_
    refine Kn (wpAny_runValue ?_)
    have ac:l<s.heap.objs.size:=wD ad
    have a4:A.in1.in1.in1.handled=none:=by simp[hh]
    have ag:l≠(s.heap.push (iY w)).objs.size:=by
     rw[rW];exact xa (JV ac)
    have a8:s.heap.objs.size∉[(s.heap.push (iY w)).objs.size,l]:=by
     rw[rW];simp only[wQ,Kw,yh,or_false,not_or]
     exact⟨xa (Kg _),Ie ac⟩
    refine ab _ _ _ _ (rW ..) (wR _ hS) (λb o e=>wR _ (wR _ e)) ((Walks.list a4 _ l ag J).toS) ⟨⟨_,yk _ rfl,rfl,rfl⟩,(a3.push _)⟩ a8 ?hR
    case hR=>
     intro s' hm W
     obtain⟨h',g',d',a9,be⟩:=s'
     have eg:g'=s.gens:=hm.gens
     have ed:d'=s.drawn:=hm.drawn
     have eo:be=s.os:=hm.os
     subst eg;subst ed;subst eo
     show wpAny _ _ _ _ _ _
     refine Kr ?_
     show wpAny _ _ (ret Value.none) _ _ _
     refine Kr ⟨rfl,h',a9,rfl,W,λb o hb e=>?_⟩
     have a6:b≠s.heap.objs.size:=xa hb
     have bg:b≠(s.heap.push (iY w)).objs.size:=by
      rw[rW];exact xa (JV hb)
     exact hm.heap b o (by simp only[wQ,Kw,yh,or_false,not_or];exact⟨a6,bg⟩) (wR _ (wR _ e))
   .cases r₂ with
    | error e=>exact Y
    | ok fl₂=>
     cases fl₂ with
     | ret r=>
      obtain⟨rfl,h',tk,rfl,W,a5⟩:=Y
      repeat (any_goals (first | assumption | wp_step))
      exact h _ _ W a5
     | _=>exact Y.elim
  | _=>exact hr.elim
theorem oQ[DecidableEq K]{knd:KeyKind prog w K}{l:Addr}{F:LM}(val:Nat->K){Q:KY}(hh:A.handled=none)(hl:s.heap.IsList l F)(J:∀(i:Nat) (v:Value),F[i]?=some v->knd.is (val i) v=true/\v.scannable=true)(U:F.size+1<scanBound)
  (h:∀(h':Heap) (tk:Nat),(∃m,m<=F.size/\GI knd (cw (cF w)) h' s.heap.objs.size (λk'=>((List.range F.size).map val).contains k') m)->
   (∀b o,b<s.heap.objs.size->s.heap.get? b=some o->h'.get? b=some o)->Q (.ref s.heap.objs.size) {s with heap:=h',toks:=tk}) :
  wpAny (model prog w) A (call (.type "set") [.ref l]) Q E s:=
 pA hh hl (λR s1 I St _ hS _ W Z O hR=>C3 (L:=cF w) W _ O val J U (F.size-0) 0 _ (by lia) (xR _) Z ⟨0,qt _,_,#[],0,.fresh 0 0 (cF w),hS,
  ⟨rfl,rfl,rfl⟩,rfl,λe Y=>by simp at Y,λk=>by simp,by decide,rfl,rfl,⟨rfl,λa b ha=>absurd ha (za5 _)⟩,List.Pairwise.nil⟩ hR) h
theorem DQ[DecidableEq K]{knd:KeyKind prog w K}{h:Heap}{a:Addr}{S:K->Bool}{n:Nat}{L:Bool}{Sh:Int×Value->Prop}(F:Int×Value->K)(W:∀e k,knd.is k e.2=true->Sh e/\k=F e)(bk:∀e,Sh e->knd.is (F e) e.2=true)(x:GI knd (cw L) h a S n) :
  ∃o es ep t,h.get? a=some o/\o.ExactSet/\o.data = .set es ep t/\es.size<scanBound/\t.fits es.size=true/\cw L t/\(∀e∈es.toList,Sh e)/\(es.toList.map F).Nodup/\(∀k,k∈es.toList.map F ↔ S k=true)/\(es.toList.map F).length=n:=by
 obtain⟨o,es,ep,t,Y,T⟩:=x
 have O:∀e∈es.toList,Sh e:=λe J=>by
  obtain⟨⟨k,O,_⟩,_⟩:=T.el e J
  exact(W e k O).1
 refine⟨o,es,ep,t,Y,T.ex,T.dat,T.few,T.fit,T.good,O,?_,λk=>?_,by rw[zj,nX];exact T.num⟩
 .refine List.pairwise_map.mpr (List.Pairwise.imp_of_mem (λ{x y} hx Z U e=>?_) T.apart)
  have h1:=U (F x) (bk x (O x hx));rw[e,bk y (O y Z)]at h1;cases h1
 .rw[T.mem,KB]
  constructor
  .rintro⟨e,J,rfl⟩;exact⟨e,J,bk e (O e J)⟩
  .rintro⟨e,J,z⟩;exact⟨e,J,(W e k z).2.symm⟩
theorem vo[DecidableEq K]{ns:List K}(d x:K):((List.range ns.length).map λi=>ns.getD i d).contains x=true ↔ x∈ns:=by
 rw[List.contains_iff_mem,KB]
 constructor
 .rintro⟨i,hi,rfl⟩
  rw[xf,qz (KH.mp hi)];exact nY _
 .intro hx
  obtain⟨i,hi,e⟩:=KD.mp hx
  exact⟨i,KH.mpr hi,by rw[xf,qz hi,e];rfl⟩
end
noncomputable def ju(e:Int×Value):Int:=match e.2 with
 | .int d _=>d
 | _=>0
def GS(w:World)(h:Heap)(a:Addr)(ds:LJ):Prop:=∃o es ep t,h.get? a=some o/\o.ExactSet/\o.data = .set es ep t/\es.size<scanBound/\t.fits es.size=true/\cw (cF w) t/\(∀e∈es.toList,∃tk,e.2 = .int (ju e) tk)/\es.toList.map ju=ds
def nB(w:World)(a:Addr)(ds:LJ):HO:=.ext λh=>GS w h a ds
theorem JE{prog:Program}{w:World}{h:Heap}{S:Int->Bool}(x:GI (intKind prog w) (cw (cF w)) h a S n):∃ds,GS w h a ds/\ds.Nodup/\(∀k,k∈ds ↔ S k=true)/\ds.length=n:=by
 obtain⟨o,es,ep,t,h1,h2,O,Y,h5,U,W,Z,h9,J⟩:=DQ (Sh:=λe=>∃tk,e.2 = .int (ju e) tk) ju (λe k hk=>by
  obtain⟨tk,F⟩:=J8 hk
  have:ju e=k:=by unfold ju;rw[F]
  rw[this];exact⟨⟨tk,F⟩,rfl⟩) (λe ⟨tk,F⟩=>by rw[F];exact intKind_is _ _ _ _) x
 exact⟨_,⟨o,es,ep,t,h1,h2,O,Y,h5,U,W,rfl⟩,Z,h9,J⟩
section
variable{X:Cx}
theorem zr{m:Nat}(hr:B4 m X.A){K:W.Frag}(hK:X.K=K):BB X (.type "set") (DB K (nB X.w)):=by
 subst hK;intro pins s σ H xs us Q I r h
 obtain⟨p,ns,rfl,hq,ac,q⟩:=h
 obtain⟨u,rfl,ru⟩:=cU r
 cases ru;obtain⟨U,rv,pl,hz⟩:=I.list hq
 have F:U.length=ns.length:=by rw[<-rv.length,zj]
 refine oQ (knd:=intKind X.prog X.w) (λi=>ns.getD i 0) hr.hd pl.isList (λi v hv=>by
  obtain⟨t,rfl⟩:=IntsAre.int_at (by simpa using jJ rv) i v (by simpa using hv)
  exact⟨intKind_is _ _ _ _,rfl⟩) (by simp only[xo];unfold scanBound;lia) λh' tk ⟨m,hm,hS⟩ hk=>?_
 obtain⟨ds,hg,ab,J,O⟩:=JE hS
 obtain⟨o,es,ep,t,Z,Y⟩:=id hg
 refine⟨.ref s.heap.objs.size,_,I.laid (λb o e=>hk b o (wD e) e) (qt _) (show BC X.prog X.w _ h' _ (nB X.w s.heap.objs.size ds) from ⟨hg,⟨o,Z⟩,λh1 h2 g k=>?_⟩),rfl,q _ ds (I.hok.fresh (qt _)) ab (λx=>?_) ?_⟩
 .obtain⟨o,es,ep,t,Z,BG⟩:=g
  exact⟨o,es,ep,t,k o Z,BG⟩
 .rw[J,xo,F];exact vo 0 x
 .rw[O,<-F];simpa using hm
end
theorem jq{α:Type}:∀(l:List α) (i:Nat) (hi:i<l.length),(l[i]::l.eraseIdx i).Perm l
 | x::l,0,_=>.rfl
 | x::l,i+1,hi=>(List.Perm.swap x (l[i]'(by simpa using hi)) (l.eraseIdx i)).trans (List.Perm.cons x (jq l i (by simpa using hi)))
theorem u_{α:Type}(next:Nat->Nat):∀(F k:Nat) (left:List α) (out:Array α),F=left.length->(pickOrder.go next F k left out).toList.Perm (out.toList++left)
 | 0,k,left,out,h=>by
  have:left=[]:=JR h.symm
  subst this;unfold pickOrder.go;simp
 | F+1,k,left,out,h=>by
  unfold pickOrder.go;have hi:next k%left.length<left.length:=Nat.mod_lt _ (by lia)
  rw[qz hi]
  dsimp only
  refine(u_ next F (k+1) _ _ (by rw[List.length_eraseIdx];rw[Kx hi];lia)).trans ?_
  rw[Ke,n6];refine List.Perm.append_left _ ?_
  exact jq _ _ hi
theorem Am{α:Type}(next:Nat->Nat)(xs:Array α):(pickOrder next xs).toList.Perm xs.toList:=by
 unfold pickOrder;have:=u_ next xs.size 0 xs.toList #[] (by simp)
 simpa using this
section
variable{M:Model}{A:Around}{E:KY}
theorem uB{s:Shared}{Q:Nat->Shared->Prop}(F:n≠0)(h:∀i d',i<n->Q i {s with drawn:=d'}):wpAny M A (choose .order n) Q E s:=λΓ p J=>by
 show Sem.wp M Γ (.choose .order n .pure) _ _ _ _
 rw[Sem.wp_choose];refine⟨F,?_⟩
 rw[Sem.wp_pure];exact h _ _ (Nat.mod_lt _ (by lia))
theorem og{α:Type}:∀(n:Nat) (xs:List α) (s:Shared) (Q:List α->Shared->Prop),n=xs.length->(∀ys d',ys.Perm xs->Q ys {s with drawn:=d'})->wpAny M A (drawOrder n xs) Q E s
 | 0,xs,s,Q,hn,h=>by
  have:xs=[]:=JR hn.symm
  subst this;unfold drawOrder;exact Kr (by have:=h [] s.drawn .nil;cases s;exact this)
 | n+1,[],s,Q,hn,h=>by simp at hn
 | n+1,x::xs,s,Q,hn,h=>by
  unfold drawOrder;refine Kn (uB (by simp) λi d' hi=>?_)
  rw[qz hi]
  dsimp only
  refine Kn (og n _ _ _ (by rw[List.length_eraseIdx,Kx hi];lia) λys F J=>?_)
  refine Kr ?_
  exact h _ F ((List.Perm.cons _ J).trans (jq _ _ hi))
end
theorem BE:Slot "set_iterator" "__next__" "set_iterator.__next__" :=
 .of (owner := "set_iterator") (n := "__next__") (by rw[typeLookup_type,builtinLookup_eq_fast];kernel_rfl) (by decide +kernel) (by decide +kernel) (by decide +kernel)
  (by first | exact .inl (by decide +kernel) | exact .inr (by decide +kernel)) (by rw[isSubtype_type];kernel_rfl)
theorem fJ:entryFor table "set_iterator.__next__" = some Builtin.«set_iterator.__next__»:=entryFor_of_tree (by kernel_rfl)
theorem nH:entryFor table "set.__iter__" = some Builtin.«frozenset.__iter__»:=
 entryFor_alias (id' := "frozenset.__iter__") (by kernel_rfl) rfl (by decide +kernel) (by kernel_rfl)
theorem qv : Manifest.owners.lookup (String.ofList ['r','o','t','a','r','e','t','i','_','t','e','s'].reverse) = some Manifest.sig_set_iterator := by kernel_rfl
theorem gk(a:Value):argsOk "set_iterator.__next__" ⟨[a],[]⟩:=by
 unfold argsOk;rw [signature?_of (id := "set_iterator.__next__") (n:=['_','_','t','x','e','n','_','_']) (o:=['r','o','t','a','r','e','t','i','_','t','e','s']) (by kernel_rfl) qv];kernel_rfl
section
variable{prog:Program}{w:World}{A:Around}{E:KY}{s:Shared}
noncomputable def gK(w:World)(a:Addr)(ep:Nat)(es:Array (Int×Value)):LD:=((if w.params.followText "set-order" then pickOrder (w.params.setOrder a ep) es else es).toList.map (·.2))
noncomputable def dQ(w:World)(t:SetTable)(i:Nat):Nat:=if w.params.followText "set-order" then 0 else if i=0 then 0 else t.place.getD (i-1) 0+1
theorem jE(a:Addr)(ep:Nat)(es:Array (Int×Value)):(gK w a ep es).Perm (es.toList.map (·.2)):=by
 unfold gK;split
 .exact(Am _ _).map _
 .exact .rfl
theorem pD{a:Addr}{o:Obj}{es:Array (Int×Value)}{ep:Nat}{t:SetTable}{i:Nat}{Q:Option (Value×Nat)->Shared->Prop}(Y:s.heap.get? a=some o)(hd:o.data = .set es ep t)(hf:t.fits es.size=true)(hg:cw (cF w) t)(hi:i<=es.size)
  (Z:w.params.followText "set-order" = true\/(!t.plain&&decide (es.size>1))=false) (h:Q (((gK w a ep es)[i]?).map λx=>(x,dQ w t (i+1))) s):wpAny (model prog w) A (setNext a (dQ w t i) i ep) Q E s:=by
 have ab:t.place.size=es.size:=by
  unfold SetTable.fits at hf;simp only[zaR,beq_iff_eq]at hf
  exact hf.1
 unfold setNext;refine Kn (wpAny_setState_of Y hd hf ?_)
 refine Kn ?_
 unfold setsByText;refine Kn (wpAny_askSetting (Kr ?_))
 show wpAny _ _ (if w.params.followText "set-order" = true then _ else _) _ _ _
 unfold gK dQ at h;unfold dQ
 cases hb:w.params.followText "set-order" with
 | true=>
  rw[hb]at h
  simp only[if_true]at h |-
  rw[Kt (by simp)]
  refine Kn ?_
  unfold setWalk;refine Kn (wpAny_setState_of Y hd hf ?_)
  refine Kn ?_
  unfold setsByText;refine Kn (wpAny_askSetting (Kr ?_))
  show wpAny _ _ (if w.params.followText "set-order" = true then _ else _) _ _ _
  rw[Kx hb];refine Kn (wpAny_askSetting (Kr ?_))
  refine Kr ?_
  rw[wC,Option.map_map,Ib]at h
  exact h
 | false=>
  rw[hb]at h
  simp only[sZ,if_false]at h |-
  have J:t.led=true:=by rw[hg.led];unfold cF;rw[hb];rfl
  refine wpAny_ite_split (λW=>?_) (λ_=>?_)
  .rcases Z with z | z
   .rw[hb]at z;cases z
   .exact absurd (z.symm.trans W) (by decide)
  refine Kn ?_
  show wpAny _ _ (if (!t.led && !es.isEmpty)=true then unsupported "set:maker-not-led" else pure ()) _ _ _
  rw[Kt (by rw[J];simp)]
  refine Kr (Kr ?_)
  have O:SetTable.below t.place (if i=0 then 0 else t.place.getD (i-1) 0+1)=i:=by
   by_cases h0:i=0
   .rw[Kx h0,xx hg.rise,h0]
   .have U:i-1<t.place.size:=by lia
    rw[Kt h0,show t.place.getD (i-1) 0=t.place[i-1] by simp[Array.getD,U],yx hg.rise U]
    lia
  rw[O];rw[wC,Ib,Kt (by lia),Nat.add_sub_cancel]at h
  by_cases hlt:i<es.size
  .have F:i<t.place.size:=by lia
   rw[G8 hlt,G8 F];rw[G8 hlt,show t.place.getD i 0=t.place[i] by simp[Array.getD,F]]at h
   exact h
  .rw[zbw (by lia)]
   rw[zbw (by lia)]at h
   exact h
end
section
variable{prog:Program}{w:World}{A:Around}{E:KY}{s:Shared}
def Gz(h:Heap)(it:Addr)(first:Value)(i:Nat)(a:Addr)(n ep:Nat):Prop:=∃o,h.get? it=some o/\o.cls = .type "set_iterator" /\ o.data = .fields #[first,.int i 0,.ref a,.int n 0,.int ep 0]
theorem Gz.typeIs{first:Value}(x:Gz s.heap it first i a n ep):s.TypeIs (.ref it) "set_iterator" := let ⟨o,ho,hc,_⟩:=x;⟨o,ho,hc⟩
theorem EW{t:SetTable}{v:Value}{Q:LF->Shared->Prop}(Y:Gz s.heap it (.int (dQ w t i) 0) i a es.size ep)(ho:s.heap.get? a=some o)(hd:o.data = .set es ep t)(hf:t.fits es.size=true)(hg:cw (cF w) t)
  (hn:w.params.followText "set-order" = true\/(!t.plain&&decide (es.size>1))=false) (hi:i<es.size) (hv:(gK w a ep es)[i]?=some v)
  (hQ:∀h',Gz h' it (.int (dQ w t (i+1)) 0) (i+1) a es.size ep->Heap.SameBut it s.heap h'->Q (some v) {s with heap:=h'}):wpAny (model prog w) A (pyNext (.ref it)) Q E s:=by
 obtain⟨oi,W,ab,U⟩:=id Y
 unfold pyNext;refine Kn (wpAny_attempt (wpAny_callSpecial?_slot (name:=Str.ofString "__next__") Y.typeIs BE (wpAny_call_entry BE Y.typeIs fJ ?_ (gk _))))
 unfold Builtin.«set_iterator.__next__»
 refine Kn (Kr ?_)
 refine Kn (wpAny_fieldsOf W U ?_)
 dsimp only
 refine Kn (wpAny_setEntries_of ho hd hf ?_)
 rw[Kt (by simp)]
 simp only[gE]
 refine Kn (pD ho hd hf hg (by lia) hn ?_)
 rw[hv];show wpAny _ _ (setField (.ref it) 0 (rawInt (dQ w t (i+1):Nat)) >>= λ_=>setField (.ref it) 1 (rawInt ((i:Int)+1)) >>= λ_=>ret v) _ _ _
 refine Kn (wpAny_setField W U (by simp) ?_)
 have F:=JU U (λxs=>xs.setIfInBounds 0 (rawInt (dQ w t (i+1):Nat)))
 have O:=HK (Obj.mapFields (λxs=>xs.setIfInBounds 0 (rawInt (dQ w t (i+1):Nat)))) W (zaV F)
 refine Kn (wpAny_setField O F (by simp) ?_)
 have J:=JU F (λxs=>xs.setIfInBounds 1 (rawInt ((i:Int)+1)))
 have Z:=HK (Obj.mapFields (λxs=>xs.setIfInBounds 1 (rawInt ((i:Int)+1)))) O (zaV J)
 refine Kr ⟨_,rfl,Kr (hQ _ ⟨_,Z,?_,?_⟩ ((Hi ..).trans (Hi ..)))⟩
 .rw[za6,za6];exact ab
 .rw[J];simp[rawInt]
theorem Hq{t:SetTable}{Q:LF->Shared->Prop}(hh:A.handled=none)(F:Gz s.heap it (.int (dQ w t es.size) 0) es.size a es.size ep)(U:s.heap.get? a=some o)(hd:o.data = .set es ep t)(hf:t.fits es.size=true)(hg:cw (cF w) t)
  (W:w.params.followText "set-order" = true\/(!t.plain&&decide (es.size>1))=false)
  (Z:∀h',Heap.ExtBut it s.heap h'->Q none {s with heap:=h'}):wpAny (model prog w) A (pyNext (.ref it)) Q E s:=by
 obtain⟨oi,O,Y,J⟩:=id F
 have hv:(gK w a ep es)[es.size]?=none:=IS (by rw[(jE (w:=w) a ep es).length_eq];simp)
 unfold pyNext;refine Kn (wpAny_attempt (wpAny_callSpecial?_slot (name:=Str.ofString "__next__") F.typeIs BE (wpAny_call_entry BE F.typeIs fJ ?_ (gk _))))
 unfold Builtin.«set_iterator.__next__»
 refine Kn (Kr ?_)
 refine Kn (wpAny_fieldsOf O J ?_)
 dsimp only
 refine Kn (wpAny_setEntries_of U hd hf ?_)
 rw[Kt (by simp)]
 simp only[gE]
 refine Kn (pD U hd hf hg (qt _) W ?_)
 rw[hv];show wpAny _ _ (setField (.ref it) 2 .none >>= λ_=>newExc (.type "StopIteration") [] >>= λe=>raiseNew e) _ _ _
 refine Kn (wpAny_setField O J (by simp) ?_)
 refine Kn ?_
 simp only[newExc,newTuple]
 refine Kn (wpAny_newObj_type ?_ (by size_fits))
 refine Kn (m:=firstArgMember _ _) (wpAny_of_eq (a:=Value.none) (by first | rfl | (simp only[firstArgMember];rfl)) ?_)
 refine wpAny_newObj_type ?_ (by size_fits)
 simp only[raiseNew]
 refine Kn (wpAny_handled ?_)
 rw[show A.in1.handled=none from hh];refine Kn (Kr (wpAny_throw ?_))
 refine Kn (wpAny_isInstance (T := "StopIteration") (b:=true) ⟨_,yk _ rfl,rfl⟩ isSubtype_stop ?_)
 exact Kr (Z _ (((Hi ..).extBut.push _).push _))
end
section
variable{prog:Program}{w:World}{A:Around}{E:KY}{s:Shared}
theorem yG{t:SetTable}{Q:Bool->Shared->Prop}(F:s.heap.get? a=some o)(hd:o.data = .set es ep t)(hf:t.fits es.size=true)
  (h:Q (!(w.params.followText "set-order")&&(!t.plain&&decide (es.size>1))) s):wpAny (model prog w) A (setDrawn a) Q E s:=by
 unfold setDrawn;refine Kn (wpAny_setState_of F hd hf ?_)
 refine Kn ?_
 unfold setsByText;refine Kn (wpAny_askSetting (Kr ?_))
 exact Kr h
theorem Ei{t:SetTable}{Q:KY}(U:s.heap.get? a=some o)(hx:o.ExactSet)(hd:o.data = .set es ep t)(hf:t.fits es.size=true)(J:es.size<scanBound)
  (h1:(!(w.params.followText "set-order")&&(!t.plain&&decide (es.size>1)))=false->Q (.ref s.heap.objs.size) {s with heap:=s.heap.push {cls:=.type "set_iterator",data:=.fields #[.int 0 0,.int 0 0,.ref a,.int es.size 0,.int ep 0]}})
  (h2:∀(ps:LN) d',ps.Perm (List.range es.size)->Q (.ref (s.heap.objs.size+1)) {s with heap:=(s.heap.push {cls:=.type "tuple",data:=.seq (ps.map λi:Nat=>rawInt i).toArray}).push {cls:=.type "set_iterator",data:=.fields #[.ref s.heap.objs.size,.int 0 0,.ref a,.int es.size 0,.int ep 0]},drawn:=d'}) :
  wpAny (model prog w) A (pyIter (.ref a)) Q E s:=by
 have Z:s.TypeIs (.ref a) "set" := ⟨o,U,hx.1⟩
 refine wpAny_pyIter_slot Z F.slot_set_iter (wpAny_call_entry F.slot_set_iter Z nH ?_ (F.args_set_iter_1 _))
 unfold Builtin.«frozenset.__iter__»
 refine Kn (Kr ?_)
 refine Kn ?_
 unfold Builtin.Frozenset.sizeOf;refine Kn (wpAny_setEntries_of U hd hf (Kr ?_))
 refine Kn (yG U hd hf ?_)
 dsimp only
 refine wpAny_ite_split (λO=>?_) (λO=>?_)
 .refine Kn (og _ _ _ _ (by simp) λps d' W=>?_)
  have Y:ps.length=es.size:=by rw[W.length_eq];simp
  refine Kn ?_
  unfold newTuple;have hz:=fits_of_scanBound J;refine wpAny_newObj_type ?_ (by show (List.map _ ps).toArray.size<=sizeLine;simp;lia)
  refine Kn ?_
  unfold setEpoch;refine Kn (wpAny_setState_of (wR _ U) hd hf (Kr ?_))
  refine Kn ?_
  unfold newFields;refine wpAny_newObj_type (Kr ⟨_,rfl,"set_iterator",_,⟨_,yk _ rfl,rfl⟩,BE.lookup,?_⟩)
  rw[rW];exact h2 ps d' W
 .refine Kn (Kr ?_)
  refine Kn ?_
  unfold setEpoch;refine Kn (wpAny_setState_of U hd hf (Kr ?_))
  refine Kn ?_
  unfold newFields;refine wpAny_newObj_type (Kr ⟨_,rfl,"set_iterator",_,⟨_,yk _ rfl,rfl⟩,BE.lookup,?_⟩)
  exact h1 (by simpa using O)
end
section
variable{prog:Program}{w:World}{A:Around}{E:KY}{s:Shared}
theorem E9{tp:Addr}{ot:Obj}{ct:Nat}{t:SetTable}{k:Nat}{v:Value}{hh:Int}{Q:LF->Shared->Prop}(U:Gz s.heap it (.ref tp) i a es.size ep)(ho:s.heap.get? a=some o)(hd:o.data = .set es ep t)(hf:t.fits es.size=true)
  (Y:s.heap.get? tp=some ot) (ab:ot.data = .seq (ps.map λi:Nat=>rawInt i).toArray ct) (hk:ps[i]?=some k) (hv:es[k]?=some (hh,v))
  (hQ:∀h',Gz h' it (.ref tp) (i+1) a es.size ep->Heap.SameBut it s.heap h'->Q (some v) {s with heap:=h'}):wpAny (model prog w) A (pyNext (.ref it)) Q E s:=by
 obtain⟨oi,O,Z,J⟩:=id U
 unfold pyNext;refine Kn (wpAny_attempt (wpAny_callSpecial?_slot (name:=Str.ofString "__next__") U.typeIs BE (wpAny_call_entry BE U.typeIs fJ ?_ (gk _))))
 unfold Builtin.«set_iterator.__next__»
 refine Kn (Kr ?_)
 refine Kn (wpAny_fieldsOf O J ?_)
 dsimp only
 refine Kn (wpAny_setEntries_of ho hd hf ?_)
 rw[Kt (by simp)]
 refine Kn (wpAny_seqItems Y ab ?_)
 simp only[gE]
 have e1:(List.map (λi:Nat=>rawInt (i:Int)) ps).toArray[i]?=some (.int (k:Int) 0):=by
  rw[List.getElem?_toArray,wC,hk];rfl
 rw[e1]
 dsimp only
 refine Kn ?_
 unfold setNextDrawn;refine Kn (wpAny_setState_of ho hd hf ?_)
 dsimp only
 simp only[gE]
 rw[Kt (by simp)]
 rw[hv];refine Kr ?_
 refine Kn (wpAny_setField O J (by simp) ?_)
 have F:=JU J (λxs=>xs.setIfInBounds 1 (rawInt ((i:Int)+1)))
 have W:=HK (Obj.mapFields (λxs=>xs.setIfInBounds 1 (rawInt ((i:Int)+1)))) O (zaV F)
 refine Kr ⟨_,rfl,Kr (hQ _ ⟨_,W,?_,?_⟩ (Hi ..))⟩
 .rw[za6];exact Z
 .rw[F];simp[rawInt]
theorem FH{tp:Addr}{ot:Obj}{ct:Nat}{t:SetTable}{Q:LF->Shared->Prop}(hh:A.handled=none)(U:Gz s.heap it (.ref tp) es.size a es.size ep)(ho:s.heap.get? a=some o)(hd:o.data = .set es ep t)(hf:t.fits es.size=true)
  (Y:s.heap.get? tp=some ot) (Z:ot.data = .seq (ps.map λi:Nat=>rawInt i).toArray ct) (hp:ps.length=es.size)
  (hQ:∀h',Heap.ExtBut it s.heap h'->Q none {s with heap:=h'}):wpAny (model prog w) A (pyNext (.ref it)) Q E s:=by
 obtain⟨oi,O,ab,J⟩:=id U
 unfold pyNext;refine Kn (wpAny_attempt (wpAny_callSpecial?_slot (name:=Str.ofString "__next__") U.typeIs BE (wpAny_call_entry BE U.typeIs fJ ?_ (gk _))))
 unfold Builtin.«set_iterator.__next__»
 refine Kn (Kr ?_)
 refine Kn (wpAny_fieldsOf O J ?_)
 dsimp only
 refine Kn (wpAny_setEntries_of ho hd hf ?_)
 rw[Kt (by simp)]
 refine Kn (wpAny_seqItems Y Z ?_)
 simp only[gE]
 have e1:(List.map (λi:Nat=>rawInt (i:Int)) ps).toArray[es.size]?=none:=by
  rw[List.getElem?_toArray,IS (by simp;lia)]
 rw[e1]
 dsimp only
 refine Kn (wpAny_setField O J (by simp) ?_)
 have F:=JU J (λxs=>xs.setIfInBounds 0 (rawInt 0))
 have W:=HK (Obj.mapFields (λxs=>xs.setIfInBounds 0 (rawInt 0))) O (zaV F)
 refine Kn (wpAny_setField W F (by simp) ?_)
 refine Kn ?_
 simp only[newExc,newTuple]
 refine Kn (wpAny_newObj_type ?_ (by size_fits))
 refine Kn (m:=firstArgMember _ _) (wpAny_of_eq (a:=Value.none) (by first | rfl | (simp only[firstArgMember];rfl)) ?_)
 refine wpAny_newObj_type ?_ (by size_fits)
 simp only[raiseNew]
 refine Kn (wpAny_handled ?_)
 rw[show A.in1.handled=none from hh];refine Kn (Kr (wpAny_throw ?_))
 refine Kn (wpAny_isInstance (T := "StopIteration") (b:=true) ⟨_,yk _ rfl,rfl⟩ isSubtype_stop ?_)
 exact Kr (hQ _ ((((Hi ..).trans (Hi ..)).extBut.push _).push _))
end
theorem jX:Slot "set_iterator" "__iter__" "set_iterator.__iter__" :=
 .of (owner := "set_iterator") (n := "__iter__") (by rw[typeLookup_type,builtinLookup_eq_fast];kernel_rfl) (by decide +kernel) (by decide +kernel) (by decide +kernel)
  (by first | exact .inl (by decide +kernel) | exact .inr (by decide +kernel)) (by rw[isSubtype_type];kernel_rfl)
theorem pY:entryFor table "set_iterator.__iter__" = some Builtin.«dict_keyiterator.__iter__»:=
 entryFor_alias (id' := "dict_keyiterator.__iter__") (by kernel_rfl) rfl (by decide +kernel) (by kernel_rfl)
theorem rF(a:Value):argsOk "set_iterator.__iter__" ⟨[a],[]⟩:=by
 unfold argsOk;rw [signature?_of (id := "set_iterator.__iter__") (n:=['_','_','r','e','t','i','_','_']) (o:=['r','o','t','a','r','e','t','i','_','t','e','s']) (by kernel_rfl) qv];kernel_rfl
section
variable{prog:Program}{w:World}{A:Around}{E:KY}{s:Shared}
theorem uT{first:Value}{Q:KY}(F:Gz s.heap it first i a n ep)(h:Q (.ref it) s):wpAny (model prog w) A (pyIter (.ref it)) Q E s:=
 wpAny_pyIter_slot F.typeIs jX (wpAny_call_entry jX F.typeIs pY (Kn (Kr (Kr ⟨_,rfl,"set_iterator",_,F.typeIs,BE.lookup,h⟩))) (rF _))
theorem Gz.at'{h h':Heap}{first:Value}(x:Gz h it first i a n ep)(e:∀o,h.get? it=some o->h'.get? it=some o):Gz h' it first i a n ep:=let ⟨o,ho,r⟩:=x;⟨o,e _ ho,r⟩
theorem IZ(hh:A.handled=none)(I a:Addr)(Y:a≠I){t:SetTable}(hd:o.data = .set es ep t)(hf:t.fits es.size=true)(hg:cw (cF w) t)(Z:w.params.followText "set-order" = true\/(!t.plain&&decide (es.size>1))=false) :
  Walks prog w A I [I,a] [I] es.size (λi v=>(gK w a ep es)[i]?=some v) (λi h=>Gz h I (.int (dQ w t i) 0) i a es.size ep/\h.get? a=some o) where
 sub:=λb F=>by simp at F;simp[F]
 frame:=λ_ _ _ st hk=>⟨st.1.at' λo e=>hk I (by simp) o e,hk a (by simp) o st.2⟩
 item:=λi s Q E hi st O=>by
  have hl:(gK w a ep es).length=es.size:=by rw[(jE (w:=w) a ep es).length_eq];simp
  have hv:(gK w a ep es)[i]?=some (gK w a ep es)[i]:=qz (by lia)
  refine EW st.1 st.2 hd hf hg Z hi hv λh' J U=>?_
  exact O _ h' s.toks hv ⟨J,U.extBut a o Y st.2⟩ (λb o F e=>U.extBut b o (λh=>F (by simp[h])) e)
 done:=λs Q E st O=>Hq hh st.1 st.2 hd hf hg Z λh' W=>O h' s.toks λb o F e=>W b o (λh=>F (by simp[h])) e
 self:=λ_ _ _ _ st O=>uT st.1 O
theorem Ja(hh:A.handled=none)(I a W:Addr)(ag:a≠I)(ad:W≠I){ot:Obj}{ct:Nat}{t:SetTable}(hd:o.data = .set es ep t)(hf:t.fits es.size=true)(ab:ot.data = .seq (ps.map λi:Nat=>rawInt i).toArray ct)(hp:ps.Perm (List.range es.size)) :
  Walks prog w A I [I,a,W] [I] es.size (λi v=>(ps.map λk=>(es.getD k (0,.none)).2)[i]?=some v) (λi h=>Gz h I (.ref W) i a es.size ep/\h.get? a=some o/\h.get? W=some ot) where
 sub:=λb O=>by simp at O;simp[O]
 frame:=λ_ _ _ st U=>⟨st.1.at' λo e=>U I (by simp) o e,U a (by simp) o st.2.1,U W (by simp) ot st.2.2⟩
 item:=λi s Q E hi st Z=>by
  have hl:ps.length=es.size:=by rw[hp.length_eq];simp
  have U:ps[i]?=some (ps[i]'(by lia)):=qz (by lia)
  have F:ps[i]'(by lia)<es.size:=KH.mp (hp.mem_iff.mp (nY _))
  have hv:(ps.map λk=>(es.getD k (0,.none)).2)[i]?=some (es[ps[i]'(by lia)]'F).2:=by
   rw[wC,U];simp[Array.getD,F]
  refine E9 st.1 st.2.1 hd hf st.2.2 ab U (hh:=(es[ps[i]'(by lia)]'F).1) (v:=(es[ps[i]'(by lia)]'F).2) (G8 F) λh' Y J=>?_
  exact Z _ h' s.toks hv ⟨Y,J.extBut a o ag st.2.1,J.extBut W ot ad st.2.2⟩ (λb o O e=>J.extBut b o (λh=>O (by simp[h])) e)
 done:=λs Q E st Z=>FH hh st.1 st.2.1 hd hf st.2.2 ab (by rw[hp.length_eq];simp) λh' ac=>Z h' s.toks λb o O e=>ac b o (λh=>O (by simp[h])) e
 self:=λ_ _ _ _ st Z=>uT st.1 Z
end
section
variable{prog:Program}{w:World}{A:Around}{E:KY}{s:Shared}
theorem qC{Q:Bool->Shared->Prop}(O:s.TypeIs (.ref a) "set") (h:Q false s):wpAny (model prog w) A (Builtin.List.listLengthHint (.ref a)) Q E s:=by
 unfold Builtin.List.listLengthHint;refine Kn (wpAny_specialOf O F.slot_set_len.lookup ?_)
 generalize hid:("set.__len__" : String)=U
 wp_delta
 rw[show splitId U=some ("set","__len__") from by subst hid;decide +kernel]
 subst hid;refine Kn (wpAny_isInstance (T := "set") (b:=true) O (by rw[isSubtype_type];kernel_rfl) ?_)
 refine wpAny_ite_split (λJ=>absurd J (by decide)) (λ_=>?_)
 refine wpAny_ite_split (λ_=>?_) (λJ=>absurd (by decide +kernel) J)
 refine Kn (wpAny_typeOf O ?_)
 exact Kr h
theorem BO{l:LD}{acc:LM}(h:ItemsOf (λi v=>l[i]?=some v) acc l.length):acc.toList=l:=by
 refine List.ext_getElem? λi=>?_
 rw[Ib]
 cases e:acc[i]? with
 | some v=>exact(h.2 i v e).symm
 | none=>
  have:acc.size<=i:=by simpa using e
  exact(IS (by have:=h.1;lia)).symm
theorem uK(F:ps.Perm (List.range es.size)):(ps.map λk=>(es.getD k (0,.none)).2).Perm (es.toList.map (·.2)):=by
 refine(F.map _).trans ?_
 refine List.Perm.of_eq ?_
 refine List.ext_getElem (by simp) λi h1 h2=>?_
 have hi:i<es.size:=by simpa using h1
 simp[Array.getD,hi]
theorem yr{R:Result->Shared->Prop}{a:Addr}{o:Obj}{es:Array (Int×Value)}{ep:Nat}{t:SetTable}(hh:A.handled=none)(ho:s.heap.get? a=some o)(hx:o.ExactSet)(hd:o.data = .set es ep t)(hf:t.fits es.size=true)(ag:es.size<scanBound)(hg:cw (cF w) t)
  (S:Addr) (res:Value) (c₀ : Nat) (hS:s.heap.get? S=some {cls:=.type "list",data:=.seq #[] c₀})
  (hR:∀h' d' tk O c',(∀b o,b≠S->s.heap.get? b=some o->h'.get? b=some o)->h'.get? S=some {cls:=.type "list",dict:=none,data:=.seq O c',slots:=#[]}->O.toList.Perm (es.toList.map (·.2))->R (.ok (.ret res)) {s with heap:=h',drawn:=d',toks:=tk}) :
  wpAny (model prog w) A.in1 (Builtin.List.listExtendWith (.ref S) (.ref a) res)
   (λbe s'=>match be with | .done f=>R (.ok f) s' | .again c'=>c'.quiet=true/\codeAny (model prog w) A c' R s') (λe s'=>R (.error e) s') s:=by
 have hz:=fits_of_scanBound ag;have ad:a<s.heap.objs.size:=wD ho
 have ab:S<s.heap.objs.size:=wD hS
 have a3:S≠a:=λe=>by
  rw[e,ho]at hS
  cases hS
  cases hd
 have hT:s.TypeIs (.ref a) "set" := ⟨o,ho,hx.1⟩
 have e1:Builtin.List.listSameRef (.ref S) (.ref a)=false:=by simp[Builtin.List.listSameRef,a3]
 have bc:∀(h2:Heap) (d2:Drawn) (c tk:Nat) (I:Addr) (fp:LC) (l:LD) (St:Nat->Heap->Prop),l.length=es.size->l.Perm (es.toList.map (·.2))->Walks prog w A.in1 I fp [I] es.size (λi v=>l[i]?=some v) St->S∉fp->s.heap.objs.size<=I->
   (∀b o,b≠S->s.heap.get? b=some o->h2.get? b=some o)->h2.get? S=some {cls:=.type "list",data:=.seq #[] c}->St 0 h2->codeAny (model prog w) A (.builtin "list.extend.loop" ⟨[.ref S,.ref I,res],[]⟩) R {s with heap:=h2,drawn:=d2,toks:=tk}:=by
  intro h2 d2 c tk I fp l St hl hp W ac hI hk bp J
  refine codeAny_extend_loopS W.toS hz S ac res es.size 0 _ #[] c rfl (xR _) J bp (ItemsOf.nil _) λs' O c' hm bg a6=>?_
  rw[Moved.eq_with hm];refine hR s'.heap d2 s'.toks O c' (λb o U e=>hm.heap b o (λZ=>?_) (hk b o U e)) bg (by rw[BO (by rw[hl];exact a6)];exact hp)
  rcases KC.mp Z with e' | Z
  .exact U e'
  .have:=wD e
   rw[Kw.mp Z]at this
   exact absurd this (Nat.not_lt.mpr hI)
 unfold Builtin.List.listExtendWith;refine Kn (wpAny_typeOf hT ?_)
 rw[Kt (by rw[e1];decide)]
 /- the list makes room,then the loop -/
 have Y:∀(h2:Heap) (d2:Drawn) (I:Addr) (fp:LC) (l:LD) (St:Nat->Heap->Prop),l.length=es.size->l.Perm (es.toList.map (·.2))->Walks prog w A.in1 I fp [I] es.size (λi v=>l[i]?=some v) St->S∉fp->s.heap.objs.size<=I->
   (∀b o,s.heap.get? b=some o->h2.get? b=some o)->St 0 h2->
   wpAny (model prog w) A.in1 (updateSeq S (·.push .none) >>= λ_=>updateSeq S (·.pop)) (λ_ s'=>codeAny (model prog w) A (.builtin "list.extend.loop" ⟨[.ref S,.ref I,res],[]⟩) R s') (λe s'=>R (.error e) s') {s with heap:=h2,drawn:=d2}:=by
  intro h2 d2 I fp l St hl hp W ac hI hk J
  have a8:=hk _ _ hS;refine Kn (wpAny_updateSeq a8 rfl ?_)
  have a5:=HK (Obj.mapSeq (·.push Value.none)) a8 rfl;refine wpAny_updateSeq (hz:=by seq_fits) a5 rfl ?_
  have a9:=HK (Obj.mapSeq (·.pop)) a5 rfl
  have a7:∀b o,b≠S->h2.get? b=some o->((h2.update S (Obj.mapSeq (·.push Value.none))).update S (Obj.mapSeq (·.pop))).get? b=some o:=λb o U e=>
   (za1 _ _ (mS U)).trans ((za1 _ _ (mS U)).trans e)
  exact bc _ d2 _ s.toks I fp l St hl hp W ac hI (λb o U e=>a7 b o U (hk b o e)) a9 (W.frame 0 _ _ J λb U o e=>a7 b o (λz=>ac (z ▸ U)) e)
 refine Kn (Ei ho hx hd hf ag (λa4=>?_) λps d' hp=>?_)
 .have as:Shared.TypeIs {s with heap:=s.heap.push {cls:=.type "set_iterator",data:=.fields #[.int 0 0,.int 0 0,.ref a,.int es.size 0,.int ep 0]}} (.ref a) "set" := ⟨o,wR _ ho,hx.1⟩
  refine Kn (wpAny_holding (qC as ?_))
  have hn:w.params.followText "set-order" = true\/(!t.plain&&decide (es.size>1))=false:=by
   cases U:w.params.followText "set-order" with
   | true=>exact .inl rfl
   | false=>rw[U]at a4;exact .inr (by simpa using a4)
  have J:Gz (s.heap.push {cls:=.type "set_iterator",data:=.fields #[.int 0 0,.int 0 0,.ref a,.int es.size 0,.int ep 0]}) s.heap.objs.size (.int (dQ w t 0) 0) 0 a es.size ep:=by
   refine⟨_,yk _ rfl,rfl,?_⟩
   unfold dQ;split<;>simp
  refine wpAny_ite_split (λ_=>?_) (λal=>absurd (by decide +kernel) al)
  refine Kn (wpAny_rule ?_)
  refine Kn (wpAny_mono (Y _ s.drawn _ _ _ _ (by rw[(jE (w:=w) a ep es).length_eq];simp) (jE a ep es) (IZ (A:=A.in1) hh s.heap.objs.size a (xa ad) hd hf hg hn) (λhm=>?_) (qt _) (λb o e=>wR _ e) ⟨J,wR _ ho⟩) (λ_ s' hc=>Kr ⟨plainId_quiet F.plain_extend_loop _,hc⟩) (λ_ _ he=>he))
  rcases KC.mp hm with z | z
  .exact absurd z (xa ab)
  .exact a3 (Kw.mp z)
 .have as:Shared.TypeIs {s with heap:=(s.heap.push {cls:=.type "tuple",data:=.seq (ps.map λi:Nat=>rawInt i).toArray}).push {cls:=.type "set_iterator",data:=.fields #[.ref s.heap.objs.size,.int 0 0,.ref a,.int es.size 0,.int ep 0]},drawn:=d'} (.ref a) "set" := ⟨o,wR _ (wR _ ho),hx.1⟩
  refine Kn (wpAny_holding (qC as ?_))
  refine wpAny_ite_split (λ_=>?_) (λal=>absurd (by decide +kernel) al)
  refine Kn (wpAny_rule ?_)
  have J:Gz ((s.heap.push {cls:=.type "tuple",data:=.seq (ps.map λi:Nat=>rawInt i).toArray}).push {cls:=.type "set_iterator",data:=.fields #[.ref s.heap.objs.size,.int 0 0,.ref a,.int es.size 0,.int ep 0]}) (s.heap.objs.size+1) (.ref s.heap.objs.size) 0 a es.size ep:=by
   have:=yk (s.heap.push {cls:=.type "tuple",data:=.seq (ps.map λi:Nat=>rawInt i).toArray}) (rfl:Obj.isFreed {cls:=.type "set_iterator",data:=.fields #[.ref s.heap.objs.size,.int 0 0,.ref a,.int es.size 0,.int ep 0]}=false)
   rw[rW]at this
   exact⟨_,this,rfl,rfl⟩
  refine Kn (wpAny_mono (Y _ d' _ _ _ _ (by rw[zj,hp.length_eq];simp) (uK hp) (Ja (A:=A.in1) hh (s.heap.objs.size+1) a s.heap.objs.size (xa (JV ad)) (xa (Kg _)) hd hf rfl hp) (λhm=>?_) (Nat.le_succ _) (λb o e=>wR _ (wR _ e)) ⟨J,wR _ (wR _ ho),wR _ (yk _ rfl)⟩) (λ_ s' hc=>Kr ⟨plainId_quiet F.plain_extend_loop _,hc⟩) (λ_ _ he=>he))
  rcases KC.mp hm with z | z
  .exact absurd z (xa (JV ab))
  .rcases KC.mp z with z | z
   .exact a3 z
   .exact absurd (Kw.mp z) (xa ab)
theorem jD{t:SetTable}{Q:LD->Shared->Prop}(hh:A.handled=none)(ho:s.heap.get? a=some o)(hx:o.ExactSet)(hd:o.data = .set es ep t)(hf:t.fits es.size=true)(U:es.size<scanBound)(hg:cw (cF w) t)
  (hQ:∀h' d' tk acc,(∀b o,s.heap.get? b=some o->h'.get? b=some o)->s.heap.objs.size<h'.objs.size->acc.Perm (es.toList.map (·.2))->Q acc {s with heap:=h',drawn:=d',toks:=tk}):wpAny (model prog w) A (collect (.ref a)) Q E s:=by
 have ext:∀R:Result->Shared->Prop,(∀h' d' tk J W,(∀b o,s.heap.get? b=some o->h'.get? b=some o)->h'.get? s.heap.objs.size=some {cls:=.type "list",dict:=none,data:=.seq J W,slots:=#[]}->J.toList.Perm (es.toList.map (·.2))->R (.ok (.ret (.ref s.heap.objs.size))) {s with heap:=h',drawn:=d',toks:=tk})->
   codeAny (model prog w) A (.builtin "proto.collect" ⟨[.ref a],[]⟩) R s:=λR hR=>by
  refine codeAny_builtin F.entry_proto_collect ?_
  rw[IC F.plain_proto_collect _];show wpAny _ A.in1 (newList [] >>= λl=>again (.builtin "list.__iadd__" ⟨[l,.ref a],[]⟩)) _ _ s
  refine Kn (wpAny_newObj_type ?_)
  refine Kr ⟨plainId_quiet zbe _,codeAny_builtin F.entry_list_iadd ?_⟩
  rw[IC zbe _];show wpAny _ A.in1 (Builtin.List.listExtendWith (.ref s.heap.objs.size) (.ref a) (.ref s.heap.objs.size)) _ _ _
  refine yr (R:=R) (s:={s with heap:=s.heap.push {cls:=.type "list",data:=.seq ([]:LD).toArray}}) hh (wR _ ho) hx hd hf U hg s.heap.objs.size _ 0 (yk _ rfl) λh' d' tk J W Z O Y=>?_
  exact hR h' d' tk J W (λb o e=>Z b o (xa (wD e)) (wR _ e)) O Y
 unfold collect;refine Kn (wpAny_runValue (ext _ λh' d' tk J W Z O Y=>?_))
 show wpAny _ A (load s.heap.objs.size >>= _) _ _ _
 refine Kn (wpAny_load O ?_)
 exact Kr (hQ h' d' tk J.toList Z (wD O) Y)
def mX(v:Value):Int:=match v with
 | .int d _=>d
 | _=>0
theorem v_:∀(l:LD),(∀v∈l,∃tk,v = .int (mX v) tk)->IntsAre l (l.map mX)
 | [],_=>.nil
 | v::l,h=>by
  obtain⟨tk,e⟩:=h v yb
  have r:=v_ l λu F=>h u (yc _ F)
  rw[yj];generalize mX v=d at e |-;subst e;exact .cons d tk r
theorem zd{t:SetTable}{Q:KY}(hh:A.handled=none)(ho:s.heap.get? a=some o)(hx:o.ExactSet)(hd:o.data = .set es ep t)(hf:t.fits es.size=true)(ab:es.size<64)(hg:cw (cF w) t)
  (hint:∀e∈es.toList,∃tk,e.2 = .int (ju e) tk)
  (hQ:∀h' d' tk q out c F,(∀b o,s.heap.get? b=some o->h'.get? b=some o)->s.heap.objs.size<=q->h'.get? q=some (seqObj "list" out c)->IntsAre out.toList F->F.Perm (es.toList.map ju)->F.Pairwise (· <= ·)->Q (.ref q) {s with heap:=h',drawn:=d',toks:=tk}) :
  wpAny (model prog w) A (call (.builtin "sorted") [.ref a]) Q E s:=by
 refine zbx kind_sorted plain_sorted entry_sorted (args_sorted1 _) ?_
 unfold Builtin.«sorted»
 refine Kn (m:=checkCount "sorted" 1 1 _) (Kr ?_)
 refine Kn (jD hh ho hx hd hf (by unfold scanBound;lia) hg λh' d' tk acc hk W Y=>?_)
 have U:acc.length=es.size:=by rw[Y.length_eq];simp
 have hI:IntsAre acc (acc.map mX):=v_ acc λv hv=>by
  obtain⟨e,he,rfl⟩:=KB.mp (Y.mem_iff.mp hv)
  exact hint e he
 have O:(acc.map mX).Perm (es.toList.map ju):=by
  have:=Y.map mX
  rw[He]at this
  exact this
 refine Kn (wpAny_newList ?_ (by rw[U,sizeLine_eq];lia))
 have J:(h'.push (seqObj "list" acc.toArray 0)).get? h'.objs.size=some (seqObj "list" acc.toArray 0):=yk _ rfl
 show wpAny _ _ _ _ _ {s with heap:=h'.push (seqObj "list" acc.toArray 0),drawn:=d',toks:=tk}
 refine Kn (wpAny_holding (wpAny_call_entry slot_list_sort ⟨_,J,rfl⟩ entry_list_sort (list_sort_tree J hI (by lia) λout F a1 a2 a3=>⟨_,rfl,?_⟩) (args_list_sort _)))
 obtain⟨c,hc⟩:=sortedHeap_at (out:=out) J
 refine Kr ⟨_,rfl,hQ _ d' tk h'.objs.size out c F (λb o e=>?_) (xF W) hc a1 (a2.trans O) a3⟩
 have Z:=wD (hk b o e);rw[sortedHeap_old (xa Z) (by rw[rW];exact JV Z)]
 exact wR _ (hk b o e)
end
section
variable{X:Cx}
theorem tF{m:Nat}(hr:B4 m X.A):BB X (.builtin "sorted") (ux (nB X.w)):=by
 intro pins s σ H xs us Q I r h
 obtain⟨p,ds,rfl,e,O,q⟩:=h
 obtain⟨u,rfl,ru⟩:=cU r
 cases ru;obtain⟨o,es,ep,t,ho,hx,hd,Y,hf,hg,hint,U⟩:=(show BC X.prog X.w H s.heap p (nB X.w p ds) from I.hok p _ e).1
 have hz:es.size<=60:=by rw[<-U,zj,nX]at O;exact O
 have hs:sizeLine=16777216:=sizeLine_eq
 refine zd hr.hd ho hx hd hf (by lia) hg hint λh' d' tk Z out c J hk W hc a1 a2 a3=>?_
 have hl:J.length<=60:=by rw[a2.length_eq,zj,nX];exact hz
 have F:=I.laid (t':=tk) (a:=Z) (o:=.lst (J.map V.int)) hk W (show BC X.prog X.w _ h' _ (.lst (J.map V.int)) from ⟨by rw[zj];lia,out.toList,c,jV a1,by simpa using hc⟩)
 refine⟨.ref Z,_,?_,rfl,q _ J (I.hok.fresh W) (by rw[<-U];exact a2) a3⟩
 exact⟨F.ok,F.os,F.bare,F.base,F.loc,F.cell,F.free,F.freeC,F.pin,F.hok,F.len⟩
theorem yI{m:Nat}(K:W.Frag)(w:World)(J:B4 m X.A)(F:X.K=K:=by rfl)(hw:X.w=w:=by rfl):BB X (.type "set") (DB K (nB w)):=hw ▸ zr J F
theorem pU{m:Nat}(w:World)(J:B4 m X.A)(F:X.w=w:=by rfl):BB X (.builtin "sorted") (ux (nB w)):=F ▸ tF J
end
end L2
namespace L2
open PySem PySem.Spec PyProof PyProof.Rows
section
variable{X:Cx}
def yw(K:W.Frag):LB->Hp->VK->Prop:=λxs H Q=>∃(p:Addr) (ns:LJ),xs=[.ref p]/\su K H p (ns.map V.int)/\ns≠[]/\∀M,M∈ns->(∀a∈ns,a<=M)->Q (.int M) H
theorem rM{K:W.Frag}{H:Hp}{Q:VK}(p:Addr):yw K [.ref p] H Q=∃ns:LJ,su K H p (ns.map V.int)/\ns≠[]/\∀M,M∈ns->(∀a∈ns,a<=M)->Q (.int M) H:=propext ⟨λ⟨_,bs,e,q⟩=>by cases e;exact⟨bs,q⟩,λ⟨bs,q⟩=>⟨p,bs,rfl,q⟩⟩
theorem xg(hc:X.calm=true):BB X (.builtin "max") (yw X.K):=by
 intro pins s σ H xs us Q I r h
 obtain⟨p,ns,rfl,Y,O,q⟩:=h
 obtain⟨u,rfl,ru⟩:=cU r
 cases ru;obtain⟨J,rv,pl,hz⟩:=I.list Y
 have hi:IntsAre J ns:=jJ rv
 obtain⟨xs,e⟩:=hi.allInts.items
 have F:ns=xs.toList.map (·.1):=by
  rw[<-hi.numsOf,<-nums_intItems,<-e]
 have hsz:0<xs.size:=by
  have U:=List.length_pos_iff.mpr O;rw[F,zj,nX]at U;exact U
 have hl:=pl.isList;rw[e]at hl
 refine max_intList (I.ok.hd hc) hl hsz λv h' tk hv hk=>?_
 obtain⟨t,rfl⟩:=intItems_at hv
 obtain⟨h1,h2⟩:=argBest_gt (numAt xs) (xs.size-1)
 refine⟨.int (numAt xs (argBest (λi j=>decide (numAt xs i>numAt xs j)) (xs.size-1))),H,I.kept (t':=tk) hk,⟨t,rfl⟩,q _ ?_ λa W=>?_⟩
 .rw[F,numAt_eq];exact getD_mem (by rw[zj,nX];lia)
 .rw[F]at W
  obtain⟨j,Z,rfl⟩:=mem_getD W
  rw[zj,nX]at Z
  rw[<-numAt_eq];exact h2 j (by lia)
theorem AD(K:W.Frag)(F:X.K=K:=by rfl)(hc:X.calm=true:=by rfl):BB X (.builtin "max") (yw K):=F ▸ xg hc
theorem q_:bootBuiltins "max" = some (.builtin "max"):=by decide +kernel
end
variable{K:W.Frag}{H:Hp}{Q:VK}{xs:LB}
inductive Hx (w:World):List DictEntry->List (Str×V)->Prop
 | nil:Hx w [] []
 | cons {x:Str} {t:Tok} {y:V} {v:Value} {es:List DictEntry} {kvs:List (Str×V)}:RelV y v->Hx w es kvs->Hx w (⟨PyData.keyHash w.params x,.str x t,v⟩::es) ((x,y)::kvs)
theorem Hx.vs{P:Program}{w:World}{es:List DictEntry}{kvs:List (Str×V)}(h:Hx w es kvs):∃vs:List (Str×Value),KV kvs vs/\PySem.Pairs (PySem.strKind P w) es vs/\vs.map (·.1)=kvs.map (·.1)/\∀e∈es,∃k,(PySem.strKind P w).is k e.key=true/\e.hash=(PySem.strKind P w).hash k:=by
 induction h with
 | nil=>exact⟨[],.nil,.nil,rfl,λ_ h=>nomatch h⟩
 | @cons x t y v es kvs r _ ih=>
  obtain⟨vs,h1,h2,O,J⟩:=ih
  have hx:(PySem.strKind P w).is x (.str x t)=true:=by show Value.isStrOf x (.str x t)=true;simp[Value.isStrOf]
  refine⟨(x,v)::vs,.cons ⟨rfl,r⟩ h1,.cons hx rfl h2,by rw[yj,yj,O],λe F=>?_⟩
  rcases KC.mp F with rfl | F
  .exact⟨x,hx,rfl⟩
  .exact J e F
structure GX (w:World) (K:W.Frag) (d:Addr) (kvs:List (Str×V)):Prop where
 low:(d==sysModules)=false
 nd:(kvs.map (·.1)).Nodup
 at':∃(o:Obj) (es:List DictEntry) (ep:Nat),K.lookup d=some o/\o.ExactDict/\o.data = .dict es.toArray ep/\Hx w es kvs
section
variable{X:Cx}{pins:List (Addr×Obj)}{σ:St}{H:Hp}{s:Shared}{d:Addr}{kvs:List (Str×V)}
theorem GX.dict(h:GX X.w X.K d kvs)(I:Inv X pins σ H s):∃vs:List (Str×Value),KV kvs vs/\s.heap.DictOf (PySem.strKind X.prog X.w) d vs/\∃ob,s.heap.get? d=some ob/\ob.dict=none:=by
 obtain⟨o,es,ep,h1,h2,F,J⟩:=h.at'
 obtain⟨vs,U,O,Y,W⟩:=J.vs (P:=X.prog)
 have e:=I.kIn d o h1;exact⟨vs,U,⟨o,es.toArray,ep,e,h2,F,λx hx=>W x (by simpa using hx),by simpa using O,by rw[Y];exact h.nd⟩,o,e,h2.2.1⟩
theorem y_{P:Program}{w:World}{k:Str}{u:Value}(r:RelV (.str k) u):(PySem.strKind P w).is k u=true:=by
 obtain⟨t,rfl⟩:=r
 show Value.isStrOf k (.str k t)=true
 simp[Value.isStrOf]
end
section
variable{X:Cx}
def Lf(w:World)(K:W.Frag):R2:=λx y H Q=>∃d kvs k z,x = .ref d/\y = .str k/\GX w K d kvs/\bT kvs k=some z/\Q z H
theorem KP(w:World)(K:W.Frag)(O:X.w=w:=by rfl)(hK:X.K=K:=by rfl):Ha X (Lf w K):=by
 subst O hK;intro value Y pins s σ H x y v u Q I rx Z h hs
 obtain⟨d,kvs,k,z,rfl,rfl,m,l,q⟩:=h
 cases rx;obtain⟨vs,U,dd,_⟩:=m.dict I
 obtain⟨w',O,J⟩:=GB.some_of (v:=z) (o:=valueAt vs k) (by rw[<-l];exact U.val k)
 have hl:typeLookup (.type "dict") "__getitem__" = pure (some (.builtin "dict.__getitem__")):=F.slot_dict_getitem.lookup
 exact subscriptTail_builtinR (x:=w') dd.typeIs hl (wpAny_getItem_of (y_ Z) dd.mapOf O ⟨rfl,z,H,I.tok _,J,q⟩) hs
def Jc(w:World)(K:W.Frag):V->LB->Hp->VK->Prop:=λx xs H Q=>∃d kvs k z,x = .ref d/\xs=[.str k,z]/\GX w K d kvs/\Q ((bT kvs k).getD z) H
theorem ER(w:World)(K:W.Frag)(O:X.w=w:=by rfl)(hK:X.K=K:=by rfl):G7 X "dict.get" (Jc w K):=by
 subst O hK;intro pins s σ H x vs v us Q I Z U h
 obtain⟨d,kvs,k,z,rfl,rfl,m,q⟩:=h
 cases Z;obtain⟨u,r,rfl,Y,rr⟩:=jr U
 obtain⟨vs,J,dd,_⟩:=m.dict I
 refine call_meetsIn F.slot_dict_get dd.typeIs F.entry_dict_get (F.args_dict_get_3 _ _ _) (meets_dict_get_default (PySem.strKind X.prog X.w) d (y_ Y) m.low r) ⟨_,dd.mapOf,_,H,I.tok _,?_,q⟩
 exact(J.val k).getD rr
def FV(w:World)(K:W.Frag)(r:V->LB->Hp->VK->Prop)(to:TE)(t:TA):TE:=λσ H Q=>to σ H λx H1=>(∃d kvs,x = .ref d/\GX w K d kvs)/\t σ H1 λxs H2=>r x xs H2 Q
theorem G6{o e:Expr}{es:LL}{to:TE}{t:TA}{name:Str}{apos cpos:Pos}{id:String}{r:V->LB->Hp->VK->Prop}(w:World)(K:W.Frag)(pa:PlainAttrs "dict") (slot:Slot "dict" name id) (J:typeOf (.builtin id)=pure (.type "method_descriptor")) (hm:G7 X id r) (ho:PE X o to) (ha:PA X (e::es) t)
  (F:attributeBase o name X.env (eval o X.env)=eval o X.env:=by rfl)
  (hfew:((backTo cpos (starEach (e::es) X.env)).all (λx=>!x.1)&&(backToKw cpos (keywordEach [] X.env)).all (λx=>x.1.isSome)&&decide ((e::es).length+([]:List Keyword).length+(if ([]:List Keyword).isEmpty then 0 else 1)<30))=true:=by rfl)
  (hline:(apos.endLine==cpos.line)=true:=by rfl) (hs:starEach (e::es) X.env=(false,eval e X.env)::starEach es X.env:=by rfl) (hplain:(backTo cpos (starEach es X.env)).any (·.1)=false:=by rfl) (hw:X.w=w:=by rfl) (hK:X.K=K:=by rfl) :
  PE X (.Call (.Attribute o name apos) (e::es) [] cpos) (FV w K r to t):=by
 subst hw hK;intro pins s σ H Q I h
 refine wpAny_Call_method_late F hfew hline rfl (bz (ho pins s σ H _ I h) λv s1 ⟨x,H1,Y,O,ty,q1⟩=>?_)
 obtain⟨d,kvs,rfl,m⟩:=ty
 have e1:v = .ref d:=O
 subst e1;obtain⟨vs,ab,dd,Z,eo,en⟩:=m.dict Y
 refine⟨"dict",id,pa,slot,J,dd.typeIs,λa ea=>⟨Z,by cases ea;exact eo,en⟩,?_⟩
 have U:=ha cpos pins s1 σ H1 _ Y q1;rw[hs]at U |-
 refine zbt (by show (false||(backTo cpos (starEach es X.env)).any (·.1))=false;rw[hplain]<;>rfl) (Calls.evalArgs_plain ?_)
 exact bz U λus s2 ⟨vs,H2,I2,r2,q2⟩=>hm pins s2 σ H2 _ vs _ us Q I2 O r2 q2
end
theorem vB{w:World}{r:V->LB->Hp->VK->Prop}{to:TE}{t:TA}{σ:St}:FV w K r to t σ H Q=to σ H λx H1=>(∃d kvs,x = .ref d/\GX w K d kvs)/\t σ H1 λxs H2=>r x xs H2 Q:=rfl
section
variable{prog:Program}{w:World}{A:Around}{E:KY}{s:Shared}
def GW(i t:Addr)(zs:LM)(k:Nat)(h:Heap):Prop:=h.IsTupleIter i t k/\h.IsTuple t zs
theorem GW.ext{i t b:Addr}{zs:LM}{k:Nat}{h h':Heap}(x:GW i t zs k h)(F:Heap.ExtBut b h h')(n1:i≠b)(J:t≠b):GW i t zs k h':=⟨x.1.extBut F n1,x.2.extBut F J⟩
theorem lU{i t:Addr}{k:Nat}{zs:LM}{v:Value}{Q:KY}(st:GW i t zs k s.heap)(U:t≠i)(hv:zs[k]?=some v)
  (q:∀h',GW i t zs (k+1) h'->Heap.SameBut i s.heap h'->Q v {s with heap:=h'}):wpAny (model prog w) A (Builtin.SmallTypes.nextOf (.ref i)) Q E s:=by
 obtain⟨hi,Y⟩:=id st
 obtain⟨ob,O,e2,J⟩:=id hi
 obtain⟨ot,Z,_,m,f2⟩:=id Y
 unfold Builtin.SmallTypes.nextOf;refine Kn (wpAny_callSpecial?_slot (name:=Str.ofString "__next__") hi.typeIs zbf (wpAny_call_entry zbf hi.typeIs F.entry_tuple_iterator_next ?_ (F.args_tuple_iterator_next_1 _)))
 show wpAny _ _ (field (.ref i) 0 >>= _) _ _ s
 refine Kn (wpAny_field O J (x:=.ref t) rfl ?_)
 show wpAny _ _ (if (Value.ref t==Value.none)=true then _ else _) _ _ s
 have W:¬ ((Value.ref t==Value.none)=true):=xN
 rw[Kt W];show wpAny _ _ (field (.ref i) 1 >>= _) _ _ s
 refine Kn (wpAny_field O J (x:=.int k 0) rfl ?_)
 show wpAny _ _ (seqItems? (.ref t) >>= _) _ _ s
 refine Kn (wpAny_seqItems Z f2 ?_)
 simp only[gE,hv]
 refine Kn (wpAny_setField O J (by simp) (Kr ⟨v,rfl,Kr (q _ ⟨?_,?_⟩ (Hi ..))⟩))
 .exact⟨_,HK _ O (zaV (JU J _)),(za6 ..).trans e2,by rw[JU J];simp[rawInt]⟩
 .exact Y.extBut (Hi ..).extBut U
theorem uW{i t:Addr}{k:Nat}{zs:LM}{Q:KY}(hh:A.handled=none)(st:GW i t zs k s.heap)(hv:zs[k]?=none)
  (q:∀h' e,Heap.ExtBut i s.heap h'->(∃o,h'.get? e=some o/\o.cls = .type "StopIteration")->E (.ref e) {s with heap:=h'}):wpAny (model prog w) A (Builtin.SmallTypes.nextOf (.ref i)) Q E s:=by
 obtain⟨hi,Z⟩:=id st
 obtain⟨ob,U,e2,J⟩:=id hi
 obtain⟨ot,Y,_,m,f2⟩:=id Z
 unfold Builtin.SmallTypes.nextOf;refine Kn (wpAny_callSpecial?_slot (name:=Str.ofString "__next__") hi.typeIs zbf (wpAny_call_entry zbf hi.typeIs F.entry_tuple_iterator_next ?_ (F.args_tuple_iterator_next_1 _)))
 show wpAny _ _ (field (.ref i) 0 >>= _) _ _ s
 refine Kn (wpAny_field U J (x:=.ref t) rfl ?_)
 show wpAny _ _ (if (Value.ref t==Value.none)=true then _ else _) _ _ s
 have O:¬ ((Value.ref t==Value.none)=true):=xN
 rw[Kt O];show wpAny _ _ (field (.ref i) 1 >>= _) _ _ s
 refine Kn (wpAny_field U J (x:=.int k 0) rfl ?_)
 show wpAny _ _ (seqItems? (.ref t) >>= _) _ _ s
 refine Kn (wpAny_seqItems Y f2 ?_)
 simp only[gE,hv]
 refine Kn (wpAny_rule (Kn (wpAny_setField U J (by simp) ?_)))
 show wpAny _ _ (newExc (.type "StopIteration") [] >>= λz=>_) _ _ _
 refine Kn ?_
 simp only[newTuple,newExc]
 refine Kn (wpAny_newObj_type (hd:=by size_fits) ?_)
 refine Kn (m:=firstArgMember _ _) (wpAny_of_eq (a:=Value.none) (by first | (simp only[firstArgMember];rfl) | rfl) ?_)
 refine wpAny_newObj_type (hd:=by size_fits) ?_
 simp only[raiseNew]
 refine Kn (wpAny_handled ?_)
 have W:A.in1.handled=none:=hh
 first | rw[W] | rw[hh]
 refine Kn (Kr (wpAny_throw (q _ _ (((Hi ..).extBut.push _).push _) ⟨_,yk _ rfl,rfl⟩)))
variable{z TI TO i1 i2 t1 t2:Addr}{xs ys:LM}{k1 k2:Nat}{a b:Value}
theorem Au{x y:Value}{Q:KY}(D:ZipApart z TI TO i1 i2 t1 t2)(Y:IsZip s.heap z TI TO .none)(gI:IsPair s.heap TI (.ref i1) (.ref i2))(gO:IsPair s.heap TO a b)
  (g1:GW i1 t1 xs k1 s.heap) (g2:GW i2 t2 ys k2 s.heap) (hx:xs[k1]?=some x) (hy:ys[k2]?=some y)
  (q:∀h',IsZip h' z TI TO (rawInt s.heap.objs.size)->IsPair h' TO x y->GW i1 t1 xs (k1+1) h'->GW i2 t2 ys (k2+1) h'->IsPair h' s.heap.objs.size x y->h'.objs.size=s.heap.objs.size+1->
   (∀c o,c≠z->c≠TO->c≠i1->c≠i2->s.heap.get? c=some o->h'.get? c=some o)->Q (.ref s.heap.objs.size) {s with heap:=h'}) :
  wpAny (model prog w) A (Builtin.«zip.__next__» ⟨[.ref z],[]⟩) (λac s'=>∃v,ac = .done (.ret v)/\Q v s') E s:=by
 show wpAny _ _ (field (.ref z) 2 >>= λ_=>_) _ _ _
 refine Kn (wpAny_field Y rfl (x:=.bool false) rfl ?_)
 show wpAny _ _ (field (.ref z) 3 >>= λ_=>_) _ _ _
 refine Kn (wpAny_field Y rfl (x:=.ref TI) rfl (Kn (wpAny_seqItems gI rfl ?_)))
 show wpAny _ _ (Builtin.SmallTypes.ownedTupleIsFree (.ref z) >>= λ_=>_) _ _ _
 refine Kn ?_
 unfold Builtin.SmallTypes.ownedTupleIsFree;refine Kn (wpAny_field Y rfl (x:=.none) rfl (Kr ?_))
 simp only[if_true]
 refine Kn (wpAny_rule (Kn (wpAny_field Y rfl (x:=.ref TO) rfl (Kn (wpAny_setField_rec Y (by simp) λha z1 W=>?_)))))
 replace z1:IsZip ha z TI TO .ellipsis:=z1
 refine Kn ?_
 simp only[List.zipIdx_nil,zbg,List.forIn_nil,List.forIn_cons]
 refine Kn (Kn (wpAny_onRaise ?_))
 show wpAny _ _ (Builtin.SmallTypes.nextOf (.ref i1) >>= λ_=>_) _ _ _
 refine Kn (lU (g1.ext W.extBut D.i1z D.l1z) D.l1i1 hx λhb r1 O=>Kr ?_)
 have o2:IsPair hb TO a b:=O.extBut _ _ D.TOi1 (W.extBut _ _ D.TOz gO)
 refine Kn (wpAny_seqItems o2 rfl (Kn (wpAny_updateSeq_pair o2 λhc o3 m3=>Kn (wpAny_letGo (Kr ?_)))))
 replace o3:IsPair hc TO x b:=o3
 refine Kn (Kn (wpAny_onRaise ?_))
 show wpAny _ _ (Builtin.SmallTypes.nextOf (.ref i2) >>= λ_=>_) _ _ _
 refine Kn (lU (((g2.ext W.extBut D.i2z D.l2z).ext O.extBut D.i12.symm D.l2i1).ext m3.extBut D.TOi2.symm D.l2TO) D.l2i2 hy λhd r2 U=>Kr ?_)
 have o4:IsPair hd TO x b:=U.extBut _ _ D.TOi2 o3
 refine Kn (wpAny_seqItems o4 rfl (Kn (wpAny_updateSeq_pair o4 λF o5 Z=>Kn (wpAny_letGo (Kr (Kr ?_))))))
 replace o5:IsPair F TO x y:=o5
 refine Kn (wpAny_seqItems o5 rfl (Kn (wpAny_newTuple ?_)))
 have hsz:F.objs.size=s.heap.objs.size:=by rw[Z.1,U.1,m3.1,O.1,W.1]
 have z5:IsZip F z TI TO .ellipsis:=Z.extBut _ _ D.TOz.symm (U.extBut _ _ D.i2z.symm (m3.extBut _ _ D.TOz.symm (O.extBut _ _ D.i1z.symm z1)))
 have kp:∀c o,c≠z->c≠TO->c≠i1->c≠i2->s.heap.get? c=some o->F.get? c=some o:=λc o J c2 c3 c4 e=>Z.extBut _ _ c2 (U.extBut _ _ c4 (m3.extBut _ _ c2 (O.extBut _ _ c3 (W.extBut _ _ J e))))
 have ad:GW i1 t1 xs (k1+1) F:=((r1.ext m3.extBut D.TOi1.symm D.l1TO).ext U.extBut D.i12 D.l1i2).ext Z.extBut D.TOi1.symm D.l1TO
 have ag:GW i2 t2 ys (k2+1) F:=r2.ext Z.extBut D.TOi2.symm D.l2TO
 have ab:z<F.objs.size:=wD z5
 show wpAny _ _ (Builtin.SmallTypes.ownedTupleHandOut (.ref z) (.ref F.objs.size) >>= λ_=>_) _ _ _
 refine Kn ?_
 unfold Builtin.SmallTypes.ownedTupleHandOut;have z6:IsZip (F.push {cls:=.type "tuple",data:=.seq #[x,y]}) z TI TO .ellipsis:=wR _ z5
 refine Kn (wpAny_setField_rec z6 (by simp) λhf z7 m7=>?_)
 replace z7:IsZip hf z TI TO (rawInt F.objs.size):=z7
 refine wpAny_setField_rec z7 (by simp) λhg z8 m8=>?_
 replace z8:IsZip hg z TI TO (rawInt F.objs.size):=z8
 have up:∀c o,c≠z->F.get? c=some o->hg.get? c=some o:=λc o J e=>m8.extBut _ _ J (m7.extBut _ _ J (wR _ e))
 have t8:IsPair hg F.objs.size x y:=m8.extBut _ _ (Ie ab) (m7.extBut _ _ (Ie ab) (yk _ rfl))
 have s8:hg.objs.size=F.objs.size+1:=by rw[m8.1,m7.1,rW]
 rw[hsz]at z8 t8 s8
 refine Kr ⟨_,rfl,?_⟩
 show Q (.ref F.objs.size) _
 rw[hsz];have ex:Heap.ExtBut z F hg:=λc o J e=>up c o J e
 exact q hg z8 (up _ _ D.TOz o5) (ad.ext ex D.i1z D.l1z) (ag.ext ex D.i2z D.l2z) t8 s8 λc o J c2 c3 c4 e=>up c o J (kp c o J c2 c3 c4 e)
theorem Bo{Q:Fin->Shared->Prop}(hh:A.handled=none)(D:ZipApart z TI TO i1 i2 t1 t2)(U:IsZip s.heap z TI TO .none)(gI:IsPair s.heap TI (.ref i1) (.ref i2))(gO:IsPair s.heap TO a b)
  (g1:GW i1 t1 xs k1 s.heap) (g2:GW i2 t2 ys k2 s.heap) (Z:xs[k1]?=none\/ys[k2]?=none)
  (q:∀h' e,(∀c o,c≠z->c≠TO->c≠i1->c≠i2->s.heap.get? c=some o->h'.get? c=some o)->(∃o,h'.get? e=some o/\o.cls = .type "StopIteration")->E (.ref e) {s with heap:=h'}) :
  wpAny (model prog w) A (Builtin.«zip.__next__» ⟨[.ref z],[]⟩) Q E s:=by
 show wpAny _ _ (field (.ref z) 2 >>= λ_=>_) _ _ _
 refine Kn (wpAny_field U rfl (x:=.bool false) rfl ?_)
 show wpAny _ _ (field (.ref z) 3 >>= λ_=>_) _ _ _
 refine Kn (wpAny_field U rfl (x:=.ref TI) rfl (Kn (wpAny_seqItems gI rfl ?_)))
 show wpAny _ _ (Builtin.SmallTypes.ownedTupleIsFree (.ref z) >>= λ_=>_) _ _ _
 refine Kn ?_
 unfold Builtin.SmallTypes.ownedTupleIsFree;refine Kn (wpAny_field U rfl (x:=.none) rfl (Kr ?_))
 simp only[if_true]
 refine Kn (wpAny_rule (Kn (wpAny_field U rfl (x:=.ref TO) rfl (Kn (wpAny_setField_rec U (by simp) λha z1 J=>?_)))))
 replace z1:IsZip ha z TI TO .ellipsis:=z1
 refine Kn ?_
 simp only[List.zipIdx_nil,zbg,List.forIn_nil,List.forIn_cons]
 refine Kn (Kn (wpAny_onRaise ?_))
 show wpAny _ _ (Builtin.SmallTypes.nextOf (.ref i1) >>= λ_=>_) _ _ _
 have stop:∀ {h':Heap} {e:Addr},IsZip h' z TI TO .ellipsis->(∃o,h'.get? e=some o/\o.cls = .type "StopIteration")->e≠z:=λ{h' e} hz ⟨o,ho,hc⟩ n=>by
  subst n;rw[hz]at ho;cases ho;simp at hc
 rcases hx:xs[k1]? with _ | x
 .refine Kn (uW hh (g1.ext J.extBut D.i1z D.l1z) hx λhb e F W=>?_)
  have z2:IsZip hb z TI TO .ellipsis:=F _ _ D.i1z.symm z1
  have nz:=stop z2 W;obtain⟨oe,p1,p2⟩:=W
  exact wpAny_setField_rec z2 (by simp) λhc _ O=>q hc e (λc o Y _ c3 _ x=>O.extBut _ _ Y (F _ _ c3 (J.extBut _ _ Y x))) ⟨oe,O.extBut _ _ nz p1,p2⟩
 .have hy:ys[k2]?=none:=by
   rcases Z with h | h
   .rw[hx]at h;cases h
   .exact h
  refine Kn (lU (g1.ext J.extBut D.i1z D.l1z) D.l1i1 hx λhb r1 F=>Kr ?_)
  have o2:IsPair hb TO a b:=F.extBut _ _ D.TOi1 (J.extBut _ _ D.TOz gO)
  refine Kn (wpAny_seqItems o2 rfl (Kn (wpAny_updateSeq_pair o2 λhc o3 O=>Kn (wpAny_letGo (Kr ?_)))))
  refine Kn (Kn (wpAny_onRaise ?_))
  show wpAny _ _ (Builtin.SmallTypes.nextOf (.ref i2) >>= λ_=>_) _ _ _
  refine Kn (uW hh (((g2.ext J.extBut D.i2z D.l2z).ext F.extBut D.i12.symm D.l2i1).ext O.extBut D.TOi2.symm D.l2TO) hy λhd e m4 W=>?_)
  have z4:IsZip hd z TI TO .ellipsis:=m4 _ _ D.i2z.symm (O.extBut _ _ D.TOz.symm (F.extBut _ _ D.i1z.symm z1))
  have nz:=stop z4 W;obtain⟨oe,p1,p2⟩:=W
  exact wpAny_setField_rec z4 (by simp) λhg _ m5=>q hg e (λc o Y c2 c3 c4 x=>m5.extBut _ _ Y (m4 _ _ c4 (O.extBut _ _ c2 (F.extBut _ _ c3 (J.extBut _ _ Y x))))) ⟨oe,m5.extBut _ _ nz p1,p2⟩
end
section
variable{prog:Program}{w:World}{A:Around}{E:KY}{s:Shared}{z TI TO i1 i2 t1 t2:Addr}{xs ys:LM}{k1 k2:Nat}{a b:Value}
theorem yp{x y:Value}{Q:LF->Shared->Prop}(D:ZipApart z TI TO i1 i2 t1 t2)(J:IsZip s.heap z TI TO .none)(W:IsPair s.heap TI (.ref i1) (.ref i2))(gO:IsPair s.heap TO a b)
  (O:GW i1 t1 xs k1 s.heap) (U:GW i2 t2 ys k2 s.heap) (hx:xs[k1]?=some x) (hy:ys[k2]?=some y)
  (q:∀h',IsZip h' z TI TO (rawInt s.heap.objs.size)->IsPair h' TO x y->GW i1 t1 xs (k1+1) h'->GW i2 t2 ys (k2+1) h'->IsPair h' s.heap.objs.size x y->h'.objs.size=s.heap.objs.size+1->
   (∀c o,c≠z->c≠TO->c≠i1->c≠i2->s.heap.get? c=some o->h'.get? c=some o)->Q (some (.ref s.heap.objs.size)) {s with heap:=h'}):wpAny (model prog w) A (pyNext (.ref z)) Q E s:=by
 have ty:s.TypeIs (.ref z) "zip" := ⟨_,J,rfl⟩
 unfold pyNext
 exact Kn (wpAny_attempt (wpAny_callSpecial?_slot (name:=Str.ofString "__next__") ty zbh (wpAny_call_entry zbh ty F.entry_zip_next
  (Au D J W gO O U hx hy λh' a1 a2 a3 a4 Y a6 Z=>Kr (q h' a1 a2 a3 a4 Y a6 Z)) (F.args_zip_next_1 _))))
theorem Ao{Q:LF->Shared->Prop}(hh:A.handled=none)(D:ZipApart z TI TO i1 i2 t1 t2)(O:IsZip s.heap z TI TO .none)(Y:IsPair s.heap TI (.ref i1) (.ref i2))(gO:IsPair s.heap TO a b)
  (U:GW i1 t1 xs k1 s.heap) (W:GW i2 t2 ys k2 s.heap) (J:xs[k1]?=none\/ys[k2]?=none)
  (q:∀h',(∀c o,c≠z->c≠TO->c≠i1->c≠i2->s.heap.get? c=some o->h'.get? c=some o)->Q none {s with heap:=h'}):wpAny (model prog w) A (pyNext (.ref z)) Q E s:=by
 have ty:s.TypeIs (.ref z) "zip" := ⟨_,O,rfl⟩
 unfold pyNext
 refine Kn (wpAny_attempt (wpAny_callSpecial?_slot (name:=Str.ofString "__next__") ty zbh (wpAny_call_entry zbh ty F.entry_zip_next
  (Bo hh D O Y gO U W J λh' e kk Z=>?_) (F.args_zip_next_1 _))))
 obtain⟨o,ho,hc⟩:=Z
 exact Kn (wpAny_isInstance (T := "StopIteration") (b:=true) ⟨o,ho,hc⟩ isSubtype_stop (Kr (q _ kk)))
noncomputable abbrev DT (h:Heap) (t1:Addr):Heap:=h.push {cls:=.type "tuple_iterator",data:=.fields #[.ref t1,.int 0 0]}
noncomputable abbrev Df (h:Heap) (t1 t2:Addr):Heap:=(DT h t1).push {cls:=.type "tuple_iterator",data:=.fields #[.ref t2,.int 0 0]}
noncomputable abbrev DE (h:Heap) (t1 t2:Addr):Heap:=(Df h t1 t2).push {cls:=.type "tuple",data:=.seq #[.ref h.objs.size,.ref (DT h t1).objs.size]}
noncomputable abbrev Dq (h:Heap) (t1 t2:Addr):Heap:=(DE h t1 t2).push {cls:=.type "tuple",data:=.seq #[.none,.none]}
noncomputable abbrev oR (h:Heap) (t1 t2:Addr):Heap:=(Dq h t1 t2).push {cls:=.type "zip",data:=.fields #[.none,.bool false,.bool false,.ref (Df h t1 t2).objs.size,.ref (DE h t1 t2).objs.size]}
theorem wF(t1 t2:Addr)(xs ys:LM):Meets (Builtin.«zip.__new__» ⟨[.type "zip",.ref t1,.ref t2],[]⟩) (λ_ R s=>s.heap.IsTuple t1 xs/\s.heap.IsTuple t2 ys/\
   R (.ok (.ret (.ref (Dq s.heap t1 t2).objs.size))) {s with heap:=oR s.heap t1 t2}):=
 .of_wp λprog w A R s q=>by
  obtain⟨F,g,d,tk,os⟩:=s
  obtain⟨Y,W,q⟩:=q
  have J:=sub_zip;have U:Heap.IsTuple (Shared.heap ⟨F,g,d,tk,os⟩) t1 xs:=Y
  have O:Heap.IsTuple (Shared.heap ⟨F.push {cls:=.type "tuple_iterator",data:=.fields #[.ref t1,.int 0 0]},g,d,tk,os⟩) t2 ys:=Heap.IsTuple.push W _
  wp_walk using wpAny_pyIter_tuple U,wpAny_pyIter_tuple O
  exact⟨_,rfl,q⟩
theorem zE{Q:KY}(e1:s.heap.IsTuple t1 xs)(e2:s.heap.IsTuple t2 ys)
  (q:∀h',IsZip h' (s.heap.objs.size+4) (s.heap.objs.size+2) (s.heap.objs.size+3) .none->IsPair h' (s.heap.objs.size+2) (.ref s.heap.objs.size) (.ref (s.heap.objs.size+1))->
   IsPair h' (s.heap.objs.size+3) .none .none->GW s.heap.objs.size t1 xs 0 h'->GW (s.heap.objs.size+1) t2 ys 0 h'->
   (∀c o,s.heap.get? c=some o->h'.get? c=some o)->Q (.ref (s.heap.objs.size+4)) {s with heap:=h'}):wpAny (model prog w) A (call (.type "zip") [.ref t1,.ref t2]) Q E s:=by
 refine callType_new F.called_zip (by decide) (F.typeCall_zip_2 _ _) (F.newCall_zip_2 _ _) (λobj=>F.args_object_init_3 obj _ _) F.entry_zip_new (wF t1 t2 xs ys) ⟨e1,e2,?_⟩
 have O:(DT s.heap t1).objs.size=s.heap.objs.size+1:=rW ..
 have J:(Df s.heap t1 t2).objs.size=s.heap.objs.size+2:=by rw[rW,O]
 have U:(DE s.heap t1 t2).objs.size=s.heap.objs.size+3:=by rw[rW,J]
 have z4:(Dq s.heap t1 t2).objs.size=s.heap.objs.size+4:=by rw[rW,U]
 have p:∀ {h:Heap} {o:Obj} {c:Addr} {u:Obj},h.get? c=some u->(h.push o).get? c=some u:=λe=>wR _ e
 have kk:∀c o,s.heap.get? c=some o->(oR s.heap t1 t2).get? c=some o:=λc o e=>p (p (p (p (p e))))
 have W:(oR s.heap t1 t2).get? (Dq s.heap t1 t2).objs.size=some _:=yk _ rfl
 have Y:(oR s.heap t1 t2).get? (DE s.heap t1 t2).objs.size=some _:=p (yk _ rfl)
 have g3:(oR s.heap t1 t2).get? (Df s.heap t1 t2).objs.size=some _:=p (p (yk _ rfl))
 have g2:(oR s.heap t1 t2).get? (DT s.heap t1).objs.size=some _:=p (p (p (yk _ rfl)))
 have g1:(oR s.heap t1 t2).get? s.heap.objs.size=some _:=p (p (p (p (yk _ rfl))))
 show _/\_
 rw[J,U,z4]at W
 rw[O,J]at g3
 rw[U]at Y
 rw[O]at g2
 rw[z4];have Z:∀ {t zs},s.heap.IsTuple t zs->(oR s.heap t1 t2).IsTuple t zs:=λ⟨o,e,r⟩=>⟨o,kk _ _ e,r⟩
 exact⟨⟨_,W,rfl⟩,q _ W g3 Y ⟨⟨_,g1,rfl,rfl⟩,Z e1⟩ ⟨⟨_,g2,rfl,rfl⟩,Z e2⟩ kk⟩
end
def Do(K:W.Frag)(a b:Addr):It:=
  ⟨λi H=>∃xs ys x y,vr K H a xs/\vr K H b ys/\xs[i]?=some x/\ys[i]?=some y,
   λi H v H'=>∃t x y,H t=none/\v = .ref t/\H'=upd H t (.tup [x,y])/\(∀xs,vr K H a xs->xs[i]?=some x)/\∀ys,vr K H b ys->ys[i]?=some y,
   λi H=>∃xs ys,vr K H a xs/\vr K H b ys/\(xs.length<=i\/ys.length<=i)⟩
def UZ(z TI TO i1 i2 l1 l2:Addr)(i:Nat)(h:Heap):Prop:=
 IsZip h z TI TO .none/\IsPair h TI (.ref i1) (.ref i2)/\(∃a b,IsPair h TO a b)/\h.IsTupleIter i1 l1 i/\h.IsTupleIter i2 l2 i
theorem vr.apart{X:Cx}{pins:List (Addr×Obj)}{σ:St}{s:Shared}{a c:Addr}(I:Inv X pins σ H s)(hf:iA X pins H c)(h:vr X.K H a xs):a≠c:=by
 rintro rfl
 rcases h with h | ⟨o,J,n,F,_⟩
 .rcases h with e | ⟨o,e⟩<;>(rw[hf.1]at e;cases e)
 .have e:=I.ok.mod.kin a o F
  rcases hf.2.2.2.1 with z | z
  .exact I.ok.noex a o e z
  .exact absurd (uo (wD (I.ok.bs a o e).1) z) (IP _)
theorem zX{P:Program}{w:World}{as:LL}{k:Nat}{pos:Pos}{z TI TO i1 i2 l1 l2:Addr}(D:ms z TI TO i1 i2):kC P w K (.Tuple as k pos) (Do K l1 l2) [z,TI,TO,i1,i2] z (UZ z TI TO i1 i2 l1 l2) where
 mem:=by simp
 obj:=λi h st b J=>by
  obtain⟨U,s2,⟨_,_,s3⟩,⟨o4,s4,c4,d4⟩,⟨o5,Z,c5,d5⟩⟩:=st
  simp only[wQ,tK,or_false]at J
  rcases J with rfl | rfl | rfl | rfl | rfl
  .exact⟨_,U,λv e=>by cases e⟩
  .exact⟨_,s2,λv e=>by cases e⟩
  .exact⟨_,s3,λv e=>by cases e⟩
  .exact⟨_,s4,λv e=>by rw[d4]at e;cases e⟩
  .exact⟨_,Z,λv e=>by rw[d5]at e;cases e⟩
 keep:=λi h h' st kk=>by
  obtain⟨U,s2,⟨a,b,s3⟩,s4,Z⟩:=st
  exact⟨kk z (by simp) _ U,kk TI (by simp) _ s2,⟨a,b,kk TO (by simp) _ s3⟩,s4.at λo e=>kk i1 (by simp) o e,Z.at λo e=>kk i2 (by simp) o e⟩
 item:=by
  intro X hP hw hK hc i pins s σ H E I hf st hg
  subst hP hw hK;obtain⟨xs,ys,x,y,q1,q2,hx,hy⟩:=hg
  obtain⟨ag,al,p1,_⟩:=I.tuple q1
  obtain⟨ac,ab,p2,_⟩:=I.tuple q2
  obtain⟨u1,bc,bg⟩:=al.get hx
  obtain⟨u2,bt,b0⟩:=ab.get hy
  have n1:∀c∈[z,TI,TO,i1,i2],l1≠c:=λc F=>vr.apart I (hf c F) q1
  have Y:∀c∈[z,TI,TO,i1,i2],l2≠c:=λc F=>vr.apart I (hf c F) q2
  have D':ZipApart z TI TO i1 i2 l1 l2:=⟨D.TIz,D.TOz,D.i1z,D.i2z,D.TITO,D.TIi1,D.TIi2,D.TOi1,D.TOi2,D.i12,n1 _ (by simp),n1 _ (by simp),n1 _ (by simp),n1 _ (by simp),Y _ (by simp),Y _ (by simp),Y _ (by simp),Y _ (by simp)⟩
  obtain⟨U,s2,⟨a,b,s3⟩,s4,Z⟩:=st
  have e1:s.heap.IsTuple l1 ag.toArray:=p1
  have e2:s.heap.IsTuple l2 ac.toArray:=p2
  refine yp D' U s2 s3 ⟨s4,e1⟩ ⟨Z,e2⟩ (x:=u1) (y:=u2) (by simpa using bc) (by simpa using bt) λh' a1 a2 a3 a4 a5 a6 kk=>?_
  refine⟨_,rfl,wpAny_letOwnedTupleGo_zip a1 λa8 bp O=>?_⟩
  have lt:∀ {c o},s.heap.get? c=some o->s.heap.objs.size≠c:=λe=>Ie (wD e)
  have b1:s.heap.objs.size≠z:=lt U
  have ad:∀b o,b∉[z,TI,TO,i1,i2]->s.heap.get? b=some o->a8.get? b=some o:=λb o J e=>by
   simp only[wQ,tK,or_false,not_or]at J
   exact O.extBut _ _ J.1 (kk b o J.1 J.2.2.1 J.2.2.2.1 J.2.2.2.2 e)
  have hsz:H s.heap.objs.size=none:=I.hok.fresh (qt _)
  have a7:IsPair a8 s.heap.objs.size u1 u2:=O.extBut _ _ b1 a5
  have be:∀c∈[z,TI,TO,i1,i2],c≠s.heap.objs.size:=λc F=>by
   obtain⟨o4,e4,_⟩:=id s4
   obtain⟨o5,e5,_⟩:=id Z
   simp only[wQ,tK,or_false]at F
   rcases F with rfl | rfl | rfl | rfl | rfl
   .exact(lt U).symm
   .exact(lt s2).symm
   .exact(lt s3).symm
   .exact(lt e4).symm
   .exact(lt e5).symm
  refine⟨.ref s.heap.objs.size,upd H s.heap.objs.size (.tup [x,y]),I.turnedLaid (t':=s.toks) ad hf (qt _) ⟨aU (by show 2<=1000000;decide),[u1,u2],.cons bg (.cons b0 .nil),⟨_,a7,rfl,rfl,0,rfl⟩⟩,rfl,⟨_,x,y,hsz,rfl,rfl,λb2 q'=>?_,λb3 q'=>?_⟩,
   ⟨bp,O.extBut _ _ D.TIz (kk _ _ D.TIz D.TITO D.TIi1 D.TIi2 s2),⟨_,_,O.extBut _ _ D.TOz a2⟩,a3.1.extBut O.extBut D.i1z,a4.1.extBut O.extBut D.i2z⟩,λc F=>?_⟩
  .rw[I.tuple_inj q' q1];exact hx
  .rw[I.tuple_inj q' q2];exact hy
  .rw[au (be c F)];exact(hf c F).1
 done:=by
  intro X hP hw hK hc i pins s σ H E I hf st hg
  subst hP hw hK;obtain⟨xs,ys,q1,q2,a9⟩:=hg
  obtain⟨ag,al,p1,_⟩:=I.tuple q1
  obtain⟨ac,ab,p2,_⟩:=I.tuple q2
  have l1:=al.length;have l2:=ab.length;have n1:∀c∈[z,TI,TO,i1,i2],_≠c:=λc F=>vr.apart I (hf c F) q1
  have Y:∀c∈[z,TI,TO,i1,i2],_≠c:=λc F=>vr.apart I (hf c F) q2
  have D':ZipApart z TI TO i1 i2 _ _:=⟨D.TIz,D.TOz,D.i1z,D.i2z,D.TITO,D.TIi1,D.TIi2,D.TOi1,D.TOi2,D.i12,n1 _ (by simp),n1 _ (by simp),n1 _ (by simp),n1 _ (by simp),Y _ (by simp),Y _ (by simp),Y _ (by simp),Y _ (by simp)⟩
  obtain⟨U,s2,⟨a,b,s3⟩,s4,Z⟩:=st
  have e1:s.heap.IsTuple _ ag.toArray:=p1
  have e2:s.heap.IsTuple _ ac.toArray:=p2
  refine Ao (I.ok.hd hc) D' U s2 s3 ⟨s4,e1⟩ ⟨Z,e2⟩ ?_ λh' kk=>⟨rfl,I.turnedL (t':=s.toks) (λb o J e=>?_) hf⟩
  .rcases a9 with z | z
   .exact .inl (by simp;lia)
   .exact .inr (by simp;lia)
  .simp only[wQ,tK,or_false,not_or]at J
   exact kk b o J.1 J.2.2.1 J.2.2.2.1 J.2.2.2.2 e
 self:=λA i s Q E st h=>wpAny_pyIter_zip st.1 h
def D9(K:W.Frag)(ta:TA):TI:=λσ H R=>ta σ H λvs H1=>∃a b:Addr,vs=[.ref a,.ref b]/\(∃xs,vr K H1 a xs)/\(∃ys,vr K H1 b ys)/\R (Do K a b) H1
theorem tV(K:W.Frag)(ta:TA){σ:St}{R:It->Hp->Prop}:D9 K ta σ H R=ta σ H λvs H1=>∃a b:Addr,vs=[.ref a,.ref b]/\(∃xs,vr K H1 a xs)/\(∃ys,vr K H1 b ys)/\R (Do K a b) H1:=rfl
theorem wt(K:W.Frag){X:Cx}{U:LL}{k:Nat}{J:Pos}{a b:Expr}{ta:TA}{p pos:Pos}(hg:Gl X "zip") (hm:X.mg "zip" = none) (ha:PA X [a,b] ta) (hs:starEach [a,b] X.env=[(false,eval a X.env),(false,eval b X.env)]:=by rfl) (hs2:starEach [b] X.env=[(false,eval b X.env)]:=by rfl) (hK:X.K=K:=by rfl) :
  PI X (.Tuple U k J) (.Call (.Name "zip" p) [a,b] [] pos) (D9 K ta):=by
 subst hK;intro pins s σ H R I h
 refine Call_ (iE I hg hm rA (zaY (bz (ha pos pins s σ H _ I h) λus F ⟨vs,H1,Y,Z,q1⟩=>?_) (by rw[hs,hs2]) (by rw[hs2];rfl)))
 obtain⟨l1,l2,e,⟨xs,h1⟩,⟨ys,h2⟩,q⟩:=q1
 subst e;obtain⟨u1,u2,rfl,Z,r2⟩:=jr Z
 cases Z
 cases r2;obtain⟨ab,_,p1,_⟩:=Y.tuple h1
 obtain⟨ac,_,p2,_⟩:=Y.tuple h2
 refine zE (show F.heap.IsTuple l1 ab.toArray from p1) (show F.heap.IsTuple l2 ac.toArray from p2) λh' a1 a2 a3 a4 a5 kk=>?_
 refine wpAny_pyIter_zip a1 ⟨_,[F.heap.objs.size+4,F.heap.objs.size+2,F.heap.objs.size+3,F.heap.objs.size,F.heap.objs.size+1],_,_,H1,rfl,Y.kept (t':=F.toks) kk,
  zX (z:=F.heap.objs.size+4) (TI:=F.heap.objs.size+2) (TO:=F.heap.objs.size+3) (i1:=F.heap.objs.size) (i2:=F.heap.objs.size+1) (JL _),⟨a1,a2,⟨_,_,a3⟩,a4.1,a5.1⟩,λb hb=>?_,q⟩
 have O:F.heap.objs.size<=b:=by
  simp only[wQ,tK,or_false]at hb
  rcases hb with rfl | rfl | rfl | rfl | rfl<;>first | exact qt _ | exact za4 _ _
 exact Y.fpOk O (Y.hok.fresh O)
section
variable{prog:Program}{w:World}{A:Around}{E:KY}{s:Shared}
theorem pZ{t U:Addr}{F:LM}{vl Y:Value}{lo hi:LI}{Q:KY}(O:IsTup s.heap t F)(W:s.heap.IsSliceOf U vl Y .none)(pl:PySem.IsPart vl lo)(pu:PySem.IsPart Y hi)
  (Z:HT.sIx F.size 0 lo=0/\HT.sIx F.size F.size hi=F.size) (q:Q (.ref t) s):wpAny (model prog w) A (getItem (.ref t) (.ref U)) Q E s:=by
 obtain⟨os,g1,g2,g3⟩:=id W
 have ty:s.TypeIs (.ref U) "slice" := ⟨os,g1,g2⟩
 unfold getItem
 try with_reducible refine wpAny_holding ?_
 first | refine Kn (Kr ?_) | skip
 refine Kn (wpAny_sequenceKey O.typeIs (by decide) (Kn (wpAny_callSpecial?_slot (name:=Str.ofString "__getitem__") O.typeIs zbz (wpAny_call_entry zbz O.typeIs entry_tuple_getitem ?_ (args_tuple_getitem _ _)))))
 show wpAny _ _ (Builtin.Tuple.tupleItemsOf (.ref t) >>= λ_=>_) _ _ s
 refine Kn (tupleItemsOf_ O (Kn (wpAny_typeOf ty ?_)))
 rw[Kx (by decide)]
 refine Kn (HT.sliceApplied_gen W pl pu ?_)
 have J:((((HT.sIx F.size 0 lo:Nat):Int)==0&&(1:Int)==1&&(HT.sIx F.size F.size hi-HT.sIx F.size 0 lo)==F.size)=true):=by
  rw[Z.1,Z.2];simp
 show wpAny _ _ (if (((HT.sIx F.size 0 lo:Nat):Int)==0&&(1:Int)==1&&(HT.sIx F.size F.size hi-HT.sIx F.size 0 lo)==F.size)=true then _ else _) _ _ s
 rw[Kx J];refine Kn (m:=Builtin.Tuple.tupleIsExact _) (Kn (wpAny_typeOf O.typeIs (Kr ?_)))
 have hb:(Value.type "tuple" == Value.type "tuple")=true:=by decide
 rw[hb,Kx rfl];exact Kn (wpAny_rule (Kr ⟨_,rfl,Kr q⟩))
end
section
variable{X:Cx}
def Dj(K:W.Frag):V->LI->LI->Hp->VK->Prop:=λx lo hi H Q=>∃a xs,x = .ref a/\vr K H a xs/\
 (HT.sIx xs.length 0 lo=0/\HT.sIx xs.length xs.length hi=xs.length->Q (.ref a) H)/\(¬ (HT.sIx xs.length 0 lo=0/\HT.sIx xs.length xs.length hi=xs.length)->∀p,H p=none->Q (.ref p) (upd H p (.tup (dH xs lo hi))))
theorem gA(K:W.Frag)(hK:X.K=K:=by rfl):CY X (Dj K):=by
 subst hK;intro pins s σ H x v vl vu lo hi sl Q I U Y pl pu h
 obtain⟨a,xs,rfl,hx,q1,q2⟩:=h
 by_cases hw:HT.sIx xs.length 0 lo=0/\HT.sIx xs.length xs.length hi=xs.length
 .have O:=U
  cases U;obtain⟨J,r,Z,hz⟩:=I.tuple hx
  have F:J.toArray.size=xs.length:=by rw[xo];exact r.length.symm
  exact⟨"tuple",_,PyProof.Rows.slot_tuple_getitem.lookup,Z.typeIs,pZ Z Y pl pu (by rw[F];exact hw) ⟨.ref a,H,I,O,q1 hw⟩⟩
 .exact Ij pins s σ H _ v vl vu lo hi sl Q I U Y pl pu ⟨a,xs,rfl,hx,hw,q2 hw⟩
theorem fR{a:Addr}{lo hi:LI}(h:vr K H a xs)(q:∀p H',sj H H'->vr K H' p (dH xs lo hi)->Q (.ref p) H'):Dj K (.ref a) lo hi H Q:=by
 refine⟨a,xs,rfl,h,λF=>?_,λ_ p J=>q p _ (am J _) (vr.of ai)⟩
 have e:dH xs lo hi=xs:=by unfold dH;rw[F.1,F.2];simp
 exact q a H (λ_ _ e=>e) (by rw[e];exact h)
theorem vT(xs:LB)(k:Nat):dH xs none (some (k:Int))=xs.take k:=by
 unfold dH;rw[HT.sIx_none,HT.sIx_nat,List.drop_zero,Nat.sub_zero];exact List.take_eq_take_min.symm
theorem kn(xs:LB)(k:Nat):dH xs (some (k:Int)) none=xs.drop k:=by
 unfold dH;rw[HT.sIx_none,HT.sIx_nat];rcases Nat.le_total k xs.length with h | h
 .rw[Nat.min_eq_left h,HI (by rw[zbb];lia)]
 .rw[Nat.min_eq_right h,J0,List.take_zero,List.drop_eq_nil_of_le h]
def xu:LB->Hp->VK->Prop:=λxs H Q=>(∃i,xs=[.int i]/\i.natAbs.log2<1920/\Q (.str (toString i)) H)\/∃y,xs=[.str y]/\Q (.str y) H
theorem zk:BB X (.type "str") xu:=by
 intro pins s σ H xs F Q I r h
 rcases h with h | ⟨y,rfl,q⟩
 .exact sW pins s σ H xs F Q I r h
 .obtain⟨u,rfl,t,rfl⟩:=cU r
  exact P.str_of_str ⟨.str y,H,I,⟨t,rfl⟩,q⟩
theorem oV(i:Int):xu [.int i] H Q=(i.natAbs.log2<1920/\Q (.str (toString i)) H):=
 propext ⟨λh=>by rcases h with ⟨_,e,h⟩ | ⟨_,e,_⟩<;>cases e;exact h,λh=>.inl ⟨i,rfl,h⟩⟩
theorem oE(y:Str):xu [.str y] H Q=Q (.str y) H:=
 propext ⟨λh=>by rcases h with ⟨_,e,h⟩ | ⟨_,e,h⟩<;>cases e;exact h,λh=>.inr ⟨y,rfl,h⟩⟩
theorem uV{x:Str}{d:Addr}{pos:Pos}(h:X.mg x=some (.ref d))(hg:Gl X x:=by first | exact vGg (by decide +kernel) | rfl)(hd:(x==("__debug__" : Str))=false:=by decide):PE X (.Name x pos) (tC (.ref d)):=EL hg h rfl hd
theorem dU:G7 X "list.extend" kK:=yQ
theorem fZ(l b:Addr):kK (.ref l) [.ref b] H Q=∃xs zs,H l=some (.lst xs)/\H b=some (.lst zs)/\xs.length+zs.length<=sizeLine/\Q .non (upd H l (.lst (xs++zs))):=
 propext ⟨λ⟨_,_,xs,zs,F,J,q⟩=>by cases F;cases J;exact⟨xs,zs,q⟩,λ⟨xs,zs,q⟩=>⟨l,b,xs,zs,rfl,rfl,q⟩⟩
theorem hZ(K:W.Frag){tg l:Expr}{tl:TE}(hl:PE X l tl)(F:X.K=K:=by rfl):PI X tg l (B_ K tl):=F ▸ F4 hl
theorem vp(K:W.Frag)(tl:TE){σ:St}{R:It->Hp->Prop}:B_ K tl σ H R=tl σ H λx H1=>∃a,x = .ref a/\(∃xs,vr K H1 a xs)/\R (AY K a) H1:=rfl
end
section
variable{K:W.Frag}{a b:Addr}{xs ys:LB}{g:TG}{te:TE}{nT:Nat}{σ:St}{D:Addr}{Q:VK}{H:Hp}
theorem sJ{tb:TS}{D:dN}(F:Nat->St->Hp->Prop)(U:F 0 σ H)(hl:∀i σ H,i<=xs.length->F i σ H->vr K H a xs)
  (J:∀i x σ H,xs[i]?=some x->F i σ H->g x σ H λO H2=>tb {D with nx:=F (i+1),ct:=F (i+1),bk:=D.nx} O H2) (hd:∀σ H,F xs.length σ H->D.nx σ H):kG (AY K a) g tb D σ H:=by
 refine kZ xs.length F U (λi σ H hi p=>⟨xs,xs[i],hl i σ H (xF hi) p,by simp[hi]⟩) (λσ H p=>⟨xs,hl _ σ H (qt _) p,qt _⟩) (λi σ H x H' hi p W=>?_) hd
 obtain⟨rfl,y⟩:=W
 exact J i x σ _ (y xs (hl i σ _ (xF hi) p)) p
theorem jS(F:Nat->LB->Hp->Prop)(J:F 0 [] H)(hl:∀i ys H,i<=xs.length->F i ys H->vr K H a xs)
  (O:∀i ys H x,xs[i]?=some x->i<xs.length->F i ys H->g x (σ++List.replicate nT none) H (jC xs.length i F D ys te))
  (hd:∀ys H,F xs.length ys H->Q (.ref D) H):f6 (AY K a) g lH te nT σ D Q H:=by
 refine lD xs.length F J (λi ys H hi p=>⟨xs,xs[i],hl i ys H (xF hi) p,by simp[hi]⟩) (λys H p=>⟨xs,hl _ ys H (qt _) p,qt _⟩) (λi ys H x H' hi p U=>?_) hd
 obtain⟨rfl,y⟩:=U
 exact O i ys _ x (y xs (hl i ys _ (xF hi) p)) hi p
theorem o_{tb:TS}{D:dN}(F:Nat->St->Hp->Prop)(O:xs.length=ys.length)(h0:F 0 σ H)(hl:∀i σ H,i<=xs.length->F i σ H->vr K H a xs/\vr K H b ys)
  (U:∀i x y t σ H,xs[i]?=some x->ys[i]?=some y->F i σ H->H t=none->g (.ref t) σ (upd H t (.tup [x,y])) λZ H2=>tb {D with nx:=F (i+1),ct:=F (i+1),bk:=D.nx} Z H2) (hd:∀σ H,F xs.length σ H->D.nx σ H):kG (Do K a b) g tb D σ H:=by
 refine kZ xs.length F h0 (λi σ H hi p=>⟨xs,ys,xs[i],ys[i],(hl i σ H (xF hi) p).1,(hl i σ H (xF hi) p).2,by simp[hi],by simp[O ▸ hi]⟩) (λσ H p=>⟨xs,ys,(hl _ σ H (qt _) p).1,(hl _ σ H (qt _) p).2,.inl (qt _)⟩) (λi σ H v H' hi p yl=>?_) hd
 obtain⟨t,x,y,Y,rfl,rfl,W,J⟩:=yl
 exact U i x y t σ H (W xs (hl i σ H (xF hi) p).1) (J ys (hl i σ H (xF hi) p).2) p Y
end
theorem vr.same{H':Hp}{a:Addr}(h:vr K H a xs)(sm:sj H H'):vr K H' a xs:=by
 rcases h with (h | ⟨o,h⟩) | h
 .exact .inl (.inl (sm _ _ h))
 .exact .inl (.inr ⟨o,sm _ _ h⟩)
 .exact .inr h
theorem jO{α:Type}{x:α}{xs:List α}:di (x::xs) 0=some x:=ap (j:=0) rfl
theorem vr.updL{a l:Addr}{ys:LB}{o:HO}(h:vr K H a xs)(hl:H l=some (.lst ys)):vr K (upd H l o) a xs:=by
 rcases h with (h | ⟨o',h⟩) | h
 .exact .inl (.inl (by rw[au (cT h hl (λz=>nomatch z))];exact h))
 .exact .inl (.inr ⟨o',by rw[au (cT h hl (λz=>nomatch z))];exact h⟩)
 .exact .inr h
theorem Jg{P:Program}{w:World}{k:aL}{u:Value}(h:(cQ P w).is k u=true):RelV (kV k) u:=by
 cases k with
 | inl i=>
  obtain⟨t,rfl⟩:=J8 (show Value.isInt i u=true from h)
  exact⟨t,rfl⟩
 | inr x=>
  obtain⟨t,rfl⟩:=Value.isStrOf_shape (show Value.isStrOf x u=true from h)
  exact⟨t,rfl⟩
section
variable{X:Cx}
def zx:LB->Hp->VK->Prop:=λxs H Q=>∃d kvs,xs=[.ref d]/\H d=some (.dK kvs)/\kvs.length<=60000/\∀l,H l=none->Q (.ref l) (upd H l (.lst (kvs.map λkv=>kV kv.1)))
theorem oB(d:Addr):zx [.ref d] H Q=∃kvs,H d=some (.dK kvs)/\kvs.length<=60000/\∀l,H l=none->Q (.ref l) (upd H l (.lst (kvs.map λkv=>kV kv.1))):=
 propext ⟨λ⟨_,kvs,e,q⟩=>by cases e;exact⟨kvs,q⟩,λ⟨kvs,q⟩=>⟨d,kvs,rfl,q⟩⟩
theorem wG{m:Nat}(hr:B4 m X.A):BB X (.type "list") zx:=by
 intro pins s σ H xs us Q I r h
 obtain⟨d,kvs,rfl,ed,hn,q⟩:=h
 obtain⟨u,rfl,ru⟩:=cU r
 cases ru;obtain⟨_,hd,vs,O,dd⟩:=qh I.hok (.inl ed)
 obtain⟨ep,hm⟩:=dd.dictAt
 have hs:sizeLine=16777216:=sizeLine_eq
 have hl:kvs.length=vs.length:=zaO O
 refine W.kdl_call (W.kdl_dict (knd:=cQ X.prog X.w) (kvs:=vs) (ep:=ep) hd) hr.hd hm (by lia) λh' tk J c' hk hS F=>?_
 refine⟨.ref s.heap.objs.size,_,I.laid hk (qt _) (show BC X.prog X.w _ h' _ (.lst (kvs.map λkv=>kV kv.1)) from ⟨by simp;lia,J.toList,c',?_,by simpa using hS⟩),rfl,q _ (I.hok.fresh (qt _))⟩
 refine vN _ _ (by simp[F.1,hl]) λj x w' U e2=>?_
 obtain⟨k,y,Z,Y⟩:=F.2 j w' (by rw[<-Ib];exact e2)
 rw[wC]at U
 cases hkv:kvs[j]? with
 | none=>rw[hkv]at U;cases U
 | some kv=>
  rw[hkv]at U
  cases U;have:=(hU O hkv Z).1
  show RelV (kV kv.1) w'
  rw[this];exact Jg Y
end
end L2
namespace L2
open PySem PySem.Spec PyProof.Rows PySem.SeqAt
variable{f:Str}{v:V}
structure Fl (K:W.Frag) (C:Addr) (f:Str):Prop where
 c:Kc K C
 n:GP K C f
structure GY (K:W.Frag) (mg:Str->LF) (x:Str) (C:Addr) (qual:Str) (st:Stmt):Prop where
 ex:∃f fd,JQ K "__init__" qual st f fd/\Mk K C f/\mg x=some (.ref C)
structure qr (P:Program) (w:World) (K:W.Frag) (mg:Str->LF) (base:Heap) (k:Nat) (x:Str) (C:Addr) (ps:KZ) (sp:Sp):Prop where
 ex:∃f fd,Gk P w K mg base j5 k f fd ps sp/\Binds K fd ps []/\Mk K C f/\mg x=some (.ref C)
section
variable{P:Program}{w:World}{K:W.Frag}{mg:Str->LF}{base:Heap}
theorem GY.mkal{x:Str}{C:Addr}{J:Str}{st:Stmt}{N ps:KZ}{k:Nat}{sp:Sp}(D:GY K mg x C J st)(S:aC N ps (sg st))
  (hb:∀(kV Y pm:Value) (an:LO) (O ct:Value) (Z:LD),Z.length=ps.length->bindArgs (W.fnOf "__init__" J (C5 st) (Cm st) (sg st) .none kV Y pm an O ct) ⟨Z,[]⟩=pure (ps.zip Z))
  (len:∀vs H Q E,sp vs H Q E->vs.length=ps.length)
  (U:∀(f:Addr) (O:Value) (A:Around) (outer:List Env) (s:Shared) (H:Hp) (vs:LB) (Q:VK) (E:XK),B4 k (A.deeper (envOfC J (sg st) s.heap.objs.size f O))->sp vs H Q E->
   ∃t,G0 (j8 j5 P w K mg base N J (sg st) f O A outer s H E).nox (Cm st) t/\t {nx:=λ_ H'=>Q .non H',rt:=Q} (start N vs) H):qr P w K mg base (k+1) x C ps sp:=by
 obtain⟨f,fd,F,m,g⟩:=D.ex
 exact⟨f,fd,F.ok S len λO A outer s H vs Q E hr h=>U f O A outer s H vs Q E hr h,F.binds hb,m,g⟩
end
def Dp(C:Addr)(f:Str)(ta:TE):TE:=λσ H Q=>ta σ H λx H1=>∃a,x = .ref a/\∃dx fs v,H1 a=some (.ins C dx fs)/\fs.lookup f=some v/\Q v H1
def Dg(C:Addr)(f:Str)(ta tv:TE):TS:=λD σ H=>tv σ H λy H1=>ta σ H1 λx H2=>∃a,x = .ref a/\∃dx fs,H2 a=some (.ins C dx fs)/\fs.length<1000/\D.nx σ (upd H2 a (.ins C dx (bC f y fs)))
def zK(C:Addr)(sp:Sp)(t:TA):TE:=λσ H Q=>t σ H λvs H1=>∀x dx,H1 x=none->H1 dx=none->dx≠x->sp (.ref x::vs) (upd (upd H1 dx (.own x)) x (.ins C dx [])) (λv H2=>v = .non/\Q (.ref x) H2) E0
section
variable{X:Cx}{o e value:Expr}{es:LL}{f m:Str}{pos pos' apos p:Pos}{ta tv:TE}{t:TA}{C:Addr}{x:Str}{ps:KZ}{sp:Sp}{j k:Nat}
theorem bJ(g:Fl X.K C f)(W:PE X e ta)(U:attributeBase e f X.env (eval e X.env)=eval e X.env:=by rfl):PE X (.Attribute e f pos) (Dp C f ta):=by
 intro pins s σ H Q I h
 refine Fe U (bz (W pins s σ H _ I h) λu s1 ⟨x,H1,F,Z,a,ex,dx,fs,v,J,l,q⟩=>?_)
 subst ex;obtain rfl:u=Value.ref a:=Z
 exact wH F J g.c g.n l λu' s2 Y O=>⟨v,H1,Y,O,q⟩
theorem kS(g:Fl X.K C f)(J:PE X o ta)(hv:PE X value tv)(O:swapsWith value (some (.Attribute o f pos')) pos.line X.env=pure false:=by rfl):PS X (.Assign [.Attribute o f pos'] value pos) (Dg C f ta tv):=by
 intro pins s σ H D I h
 refine plainObj_wpAny_Assign_Attribute (bz (hv pins s σ H _ I h) λu s1 ⟨y,H1,U,F,q⟩=>bz (J pins s1 σ H1 _ U q) λW s2 ⟨x,H2,I2,rx,a,ex,dx,fs,Y,l,Z⟩=>?_) O
 subst ex;obtain rfl:W=Value.ref a:=rx
 exact yD I2 Y g.c g.n l F λs3 I3=>⟨σ,_,I3,Z⟩
theorem Jy(c:qr X.prog X.w X.K X.mg X.base j x C ps sp)(Y:B4 k X.A)(U:PA X (e::es) t)(hle:j+1<=k:=by decide)(hg:Gl X x:=by first | exact vGg (by decide +kernel) | rfl)(hdb:(x==("__debug__" : Str))=false:=by decide)
  (he:starEach (e::es) X.env=(false,eval e X.env)::starEach es X.env:=by rfl) (hpl:(backTo pos (starEach es X.env)).any (·.1)=false:=by rfl) :
  PE X (.Call (.Name x p) (e::es) [] pos) (zK C sp t):=by
 obtain⟨f,fd,F,b,M,O⟩:=c.ex
 intro pins s σ H Q I h
 refine wpAny_Call_Name_kw (n9 I hg O ?_ hdb)
 refine W.callWith_K (h₀:=X.base) I.ok.mod.kin M.kp (bz (U pos pins s σ H _ I h) λZ s1 ⟨vs,H1,J,r,q⟩=>⟨J.kIn,?_⟩) he hpl
 exact BA M F (Y.mono hle) b .nil DG J r (by simpa only[IJ] using q)
end
section
variable{C:Addr}{f m:Str}{sp:Sp}{ta tv:TE}{t:TA}{σ:St}{H:Hp}{Q:VK}
theorem qS:Dp C f ta σ H Q=ta σ H λx H1=>∃a,x = .ref a/\∃dx fs v,H1 a=some (.ins C dx fs)/\fs.lookup f=some v/\Q v H1:=rfl
theorem tH{D:dN}:Dg C f ta tv D σ H=tv σ H λy H1=>ta σ H1 λx H2=>∃a,x = .ref a/\∃dx fs,H2 a=some (.ins C dx fs)/\fs.length<1000/\D.nx σ (upd H2 a (.ins C dx (bC f y fs))):=rfl
theorem pj:zK C sp t σ H Q=t σ H λvs H1=>∀x dx,H1 x=none->H1 dx=none->dx≠x->sp (.ref x::vs) (upd (upd H1 dx (.own x)) x (.ins C dx [])) (λv H2=>v = .non/\Q (.ref x) H2) E0:=rfl
end
theorem G5{fs:List (Str×V)}:List.lookup f ((f,v)::fs)=some v:=by simp[List.lookup]
theorem EV{g:Str}{fs:List (Str×V)}(h:(f==g)=false):List.lookup f ((g,v)::fs)=List.lookup f fs:=by simp[List.lookup,h]
theorem Gw:List.lookup f ([]:List (Str×V))=none:=rfl
theorem Ak{g:Str}{x:V}{r:List (Str×V)}(h:¬ g=f):bC f v ((g,x)::r)=(g,x)::bC f v r:=by simp[bC,h]
theorem A0:bC f v []=[(f,v)]:=rfl
section
variable{X:Cx}
def Dt:LB->Hp->VK->Prop:=λxs H Q=>∃i j,xs=[.int i,.int j]/\Q (.int (if j>i then j else i)) H
theorem y8(F:X.calm=true:=by rfl):BB X (.builtin "max") Dt:=zv F
theorem r_{H:Hp}{Q:VK}(i j:Int):Dt [.int i,.int j] H Q=Q (.int (if j>i then j else i)) H:=propext ⟨λ⟨_,_,e,q⟩=>by cases e;exact q,λq=>⟨i,j,rfl,q⟩⟩
end
theorem rE{c:Nat}:∀ {p q t u:LN},c∉p->c∉q->p++c::t=q++c::u->p=q/\t=u
 | [],[],_,_,_,_,e=>⟨rfl,(List.cons.inj e).2⟩
 | [],b::q,_,_,_,hq,e=>absurd ((List.cons.inj e).1 ▸ yb) hq
 | a::p,[],_,_,hp,_,e=>absurd ((List.cons.inj e).1 ▸ yb) hp
 | a::p,b::q,t,u,hp,hq,e=>by
  obtain⟨F,U⟩:=List.cons.inj e
  obtain⟨J,O⟩:=rE (p:=p) (q:=q) (λz=>hp (yc _ z)) (λz=>hq (yc _ z)) U
  exact⟨by rw[F,J],O⟩
theorem vV{x y:Str}(h:x.cps.toList=y.cps.toList):x=y:=by
 cases x;cases y
 exact congrArg _ (Array.toList_inj.mp h)
theorem fW(x y:Str):(x++y).cps.toList=x.cps.toList++y.cps.toList:=tR
theorem mI(m:Nat):NumText.AllDigits ((Nat.toDigits 10 m).map Char.toNat)/\(Nat.toDigits 10 m).map Char.toNat≠[]:=by
 constructor
 .intro c J
  obtain⟨ch,F,e⟩:=KB.mp J
  rw[<-e];exact digit_range (Nat.isDigit_of_mem_toDigits (by decide) (by decide) F)
 .intro e
  have h:=tDigits_len_ge 10 m;rw[List.map_eq_nil_iff.mp e]at h
  exact absurd h (by decide)
theorem vb:∀ {vs:LD} {F:KZ},StrsAre vs F->∀(i:Nat) (v:Value),vs[i]?=some v->∃t,v = .str (F.getD i "") t
 | _,_,.nil,i,v,h=>by simp at h
 | _,_,.cons n t hr,0,v,h=>by simp at h;exact⟨t,by rw[<-h];rfl⟩
 | _,_,.cons n t hr,i+1,v,h=>by
  simp only[zaW]at h
  obtain⟨t',e⟩:=vb hr i v h
  exact⟨t',by rw[e];rfl⟩
theorem vZ(prog:Program)(w:World)(x:Str)(t:Tok):(strKind prog w).is x (.str x t)=true:=by
 show Value.isStrOf x (.str x t)=true
 simp[Value.isStrOf]
def DD(K:W.Frag)(SO:Addr->KZ->HO):LB->Hp->VK->Prop:=λxs H Q=>∃p,∃ns:KZ,xs=[.ref p]/\su K H p (ns.map V.str)/\ns.length<=60/\∀(l:Addr) (ds:KZ),H l=none->ds.Nodup->(∀x,x∈ds ↔ x∈ns)->ds.length<=ns.length->Q (.ref l) (upd H l (SO l ds))
def pJ(SO:Addr->KZ->HO):LB->Hp->VK->Prop:=λxs H Q=>∃p,∃ds:KZ,xs=[.ref p]/\H p=some (SO p ds)/\ds.length<=60/\∀(l:Addr) (ts:KZ),H l=none->ts.Perm ds->sortedS ts=true->Q (.ref l) (upd H l (.lst (ts.map V.str)))
noncomputable def jK(e:Int×Value):Str:=match e.2 with
 | .str d _=>d
 | _ => ""
def J9(w:World)(h:Heap)(a:Addr)(ds:KZ):Prop:=∃o es ep t,h.get? a=some o/\o.ExactSet/\o.data = .set es ep t/\es.size<scanBound/\t.fits es.size=true/\cw (cF w) t/\(∀e∈es.toList,∃tk,e.2 = .str (jK e) tk)/\es.toList.map jK=ds
def kM(w:World)(a:Addr)(ds:KZ):HO:=.ext λh=>J9 w h a ds
theorem GT{prog:Program}{w:World}{h:Heap}{a:Addr}{S:Str->Bool}{n:Nat}(x:GI (strKind prog w) (cw (cF w)) h a S n):∃ds,J9 w h a ds/\ds.Nodup/\(∀k,k∈ds ↔ S k=true)/\ds.length=n:=by
 obtain⟨o,es,ep,t,h1,h2,O,Y,h5,U,W,Z,h9,J⟩:=DQ (Sh:=λe=>∃tk,e.2 = .str (jK e) tk) jK (λe k hk=>by
  obtain⟨tk,F⟩:=Value.isStrOf_shape hk
  have:jK e=k:=by unfold jK;rw[F]
  rw[this];exact⟨⟨tk,F⟩,rfl⟩) (λe ⟨tk,F⟩=>by rw[F];exact vZ _ _ _ _) x
 exact⟨_,⟨o,es,ep,t,h1,h2,O,Y,h5,U,W,rfl⟩,Z,h9,J⟩
section
variable{X:Cx}
theorem xI{m:Nat}(hr:B4 m X.A){K:W.Frag}(hK:X.K=K):BB X (.type "set") (DD K (kM X.w)):=by
 subst hK;intro pins s σ H xs us Q I r h
 obtain⟨p,ns,rfl,hq,ac,q⟩:=h
 obtain⟨u,rfl,ru⟩:=cU r
 cases ru;obtain⟨U,rv,pl,hz⟩:=I.list hq
 have F:U.length=ns.length:=by rw[<-rv.length,zj]
 refine oQ (knd:=strKind X.prog X.w) (λi=>ns.getD i "") hr.hd pl.isList (λi v hv=>by
  obtain⟨t,rfl⟩:=vb (by simpa using kB rv) i v (by simpa using hv)
  exact⟨vZ _ _ _ _,rfl⟩) (by simp only[xo];unfold scanBound;lia) λh' tk ⟨m,hm,hS⟩ hk=>?_
 obtain⟨ds,hg,ab,J,O⟩:=GT hS
 obtain⟨o,es,ep,t,Z,Y⟩:=id hg
 refine⟨.ref s.heap.objs.size,_,I.laid (λb o e=>hk b o (wD e) e) (qt _) (show BC X.prog X.w _ h' _ (kM X.w s.heap.objs.size ds) from ⟨hg,⟨o,Z⟩,λh1 h2 g k=>?_⟩),rfl,q _ ds (I.hok.fresh (qt _)) ab (λx=>?_) ?_⟩
 .obtain⟨o,es,ep,t,Z,BG⟩:=g
  exact⟨o,es,ep,t,k o Z,BG⟩
 .rw[J,xo,F];exact vo ("" : Str) x
 .rw[O,<-F];simpa using hm
end
noncomputable def kL(v:Value):Str:=match v with
 | .str d _=>d
 | _ => ""
theorem vF:∀(l:LD),(∀v∈l,∃tk,v = .str (kL v) tk)->StrsAre l (l.map kL)
 | [],_=>.nil
 | v::l,h=>by
  obtain⟨tk,e⟩:=h v yb
  have r:=vF l λu F=>h u (yc _ F)
  rw[yj];generalize kL v=d at e |-;subst e;exact .cons d tk r
section
variable{prog:Program}{w:World}{A:Around}{E:KY}{s:Shared}
theorem wL{a:Addr}{o:Obj}{es:Array (Int×Value)}{ep:Nat}{t:SetTable}{Q:KY}(hh:A.handled=none)(ho:s.heap.get? a=some o)(hx:o.ExactSet)(hd:o.data = .set es ep t)(hf:t.fits es.size=true)(ac:es.size<64)(hg:cw (cF w) t)
  (hint:∀e∈es.toList,∃tk,e.2 = .str (jK e) tk)
  (hQ:∀h' d' tk q out c F,(∀b o,s.heap.get? b=some o->h'.get? b=some o)->s.heap.objs.size<=q->h'.get? q=some (seqObj "list" out c)->StrsAre out.toList F->F.Perm (es.toList.map jK)->sortedS F=true->Q (.ref q) {s with heap:=h',drawn:=d',toks:=tk}) :
  wpAny (model prog w) A (call (.builtin "sorted") [.ref a]) Q E s:=by
 refine zbx kind_sorted plain_sorted entry_sorted (args_sorted1 _) ?_
 unfold Builtin.«sorted»
 refine Kn (m:=checkCount "sorted" 1 1 _) (Kr ?_)
 refine Kn (jD hh ho hx hd hf (by unfold scanBound;lia) hg λh' d' tk acc hk Z Y=>?_)
 have W:acc.length=es.size:=by rw[Y.length_eq];simp
 have U:StrsAre acc (acc.map kL):=vF acc λv hv=>by
  obtain⟨e,he,rfl⟩:=KB.mp (Y.mem_iff.mp hv)
  exact hint e he
 have J:(acc.map kL).Perm (es.toList.map jK):=by
  have:=Y.map kL
  rw[He]at this
  exact this
 refine Kn (wpAny_newList ?_ (by rw[W,sizeLine_eq];lia))
 have O:(h'.push (seqObj "list" acc.toArray 0)).get? h'.objs.size=some (seqObj "list" acc.toArray 0):=yk _ rfl
 show wpAny _ _ _ _ _ {s with heap:=h'.push (seqObj "list" acc.toArray 0),drawn:=d',toks:=tk}
 refine Kn (wpAny_holding (wpAny_call_entry slot_list_sort ⟨_,O,rfl⟩ entry_list_sort (list_sort_treeK strKind_oneLt O U.keysOf (λv₁ v₂ BG e=>keyKind_strs (by rw[<-e];exact U)) (by lia) λab b1 b2=>⟨_,rfl,?_⟩) (args_list_sort _)))
 obtain⟨F,a1,a2,a3⟩:=sorted_out_str U b1 b2
 generalize (arrOf ab).map (·.2)=out at a1 |-;obtain⟨c,hc⟩:=sortedHeap_at (out:=out) O
 refine Kr ⟨_,rfl,hQ _ d' tk h'.objs.size out c F (λb o e=>?_) (xF Z) hc a1 (a2.trans J) a3⟩
 have hb:=wD (hk b o e);rw[sortedHeap_old (xa hb) (by rw[rW];exact JV hb)]
 exact wR _ (hk b o e)
end
section
variable{X:Cx}
theorem pQ{m:Nat}(hr:B4 m X.A):BB X (.builtin "sorted") (pJ (kM X.w)):=by
 intro pins s σ H xs us Q I r h
 obtain⟨p,ds,rfl,e,O,q⟩:=h
 obtain⟨u,rfl,ru⟩:=cU r
 cases ru;obtain⟨o,es,ep,t,ho,hx,hd,Y,hf,hg,hint,U⟩:=(show BC X.prog X.w H s.heap p (kM X.w p ds) from I.hok p _ e).1
 have hz:es.size<=60:=by rw[<-U,zj,nX]at O;exact O
 have hs:sizeLine=16777216:=sizeLine_eq
 refine wL hr.hd ho hx hd hf (by lia) hg hint λh' d' tk Z out c J hk W hc a1 a2 a3=>?_
 have hl:J.length<=60:=by rw[a2.length_eq,zj,nX];exact hz
 have F:=I.laid (t':=tk) (a:=Z) (o:=.lst (J.map V.str)) hk W (show BC X.prog X.w _ h' _ (.lst (J.map V.str)) from ⟨by rw[zj];lia,out.toList,c,oh a1,by simpa using hc⟩)
 refine⟨.ref Z,_,?_,rfl,q _ J (I.hok.fresh W) (by rw[<-U];exact a2) a3⟩
 exact⟨F.ok,F.os,F.bare,F.base,F.loc,F.cell,F.free,F.freeC,F.pin,F.hok,F.len⟩
theorem uJ{m:Nat}(K:W.Frag)(w:World)(J:B4 m X.A)(F:X.K=K:=by rfl)(hw:X.w=w:=by rfl):BB X (.type "set") (DD K (kM w)):=hw ▸ xI J F
theorem nE{m:Nat}(w:World)(J:B4 m X.A)(F:X.w=w:=by rfl):BB X (.builtin "sorted") (pJ (kM w)):=F ▸ pQ J
end
end L2
namespace L2
open PySem PySem.Spec PyProof.Rows PySem.SeqAt PySem.Builtin PySem.Builtin.Str PySem.StrLaws
def tP:V->LB->Hp->VK->Prop:=λx xs H Q=>∃s y,x = .str s/\xs=[.str y]/\Q (.bl (decide (0+y.length<=s.length)&&subAt s y 0)) H
theorem lm{H:Hp}{Q:VK}(s y:Str):tP (.str s) [.str y] H Q=Q (.bl (decide (0+y.length<=s.length)&&subAt s y 0)) H:=
 propext ⟨λ⟨_,_,F,J,q⟩=>by cases F;cases J;exact q,λq=>⟨s,y,rfl,rfl,q⟩⟩
theorem pS{X:Cx}:G7 X "str.startswith" tP:=by
 intro pins s σ H x xs v U Q I J r h
 obtain⟨z,y,rfl,rfl,q⟩:=h
 obtain⟨t,rfl⟩:=J
 obtain⟨u,rfl,O⟩:=cU r
 obtain⟨u,rfl⟩:=O
 exact call_gives F.slot_str_startswith (typeIs_str _ _ _) F.entry_str_startswith (F.args_str_startswith_2 _ _) (gives_str_startswith z y t u) ⟨.bl _,H,I,rfl,q⟩
theorem gD{X:Cx}(K:W.Frag)(F:X.K=K:=by rfl):FS X (binaryOp .Add) (x5 K):=F ▸ EO
theorem qA{K:W.Frag}{H:Hp}{Q:VK}(a b:Addr):x5 K (.ref a) (.ref b) H Q=∃xs ys,vr K H a xs/\vr K H b ys/\xs≠[]/\xs.length+ys.length<=sizeLine/\(ys=[]->Q (.ref a) H)/\(ys≠[]->∀p,H p=none->Q (.ref p) (upd H p (.tup (xs++ys)))):=
 propext ⟨λ⟨_,_,xs,ys,F,J,q⟩=>by cases F;cases J;exact⟨xs,ys,q⟩,λ⟨xs,ys,q⟩=>⟨a,b,xs,ys,rfl,rfl,q⟩⟩
end L2
namespace L2
open PySem PySem.Spec PyProof.Rows
abbrev jZ:=List LI
def MO(P:Program)(w:World):HeapKind P w (jZ):=Dx (fg P w) (show 0<=7 by decide)
noncomputable def Jq(P:Program)(w:World)(a:Addr)(xs:List (jZ×Addr×Value)):HO:=
 .ext λh=>∃o es ep,h.get? a=some o/\o.ExactDict/\o.data = .dict es ep/\es.toList=xs.map (entryOfKey (MO P w))/\(xs.map (·.1)).Nodup
def MI(H:Hp)(k:jZ)(b:Addr):Prop:=H b=some (.tup (k.map jG))
def Lz(H:Hp)(p:jZ×V)(q:jZ×Addr×Value):Prop:=q.1=p.1/\MI H p.1 q.2.1/\RelV p.2 q.2.2
def DO(P:Program)(w:World)(H:Hp)(a:Addr)(kvs:List (jZ×V)):Prop:=
 ∃xs,H a=some (Jq P w a xs)/\(a==sysModules)=false/\xs.length<=sizeLine/\Paired (Lz H) kvs xs
end L2
namespace L2
open PySem PySem.Spec PyProof PyProof.Rows
section
variable{K:W.Frag}{a b:Addr}{xs ys:LB}{g:TG}{te:TE}{nT:Nat}{σ:St}{D:Addr}{Q:VK}{H:Hp}
theorem wJ{tc:TT}(F:Nat->LB->Hp->Prop)(W:F 0 [] H)(hl:∀i zs H,i<=xs.length->F i zs H->su K H a xs)
  (J:∀i zs H x t,xs[i]?=some x->i<xs.length->F i zs H->H t=none->g (.ref t) (σ++List.replicate nT none) (upd H t (.tup [.int i,x])) (qe xs.length i F D zs tc te))
  (hd:∀zs H,F xs.length zs H->Q (.ref D) H):f6 (Aw K a) g tc te nT σ D Q H:=by
 refine tL xs.length F W (λi zs H hi p=>⟨xs,xs[i],hl i zs H (xF hi) p,by simp[hi]⟩) (λzs H p=>⟨xs,hl _ zs H (qt _) p,qt _⟩) (λi zs H v H' hi p Y=>?_) hd
 obtain⟨t,x,U,rfl,rfl,O⟩:=Y
 exact J i zs H x t (O xs (hl i zs H (xF hi) p)) hi p U
end
theorem EG{α:Type}{xs:List α}{v:α}(h:xs[xs.length-1]?=some v):di xs (-1)=some v:=by
 have hl:0<xs.length:=by
  refine Classical.byContradiction λF=>?_
  rw[IS (by lia)]at h;cases h
 unfold di iR;rw[Kt (by decide),Kx (by lia)]
 show xs[(-1+(xs.length:Int)).toNat]?=some v
 rw[show (-1+(xs.length:Int)).toNat=xs.length-1 by lia];exact h
section
variable{prog:Program}{w:World}{A:Around}{E:KY}{s:Shared}
variable{z TI TO i1 i2 t1 t2:Addr}{xs ys:LM}{k1 k2:Nat}{a b:Value}
abbrev JZ (h:Heap) (t1:Addr):Heap:=h.push {cls:=.type "list_iterator",data:=.fields #[.ref t1,.int 0 0]}
noncomputable abbrev Qa (h:Heap) (t1 t2:Addr):Heap:=(JZ h t1).push {cls:=.type "tuple_iterator",data:=.fields #[.ref t2,.int 0 0]}
end
section
variable{X:Cx}
def Fi:R2:=λx y H Q=>∃a b kvs k,y = .ref a/\x = .ref b/\H a=some (.dT kvs)/\H b=some (.tup (k.map kV))/\Q (.bl (!(bT kvs k).isSome)) H
theorem oq{n:Nat}(W:B4 n X.A):FS X (compareOp .NotIn) Fi:=by
 intro pins s σ H x y v u Q I J F h
 obtain⟨a,b,kvs,k,rfl,rfl,e,U,q⟩:=h
 cases F;exact Fc (by have:=W.un;lia) I (IL.t e U) J λs' O=>⟨.bl _,H,O,rfl,q⟩
def GO:nW:=λo i v H Q=>∃a b kvs k,o = .ref a/\i = .ref b/\H a=some (.dT kvs)/\H b=some (.tup (k.map kV))/\kvs.length<sizeLine/\Q (upd H a (.dT (cX kvs k v)))
theorem zu{n:Nat}(Y:B4 n X.A):Ht X GO:=by
 intro pins s σ H o i v Z iv u Q I W F J h
 obtain⟨a,b,kvs,k,rfl,rfl,e,U,hl,q⟩:=h
 cases W;exact oy (by have:=Y.un;lia) I (G2.t e U hl) F J λs' O=>⟨_,O,q⟩
end
open PySem.SeqAt
end L2
namespace L2
open PySem PySem.Spec PyProof.Rows
abbrev jh:=Sum Str (List LI)
def xk(prog:Program)(w:World)(h:Heap):jh->Value->Prop
 | .inl u,v=>∃t,v=Value.str u t
 | .inr l,v=>B6 (fg prog w) h l v
theorem JC(i j:Str):decide (i=j)=decide ((Sum.inl i:jh)=Sum.inl j):=by
 by_cases z:i=j
 .subst z;simp
 .have F:¬ ((Sum.inl i:jh)=Sum.inl j):=λq=>z (Sum.inl.inj q)
  rw[decide_eq_false F,decide_eq_false z]
theorem Jn(l F:List LI):decide (l=F)=decide ((Sum.inr l:jh)=Sum.inr F):=by
 by_cases z:l=F
 .subst z;simp
 .have J:¬ ((Sum.inr l:jh)=Sum.inr F):=λq=>z (Sum.inr.inj q)
  rw[decide_eq_false J,decide_eq_false z]
theorem Jx(i:Str)(l:List LI):decide ((Sum.inl i:jh)=Sum.inr l)=false:=decide_eq_false (λq=>nomatch q)
theorem Jd(i:Str)(l:List LI):decide ((Sum.inr l:jh)=Sum.inl i)=false:=decide_eq_false (λq=>nomatch q)
theorem Jf{prog:Program}{w:World}{A:Around}{E:KY}{s:Shared}{u v:Value}{Q:Bool->Shared->Prop}(O:A.units+1<cLine):∀(x y:jh),xk prog w s.heap x u->xk prog w s.heap y v->Q (decide (x=y)) s->
  wpAny (model prog w) A (PySem.eqBool u v) Q E s
 | .inl i,.inl j,⟨t,e1⟩,⟨t',e2⟩,h=>by
  subst e1 e2;rw[<-JC]at h
  exact wpAny_eqBool_str h
 | .inl i,.inr l,⟨t,e1⟩,hy,h=>by
  subst e1;obtain⟨b,J,rfl,F⟩:=B6.tup (K:=fg prog w) hy
  rw[Jx]at h
  exact SeqAt.EqAt.str_tuple i t F (Nat.lt_of_succ_lt O) prog w E Q h
 | .inr l,.inl j,hx,⟨t,e1⟩,h=>by
  subst e1;obtain⟨b,J,rfl,F⟩:=B6.tup (K:=fg prog w) hx
  rw[Jd]at h
  exact SeqAt.EqAt.tuple_str j t F (Nat.lt_of_succ_lt O) prog w E Q h
 | .inr l,.inr l',hx,hy,h=>by
  rw[<-Jn]at h
  exact nK (K:=fg prog w) (u3 O) hx hy h
noncomputable def Kv(prog:Program)(w:World):IK prog w jh where
 is:=xk prog w
 hash:=λk=>match k with
  | .inl u=>hashStr w u
  | .inr l=>rS (fg prog w) l
 draws:=λk=>match k with
  | .inl _=>1
  | .inr l=>iZ (fg prog w) l+1
 deep:=1
 inj:=λ{h v x y} a b=>by
  cases x with
  | inl i=>
   obtain⟨t,rfl⟩:=(show ∃t,v=Value.str i t from a)
   cases y with
   | inl j=>obtain⟨t',e⟩:=(show ∃t',Value.str i t=Value.str j t' from b);injection e with e1 _;rw[e1]
   | inr l=>obtain⟨a,_,e,_⟩:=B6.tup (show B6 (fg prog w) h l _ from b);cases e
  | inr l=>
   cases y with
   | inl j=>
    obtain⟨t,rfl⟩:=(show ∃t,v=Value.str j t from b)
    obtain⟨a,_,e,_⟩:=B6.tup (show B6 (fg prog w) h l _ from a);cases e
   | inr l'=>rw[(tupK (fg prog w)).inj (show B6 (fg prog w) h l v from a) (show B6 (fg prog w) h l' v from b)]
 keeps:=λ{h h' k v d o es ep} a ho hd hs=>by
  cases k with
  | inl i=>exact a
  | inr l=>exact(tupK (fg prog w)).keeps (show B6 (fg prog w) h l v from a) ho hd hs
 pyHash:=λ{A E s k v Q} hu hk h=>by
  cases k with
  | inl i=>
   obtain⟨t,rfl⟩:=(show ∃t,v=Value.str i t from hk)
   exact wpAny_pyHash_str h
  | inr l=>exact j7 (K:=fg prog w) (u3 hu) hk h
 eqBool:=λ{A E s x y u v Q} hu hx hy h=>Jf hu x y hx hy h
 quiet:=λ{A E s k v n Q} hk h=>by
  cases k with
  | inl i=>
   obtain⟨t,rfl⟩:=(show ∃t,v=Value.str i t from hk)
   rw[eqIsQuiet_byValue _ rfl];exact Kr h
  | inr l=>exact jH (K:=fg prog w) hk h
abbrev nZ:=Str×List LI
noncomputable def sk(k:nZ):List jh:=[.inl k.1,.inr k.2]
def MS(P:Program)(w:World):HeapKind P w (List jh):=Dx (Kv P w) (show 1<=7 by decide)
noncomputable def JG(P:Program)(w:World)(a:Addr)(xs:List (List jh×Addr×Value)):HO:=
 .ext λh=>∃o es ep,h.get? a=some o/\o.ExactDict/\o.data = .dict es ep/\es.toList=xs.map (entryOfKey (MS P w))/\(xs.map (·.1)).Nodup
def MG(H:Hp)(k:nZ)(b:Addr):Prop:=∃t,H b=some (.tup [.str k.1,.ref t])/\H t=some (.tup (k.2.map jG))
def Ob(H:Hp)(p:nZ×V)(q:List jh×Addr×Value):Prop:=q.1=sk p.1/\MG H p.1 q.2.1/\RelV p.2 q.2.2
def DS(P:Program)(w:World)(H:Hp)(a:Addr)(kvs:List (nZ×V)):Prop:=
 ∃xs,H a=some (JG P w a xs)/\(a==sysModules)=false/\xs.length<=sizeLine/\Paired (Ob H) kvs xs
section
variable{prog:Program}{w:World}{A:Around}{E:KY}{s:Shared}
theorem pL{it t:Addr}{F:LM}(W:t≠it):∀(n i:Nat) (s:Shared) (Q:LD->Shared->Prop),s.heap.IsListIter it t i->s.heap.IsList t F->i+n<=F.size->
  (∀h',h'.IsListIter it t (i+n)->Heap.SameBut it s.heap h'->Q ((F.toList.drop i).take n) {s with heap:=h'})->wpAny (model prog w) A (draw (.ref it) n) Q E s
 | 0,i,s,Q,hit,_,_,hQ=>by
  show wpAny _ _ (pure []) Q E s
  exact Kr (by simpa using hQ s.heap hit (Heap.SameBut.refl ..))
 | n+1,i,s,Q,hit,ht,hle,hQ=>by
  have U:i<F.size:=by lia
  show wpAny _ _ (pyNext (.ref it) >>= _) Q E s
  refine Kn (wpAny_pyNext_list_item hit ht (x:=F[i]) (by simp[U]) λh₁ O Y=>?_)
  refine Kn (wpAny_holding (pL W n (i+1) _ _ O (ht.extBut Y.extBut W) (by lia) λh₂ J Z=>Kr ?_))
  have hd:F.toList.drop i=F[i]::F.toList.drop (i+1):=by simp[za7,U]
  have:=hQ h₂ (by rw[show i+(n+1)=i+1+n by lia];exact J) (Y.trans Z)
  rw[hd,Kj]at this
  exact this
theorem lF{t:Addr}{J:LM}{Q:LD->Shared->Prop}(hh:A.handled=none)(Z:s.heap.IsList t J)
  (hQ:∀h',Heap.ExtBut s.heap.objs.size s.heap h'->Q J.toList {s with heap:=h'}):wpAny (model prog w) A (unpackItems (.ref t) J.size none) Q E s:=by
 obtain⟨o,ho,hc,hd⟩:=id Z
 have U:t≠s.heap.objs.size:=xa (wD ho)
 unfold unpackItems;refine Kn ?_
 .unfold notIterableAtAll
  refine Kn (wpAny_specialOf (show s.TypeIs (.ref t) "list" from ⟨o,ho,hc⟩) F.slot_list_iter.lookup ?_)
  refine Kr ?_
  simp only[sZ,if_false]
  refine Kn (wpAny_holding (wpAny_pyIter_list Z ?_))
  refine Kn (wpAny_holding (pL U J.size 0 _ _ ⟨_,yk _ rfl,rfl,rfl⟩ (Heap.IsList.push Z _) (by lia) λh₁ O Y=>?_))
  have W:List.take J.size (List.drop 0 J.toList)=J.toList:=by
   rw[List.drop_zero];exact HI (by simp)
  rw[W];rw[Kt (by simp)]
  have ab:h₁.IsList t J:=(Heap.IsList.push Z _).extBut Y.extBut U
  refine Kn (wpAny_holding (wpAny_pyNext_list_end hh O ab (by simp) λh₂ ac=>?_))
  simp only[Option.isSome_none,sZ,if_false]
  refine Kr (hQ h₂ λb o hb e=>ac b o hb (Y.extBut b o hb (wR _ e)))
theorem k5{env:Env}{J:LL}{x1}{pos:Pos}{t:Addr}{F:LM}{Q:Unit->Shared->Prop}(hh:A.handled=none)(W:s.heap.IsList t F)
  (U:(assignEach J env).length=F.size) (O:(assignEach J env).findIdx? (·.1)=none)
  (h:∀h',Heap.ExtBut s.heap.objs.size s.heap h'->wpAny (model prog w) A (assignInOrder ((assignEach J env).map (·.2)) F.toList) Q E {s with heap:=h'}) :
  wpAny (model prog w) A (assign (.Tuple J x1 pos) env (.ref t)) Q E s:=by
 rw[assign_Tuple];refine Kn (wpAny_standAt ?_)
 unfold unpack;rw[U,O];exact Kn (wpAny_holding (lF hh W h))
end
section
variable{X:Cx}
def IR(K:W.Frag)(n:Nat)(t:gq):TG:=λv σ H Q=>∃a xs,v = .ref a/\su K H a xs/\xs.length=n/\t xs σ H Q
theorem Fk(K:W.Frag)(n:Nat)(t:gq)(v:V){σ:St}{H:Hp}{G:St->Hp->Prop}:IR K n t v σ H G=∃a xs,v = .ref a/\su K H a xs/\xs.length=n/\t xs σ H G:=rfl
theorem Em(K:W.Frag){es:LL}{k n:Nat}{t:gq}{pos:Pos}(h:Km X es t)(O:(assignEach es X.env).length=n:=by rfl)(hst:(assignEach es X.env).findIdx? (·.1)=none:=by rfl)(hK:X.K=K:=by rfl)(hc:X.calm=true:=by rfl):PG X (.Tuple es k pos) (IR K n t):=by
 subst hK;intro pins s σ H v u Q I r F
 obtain⟨a,xs,e1,U,hl,F⟩:=F
 subst e1
 cases r;obtain⟨Z,J,pl,hz⟩:=I.list U
 refine k5 (I.ok.hd hc) pl.isList (by simp[O,<-hl,J.length]) hst λh' hx=>?_
 have Y:Inv X pins σ H {s with heap:=h'}:=I.kept (t':=s.toks) λb o e=>hx b o (xa (wD e)) e
 exact h pins _ σ H xs _ Q Y (by simpa using J) F
end
def cR(n s:Nat):Bool:=n.testBit s
theorem wu(n s:Nat):cR n s=decide (n/2^s%2=1):=Nat.testBit_eq_decide_div_mod_eq
theorem EY(n s:Nat):n &&& 2^s=(if cR n s=true then 2^s else 0):=by
 unfold cR;refine Nat.eq_of_testBit_eq λi=>?_
 rw[Nat.testBit_and,zbi]
 by_cases c:s=i
 .subst c
  cases h:n.testBit s<;>simp
 .rw[decide_eq_false c,Bool.and_false]
  split
  .rw[zbi,decide_eq_false c]
  .rw[Nat.zero_testBit]
def iS(n s:Nat):Nat:=if cR n s=true then n-2^s else n
noncomputable def iF(n s:Nat):Nat:=if cR n s=true then n else n+2^s
theorem pP{n s:Nat}(h:cR n s=true):2^s<=n:=Nat.ge_two_pow_of_testBit h
theorem sy(n s:Nat):n ||| 2^s=iF n s:=by
 unfold iF
 by_cases c:cR n s=true
 .rw[Kx c]
  refine Nat.eq_of_testBit_eq λi=>?_
  rw[Nat.testBit_or,zbi]
  by_cases d:s=i
  .subst d
   have:n.testBit s=true:=c
   rw[this];rfl
  .rw[decide_eq_false d,Bool.or_false]
 .rw[Kt c]
  have O:n/2^s%2=0:=by
   rw[wu,decide_eq_true_eq]at c;lia
  have J:n%2^(s+1)=n%2^s:=by rw[Nat.mod_pow_succ,O];lia
  have F:n%2^(s+1)<2^s:=by rw[J];exact Nat.mod_lt _ (Nat.two_pow_pos s)
  have e:=Nat.div_add_mod n (2^(s+1));generalize n%2^(s+1)=b at F e;generalize n/2^(s+1)=a at e;have p2:2^(s+1)=2^s+2^s:=by rw[Nat.pow_succ];lia
  have h1:=Nat.two_pow_add_eq_or_of_lt (i:=s+1) (b:=b) (by lia) a
  have h2:=Nat.two_pow_add_eq_or_of_lt (i:=s+1) (b:=b+2^s) (by lia) a
  rw[<-e,h1,Nat.or_assoc,Nat.or_two_pow_eq_add_of_lt F,<-h2];lia
theorem hJ(x:Int):Builtin.bitNot (Builtin.bitNot x)=x:=by unfold Builtin.bitNot;lia
theorem mT(n:Nat):decide (0<=Builtin.bitNot (n:Int))=false:=decide_eq_false (by unfold Builtin.bitNot;lia)
theorem uC(n s:Nat):Builtin.bitAnd (n:Int) (Builtin.bitNot ((2^s:Nat):Int))=(iS n s:Int):=by
 unfold Builtin.bitAnd;rw[mT,decide_eq_true (Int.natCast_nonneg n)];show (n:Int)-(((n:Int).toNat &&& (Builtin.bitNot (Builtin.bitNot ((2^s:Nat):Int))).toNat:Nat):Int)=_
 rw[hJ,gE,gE,EY];unfold iS;split
 .rename_i h
  have:=pP h
  lia
 .simp
theorem FD(n s:Nat):Builtin.bitOr (n:Int) ((2^s:Nat):Int)=(iF n s:Int):=by
 unfold Builtin.bitOr Builtin.bitAnd;rw[mT,mT];show Builtin.bitNot (Builtin.bitNot (((Builtin.bitNot (Builtin.bitNot (n:Int))).toNat ||| (Builtin.bitNot (Builtin.bitNot ((2^s:Nat):Int))).toNat:Nat):Int))=_
 rw[hJ,hJ,hJ,gE,gE,sy]
theorem GC(n s:Nat):Builtin.bitAnd ((n:Int)/2^s) 1=if cR n s=true then 1 else 0:=by
 rw[PyProof.Rows.bitAnd_m1,wu];have e:(n:Int)/2^s%2=((n/2^s%2:Nat):Int):=by push_cast;rfl
 rw[e];split
 .rename_i h;rw[of_decide_eq_true h];rfl
 .rename_i h
  rw[decide_eq_true_eq]at h
  have:n/2^s%2=0:=by lia
  rw[this];rfl
end L2
namespace L2
open PySem PySem.Spec PyProof PyProof.Rows
def GR(h:Heap)(d:Addr)(es:Array DictEntry)(ep:Nat):Prop:=∃o,h.get? d=some o/\o.ExactDict/\o.data = .dict es ep
section
variable{prog:Program}{w:World}{A:Around}{E:KY}{s:Shared}{d:Addr}{es:Array DictEntry}{ep:Nat}
theorem GR.ty(x:GR s.heap d es ep):s.TypeIs (.ref d) "dict" := let ⟨o,eo,ex,_⟩:=x;⟨o,eo,ex.1⟩
theorem GR.by{h h':Heap}(x:GR h d es ep)(k:∀o,h.get? d=some o->h'.get? d=some o):GR h' d es ep:=let ⟨o,eo,r⟩:=x;⟨o,k o eo,r⟩
theorem BU{Q:KY}(nd:(d==sysModules)=false)(x:GR s.heap d es ep)
  (q:Q (.ref s.heap.objs.size) {s with heap:=s.heap.push {cls:=.type "dict_keyiterator",data:=.fields #[.ref d,.int 0 0,.int es.size 0,.int ep 0]}}):wpAny (model prog w) A (pyIter (.ref d)) Q E s:=by
 obtain⟨o,J,ex,O⟩:=id x
 have ty:=x.ty;refine wpAny_pyIter_slot ty F.slot_dict_iter (wpAny_call_entry F.slot_dict_iter ty F.entry_dict_iter ?_ (F.args_dict_iter_1 _))
 unfold Builtin.«dict.__iter__» Builtin.Dict.dictSlotNone
 refine Kn (Kn (wpAny_notOrdered_dict ty ?_))
 show wpAny _ _ (pure (Value.ref d)) _ _ s
 refine Kr ?_
 show wpAny _ _ (Builtin.Dict.showsAll d >>= _) _ _ s
 unfold Builtin.Dict.showsAll;rw[Kt (by rw[nd];decide)]
 refine Kn (Kr (Kn (wpAny_dictEntries J O (Kn (wpAny_dictEpoch J O ?_)))))
 refine Kn (wpAny_newObj_type (Kr ⟨_,rfl,"dict_keyiterator",_,⟨_,yk _ rfl,rfl⟩,F.slot_dict_keyiterator_next.lookup,?_⟩))
 simpa [rawInt] using q
theorem Bx{it:Addr}{i:Nat}{Q:LF->Shared->Prop}(Z:s.heap.IsKeyIter it d i es.size ep)(x:GR s.heap d es ep)(hi:i<es.size)
  (q:∀h',h'.IsKeyIter it d (i+1) es.size ep->Heap.SameBut it s.heap h'->Q (some es[i].key) {s with heap:=h'}):wpAny (model prog w) A (pyNext (.ref it)) Q E s:=by
 obtain⟨u,O,uc,J⟩:=id Z
 obtain⟨o,W,ex,Y⟩:=id x
 have ty:=Z.typeIs;unfold pyNext;refine Kn (wpAny_attempt (wpAny_callSpecial?_slot (name:=Str.ofString "__next__") ty zbj (wpAny_call_entry zbj ty F.entry_dict_keyiterator_next ?_ (F.args_dict_keyiterator_next_1 _))))
 refine Kn (Kr (Kn (Kn ?_)))
 refine Kn (wpAny_typeNameOfWhole_keyiter ty (Kr (Kn (wpAny_fieldsOf O J ?_))))
 have ow:Builtin.Dict_items.ownsTuple "dict_keyiterator" = false:=by decide
 simp only[ow,sZ,if_false]
 show wpAny _ _ (if (Value.ref d==Value.none)=true then _ else _) _ _ s
 rw[Kt (show ¬ (Value.ref d==Value.none)=true from λz=>xN z)]
 refine Kn (Kr (Kn (wpAny_dictEntries W Y ?_)))
 rw[Kt (by simp)]
 refine Kn (Kr (Kn (wpAny_dictEpoch W Y ?_)))
 rw[Kt (by simp)]
 refine Kr ?_
 simp only[show ¬ ((i:Int)<0) by lia,if_false,gE,G8 hi]
 refine Kn (Kn (wpAny_typeNameOfWhole_keyiter ty (Kr (Kn (wpAny_isOneOf_keyiter ty ?_)))))
 show wpAny _ _ (setField (.ref it) 1 (rawInt ((i:Int)+1)) >>= _) _ _ s
 refine Kn (wpAny_setField O J (by simp) ?_)
 have U:(s.heap.update it (Obj.mapFields (·.setIfInBounds 1 (rawInt ((i:Int)+1))))).IsKeyIter it d (i+1) es.size ep:=
  ⟨_,HK _ O (zaV (JU J _)),(za6 ..).trans uc,by rw[JU J];simp[rawInt]⟩
 generalize hz:s.heap.update it (Obj.mapFields (·.setIfInBounds 1 (rawInt ((i:Int)+1))))=h2 at U |-;refine Kn (wpAny_holding (Kn (wpAny_isOneOf_keyiter (s:={s with heap:=h2}) U.typeIs ?_)))
 show wpAny _ _ (pure es[i].key) _ _ _
 exact Kr (Kr ⟨_,rfl,Kr (q h2 U (hz ▸ Hi ..))⟩)
theorem EH{it:Addr}{i:Nat}{Q:LF->Shared->Prop}(hh:A.handled=none)(Y:s.heap.IsKeyIter it d i es.size ep)(x:GR s.heap d es ep)(hi:es.size<=i)
  (q:∀h',Heap.ExtBut it s.heap h'->Q none {s with heap:=h'}):wpAny (model prog w) A (pyNext (.ref it)) Q E s:=by
 obtain⟨u,O,uc,W⟩:=id Y
 obtain⟨o,J,ex,U⟩:=id x
 have ty:=Y.typeIs;unfold pyNext;refine Kn (wpAny_attempt (wpAny_callSpecial?_slot (name:=Str.ofString "__next__") ty zbj (wpAny_call_entry zbj ty F.entry_dict_keyiterator_next ?_ (F.args_dict_keyiterator_next_1 _))))
 refine Kn (Kr (Kn (Kn ?_)))
 refine Kn (wpAny_typeNameOfWhole_keyiter ty (Kr (Kn (wpAny_fieldsOf O W ?_))))
 have Z:Builtin.Dict_items.ownsTuple "dict_keyiterator" = false:=by decide
 simp only[Z,sZ,if_false]
 show wpAny _ _ (if (Value.ref d==Value.none)=true then _ else _) _ _ s
 rw[Kt (show ¬ (Value.ref d==Value.none)=true from λz=>xN z)]
 refine Kn (Kr (Kn (wpAny_dictEntries J U ?_)))
 rw[Kt (by simp)]
 refine Kn (Kr (Kn (wpAny_dictEpoch J U ?_)))
 rw[Kt (by simp)]
 refine Kr ?_
 simp only[show ¬ ((i:Int)<0) by lia,if_false,gE,zbw hi]
 refine Kn (Kn (wpAny_typeNameOfWhole_keyiter ty (Kr ?_)))
 show wpAny _ _ (setField (.ref it) 0 .none >>= _) _ _ s
 refine Kn (wpAny_setField O W (by simp) ?_)
 show wpAny _ _ (newExc (.type "StopIteration") [] >>= _) _ _ _
 simp only[newExc,newTuple]
 refine Kn (Kn (wpAny_newObj_type (Kn (m:=firstArgMember _ _) (wpAny_of_eq (a:=Value.none) (by first | rfl | (simp only[firstArgMember];rfl)) ?_)) (by size_fits)))
 refine wpAny_newObj_type ?_ (by size_fits)
 simp only[raiseNew]
 refine Kn (wpAny_handled ?_)
 rw[show A.in1.handled=none from hh];refine Kn (Kr (wpAny_throw ?_))
 refine Kn (wpAny_isInstance (b:=true) (T := "StopIteration") ⟨_,yk _ rfl,rfl⟩ isSubtype_stop ?_)
 exact Kr (q _ (((Hi ..).extBut.push _).push _))
theorem Aa(hh:A.handled=none)(I:Addr)(ne:d≠I):Walks prog w A I [I,d] [I] es.size (λi v=>∃e,es[i]?=some e/\v=e.key) (λi h=>h.IsKeyIter I d i es.size ep/\GR h d es ep) where
 sub:=λb F=>by simp at F;simp[F]
 frame:=λi h h' st k=>⟨let ⟨o,e,r⟩:=st.1;⟨o,k I (by simp) o e,r⟩,st.2.by λo e=>k d (by simp) o e⟩
 item:=λi s Q E hi st q=>Bx st.1 st.2 hi λh' U J=>q _ h' s.toks ⟨_,G8 hi,rfl⟩ ⟨U,st.2.by λo e=>J.extBut d o ne e⟩ λb o F e=>J.extBut b o (λz=>F (by simp[z])) e
 done:=λs Q E st q=>EH hh st.1 st.2 (qt _) λh' O=>q h' s.toks λb o F e=>O b o (λz=>F (by simp[z])) e
 self:=λi s Q E st q=>wpAny_pyIter_keyiter st.1 q
theorem EZ(nd:(d==sysModules)=false):W.KdlSrc prog w "dict" d d es.size (λi v=>∃e,es[i]?=some e/\v=e.key) (λh=>GR h d es ep) where
 type:=λ_ x=>x.ty
 there:=λ_ x=>let ⟨_,e,_⟩:=x;⟨wD e,wD e⟩
 keep:=λ_ _ x k=>x.by λo e=>k d (.inl rfl) o e
 notList:=by decide
 notTuple:=by decide
 hint:=λ_ _ _ _ x q=>W.kdl_hint_dict x.ty q
 iter:=λ_ s hh x=>⟨_,_,λ_ _ q=>BU nd x q,Aa hh _ (let ⟨_,e,_⟩:=x;xa (wD e)),⟨_,yk _ rfl,rfl,rfl⟩,x.by λo e=>wR _ e⟩
end
section
variable{X:Cx}
theorem Ep{H:Hp}{kvs:List (List aL×V)}{ys:List (List aL×Addr×Value)}(h:Paired (λ(p:List aL×V) (q:List aL×Addr×Value)=>p.1=q.1/\H q.2.1=some (.tup (p.1.map kV))/\RelV p.2 q.2.2) kvs ys):Paired (λ(p:List aL×V) b=>H b=some (.tup (p.1.map kV))) kvs (ys.map (·.2.1)):=by
 induction h with
 | nil=>exact .nil
 | cons a b ih=>exact .cons a.2.1 ih
end
end L2
namespace L2
open PySem
noncomputable def adv(mask:Nat)(p:SetTable.Probe):SetTable.Probe:=
 if p.more>0 then {p with j:=p.j+1,more:=p.more-1} else
 {p with j:=(p.i*5+1+p.perturb/32)%(mask+1),more:=SetTable.runEnd mask ((p.i*5+1+p.perturb/32)%(mask+1))-(p.i*5+1+p.perturb/32)%(mask+1),i:=(p.i*5+1+p.perturb/32)%(mask+1),perturb:=p.perturb/32}
end L2
namespace L2
open PySem PySem.Spec PyProof.Rows PySem.SeqAt
section
variable{prog:Program}{w:World}{K:Type}[DecidableEq K]{knd:KeyKind prog w K}{A:Around}{E:KY}{s:Shared}{P:Addr->Prop}
theorem rJ{ks:List K}{a:Addr}{Q:Bool->Shared->Prop}(hk:IsTupleKey knd s.heap ks a)(W:∀k v,knd.is k v=true->v.scannable=true)(h:∀b,Q b s):wpAny (model prog w) A (hashByValue 8 (.ref a)) Q E s:=by
 have hT:=hk.typeIs;obtain⟨o,J,n,Z,_,hd,hi⟩:=hk
 unfold hashByValue;refine Kn (wpAny_specialOf hT F.slot_tuple_hash.lookup ?_)
 dsimp only
 refine Kn (wpAny_seqItems Z hd ?_)
 refine Kn ?_
 show wpAny _ _ (forIn J _ _) _ _ s
 rw[<-Array.forIn_toList]
 have O:∀v∈J.toList,v.scannable=true:=by
  intro v hv
  clear Z hd;generalize J.toList=l at hi hv
  induction hi with
  | nil=>cases hv
  | cons q _ ih=>
   rcases KC.mp hv with rfl | z
   .exact W _ _ q
   .exact ih z
 refine wpAny_forIn_list _ (λBG r s'=>r.1=none/\s'=s/\∀v∈BG,v.scannable=true) _ ?_ ?_ _ _ ⟨rfl,rfl,O⟩
 .rintro v BG r s' ⟨Y,rfl,O⟩
  rw[hashByValue_scannable _ (O v yb)];refine Kn (Kr ?_)
  cases plainKind v with
  | true=>
   simp only[zaT,sZ,if_false]
   exact Kr ⟨rfl,rfl,λu U=>O u (yc _ U)⟩
  | false=>
   simp only[Bool.not_false,if_true]
   exact Kr (Kr (h false))
 .rintro⟨r1,r2⟩ s' ⟨Y,rfl,_⟩
  simp only at Y
  subst Y;exact Kr (h true)
end
section
variable{prog:Program}{w:World}{K:Type}[DecidableEq K]{knd:KeyKind prog w K}{A:Around}{E:KY}{s:Shared}{L:Bool}{P:Addr->Prop}
theorem lO{h h':Heap}{a q:Addr}{k:List K}{o:Obj}{es:Array (Int×Value)}{ep:Nat}{t:SetTable}(U:h.get? a=some o)(hd:o.data = .set es ep t)(W:Heap.SameBut a h h')(Z:IsTupleKey knd h k q):IsTupleKey knd h' k q:=by
 obtain⟨o1,F,n,h1,h2,O,Y⟩:=Z
 have J:q≠a:=by
  rintro rfl
  rw[h1]at U;obtain rfl:=Option.some.inj U
  rw[O]at hd;cases hd
 exact⟨o1,F,n,by rw[W.2 q J];exact h1,h2,O,Y⟩
end
variable{st:SortSt}{i m ia ib na nb:Nat}{α β:Type}{a b out:Array Keyed}
theorem yt(k:Int)(v:Value)(h:Value.isInt k v=true):v.scannable=true:=by obtain⟨t,rfl⟩:=J8 h;rfl
theorem sf{prog:Program}{w:World}{h h':Heap}{k:LJ}{q:Addr}(x:IsTupleKey (intKind prog w) h k q)(e:∀o,h.get? q=some o->h'.get? q=some o):IsTupleKey (intKind prog w) h' k q:=by
 obtain⟨o,F,n,J,r⟩:=x
 exact⟨o,F,n,e o J,r⟩
def Ph(w:World)(h:Heap)(a:Addr)(qs:LC):Prop:=∃o es ep t,h.get? a=some o/\o.ExactSet/\o.data = .set es ep t/\es.size<scanBound/\t.fits es.size=true/\cw (cF w) t/\es.toList.map (·.2)=qs.map Value.ref
def iM(w:World)(a:Addr)(qs:LC):HO:=.ext λh=>Ph w h a qs
theorem qp(prog:Program)(w:World):∀ {vs:LD} {ns:LJ},IntsAre vs ns->ItemsAre (intKind prog w) ns vs
 | _,_,.nil=>.nil
 | _,_,.cons n t h=>.cons (by show Value.isInt n (.int n t)=true;simp[Value.isInt]) (qp prog w h)
section
variable{X:Cx}
theorem Inv.tupK{pins:List (Addr×Obj)}{s:Shared}{σ:St}{H:Hp}(I:Inv X pins σ H s){q:Addr}{ns:LJ}(h:vr X.K H q (ns.map V.int)):IsTupleKey (intKind X.prog X.w) s.heap ns q:=by
 obtain⟨F,J,⟨o,e,c,n,d⟩,hz⟩:=I.tuple h
 exact⟨o,F.toArray,n,e,c,d,qp _ _ (by simpa using jJ J)⟩
end
noncomputable def AX:LJ->LJ->Bool
 | [],[]=>false
 | [],_::_=>true
 | _::_,[]=>false
 | a::x,b::y=>if a=b then AX x y else decide (a<b)
section
variable{prog:Program}{w:World}{A:Around}{E:KY}{s:Shared}
theorem pR(b:Bool)(x y:Value):keyLt' (tuples' b) x y=(do
  let xs <-Builtin.List.listItems x
  let ys <-Builtin.List.listItems y
  for ((p,q),i) in (xs.toList.zip ys.toList).zipIdx do
   if !(<-eqBool p q) then return <-oneLt' (b&&i==0) p q
  return decide (xs.size<ys.size)):=rfl
theorem rcLt_int{a b:Int}{t u:Tok}{Q:KY}(h:Q (.bool (decide (a<b))) s):wpAny (model prog w) A (richCompare .Lt (.int a t) (.int b u)) Q E s:=by
 exact HT.rcLt_int A s a t b u prog w E Q h
theorem xD{c:Bool}{a b:Int}{t u:Tok}{Q:Bool->Shared->Prop}(h:Q (decide (a<b)) s):wpAny (model prog w) A (oneLt' c (.int a t) (.int b u)) Q E s:=by
 cases c with
 | true=>exact oneLt_int h
 | false=>
  rw[oneLt'_eq];simp only[sZ,if_false]
  exact Kn (rcLt_int (wpAny_truthy_bool h))
theorem zN{b:Bool}:∀ {x y:LJ} {J vs:LD} (i1:ItemsAre (intKind prog w) x J) (i2:ItemsAre (intKind prog w) y vs) (k:Nat),
  wpAny (model prog w) A (forIn ((J.zip vs).zipIdx k) ((none,()):Option Bool×Unit) λx (O:Option Bool×Unit)=>
      match x with
      | ((p,q),i)=>do
       let __do_lift <-eqBool p q
       if (!__do_lift)=true then do
         let __do_lift <-oneLt' (b&&i==0) p q
         pure (ForInStep.done (some __do_lift,()))
        else pure (ForInStep.yield (none,()))) (λr s'=>s'=s/\(r.1=some (AX x y)\/(r.1=none/\AX x y=decide (x.length<y.length)))) E s:=by
 intro x y J vs i1
 induction i1 generalizing y vs with
 | nil=>
  intro i2 k
  rw[List.zip_nil_left,List.zipIdx_nil,List.forIn_nil]
  cases i2<;>exact Kr ⟨rfl,.inr ⟨rfl,rfl⟩⟩
 | @cons m _ x _ h1 i1 ih=>
  intro i2 k
  cases i2 with
  | nil=>
   rw[List.zip_nil_right,List.zipIdx_nil,List.forIn_nil];exact Kr ⟨rfl,.inr ⟨rfl,rfl⟩⟩
  | @cons n _ y _ h2 i2=>
   obtain⟨t,rfl⟩:=J8 h1
   obtain⟨u,rfl⟩:=J8 h2
   rw[zbc,zbg,List.forIn_cons];refine Kn ?_
   dsimp only
   refine Kn (wpAny_eqBool_int ?_)
   unfold AX
   by_cases e:m=n
   .subst e
    rw[Kx rfl,Kt (by simp)]
    refine Kr ?_
    refine wpAny_mono (ih i2 (k+1)) (λr s' F=>?_) λ_ _ e=>e
    obtain⟨rfl,F | ⟨F,e⟩⟩:=F
    .exact⟨rfl,.inl F⟩
    .refine⟨rfl,.inr ⟨F,?_⟩⟩
     rw[e,qY,qY];exact decide_eq_decide.mpr (by lia)
   .rw[Kt e,Kx (by simpa using e)]
    refine Kn (xD ?_)
    refine Kr ?_
    exact Kr ⟨rfl,.inl rfl⟩
theorem xw{b:Bool}{x y:LJ}{p q:Addr}{Q:Bool->Shared->Prop}(hx:IsTupleKey (intKind prog w) s.heap x p)(Y:IsTupleKey (intKind prog w) s.heap y q)(h:Q (AX x y) s) :
  wpAny (model prog w) A (keyLt' (tuples' b) (.ref p) (.ref q)) Q E s:=by
 obtain⟨o1,xs,n1,J,c1,W,i1⟩:=hx
 obtain⟨o2,ys,Z,U,c2,O,i2⟩:=Y
 rw[pR];refine Kn (listItems_at J W ?_)
 refine Kn (listItems_at U O ?_)
 have hsz:decide (xs.size<ys.size)=decide (x.length<y.length):=by
  rw[i1.length,i2.length,nX,nX]
 rw[hsz];clear J U W O hsz;generalize xs.toList=us at i1 |-;generalize ys.toList=vs at i2 |-;refine Kn (wpAny_mono (zN (b:=b) i1 i2 0) (λr s' F=>?_) λ_ _ e=>e)
 obtain⟨rfl,F | ⟨F,e⟩⟩:=F
 .dsimp only;rw[F];exact wpAny_pure h
 .dsimp only;rw[F,<-e];exact wpAny_pure h
end
section
variable{prog:Program}{w:World}{A:Around}{E:KY}{s:Shared}
theorem wN{α β : Type}(f:α->Sem β)(g:α->β):∀(l:List α),(∀a∈l,∀Q:β->Shared->Prop,Q (g a) s->wpAny (model prog w) A (f a) Q E s)->∀Q:List β->Shared->Prop,Q (l.map g) s->wpAny (model prog w) A (l.mapM f) Q E s
 | [],_,Q,h=>by rw[List.mapM_nil];exact Kr h
 | a::l,hf,Q,h=>by
  rw[List.mapM_cons];refine Kn (hf a yb _ ?_)
  refine Kn (wN f g l (λb F=>hf b (yc _ F)) _ ?_)
  exact Kr h
theorem uH(v:Value):firstOfTuple' v=(do
  if (<-typeOf v) != .type "tuple" then return none
  return (<-Builtin.List.listItems v)[0]?):=rfl
theorem Jz{O:LC}{κ:Addr->LJ}{Q:SortKind->Shared->Prop}(hT:∀q∈O,IsTupleKey (intKind prog w) s.heap (κ q) q/\κ q≠[])(h:∀b,Q (tuples' b) s):wpAny (model prog w) A (keyKind' (O.map Value.ref).toArray) Q E s:=by
 have F:∀v∈O.map Value.ref,∃n t,∀Q:LF->Shared->Prop,Q (some (.int n t)) s->wpAny (model prog w) A (firstOfTuple' v) Q E s:=by
  intro v hv
  obtain⟨q,hq,rfl⟩:=KB.mp hv
  obtain⟨hk,W⟩:=hT q hq
  have Z:=hk.typeIs;obtain⟨o,J,n,ho,hc,hd,hi⟩:=hk
  have:∃n t,J[0]?=some (.int n t):=by
   rw[<-Ib]
   revert hi W
   generalize κ q=ks
   generalize J.toList=l
   intro W hi
   cases hi with
   | nil=>exact absurd rfl W
   | cons h1 _=>obtain⟨t,rfl⟩:=J8 h1;exact⟨_,t,rfl⟩
  obtain⟨m,t,e⟩:=this
  refine⟨m,t,λQ h=>?_⟩
  rw[uH];refine Kn (wpAny_typeOf Z ?_)
  simp only[bne_self_eq_false,sZ,if_false]
  refine Kn (listItems_at ho hd ?_)
  rw[e];exact Kr h
 classical
 let g:Value->LF:=λv=>if hv:v∈O.map Value.ref then some (.int (Classical.choose (F v hv)) (Classical.choose (zbk (F v hv)))) else none
 have hg:∀v∈O.map Value.ref,∀Q:LF->Shared->Prop,Q (g v) s->wpAny (model prog w) A (firstOfTuple' v) Q E s:=λv hv Q h=>by
  refine zbk (zbk (F v hv)) Q ?_
  have:g v=some (.int (Classical.choose (F v hv)) (Classical.choose (zbk (F v hv)))):=dif_pos hv
  rw[<-this];exact h
 have U:∀v∈O.map Value.ref,∃n t,g v=some (.int n t):=λv hv=>⟨_,_,dif_pos hv⟩
 generalize g=g at hg U;rw[keyKind'_eq,List.mapM_toArray];refine Kn ?_
 rw[map_eq_pure_bind];refine Kn (wN _ g _ hg _ (Kr ?_))
 have Y:((O.map Value.ref).map g).toArray.all (·.isSome)=true:=by
  rw[List.all_toArray,zbu];intro x hx
  obtain⟨v,hv,rfl⟩:=KB.mp hx
  obtain⟨n,t,e⟩:=U v hv
  rw[e];rfl
 rw[Kx Y];refine Kn (wpAny_rule ?_)
 rw[oneTypeOnly'_eq];have ab:((O.map Value.ref).map g).toArray.filterMap id=(((O.map Value.ref).map g).filterMap id).toArray:=by simp
 rw[ab,List.mapM_toArray];refine Kn ?_
 refine Kn ?_
 rw[map_eq_pure_bind];refine Kn (wN _ (λ_=>Value.type "int") _ (λv hv Q h=>?_) _ (Kr ?_))
 .obtain⟨x,hx,e⟩:=KN.mp hv
  obtain⟨u,hu,rfl⟩:=KB.mp hx
  obtain⟨n,t,e2⟩:=U u hu
  rw[e2]at e
  obtain rfl:=Option.some.inj e
  exact wpAny_typeOf (typeIs_int s n t) h
 .split
  .exact Kr (Kr (h _))
  .exact Kr (Kr (h _))
noncomputable def iU(p:Keyed):Addr:=match p.2 with
 | .ref q=>q
 | _=>0
theorem kr{F:LC}{p:Keyed}(h:p∈(pairsOf (F.map Value.ref)).toList):iU p∈F/\p=(.ref (iU p),.ref (iU p)):=by
 rw[pairsOf_toList,List.zip_map,KB]at h
 obtain⟨⟨a,b⟩,J,rfl⟩:=h
 have e:a=b:=by
  have:∀(l:LC),(a,b)∈l.zip l->a=b:=by
   intro l
   induction l with
   | nil=>intro h;cases h
   | cons x l ih=>
    intro h
    rw[zbc]at h
    rcases KC.mp h with z | z
    .injection z with z1 z2;rw[z1,z2]
    .exact ih z
  exact this F J
 subst e;exact⟨(List.of_mem_zip J).1,rfl⟩
theorem AA(F:LC):(pairsOf (F.map Value.ref)).toList.map iU=F:=by
 rw[pairsOf_toList]
 induction F with
 | nil=>rfl
 | cons q F ih=>rw[yj,zbc,yj,ih];rfl
end
theorem kD:∀(F:LC),A1 (F.map V.ref) (F.map Value.ref)
 | []=>.nil
 | q::F=>.cons rfl (kD F)
section
variable{prog:Program}{w:World}{A:Around}{E:KY}{s:Shared}{kd:SortKind}{a0:Array Keyed}
def j1(prog:Program)(w:World)(s:Shared)(kd:SortKind)(a0:Array Keyed):Prop:=
 ∀(A:Around) (E:KY) (x y:Keyed) (Q:Bool->Shared->Prop),x∈a0.toList->y∈a0.toList->(∀b,Q b s)->wpAny (model prog w) A (keyLt' kd x.1 y.1) Q E s
structure iu (kd:SortKind) (a0:Array Keyed) (st:SortSt):Prop where
 perm:(arrOf st).Perm a0
 kind:kindOf st=kd
 fail:failedOf st=none
theorem jd(F:j1 prog w s kd a0){x y:Keyed}{Q:Option Bool->SortSt->Prop}(J:kindOf st=kd)(hx:x∈a0.toList)(U:y∈a0.toList)(O:∀b,Q (some b) st):wpS (model prog w) A E s (lt' x y) Q st:=by
 rw[lt'_eq];refine wpS_bind (wpS_get ?_)
 rw[J];refine wpS_bind (wpS_lift (wpAny_attempt (F _ _ _ _ _ hx U λb=>⟨rfl,?_⟩)))
 exact wpS_pure (O b)
theorem dO{arr:Array Keyed}{Q:Keyed->SortSt->Prop}(h:i<arr.size)(F:Q arr[i] st):wpS (model prog w) A E s (elem' arr i) Q st:=by
 rw[elem'_eq,G8 h];exact wpS_pure F
def Dh(prog:Program)(w:World)(A:Around)(E:KY)(s:Shared)(kd:SortKind)(a0:Array Keyed)(G:Bool->Keyed->Array Keyed->Nat->Nat->Nat->StateT SortSt Sem LG):Prop:=
 ∀(left:Bool) (key:Keyed) (arr:Array Keyed) (base n hint:Nat) (Q:LG->SortSt->Prop) (st:SortSt),key∈a0.toList->(∀x∈arr.toList,x∈a0.toList)->base+n<=arr.size->hint<n->kindOf st=kd->(∀k,k<=n->Q (some k) st)->wpS (model prog w) A E s (G left key arr base n hint) Q st
theorem BD{F:SortSt}{Q:PUnit->SortSt->Prop}(h:Q ⟨⟩ F):wpS (model prog w) A E s (set F) Q st:=wpS_modify (f:=λ_=>F) h
structure Gn (st st':SortSt):Prop where
 kind:kindOf st'=kindOf st
 arr:arrOf st'=arrOf st
 pend:pendingOf st'=pendingOf st
 fail:failedOf st'=failedOf st
theorem Gn.rfl'(st:SortSt):Gn st st:=⟨rfl,rfl,rfl,rfl⟩
theorem Gn.trans{a b c:SortSt}(h:Gn a b)(g:Gn b c):Gn a c:=⟨g.1.trans h.1,g.2.trans h.2,g.3.trans h.3,g.4.trans h.4⟩
def Ju(prog:Program)(w:World)(A:Around)(E:KY)(s:Shared)(kd:SortKind)(a0:Array Keyed)(F:Array Keyed->Array Keyed->StateT SortSt Sem (Array Keyed)):Prop:=
 ∀(a b:Array Keyed) (Q:Array Keyed->SortSt->Prop) (st:SortSt),(∀x∈a.toList,x∈a0.toList)->(∀x∈b.toList,x∈a0.toList)->0<a.size->0<b.size->kindOf st=kd->(∀out st',out.toList.Perm (a.toList++b.toList)->Gn st st'->Q out st')->wpS (model prog w) A E s (F a b) Q st
theorem ya(p q r t:List α):((p++q)++(r++t)).Perm ((p++r)++(q++t)):=by
 rw[n6,n6];exact(List.perm_append_left_iff p).mpr (by rw[<-n6,<-n6];exact List.perm_append_comm.append_right t)
theorem Bp{o p q m:List α}(h:o.Perm (p++q)):(o++m).Perm ((p++m)++q):=by
 refine(h.append_right m).trans ?_
 have:=ya p q m []
 simpa using this
theorem CW{o p q m:List α}(h:o.Perm (p++q)):(o++m).Perm (p++(q++m)):=by
 rw[<-n6];exact h.append_right m
theorem DY{α:Type}(o:Nat):∀(l:List α) (n:Nat) (arr:Array α),o+n+l.length<=arr.size->((l.zipIdx n).foldl (λa x=>a.setIfInBounds (o+x.2) x.1) arr).toList=arr.toList.take (o+n)++l++arr.toList.drop (o+n+l.length)
 | [],n,arr,h=>by simp
 | x::l,n,arr,h=>by
  rw[zbg,zaX,DY o l (n+1) _ (by simp at h |-;lia)]
  have F:o+n<arr.toList.length:=by simp at h |-;lia
  rw[Array.toList_setIfInBounds,List.drop_set_of_lt (by lia),show o+(n+1)=o+n+1 by lia,List.take_set,qY]
  have e:(arr.toList.take (o+n+1)).set (o+n) x=arr.toList.take (o+n)++[x]:=by
   rw[J6 F,List.set_append_right _ _ (by simp;lia)]
   simp
   rw[show o+n-min (o+n) arr.size=0 by simp at F;lia];rfl
  rw[e];simp[show o+n+1+l.length=o+n+(l.length+1) by lia]
theorem wB{arr:Array Keyed}{l:List Keyed}{o:Nat}(h:o+l.length<=arr.size)(F:l.Perm ((arr.toList.drop o).take l.length)):((l.zipIdx 0).foldl (λa x=>a.setIfInBounds (o+x.2) x.1) arr).Perm arr:=by
 rw[KG,DY o l 0 arr (by lia)]
 refine((F.append_left _).append_right _).trans ?_
 rw[Nat.add_zero,<-List.drop_drop,n6,IV,IV]
theorem cC{c:Prop}[Decidable c]{F J:StateT SortSt Sem β}{Q:β->SortSt->Prop}{st:SortSt}(h1:wpS (model prog w) A E s F Q st)(h2:wpS (model prog w) A E s J Q st):wpS (model prog w) A E s (if c then F else J) Q st:=by
 by_cases h:c
 .rw[Kx h];exact h1
 .rw[Kt h];exact h2
def sP(a b out:Array Keyed)(ia ib:Nat):Prop:=out.toList.Perm (a.toList.take ia++b.toList.take ib)/\ia+1<a.size/\ib<b.size
theorem fe(a:Array Keyed)(i j:Nat):(a.extract i j).toList=(a.toList.drop i).take (j-i):=by simp[List.extract_eq_drop_take]
theorem v8(a:Array Keyed)(i:Nat):(a.extract i).toList=a.toList.drop i:=by
 rw[fe,HI (by simp)]
theorem lI(l:List α)(i k:Nat):l.take (i+k)=l.take i++(l.drop i).take k:=by rw[List.take_add]
theorem nN(h:out.toList.Perm (a.toList.take ia++b.toList.take ib)):(out++a.extract ia++b.extract ib).toList.Perm (a.toList++b.toList):=by
 rw[tR,tR,v8,v8,n6];refine(h.append_right _).trans ((ya _ _ _ _).trans ?_)
 rw[IV,IV]
theorem xL(h:out.toList.Perm (a.toList.take ia++b.toList.take ib)):(out++b.extract ib++a.extract ia).toList.Perm (a.toList++b.toList):=by
 refine List.Perm.trans ?_ (nN h)
 rw[tR,tR,tR,tR,n6,n6];exact List.perm_append_comm.append_left _
theorem D6(h:out.toList.Perm (a.toList.take ia++b.toList.take ib))(hi:ia<a.size):(out.push a[ia]).toList.Perm (a.toList.take (ia+1)++b.toList.take ib):=by
 rw[Ke,J6 (by simpa using hi)]
 exact Bp h
theorem yA(h:out.toList.Perm (a.toList.take ia++b.toList.take ib))(hi:ib<b.size):(out.push b[ib]).toList.Perm (a.toList.take ia++b.toList.take (ib+1)):=by
 rw[Ke,J6 (by simpa using hi)]
 exact CW h
theorem MX(k:Nat)(h:out.toList.Perm (a.toList.take ia++b.toList.take ib)):(out++a.extract ia (ia+k)).toList.Perm (a.toList.take (ia+k)++b.toList.take ib):=by
 rw[tR,fe,lI,zbl];exact Bp h
theorem IW(k:Nat)(h:out.toList.Perm (a.toList.take ia++b.toList.take ib)):(out++b.extract ib (ib+k)).toList.Perm (a.toList.take ia++b.toList.take (ib+k)):=by
 rw[tR,fe,lI,zbl];exact CW h
def qR(a b out:Array Keyed)(na nb:Nat):Prop:=out.toList.Perm (a.toList.drop na++b.toList.drop nb)/\0<na/\1<nb/\na<=a.size/\nb<=b.size
theorem v3(a:Array Keyed)(i:Nat):(a.extract 0 i).toList=a.toList.take i:=by rw[fe];rfl
theorem nO(h:out.toList.Perm (a.toList.drop na++b.toList.drop nb)):(a.extract 0 na++b.extract 0 nb++out.reverse).toList.Perm (a.toList++b.toList):=by
 rw[tR,tR,v3,v3,Array.toList_reverse];refine(((List.reverse_perm _).trans h).append_left _).trans ((ya _ _ _ _).trans ?_)
 rw[IV,IV]
theorem xT(h:out.toList.Perm (a.toList.drop na++b.toList.drop nb)):(b.extract 0 nb++a.extract 0 na++out.reverse).toList.Perm (a.toList++b.toList):=by
 refine List.Perm.trans ?_ (nO h)
 rw[tR,tR,tR,tR];exact List.perm_append_comm.append_right _
theorem FR{o p q m m':List α}(h:o.Perm (p++q))(e:m'.Perm m):(o++m').Perm ((m++p)++q):=(Bp h).trans (((e.append_left p).trans List.perm_append_comm).append_right q)
theorem Gq{o p q m m':List α}(h:o.Perm (p++q))(e:m'.Perm m):(o++m').Perm (p++(m++q)):=(CW h).trans (((e.append_left q).trans List.perm_append_comm).append_left p)
theorem wV(h:out.toList.Perm (a.toList.drop na++b.toList.drop nb))(F:0<na)(hi:na-1<a.size):(out.push a[na-1]).toList.Perm (a.toList.drop (na-1)++b.toList.drop nb):=by
 have e:a.toList.drop (na-1)=[a[na-1]]++a.toList.drop na:=by rw[za7 (by simpa using hi),show na-1+1=na by lia];rfl
 rw[Ke,e];exact FR h (.refl _)
theorem Ef(h:out.toList.Perm (a.toList.drop na++b.toList.drop nb))(F:0<nb)(hi:nb-1<b.size):(out.push b[nb-1]).toList.Perm (a.toList.drop na++b.toList.drop (nb-1)):=by
 have e:b.toList.drop (nb-1)=[b[nb-1]]++b.toList.drop nb:=by rw[za7 (by simpa using hi),show nb-1+1=nb by lia];rfl
 rw[Ke,e];exact Gq h (.refl _)
theorem sT(l:List α){j:Nat}(h:i<=j):l.drop i=(l.drop i).take (j-i)++l.drop j:=by
 have:=(IV (j-i) (l.drop i)).symm
 rw[List.drop_drop,show i+(j-i)=j by lia]at this
 exact this
theorem OI{k:Nat}(h:out.toList.Perm (a.toList.drop na++b.toList.drop nb))(F:k<=na):(out++(a.extract k na).reverse).toList.Perm (a.toList.drop k++b.toList.drop nb):=by
 rw[tR,Array.toList_reverse,fe];refine(FR h (List.reverse_perm _)).trans ?_
 rw[<-sT a.toList F]
theorem Lu{k:Nat}(h:out.toList.Perm (a.toList.drop na++b.toList.drop nb))(F:k<=nb):(out++(b.extract k nb).reverse).toList.Perm (a.toList.drop na++b.toList.drop k):=by
 rw[tR,Array.toList_reverse,fe];refine(Gq h (List.reverse_perm _)).trans ?_
 rw[<-sT b.toList F]
theorem ic{G:Bool->Keyed->Array Keyed->Nat->Nat->Nat->StateT SortSt Sem LG}{f:LG->StateT SortSt Sem β}{left:Bool}{F:Keyed}{arr:Array Keyed}{base n hint:Nat}{Q:β->SortSt->Prop}(J:Dh prog w A E s kd a0 G)(h1:F∈a0.toList)(h2:∀x∈arr.toList,x∈a0.toList)(O:base+n<=arr.size)(U:hint<n)(Y:kindOf st=kd)
  (r:Dh prog w A E s kd a0 G->∀k,k<=n->wpS (model prog w) A E s (f (some k)) Q st):wpS (model prog w) A E s (G left F arr base n hint >>= f) Q st:=
 wpS_bind (J left F arr base n hint _ st h1 h2 O U Y λk W=>r J k W)
theorem uZ{F:Array Keyed->Array Keyed->StateT SortSt Sem (Array Keyed)}{f:Array Keyed->StateT SortSt Sem β}{Q:β->SortSt->Prop}(m:Ju prog w A E s kd a0 F)(h1:∀x∈a.toList,x∈a0.toList)(h2:∀x∈b.toList,x∈a0.toList)(O:0<a.size)(J:0<b.size)(U:kindOf st=kd)
  (r:∀out st',out.toList.Perm (a.toList++b.toList)->Gn st st'->wpS (model prog w) A E s (f out) Q st'):wpS (model prog w) A E s (F a b >>= f) Q st:=
 wpS_bind (m a b _ st h1 h2 O J U r)
theorem uj{c:Prop}[Decidable c]{F J:StateT SortSt Sem β}{Q:β->SortSt->Prop}{st:SortSt}(h1:c->wpS (model prog w) A E s F Q st)(h2:¬ c->wpS (model prog w) A E s J Q st):wpS (model prog w) A E s (if c then F else J) Q st:=by
 by_cases h:c
 .rw[Kx h];exact h1 h
 .rw[Kt h];exact h2 h
theorem dL{x y:Nat}{F J:StateT SortSt Sem β}{Q:β->SortSt->Prop}(h1:x=y->wpS (model prog w) A E s F Q st)(h2:¬ x=y->wpS (model prog w) A E s J Q st):wpS (model prog w) A E s (if (x==y)=true then F else J) Q st:=
 uj (λh=>h1 (by simpa using h)) λh=>h2 (by simpa using h)
theorem DM{P:α->SortSt->Prop}{K:α->StateT SortSt Sem β}{m:StateT SortSt Sem β}{Q:β->SortSt->Prop}(h2:(∀x st',P x st'->wpS (model prog w) A E s (K x) Q st')->wpS (model prog w) A E s m Q st)(h1:∀x st',P x st'->wpS (model prog w) A E s (K x) Q st'):wpS (model prog w) A E s m Q st:=h2 h1
theorem qd{γ: Type}{P:α->γ->Prop}{K:α->γ->StateT SortSt Sem β}{m:StateT SortSt Sem β}{Q:β->SortSt->Prop}(h2:(∀x y,P x y->wpS (model prog w) A E s (K x y) Q st)->wpS (model prog w) A E s m Q st)(h1:∀x y,P x y->wpS (model prog w) A E s (K x y) Q st):wpS (model prog w) A E s m Q st:=h2 h1
theorem Gh(hC:j1 prog w s kd a0){sa p sb p2:Nat}(h:iu kd a0 st)(h1:(pendingOf st)[i]?=some (sa,na,p))(h2:(pendingOf st)[i+1]?=some (sb,nb,p2))(b3:sb=sa+na)(a9:0<na)(b0:0<nb)(hsz:sb+nb<=a0.size){Q:Bool->SortSt->Prop}
  (hq:∀F,iu kd a0 F->pendingOf F=((pendingOf st).setIfInBounds i (sa,na+nb,p)).eraseIdxIfInBounds (i+1)->Q true F):wpS (model prog w) A E s (mergeAt' i) Q st:=by
 have hs:(arrOf st).size=a0.size:=h.perm.size_eq
 have O:∀x∈(arrOf st).toList,x∈a0.toList:=λx hx=>(KG.mp h.perm).mem_iff.mp hx
 have a8:∀j (hj:j<(arrOf st).size),(arrOf st)[j]∈a0.toList:=λj hj=>O _ (td hj)
 refine wpS_bind (wpS_get ?_)
 rw[h1,h2];refine wpS_bind (BD ?_)
 refine wpS_bind (dO (arr:=arrOf st) (by lia) ?_)
 refine ic (arr:=arrOf st) (base:=sa) (n:=na) (hint:=0) ?gal (a8 _ _) O (by lia) a9 h.kind λa6 k hk=>?_
 .clear a8 O hs hq hsz b0 a9 b3 h2 h1 h
  intro left cq arr base n hint Q J hk O h3 h4 h5 hq
  have c4:∀i,i<n->∀x,arr[base+i]?=some x->x∈a0.toList:=λi hi x hx=>O x (KJ.mpr (Array.mem_of_getElem? hx))
  refine wpS_bind (wpS_mono (Q:=λr F=>J=F/\∃b:Bool,r=some b) ?_ ?_)
  .exact wpS_bind (dO (arr:=arr) (by lia) (cC (jd hC h5 (O _ (td _)) hk λb=>⟨rfl,b,rfl⟩) (wpS_bind (jd hC h5 hk (O _ (td _)) λb=>wpS_pure ⟨rfl,!b,rfl⟩))))
  rintro r F ⟨rfl,b,rfl⟩
  dsimp only
  by_cases c0:b=true
  .rw[Kx c0]
   refine wpS_bind (wpS_mono (wpS_forRange (I:=λx c F=>J=F/\∃l o,c=(none,l,o)/\hint+l<n) (Q:=λc F=>J=F/\∃l o,c=(none,l,o)/\hint+l<n) ?_ (λ_ _ z=>z) ⟨rfl,0,1,rfl,by lia⟩) ?_)
   .rintro x c F _ hx ⟨rfl,l,o,rfl,hl⟩
    refine uj (λ_=>wpS_pure ⟨rfl,l,o,rfl,hl⟩) λc1=>?_
    refine wpS_bind (wpS_mono (Q:=λr W=>J=W/\∃b:Bool,r=some b) ?_ ?_)
    .exact wpS_bind (dO (arr:=arr) (by lia) (cC (jd hC h5 (O _ (td _)) hk λb=>⟨rfl,b,rfl⟩) (wpS_bind (jd hC h5 hk (O _ (td _)) λb=>wpS_pure ⟨rfl,!b,rfl⟩))))
    rintro r W ⟨rfl,b,rfl⟩
    exact cC (wpS_pure ⟨rfl,l,o,rfl,hl⟩) (wpS_pure ⟨rfl,_,_,rfl,by lia⟩)
   rintro c F ⟨rfl,l,o,rfl,hl⟩
   refine wpS_bind (wpS_mono (wpS_forRange (I:=λx c F=>J=F/\∃l o,c=(none,l,o)/\o<=n) (Q:=λc F=>J=F/\∃l o,c=(none,l,o)/\o<=n) ?_ (λ_ _ z=>z) ⟨rfl,_,_,rfl,by lia⟩) ?_)
   .rintro x c F _ hx ⟨rfl,l,o,rfl,hl⟩
    refine uj (λ_=>wpS_pure ⟨rfl,l,o,rfl,hl⟩) λc1=>?_
    refine wpS_bind (wpS_mono (Q:=λr W=>J=W/\∃b:Bool,r=some b) ?_ ?_)
    .exact wpS_bind (dO (arr:=arr) (by lia) (cC (jd hC h5 (O _ (td _)) hk λb=>⟨rfl,b,rfl⟩) (wpS_bind (jd hC h5 hk (O _ (td _)) λb=>wpS_pure ⟨rfl,!b,rfl⟩))))
    rintro r W ⟨rfl,b,rfl⟩
    exact cC (wpS_pure ⟨rfl,_,_,rfl,hl⟩) (wpS_pure ⟨rfl,_,_,rfl,by lia⟩)
   rintro c F ⟨rfl,l,o,rfl,hl⟩
   exact wpS_pure (hq o hl)
  .rw[Kt c0]
   refine wpS_bind (wpS_mono (wpS_forRange (I:=λx c F=>J=F/\∃l o,c=(none,l,o)/\l<=hint) (Q:=λc F=>J=F/\∃l o,c=(none,l,o)/\l<=hint) ?_ (λ_ _ z=>z) ⟨rfl,0,1,rfl,by lia⟩) ?_)
   .rintro x c F _ hx ⟨rfl,l,o,rfl,hl⟩
    refine uj (λ_=>wpS_pure ⟨rfl,l,o,rfl,hl⟩) λc1=>?_
    refine wpS_bind (wpS_mono (Q:=λr W=>J=W/\∃b:Bool,r=some b) ?_ ?_)
    .exact wpS_bind (dO (arr:=arr) (by lia) (cC (jd hC h5 (O _ (td _)) hk λb=>⟨rfl,b,rfl⟩) (wpS_bind (jd hC h5 hk (O _ (td _)) λb=>wpS_pure ⟨rfl,!b,rfl⟩))))
    rintro r W ⟨rfl,b,rfl⟩
    exact cC (wpS_pure ⟨rfl,l,o,rfl,hl⟩) (wpS_pure ⟨rfl,_,_,rfl,by lia⟩)
   rintro c F ⟨rfl,l,o,rfl,hl⟩
   refine wpS_bind (wpS_mono (wpS_forRange (I:=λx c F=>J=F/\∃l o,c=(none,l,o)/\o<=n) (Q:=λc F=>J=F/\∃l o,c=(none,l,o)/\o<=n) ?_ (λ_ _ z=>z) ⟨rfl,_,_,rfl,by lia⟩) ?_)
   .rintro x c F _ hx ⟨rfl,l,o,rfl,hl⟩
    refine uj (λ_=>wpS_pure ⟨rfl,l,o,rfl,hl⟩) λc1=>?_
    refine wpS_bind (wpS_mono (Q:=λr W=>J=W/\∃b:Bool,r=some b) ?_ ?_)
    .exact wpS_bind (dO (arr:=arr) (by lia) (cC (jd hC h5 (O _ (td _)) hk λb=>⟨rfl,b,rfl⟩) (wpS_bind (jd hC h5 hk (O _ (td _)) λb=>wpS_pure ⟨rfl,!b,rfl⟩))))
    rintro r W ⟨rfl,b,rfl⟩
    exact cC (wpS_pure ⟨rfl,_,_,rfl,hl⟩) (wpS_pure ⟨rfl,_,_,rfl,by lia⟩)
   rintro c F ⟨rfl,l,o,rfl,hl⟩
   exact wpS_pure (hq o hl)
 .dsimp only
  refine dL (λ_=>wpS_pure (hq _ ⟨h.perm,h.kind,h.fail⟩ rfl)) λc1=>?_
  refine wpS_bind (dO (arr:=arrOf st) (by lia) ?_)
  refine ic (arr:=arrOf st) (base:=sb) (n:=nb) (hint:=nb-1) a6 (a8 _ _) O (by lia) (by lia) h.kind λ_ k2 ab=>?_
  refine dL (λ_=>wpS_pure (hq _ ⟨h.perm,h.kind,h.fail⟩ rfl)) λc2=>?_
  have hx:∀o e x,x∈((arrOf st).extract o e).toList->x∈a0.toList:=λo e x hx=>O x (KJ.mpr (by obtain⟨j,hj,e⟩:=Array.mem_iff_getElem.mp (KJ.mp hx);rw[Array.getElem_extract]at e;rw[<-e];exact Array.getElem_mem _))
  have bg:∀(out:Array Keyed) (F:SortSt),out.toList.Perm (((arrOf st).extract (sa+k) sb).toList++((arrOf st).extract sb (sb+k2)).toList)->(out.toList.zipIdx.foldl (λa x=>a.setIfInBounds (sa+k+x.2) x.1) (arrOf st)).Perm a0:=λout F hp=>by
   have hl:out.toList.length=sb-(sa+k)+k2:=by rw[hp.length_eq,qL,nX,nX,J1,J1];lia
   refine(wB (by lia) ?_).trans h.perm
   rw[hl,lI,List.drop_drop,show sa+k+(sb-(sa+k))=sb by lia]
   rw[fe,fe,zbl]at hp
   exact hp
  have al:∀(out:Array Keyed) (F:SortSt),out.toList.Perm (((arrOf st).extract (sa+k) sb).toList++((arrOf st).extract sb (sb+k2)).toList)->Gn (setPending st (((pendingOf st).setIfInBounds i (sa,na+nb,p)).eraseIdxIfInBounds (i+1))) F->Q (failedOf F).isNone (SortSt.mk' (kindOf F) (out.toList.zipIdx.foldl (λa x=>a.setIfInBounds (sa+k+x.2) x.1) (arrOf F)) (pendingOf F) (gallopOf F) (failedOf F)):=λout F hp J=>by
   rw[show failedOf F=none from J.fail.trans h.fail];refine hq _ ⟨?_,J.kind.trans h.kind,rfl⟩ J.pend
   show (List.foldl _ (arrOf F) _).Perm a0
   rw[show arrOf F=arrOf st from J.arr];exact bg out F hp
  by_cases c3:na-k<=k2
  .rw[Kx c3]
   refine uZ (a:=(arrOf st).extract (sa+k) sb) (b:=(arrOf st).extract sb (sb+k2)) ?mlo (hx _ _) (hx _ _) (by rw[J1];lia) (by rw[J1];lia) h.kind λout F hp J=>?_
   .clear al bg hx c3 c2 ab c1 hk a8 O hs hq hsz b0 a9 b3 h2 h1 h
    intro a b Q J ha hb h3 h4 h5 hq
    refine wpS_bind (wpS_lift (wpAny_rule ⟨rfl,?_⟩))
    refine wpS_bind (dO (arr:=b) h4 ?_)
    have p0:(#[b[0]]:Array Keyed).toList.Perm (a.toList.take 0++b.toList.take (0+1)):=yA (a:=a) (b:=b) (out:=#[]) (ia:=0) (ib:=0) (by simp) h4
    refine dL (λ_=>wpS_pure (hq _ _ (nN p0) (Gn.rfl' _))) λd1=>?_
    refine dL (λ_=>wpS_pure (hq _ _ (xL p0) (Gn.rfl' _))) λd2=>?_
    refine wpS_bind (wpS_get ?_)
    refine wpS_bind (wpS_mono (wpS_forRange (I:=λx c F=>Gn J F/\∃out ia ib mg,c=(none,out,ia,ib,mg)/\sP a b out ia ib/\x<=ia+ib) (Q:=λc F=>Gn J F/\∃r BG,c=(some r,BG)/\r.toList.Perm (a.toList++b.toList)) ?_ ?_ ⟨Gn.rfl' _,_,0,1,_,rfl,⟨p0,by lia,by lia⟩,xR _⟩) ?_)
    .rintro x c a7 _ hx ⟨g1,out,ia,ib,mg,rfl,i1,be⟩
     refine wpS_bind (wpS_mono (wpS_forRange (I:=λy c F=>Gn J F/\∃o2 ja jb ac bc,c=(none,o2,ja,jb,ac,bc)/\sP a b o2 ja jb/\ia+ib+y<=ja+jb)
      (Q:=λc F=>Gn J F/\((∃r BG,c=(some r,BG)/\r.toList.Perm (a.toList++b.toList))\/∃o2 ja jb ac bc,c=(none,o2,ja,jb,ac,bc)/\sP a b o2 ja jb/\ia+ib+1<=ja+jb)) ?_ ?_ ⟨g1,out,ia,ib,0,0,rfl,i1,qt _⟩) ?_)
     .rintro y c a4 _ hy ⟨g2,o2,ja,jb,ac,bc,rfl,⟨q1,q2,q3⟩,ag⟩
      refine wpS_bind (dO (arr:=b) q3 ?_)
      refine wpS_bind (dO (arr:=a) (show ja<a.size by lia) ?_)
      refine wpS_bind (jd hC (g2.kind.trans h5) (hb _ (td _)) (ha _ (td _)) λas=>?_)
      dsimp only
      by_cases d3:as=true
      .rw[Kx d3]
       refine wpS_bind (dO (arr:=b) q3 ?_)
       have pb:=yA q1 q3;refine dL (λ_=>wpS_pure ⟨g2,.inl ⟨_,_,rfl,nN pb⟩⟩) λd4=>?_
       exact cC (wpS_pure ⟨g2,.inr ⟨_,_,_,_,_,rfl,⟨pb,q2,by lia⟩,by lia⟩⟩) (wpS_pure ⟨g2,_,_,_,_,_,rfl,⟨pb,q2,by lia⟩,by lia⟩)
      .rw[Kt d3]
       refine wpS_bind (dO (arr:=a) (show ja<a.size by lia) ?_)
       have pa:=D6 q1 (show ja<a.size by lia)
       refine dL (λ_=>wpS_pure ⟨g2,.inl ⟨_,_,rfl,xL pa⟩⟩) λd4=>?_
       exact cC (wpS_pure ⟨g2,.inr ⟨_,_,_,_,_,rfl,⟨pa,by lia,q3⟩,by lia⟩⟩) (wpS_pure ⟨g2,_,_,_,_,_,rfl,⟨pa,by lia,q3⟩,by lia⟩)
     .rintro c a4 ⟨g2,o2,ja,jb,ac,bc,rfl,i2,ag⟩
      exact⟨g2,.inr ⟨_,_,_,_,_,rfl,i2,by lia⟩⟩
     rintro c a4 ⟨g2,(⟨r,BG,rfl,hr⟩ | ⟨o2,ja,jb,ac,bc,rfl,i2,ag⟩)⟩
     .exact wpS_pure ⟨g2,r,_,rfl,hr⟩
     refine wpS_bind (wpS_lift (wpAny_rule ⟨rfl,?_⟩))
     refine wpS_bind (wpS_mono (wpS_forRange (I:=λy c F=>Gn J F/\∃o3 Z U mg' ac bc,c=(none,o3,Z,U,mg',ac,bc)/\sP a b o3 Z U/\ia+ib+1<=Z+U)
      (Q:=λc F=>Gn J F/\((∃r BG,c=(some r,BG)/\r.toList.Perm (a.toList++b.toList))\/∃o3 Z U mg' ac bc,c=(none,o3,Z,U,mg',ac,bc)/\sP a b o3 Z U/\ia+ib+1<=Z+U)) ?_ (λc F z=>⟨z.1,.inr z.2⟩) ⟨g2,_,_,_,_,_,_,rfl,i2,ag⟩) ?_)
     .rintro y c b1 _ hy ⟨g3,o3,Z,U,a3,bp,bt,rfl,⟨q1,q2,q3⟩,b2⟩
      apply DM (P:=λ(_:Nat) F=>Gn J F)
      case h2=>
       intro hK
       generalize a3=a5
       refine cC ?_ ?_
       rotate_left
       .exact wpS_bind (wpS_mono (Q:=λ_ F=>Gn J F) (wpS_modify (g3.trans ⟨rfl,rfl,rfl,rfl⟩)) λ_ ad Y=>hK a5 _ Y)
       exact wpS_bind (wpS_mono (Q:=λ_ F=>Gn J F) (wpS_modify (g3.trans ⟨rfl,rfl,rfl,rfl⟩)) λ_ ad Y=>hK (a5-1) _ Y)
      intro cb ad Y
      refine wpS_bind (dO (arr:=b) q3 ?_)
      refine ic (arr:=a) (base:=Z) (n:=a.size-Z) (hint:=0) a6 (hb _ (td _)) ha (by lia) (by lia) (Y.kind.trans h5) λ_ k1 ca=>?_
      apply qd (P:=λ(o:Array Keyed) (k:Nat)=>o.toList.Perm (a.toList.take k++b.toList.take U)/\k+1<a.size/\Z<=k)
      case h2=>
       intro hK
       refine cC ?_ ?_
       rotate_left
       .have r1:=q1
        have r2:=q2;generalize hk:Z=k4 at r1 r2 |-;generalize o3=o4 at r1 |-;exact hK o4 k4 ⟨r1,r2,by lia⟩
       have pa:=MX k1 q1;exact dL (λ_=>wpS_pure ⟨Y,.inl ⟨_,_,rfl,xL pa⟩⟩) λd4=>dL (λ_=>wpS_pure ⟨Y,.inl ⟨_,_,rfl,nN pa⟩⟩) λd5=>hK _ _ ⟨pa,by lia,by lia⟩
      intro o4 k4 z
      obtain⟨pa,q5,cd⟩:=z
      refine wpS_bind (dO (arr:=b) q3 ?_)
      have pb:=yA pa q3;refine dL (λ_=>wpS_pure ⟨Y,.inl ⟨_,_,rfl,nN pb⟩⟩) λd6=>?_
      refine wpS_bind (dO (arr:=a) (show k4<a.size by lia) ?_)
      refine ic (arr:=b) (base:=U+1) (n:=b.size-(U+1)) (hint:=0) a6 (ha _ (td _)) hb (by lia) (by lia) (Y.kind.trans h5) λ_ k2 ab=>?_
      have q6:U<U+1/\U+1<b.size:=by lia
      generalize o4.push b[U]=o5 at pb |-;generalize U+1=kc at pb ab q6 |-
      apply qd (P:=λ(o:Array Keyed) (k:Nat)=>o.toList.Perm (a.toList.take k4++b.toList.take k)/\k<b.size/\kc<=k)
      case h2=>
       intro hK
       refine cC ?_ ?_
       rotate_left
       .have r1:=pb
        generalize hk:kc=k6 at r1 |-;generalize o5=o6 at r1 |-;exact hK o6 k6 ⟨r1,by lia,by lia⟩
       exact dL (λ_=>wpS_pure ⟨Y,.inl ⟨_,_,rfl,nN (IW k2 pb)⟩⟩) λd8=>hK _ _ ⟨IW k2 pb,by lia,by lia⟩
      intro o6 k6 z
      obtain⟨pc,q7,cc⟩:=z
      refine wpS_bind (dO (arr:=a) (show k4<a.size by lia) ?_)
      have pd:=D6 pc (show k4<a.size by lia)
      refine dL (λ_=>wpS_pure ⟨Y,.inl ⟨_,_,rfl,xL pd⟩⟩) λd9=>?_
      exact cC (wpS_pure ⟨Y,.inr ⟨_,_,_,_,_,_,rfl,⟨pd,by lia,by lia⟩,by lia⟩⟩) (wpS_pure ⟨Y,_,_,_,_,_,_,rfl,⟨pd,by lia,by lia⟩,by lia⟩)
     rintro c b1 ⟨g3,(⟨r,BG,rfl,hr⟩ | ⟨o3,Z,U,a3,bp,bt,rfl,i3,b2⟩)⟩
     .exact wpS_pure ⟨g3,r,_,rfl,hr⟩
     refine wpS_bind (wpS_mono (Q:=λ_ F=>Gn J F) (wpS_modify (g3.trans ⟨rfl,rfl,rfl,rfl⟩)) ?_)
     rintro _ ad Y
     exact wpS_pure ⟨Y,_,_,_,_,rfl,i3,by lia⟩
    .rintro c a7 ⟨g1,out,ia,ib,mg,rfl,⟨_,i2,i3⟩,be⟩
     lia
    .rintro c a7 ⟨g1,r,BG,rfl,hr⟩
     exact wpS_pure (hq _ _ hr g1)
   .refine wpS_bind (wpS_modify ?_)
    refine wpS_bind (wpS_get ?_)
    exact wpS_pure (al out F hp J)
  .rw[Kt c3]
   refine uZ (a:=(arrOf st).extract (sa+k) sb) (b:=(arrOf st).extract sb (sb+k2)) ?mhi (hx _ _) (hx _ _) (by rw[J1];lia) (by rw[J1];lia) h.kind λout F hp J=>?_
   .clear al bg hx c3 c2 ab c1 hk a8 O hs hq hsz b0 a9 b3 h2 h1 h
    intro a b Q J ha hb h3 h4 h5 hq
    refine wpS_bind (wpS_lift (wpAny_rule ⟨rfl,?_⟩))
    refine wpS_bind (dO (arr:=a) (i:=a.size-1) (by lia) ?_)
    have p0:(#[a[a.size-1]]:Array Keyed).toList.Perm (a.toList.drop (a.size-1)++b.toList.drop b.size):=wV (a:=a) (b:=b) (out:=#[]) (na:=a.size) (nb:=b.size) (by simp) h3 (by lia)
    refine dL (λ_=>wpS_pure (hq _ _ (nO p0) (Gn.rfl' _))) λd1=>?_
    refine dL (λ_=>wpS_pure (hq _ _ (xT p0) (Gn.rfl' _))) λd2=>?_
    refine wpS_bind (wpS_get ?_)
    refine wpS_bind (wpS_mono (wpS_forRange (I:=λx c F=>Gn J F/\∃na nb out mg,c=(none,na,nb,out,mg)/\qR a b out na nb/\x+(na+nb)<=a.size+b.size) (Q:=λc F=>Gn J F/\∃r BG,c=(some r,BG)/\r.toList.Perm (a.toList++b.toList)) ?_ ?_ ⟨Gn.rfl' _,_,_,_,_,rfl,⟨p0,by lia,by lia,by lia,by lia⟩,by lia⟩) ?_)
    .rintro x c a7 _ hx ⟨g1,ia,ib,out,mg,rfl,i1,be⟩
     refine wpS_bind (wpS_mono (wpS_forRange (I:=λy c F=>Gn J F/\∃ja jb o2 ac bc,c=(none,ja,jb,o2,ac,bc)/\qR a b o2 ja jb/\y+(ja+jb)<=ia+ib)
      (Q:=λc F=>Gn J F/\((∃r BG,c=(some r,BG)/\r.toList.Perm (a.toList++b.toList))\/∃ja jb o2 ac bc,c=(none,ja,jb,o2,ac,bc)/\qR a b o2 ja jb/\1+(ja+jb)<=ia+ib)) ?_ ?_ ⟨g1,ia,ib,out,0,0,rfl,i1,by lia⟩) ?_)
     .rintro y c a4 _ hy ⟨g2,ja,jb,o2,ac,bc,rfl,⟨q1,q2,q3,q4,q5⟩,ag⟩
      refine wpS_bind (dO (arr:=b) (i:=jb-1) (by lia) ?_)
      refine wpS_bind (dO (arr:=a) (i:=ja-1) (by lia) ?_)
      refine wpS_bind (jd hC (g2.kind.trans h5) (hb _ (td _)) (ha _ (td _)) λas=>?_)
      dsimp only
      by_cases d3:as=true
      .rw[Kx d3]
       refine wpS_bind (dO (arr:=a) (i:=ja-1) (by lia) ?_)
       have pa:=wV q1 q2 (by lia)
       refine dL (λ_=>wpS_pure ⟨g2,.inl ⟨_,_,rfl,nO pa⟩⟩) λd4=>?_
       exact cC (wpS_pure ⟨g2,.inr ⟨_,_,_,_,_,rfl,⟨pa,by lia,by lia,by lia,by lia⟩,by lia⟩⟩) (wpS_pure ⟨g2,_,_,_,_,_,rfl,⟨pa,by lia,by lia,by lia,by lia⟩,by lia⟩)
      .rw[Kt d3]
       refine wpS_bind (dO (arr:=b) (i:=jb-1) (by lia) ?_)
       have pb:=Ef q1 (by lia) (by lia)
       refine dL (λ_=>wpS_pure ⟨g2,.inl ⟨_,_,rfl,xT pb⟩⟩) λd4=>?_
       exact cC (wpS_pure ⟨g2,.inr ⟨_,_,_,_,_,rfl,⟨pb,by lia,by lia,by lia,by lia⟩,by lia⟩⟩) (wpS_pure ⟨g2,_,_,_,_,_,rfl,⟨pb,by lia,by lia,by lia,by lia⟩,by lia⟩)
     .rintro c a4 ⟨g2,ja,jb,o2,ac,bc,rfl,i2,ag⟩
      exact⟨g2,.inr ⟨_,_,_,_,_,rfl,i2,by lia⟩⟩
     rintro c a4 ⟨g2,(⟨r,BG,rfl,hr⟩ | ⟨ja,jb,o2,ac,bc,rfl,i2,ag⟩)⟩
     .exact wpS_pure ⟨g2,r,_,rfl,hr⟩
     refine wpS_bind (wpS_lift (wpAny_rule ⟨rfl,?_⟩))
     refine wpS_bind (wpS_mono (wpS_forRange (I:=λy c F=>Gn J F/\∃Z U o3 mg' ac bc,c=(none,Z,U,o3,mg',ac,bc)/\qR a b o3 Z U/\1+(Z+U)<=ia+ib)
      (Q:=λc F=>Gn J F/\((∃r BG,c=(some r,BG)/\r.toList.Perm (a.toList++b.toList))\/∃Z U o3 mg' ac bc,c=(none,Z,U,o3,mg',ac,bc)/\qR a b o3 Z U/\1+(Z+U)<=ia+ib)) ?_ (λc F z=>⟨z.1,.inr z.2⟩) ⟨g2,_,_,_,_,_,_,rfl,i2,ag⟩) ?_)
     .rintro y c b1 _ hy ⟨g3,Z,U,o3,a3,bp,bt,rfl,⟨q1,q2,q3,q4,q5⟩,b2⟩
      apply DM (P:=λ(_:Nat) F=>Gn J F)
      case h2=>
       intro hK
       generalize a3=a5
       refine cC ?_ ?_
       rotate_left
       .exact wpS_bind (wpS_mono (Q:=λ_ F=>Gn J F) (wpS_modify (g3.trans ⟨rfl,rfl,rfl,rfl⟩)) λ_ ad Y=>hK a5 _ Y)
       exact wpS_bind (wpS_mono (Q:=λ_ F=>Gn J F) (wpS_modify (g3.trans ⟨rfl,rfl,rfl,rfl⟩)) λ_ ad Y=>hK (a5-1) _ Y)
      intro cb ad Y
      refine wpS_bind (dO (arr:=b) (i:=U-1) (by lia) ?_)
      refine ic (arr:=a) (base:=0) (n:=Z) (hint:=Z-1) a6 (hb _ (td _)) ha (by lia) (by lia) (Y.kind.trans h5) λ_ k1 ca=>?_
      dsimp only
      generalize Z-k1=cu
      apply qd (P:=λ(o:Array Keyed) (k:Nat)=>o.toList.Perm (a.toList.drop k++b.toList.drop U)/\0<k/\k<=Z)
      case h2=>
       intro hK
       refine cC ?_ ?_
       rotate_left
       .have r1:=q1
        have r2:=q2;generalize hk:Z=k4 at r1 r2 |-;generalize o3=o4 at r1 |-;exact hK o4 k4 ⟨r1,r2,by lia⟩
       have pa:=OI q1 ca;exact dL (λ_=>wpS_pure ⟨Y,.inl ⟨_,_,rfl,nO pa⟩⟩) λd4=>hK _ _ ⟨pa,by lia,ca⟩
      intro o4 k4 z
      obtain⟨pa,q6,cd⟩:=z
      refine wpS_bind (dO (arr:=b) (i:=U-1) (by lia) ?_)
      have pb:=Ef pa (by lia) (show U-1<b.size by lia)
      refine dL (λ_=>wpS_pure ⟨Y,.inl ⟨_,_,rfl,xT pb⟩⟩) λd6=>?_
      refine wpS_bind (dO (arr:=a) (i:=k4-1) (by lia) ?_)
      refine ic (arr:=b) (base:=0) (n:=U-1) (hint:=U-1-1) a6 (ha _ (td _)) hb (by lia) (by lia) (Y.kind.trans h5) λ_ k2 ab=>?_
      dsimp only
      have q7:U-1<U/\1<U-1:=by lia
      generalize o4.push b[U-1]=o5 at pb |-;generalize U-1=kc at pb ab q7 |-;generalize kc-k2=c5
      apply qd (P:=λ(o:Array Keyed) (k:Nat)=>o.toList.Perm (a.toList.drop k4++b.toList.drop k)/\1<k/\k<=kc)
      case h2=>
       intro hK
       refine cC ?_ ?_
       rotate_left
       .have r1:=pb
        generalize hk:kc=k6 at r1 |-;generalize o5=o6 at r1 |-;exact hK o6 k6 ⟨r1,by lia,by lia⟩
       have pc:=Lu pb ab;exact dL (λ_=>wpS_pure ⟨Y,.inl ⟨_,_,rfl,xT pc⟩⟩) λd8=>dL (λ_=>wpS_pure ⟨Y,.inl ⟨_,_,rfl,nO pc⟩⟩) λd9=>hK _ _ ⟨pc,by lia,ab⟩
      intro o6 k6 z
      obtain⟨pc,q8,cc⟩:=z
      refine wpS_bind (dO (arr:=a) (i:=k4-1) (by lia) ?_)
      have pd:=wV pc (by lia) (show k4-1<a.size by lia)
      refine dL (λ_=>wpS_pure ⟨Y,.inl ⟨_,_,rfl,nO pd⟩⟩) λcv=>?_
      exact cC (wpS_pure ⟨Y,.inr ⟨_,_,_,_,_,_,rfl,⟨pd,by lia,by lia,by lia,by lia⟩,by lia⟩⟩) (wpS_pure ⟨Y,_,_,_,_,_,_,rfl,⟨pd,by lia,by lia,by lia,by lia⟩,by lia⟩)
     rintro c b1 ⟨g3,(⟨r,BG,rfl,hr⟩ | ⟨Z,U,o3,a3,bp,bt,rfl,i3,b2⟩)⟩
     .exact wpS_pure ⟨g3,r,_,rfl,hr⟩
     refine wpS_bind (wpS_mono (Q:=λ_ F=>Gn J F) (wpS_modify (g3.trans ⟨rfl,rfl,rfl,rfl⟩)) ?_)
     rintro _ ad Y
     exact wpS_pure ⟨Y,_,_,_,_,rfl,i3,by lia⟩
    .rintro c a7 ⟨g1,na,nb,out,mg,rfl,⟨_,i2,i3,i4,i5⟩,be⟩
     lia
    .rintro c a7 ⟨g1,r,BG,rfl,hr⟩
     exact wpS_pure (hq _ _ hr g1)
   .refine wpS_bind (wpS_modify ?_)
    refine wpS_bind (wpS_get ?_)
    exact wpS_pure (al out F hp J)
end
section
variable{prog:Program}{w:World}{A:Around}{E:KY}{s:Shared}{kd:SortKind}{a0:Array Keyed}
def iK(kd:SortKind)(a0:Array Keyed)(pd:Array (Nat×Nat×Nat))(st:SortSt):Prop:=iu kd a0 st/\pendingOf st=pd
theorem kP(U:j1 prog w s kd a0)(h:iu kd a0 st){j:Nat}{Q:Option Bool->SortSt->Prop}(hi:i<a0.size)(Y:j<a0.size)(O:∀b,Q (some b) st):wpS (model prog w) A E s (ltAt' i j) Q st:=by
 have W:(arrOf st).size=a0.size:=h.perm.size_eq
 have F:∀k (J:k<(arrOf st).size),(arrOf st)[k]∈a0.toList:=λk J=>(KG.mp h.perm).mem_iff.mp (td J)
 rw[ltAt'_eq];refine wpS_bind (wpS_get ?_)
 exact wpS_bind (dO (arr:=arrOf st) (by lia) (wpS_bind (dO (arr:=arrOf st) (by lia) (jd U h.kind (F _ _) (F _ _) O))))
theorem rG{F:Array (Nat×Nat×Nat)}(h:iK kd a0 F st){j:Nat}{Q:PUnit->SortSt->Prop}(J:∀st',iK kd a0 F st'->Q ⟨⟩ st'):wpS (model prog w) A E s (reverseSlice' i j) Q st:=by
 rw[reverseSlice'_eq];exact wpS_modify (J _ ⟨⟨(mirror_perm _ _ _ _).trans h.1.perm,h.1.kind,h.1.fail⟩,h.2⟩)
theorem Fx(hC:j1 prog w s kd a0){Y:Array (Nat×Nat×Nat)}(h:iK kd a0 Y st){lo J:Nat}{Q:LG->SortSt->Prop}(hn:lo+J<=a0.size)(h1:1<=J)
  (hq:∀m F,iK kd a0 Y F->1<=m->m<=J->Q (some m) F):wpS (model prog w) A E s (countRun' lo J) Q st:=by
 refine wpS_bind (wpS_mono (wpS_forRange (I:=λx c F=>iK kd a0 Y F/\c=(none,x)) (Q:=λc F=>iK kd a0 Y F/\∃m,c=(none,m)/\1<=m/\m<=J) ?_ ?_ ⟨h,rfl⟩) ?_)
 .rintro x c U ac hx2 ⟨O,rfl⟩
  dsimp only
  refine wpS_bind (kP hC O.1 (by lia) (by lia) λb=>?_)
  exact cC (wpS_pure ⟨O,x,rfl,ac,by lia⟩) (wpS_pure ⟨O,rfl⟩)
 .rintro c U ⟨O,rfl⟩
  exact⟨O,_,rfl,by lia,by lia⟩
 rintro c U ⟨O,n,rfl,n1,n2⟩
 dsimp only
 by_cases c1:n=J
 .rw[Kx (by simpa using c1)]
  exact wpS_pure (hq n U O n1 n2)
 rw[Kt (by simpa using c1)]
 by_cases c2:n>1
 case' pos=>
  rw[Kx c2];refine wpS_bind (kP hC O.1 (by lia) (by lia) λb=>?_)
  dsimp only
  refine cC (wpS_pure (hq n U O n1 n2)) (wpS_bind (rG O λag g2=>?_))
 case' neg=>
  rw[Kt c2];have g2:=O;generalize U=ag at g2 |-
 all_goals
  refine wpS_bind (wpS_lift (wpAny_rule ⟨rfl,?_⟩))
  refine wpS_bind (wpS_mono (wpS_forRange (I:=λx c F=>iK kd a0 Y F/\∃q,c=(none,x,q)) (Q:=λc F=>iK kd a0 Y F/\∃m q,c=(none,m,q)/\1<=m/\m<=J) ?_ ?_ ⟨g2,0,rfl⟩) ?_)
  .rintro x c ad ac hx2 ⟨W,q,rfl⟩
   dsimp only
   refine wpS_bind (kP hC W.1 (by lia) (by lia) λb=>?_)
   dsimp only
   refine cC (cC (wpS_bind (rG W λas g4=>wpS_pure ⟨g4,_,rfl⟩)) (wpS_pure ⟨W,_,rfl⟩)) ?_
   refine wpS_bind (kP hC W.1 (by lia) (by lia) λb=>?_)
   exact cC (wpS_pure ⟨W,x,_,rfl,by lia,by lia⟩) (wpS_pure ⟨W,_,rfl⟩)
  .rintro c ad ⟨W,q,rfl⟩
   exact⟨W,_,_,rfl,by lia,by lia⟩
  rintro c ad ⟨W,m,q,rfl,m1,m2⟩
  dsimp only
  refine cC (wpS_bind (rG W λas g4=>wpS_bind (rG g4 λal g5=>?_))) (wpS_bind (rG W λal g5=>?_))
  all_goals
   refine wpS_bind (wpS_mono (wpS_forRange (I:=λx c F=>iK kd a0 Y F/\c=(none,x)) (Q:=λc F=>iK kd a0 Y F/\∃m,c=(none,m)/\1<=m/\m<=J) ?_ ?_ ⟨g5,rfl⟩) ?_)
   .rintro x c ab ac hx2 ⟨Z,rfl⟩
    dsimp only
    refine wpS_bind (kP hC Z.1 (by lia) (by lia) λb=>?_)
    exact cC (wpS_pure ⟨Z,x,rfl,by lia,by lia⟩) (wpS_pure ⟨Z,rfl⟩)
   .rintro c ab ⟨Z,rfl⟩
    exact⟨Z,_,rfl,by lia,by lia⟩
   rintro c ab ⟨Z,n,rfl,n1,n2⟩
   exact wpS_pure (hq n ab Z n1 n2)
theorem OM(hC:j1 prog w s kd a0){U:Array (Nat×Nat×Nat)}(h:iK kd a0 U st){lo n ok:Nat}{Q:Bool->SortSt->Prop}(hn:lo+n<=a0.size)(h0:0<n)
  (Z:∀F,iK kd a0 U F->Q true F):wpS (model prog w) A E s (binarySort' lo n ok) Q st:=by
 rw[binarySort'_eq];refine wpS_bind (wpS_mono (wpS_forRange (I:=λx c F=>iK kd a0 U F/\c=(none,())) (Q:=λc F=>iK kd a0 U F/\c=(none,())) ?_ (λ_ _ z=>z) ⟨h,rfl⟩) ?_)
 .rintro k c J ac ab ⟨O,rfl⟩
  refine wpS_bind (wpS_mono (wpS_forRange (I:=λx c F=>J=F/\∃l r,c=(none,l,r)/\r<=k) (Q:=λc F=>J=F/\∃l r,c=(none,l,r)/\r<=k) ?_ (λ_ _ z=>z) ⟨rfl,0,k,rfl,qt _⟩) ?_)
  .rintro x c W _ hx ⟨rfl,l,r,rfl,Y⟩
   dsimp only
   by_cases z:l>=r
   .rw[Kx z];exact wpS_pure ⟨rfl,l,r,rfl,Y⟩
   rw[Kt z];refine wpS_bind (kP hC O.1 (by lia) (by lia) λb=>?_)
   exact cC (wpS_pure ⟨rfl,_,_,rfl,by lia⟩) (wpS_pure ⟨rfl,_,_,rfl,Y⟩)
  .rintro c W ⟨rfl,l,r,rfl,Y⟩
   dsimp only
   rw[moveDown'_eq];refine wpS_bind (wpS_modify ?_)
   exact wpS_pure ⟨⟨⟨(bubble_perm _ _ _).trans O.1.perm,O.1.kind,O.1.fail⟩,O.2⟩,rfl⟩
 .rintro c J ⟨O,rfl⟩
  exact wpS_pure (Z J O)
def Cc:List (Nat×Nat×Nat)->Nat->Nat->Prop
 | [],x,y=>x=y
 | r::l,x,y=>r.1=x/\0<r.2.1/\Cc l (x+r.2.1) y
theorem Cc.le:∀ {l:List (Nat×Nat×Nat)} {x y:Nat},Cc l x y->x<=y
 | [],x,y,h=>by cases h;exact qt _
 | _::_,x,y,h=>by have:=h.2.2.le;lia
theorem Cc.at_:∀ {l:List (Nat×Nat×Nat)} {x y i:Nat} {a b:Nat×Nat×Nat},Cc l x y->l[i]?=some a->l[i+1]?=some b->b.1=a.1+a.2.1/\0<a.2.1/\0<b.2.1/\b.1+b.2.1<=y/\Cc ((l.set i (a.1,a.2.1+b.2.1,a.2.2)).eraseIdx (i+1)) x y
 | [],x,y,i,a,b,h,h1,h2=>by cases h1
 | [r],x,y,i,a,b,h,h1,h2=>by cases h2
 | r::t::l,x,y,0,a,b,h,h1,h2=>by
  cases h1
  cases h2;obtain⟨J,F,O,e4,U⟩:=h
  refine⟨by lia,F,e4,by have:=U.le;lia,J,by show 0<_+_;lia,?_⟩
  show Cc l (x+(r.2.1+t.2.1)) y
  rw[<-lR];exact U
 | r::t::l,x,y,i+1,a,b,h,h1,h2=>by
  obtain⟨J,F,O⟩:=h
  obtain⟨Z,Y,f3,W,f5⟩:=O.at_ (i:=i) h1 h2
  exact⟨Z,Y,f3,W,J,F,f5⟩
theorem Cc.pow:∀ {l:List (Nat×Nat×Nat)} {x y:Nat} (i p:Nat),Cc l x y->Cc (l.modify i λr=>(r.1,r.2.1,p)) x y
 | [],x,y,i,p,h=>by cases i<;>exact h
 | r::l,x,y,0,p,h=>h
 | r::l,x,y,i+1,p,h=>⟨h.1,h.2.1,h.2.2.pow i p⟩
theorem Cc.snoc:∀ {l:List (Nat×Nat×Nat)} {x y:Nat} {n p:Nat},Cc l x y->0<n->Cc (l++[(y,n,p)]) x (y+n)
 | [],x,y,n,p,h,hn=>by cases h;exact⟨rfl,hn,rfl⟩
 | r::l,x,y,n,p,h,hn=>⟨h.1,h.2.1,h.2.2.snoc hn⟩
theorem Az(hC:j1 prog w s kd a0){lo:Nat}(h:iu kd a0 st)(hr:Cc (pendingOf st).toList 0 lo)(J:lo<=a0.size)(hi:i+1<(pendingOf st).size){Q:Bool->SortSt->Prop}(Y:∀F,iu kd a0 F->Cc (pendingOf F).toList 0 lo->Q true F):wpS (model prog w) A E s (mergeAt' i) Q st:=by
 have U:(pendingOf st)[i]?=some (pendingOf st)[i]:=G8 (by lia)
 have O:(pendingOf st)[i+1]?=some (pendingOf st)[i+1]:=G8 hi
 obtain⟨Z,f2,f3,W,f5⟩:=hr.at_ (i:=i) (by rw[Ib];exact U) (by rw[Ib];exact O)
 refine Gh hC h U O Z f2 f3 (xB W J) λF h' hp=>Y F h' ?_
 rw[hp,Array.toList_eraseIdxIfInBounds,Array.toList_setIfInBounds];exact f5
theorem Js(hC:j1 prog w s kd a0)(h:iu kd a0 st)(hp:pendingOf st = #[]){Q:Unit->SortSt->Prop}
  (hq:∀F,(arrOf F).Perm a0->failedOf F=none->Q () F):wpS (model prog w) A E s sortRuns' Q st:=by
 rw[sortRuns'_eq];refine wpS_bind (wpS_get ?_)
 have hs:(arrOf st).size=a0.size:=h.perm.size_eq
 simp only[hs]
 generalize minRun' a0.size a0.size 0=mr
 refine wpS_bind (wpS_mono (wpS_forRange (I:=λx c F=>∃lo,c=(none,lo)/\lo<=a0.size/\iu kd a0 F/\Cc (pendingOf F).toList 0 lo) (Q:=λc F=>∃lo,c=(none,lo)/\lo<=a0.size/\iu kd a0 F/\Cc (pendingOf F).toList 0 lo) ?_ (λ_ _ z=>z) ⟨0,rfl,xR _,h,by rw[hp];rfl⟩) ?_)
 .rintro x c ad _ hx ⟨lo,rfl,W,g1,r1⟩
  dsimp only
  by_cases c1:lo>=a0.size
  .rw[Kx c1];exact wpS_pure ⟨lo,rfl,W,g1,r1⟩
  rw[Kt c1];refine wpS_bind (Fx hC ⟨g1,rfl⟩ (by lia) (by lia) λm ac g2 m1 m2=>?_)
  dsimp only
  by_cases c2:m<mr
  case' pos=>
   rw[Kx c2];refine wpS_bind (wpS_lift (wpAny_rule ⟨rfl,?_⟩))
   refine wpS_bind (OM hC g2 (by lia) (by lia) λab g3=>?_)
   rw[Kt (by simp)]
   have n1:0<min (a0.size-lo) mr:=by lia
   have n2:lo+min (a0.size-lo) mr<=a0.size:=by lia
   generalize min (a0.size-lo) mr=n at n1 n2 |-
  case' neg=>
   rw[Kt c2];have g3:=g2;have n1:0<m:=m1
   have n2:lo+m<=a0.size:=by lia
   generalize ac=ab at g3 |-;generalize m=n at n1 n2 |-
  all_goals
   obtain⟨g3,e3⟩:=g3
   have r3:Cc (pendingOf ab).toList 0 lo:=by rw[e3];exact r1
   refine wpS_bind (wpS_get ?_)
   have push:∀J,iu kd a0 J->Cc (pendingOf J).toList 0 lo->wpS (model prog w) A E s (modify λs=>setPending s ((pendingOf s).push (lo,n,0))) (λ_ F=>iu kd a0 F/\Cc (pendingOf F).toList 0 (lo+n)) J:=λJ O U=>wpS_modify ⟨⟨O.perm,O.kind,O.fail⟩,by show Cc ((pendingOf J).push (lo,n,0)).toList 0 (lo+n);rw[Ke];exact U.snoc n1⟩
   split
   .refine wpS_bind (wpS_mono (wpS_forRange (I:=λx c F=>c=(none,())/\iu kd a0 F/\Cc (pendingOf F).toList 0 lo) (Q:=λc F=>c=(none,())/\iu kd a0 F/\Cc (pendingOf F).toList 0 lo) ?_ (λ_ _ z=>z) ⟨rfl,g3,r3⟩) ?_)
    .rintro y c J _ hy ⟨rfl,O,U⟩
     refine wpS_bind (wpS_get ?_)
     by_cases c3:(pendingOf J).size>1
     .rw[Kx c3,G8 (by lia)]
      dsimp only
      refine cC (wpS_pure ⟨rfl,O,U⟩) ?_
      refine wpS_bind (Az hC O U W (by lia) λY Z r5=>?_)
      rw[Kt (by simp)]
      exact wpS_pure ⟨rfl,Z,r5⟩
     .rw[Kt c3]
      exact wpS_pure ⟨rfl,O,U⟩
    .rintro c J ⟨rfl,O,U⟩
     dsimp only
     refine wpS_bind (wpS_modify ?_)
     refine wpS_bind (wpS_mono (push _ ⟨O.perm,O.kind,O.fail⟩ ?_) ?_)
     .show Cc (Array.modify _ _ _).toList 0 lo
      rw[Array.toList_modify];exact U.pow _ _
     .rintro _ Y ⟨Z,r5⟩
      exact wpS_pure ⟨_,rfl,n2,Z,r5⟩
   .refine wpS_bind (wpS_mono (push _ g3 r3) ?_)
    rintro _ Y ⟨Z,r5⟩
    exact wpS_pure ⟨_,rfl,n2,Z,r5⟩
 rintro c ad ⟨lo,rfl,W,g1,r1⟩
 dsimp only
 refine wpS_bind (wpS_mono (wpS_forRange (I:=λx c F=>c=(none,())/\iu kd a0 F/\Cc (pendingOf F).toList 0 lo) (Q:=λc F=>c=(none,())/\iu kd a0 F/\Cc (pendingOf F).toList 0 lo) ?_ (λ_ _ z=>z) ⟨rfl,g1,r1⟩) ?_)
 .rintro y c J _ hy ⟨rfl,O,U⟩
  refine wpS_bind (wpS_get ?_)
  by_cases c3:(pendingOf J).size<=1
  .rw[Kx c3];exact wpS_pure ⟨rfl,O,U⟩
  rw[Kt c3];have hle:∀(c:Prop) [Decidable c] (n:Nat),(if c then n-1 else n)<=n:=λc _ n=>by split<;>lia
  refine wpS_bind (Az hC O U W (Nat.lt_of_le_of_lt (Nat.add_le_add_right (hle _ _) 1) (by lia)) λY Z r5=>?_)
  rw[Kt (by simp)]
  exact wpS_pure ⟨rfl,Z,r5⟩
 .rintro c J ⟨rfl,O,U⟩
  exact wpS_pure (hq J O.perm O.fail)
end
section
variable{prog:Program}{w:World}{A:Around}{E:KY}{s:Shared}
theorem JA{J:LC}{xs:Array Keyed}(O:xs.Perm (pairsOf (J.map Value.ref))):∃qs':LC,qs'.Perm J/\xs.map (·.2)=(qs'.map Value.ref).toArray:=by
 have hl:=KG.mp O;refine⟨xs.toList.map iU,?_,?_⟩
 .have:=hl.map iU
  rw[AA]at this;exact this
 .apply Array.toList_inj.mp
  rw[Array.toList_map];show xs.toList.map (·.2)=(xs.toList.map iU).map Value.ref
  rw[He];refine zbm λp F=>?_
  have:=(kr (hl.mem_iff.mp F)).2
  show p.2=Value.ref (iU p)
  exact congrArg Prod.snd this
theorem Jr{a:Addr}{F:LC}{κ:Addr->LJ}{n:Nat}{P:Fin->Shared->Prop}(ho:s.heap.get? a=some (seqObj "list" (F.map Value.ref).toArray n)) (hT:∀q∈F,IsTupleKey (intKind prog w) s.heap (κ q) q/\κ q≠[]) (hz:F.length<=sizeLine)
  (h:∀O:LC,O.Perm F->P (.done (.ret .none)) {s with heap:=sortedHeap s.heap a (F.map Value.ref) (O.map Value.ref).toArray}) :
  wpAny (model prog w) A (Builtin.«list.sort» ⟨[.ref a],[]⟩) P E s:=by
 rw[list_sort_plain];have ha:a<s.heap.objs.size:=wD ho
 refine Kn (listItems_at ho rfl (Kn (listUpdate_at ho rfl ?_)))
 have ab:=get?_update_seq ho (λ_=>#[])
 refine Kn (seqEpoch_at ab rfl (Kn (wpAny_newTuple (Kn (wpAny_newList (wpAny_holding ?_))))))
 have keep:∀q o,q≠a->s.heap.get? q=some o->(((s.heap.update a (Obj.mapSeq λ_=>#[])).push (seqObj "tuple" (F.map Value.ref).toArray 0)).push (seqObj "list" #[] 0)).get? q=some o:=λq o hq e=>
  wR _ (wR _ (by rw[za1 _ _ (mS hq)];exact e))
 have U:=wR (seqObj "list" #[] 0) (wR (seqObj "tuple" (F.map Value.ref).toArray 0) ab)
 have W:∀q∈F,IsTupleKey (intKind prog w) (((s.heap.update a (Obj.mapSeq λ_=>#[])).push (seqObj "tuple" (F.map Value.ref).toArray 0)).push (seqObj "list" #[] 0)) (κ q) q/\κ q≠[]:=λq hq=>by
  obtain⟨hk,ac⟩:=hT q hq
  refine⟨sf hk λo e=>keep q o (λz=>?_) e,ac⟩
  obtain⟨o1,_,_,g1,c1,_⟩:=hk
  rw[z,ho]at g1
  obtain rfl:=Option.some.inj g1
  have Y:("list" : String) = "tuple" := by injection c1
  exact absurd Y (by decide)
 show wpAny (model prog w) A _ P E {s with heap:=((s.heap.update a (Obj.mapSeq λ_=>#[])).push (seqObj "tuple" (F.map Value.ref).toArray 0)).push (seqObj "list" #[] 0)}
 have Z:∀J:SortSt,(arrOf J).Perm (pairsOf (F.map Value.ref))->P (.done (.ret .none)) {s with heap:=sortedHeap s.heap a (F.map Value.ref) ((arrOf J).map (·.2))}:=λJ hp=>by
  obtain⟨O,q1,q3⟩:=JA hp
  rw[q3];exact h O q1
 have ad:(pairsOf (F.map Value.ref)).size=F.length:=by rw[pairsOf_size,zj]
 dsimp only
 by_cases Y:(F.map Value.ref).toArray.size<2
 .rw[Kx Y,Kx Y]
  refine Kn (Kr ?_)
  rw[StateT.run_pure];refine Kn (Kr ?_)
  dsimp only
  refine Kn (seqEpoch_at U rfl (Kn (listUpdate_at U rfl ?_ (hsz2:=by rw[Array.size_map];show (pairsOf (F.map Value.ref)).size<=_;lia))))
  simp only[bne_self_eq_false,sZ,if_false]
  exact Kr (Z (SortSt.mk' general' (pairsOf (F.map Value.ref)) #[] 7 none) (Array.Perm.refl _))
 .rw[Kt Y,Kt Y]
  refine Kn (Jz (s:={s with heap:=((s.heap.update a (Obj.mapSeq λ_=>#[])).push (seqObj "tuple" (F.map Value.ref).toArray 0)).push (seqObj "list" #[] 0)}) W λb=>?_)
  have hC:j1 prog w {s with heap:=((s.heap.update a (Obj.mapSeq λ_=>#[])).push (seqObj "tuple" (F.map Value.ref).toArray 0)).push (seqObj "list" #[] 0)} (tuples' b) (pairsOf (F.map Value.ref)):=λA E x y Q hx hy hq=>by
   obtain⟨x1,x2⟩:=kr hx
   obtain⟨y1,y2⟩:=kr hy
   have e1:x.1 = .ref (iU x):=congrArg Prod.fst x2
   have e2:y.1 = .ref (iU y):=congrArg Prod.fst y2
   rw[e1,e2];exact xw (W _ x1).1 (W _ y1).1 (hq _)
  refine Kn (wpAny_mono (Js (Q:=λ_ J=>(arrOf J).Perm (pairsOf (F.map Value.ref))/\failedOf J=none) hC (st:=SortSt.mk' (tuples' b) ((F.map Value.ref).toArray.zip (F.map Value.ref).toArray) #[] 7 none) ⟨Array.Perm.refl _,rfl,rfl⟩ rfl λJ a1 a2=>⟨a1,a2⟩) ?_ λ_ _ e=>e)
  rintro⟨⟨⟩,J⟩ s' ⟨rfl,a1,a2⟩
  dsimp only
  refine Kn (seqEpoch_at U rfl (Kn (listUpdate_at U rfl ?_ (hsz2:=by rw[Array.size_map,a1.size_eq];lia))))
  rw[a2];simp only[bne_self_eq_false,sZ,if_false]
  exact Kr (Z J a1)
theorem BL{T:String}{r d:Addr}{n:Nat}{P:Nat->Value->Prop}{Z:Heap->Prop}{Q:LD->Shared->Prop}(ab:W.KdlSrc prog w T r d n P Z)(hh:A.handled=none)(hok:Z s.heap)(U:Z (s.heap.push {cls:=.type "list",data:=.seq ([]:LD).toArray})) (hr:r<s.heap.objs.size) (hd:d<s.heap.objs.size) (hn:n<=sizeLine)
  (hQ:∀h' tk acc,(∀b o,s.heap.get? b=some o->h'.get? b=some o)->s.heap.objs.size<h'.objs.size->ItemsOf P acc n->Q acc.toList {s with heap:=h',toks:=tk}):wpAny (model prog w) A (collect (.ref r)) Q E s:=by
 have ext:∀R:Result->Shared->Prop,(∀h' tk J Y,(∀b o,s.heap.get? b=some o->h'.get? b=some o)->h'.get? s.heap.objs.size=some {cls:=.type "list",dict:=none,data:=.seq J Y,slots:=#[]}->ItemsOf P J n->R (.ok (.ret (.ref s.heap.objs.size))) {s with heap:=h',toks:=tk})->
   codeAny (model prog w) A (.builtin "proto.collect" ⟨[.ref r],[]⟩) R s:=λR hR=>by
  refine codeAny_builtin F.entry_proto_collect ?_
  rw[IC F.plain_proto_collect _];show wpAny _ A.in1 (newList [] >>= λl=>again (.builtin "list.__iadd__" ⟨[l,.ref r],[]⟩)) _ _ s
  refine Kn (wpAny_newObj_type ?_)
  refine Kr ⟨plainId_quiet zbe _,codeAny_builtin F.entry_list_iadd ?_⟩
  rw[IC zbe _];show wpAny _ A.in1 (Builtin.List.listExtendWith (.ref s.heap.objs.size) (.ref r) (.ref s.heap.objs.size)) _ _ _
  refine W.kdl_extend (R:=R) (s:={s with heap:=s.heap.push {cls:=.type "list",data:=.seq ([]:LD).toArray}}) ab hh U s.heap.objs.size (Ie hr) (Ie hd) _ 0 (yk _ rfl) (λh' tk J Y hk O hp=>?_) hn
  exact hR h' tk J Y (λb o e=>hk b o (xa (wD e)) (wR _ e)) O hp
 unfold collect;refine Kn (wpAny_runValue (ext _ λh' tk J Y hk O hp=>?_))
 show wpAny _ A (load s.heap.objs.size >>= _) _ _ _
 refine Kn (wpAny_load O ?_)
 exact Kr (hQ h' tk J hk (wD O) hp)
theorem wb{a:Addr}{U:LC}{κ:Addr->LJ}{Q:KY}(hh:A.handled=none)(hz:U.length<=sizeLine)(hT:∀q∈U,IsTupleKey (intKind prog w) s.heap (κ q) q/\κ q≠[])
  (Z:∀(A:Around) (E:KY) (R:LD->Shared->Prop),A.handled=none->(∀h' d' tk (rs:LC),(∀b o,s.heap.get? b=some o->h'.get? b=some o)->s.heap.objs.size<h'.objs.size->rs.Perm U->R (rs.map Value.ref) {s with heap:=h',drawn:=d',toks:=tk})->wpAny (model prog w) A (collect (.ref a)) R E s)
  (hQ:∀h' d' tk q c (F:LC),(∀b o,s.heap.get? b=some o->h'.get? b=some o)->s.heap.objs.size<=q->h'.get? q=some (seqObj "list" (F.map Value.ref).toArray c)->F.Perm U->Q (.ref q) {s with heap:=h',drawn:=d',toks:=tk}) :
  wpAny (model prog w) A (call (.builtin "sorted") [.ref a]) Q E s:=by
 refine zbx kind_sorted plain_sorted entry_sorted (args_sorted1 _) ?_
 unfold Builtin.«sorted»
 refine Kn (m:=checkCount "sorted" 1 1 _) (Kr ?_)
 refine Kn (Z _ _ _ hh λh' d' tk rs Y W J=>?_)
 refine Kn (wpAny_newList ?_ (by rw[zj,J.length_eq];exact hz))
 have O:(h'.push (seqObj "list" (rs.map Value.ref).toArray 0)).get? h'.objs.size=some (seqObj "list" (rs.map Value.ref).toArray 0):=yk _ rfl
 show wpAny _ _ _ _ _ {s with heap:=h'.push (seqObj "list" (rs.map Value.ref).toArray 0),drawn:=d',toks:=tk}
 refine Kn (wpAny_holding (wpAny_call_entry slot_list_sort ⟨_,O,rfl⟩ entry_list_sort (Jr (κ:=κ) O (λq hq=>?_) (by rw[J.length_eq];exact hz) λF b1=>⟨_,rfl,?_⟩) (args_list_sort _)))
 .obtain⟨k1,k2⟩:=hT q (J.mem_iff.mp hq)
  exact⟨sf k1 λo e=>wR _ (Y q o e),k2⟩
 .obtain⟨c,Z⟩:=sortedHeap_at (out:=(F.map Value.ref).toArray) O
  refine Kr ⟨_,rfl,hQ _ d' tk h'.objs.size c F (λb o e=>?_) (xF W) Z (b1.trans J)⟩
  have hb:=wD (Y b o e);rw[sortedHeap_old (xa hb) (by rw[rW];exact JV hb)]
  exact wR _ (Y b o e)
end
def Di(v:V):Int:=match v with
 | .int i=>i
 | _=>0
noncomputable def l_(H:Hp)(q:Addr):LJ:=match H q with
 | some (.tup xs)=>xs.map Di
 | _=>[]
def HL(K:W.Frag):LB->Hp->VK->Prop:=λxs H Q=>∃(d:Addr) (kvs:List (List aL×V)),xs=[.ref d]/\H d=some (.dT kvs)/\(∀p∈kvs,p.1≠[]/\∃ks:LJ,p.1=ks.map Sum.inl)/\kvs.length<=60000/\∀(l:Addr) (bs bs':LC),H l=none->Paired (λ(p:List aL×V) b=>H b=some (.tup (p.1.map kV))) kvs bs->bs'.Perm bs->Q (.ref l) (upd H l (.lst (bs'.map V.ref)))
def oI(K:W.Frag)(SO:Addr->LC->HO):LB->Hp->VK->Prop:=λxs H Q=>∃(p:Addr) (qs:LC) (κ : Addr->LJ),xs=[.ref p]/\H p=some (SO p qs)/\qs.length<=60/\(∀q∈qs,vr K H q ((κ q).map V.int)/\κ q≠[])/\
 ∀(l:Addr) (qs':LC),H l=none->qs'.Perm qs->Q (.ref l) (upd H l (.lst (qs'.map V.ref)))
section
variable{X:Cx}
theorem yo(K:W.Frag)(hr:B4 m X.A)(hK:X.K=K:=by rfl):BB X (.builtin "sorted") (HL K):=by
 subst hK;intro pins s σ H xs us Q I r h
 obtain⟨d,kvs,rfl,ed,ag,hn,q⟩:=h
 obtain⟨u,rfl,ru⟩:=cU r
 cases ru;obtain⟨_,nd,ys,Z,o,es,ep,eo,ex,od,he,_⟩:=(show BC X.prog X.w H s.heap d (.dT kvs) from I.hok d _ ed)
 have hs:sizeLine=16777216:=sizeLine_eq
 have hl:kvs.length=ys.length:=zaO Z
 have hz:es.size=ys.length:=by rw[<-nX,he,zj]
 have hb:=Ep Z
 have hT:∀a∈ys.map (·.2.1),IsTupleKey (intKind X.prog X.w) s.heap (l_ H a) a/\l_ H a≠[]:=λa ha=>by
  obtain⟨j,U,rfl⟩:=KD.mp ha
  have Y:j<kvs.length:=by rw[hl];simpa using U
  have hp:=hU hb (qz Y) (qz U);obtain⟨h1,ks,h2⟩:=ag _ (nY Y)
  rw[h2]at hp h1
  have e:l_ H (ys.map (·.2.1))[j]=ks:=by
   unfold l_;rw[hp]
   show ((ks.map Sum.inl).map kV).map Di=ks
   rw[He,He];exact List.map_id ks
  rw[e];refine⟨I.tupK (vr.of (hp.trans ?_)),λz=>h1 (by rw[z];rfl)⟩
  rw[He];rfl
 refine wb (κ:=l_ H) hr.hd (by rw[zj];lia) hT (λA E R hh hR=>?_) λh' d' tk qa c F hk hq hc a1=>?_
 .have ac:GR s.heap d es ep:=⟨o,eo,ex,od⟩
  refine BL (EZ (es:=es) (ep:=ep) nd) hh ac (ac.by λo e=>wR _ e) (wD eo) (wD eo) (by lia) λh' tk acc hk ad O=>?_
  have e:acc.toList=(ys.map (·.2.1)).map Value.ref:=by
   refine List.ext_getElem? λj=>?_
   by_cases U:j<ys.length
   .have ab:j<acc.size:=by rw[O.1];lia
    obtain⟨e,z1,z2⟩:=O.2 j acc[j] (G8 ab)
    rw[<-Ib,he,wC,qz U]at z1
    cases z1;rw[Ib,G8 ab,wC,wC,qz U,z2];rfl
   .rw[IS (by rw[nX,O.1];lia),IS (by simp;lia)]
  have:=hR h' s.drawn tk (ys.map (·.2.1)) hk ad (.refl _)
  rw[<-e]at this;exact this
 .have al:F.length=ys.length:=by rw[a1.length_eq,zj]
  have J:=I.laid (t':=tk) (a:=qa) (o:=.lst (F.map V.ref)) hk hq (show BC X.prog X.w _ h' _ (.lst (F.map V.ref)) from ⟨by rw[zj];lia,F.map Value.ref,c,kD F,by simpa using hc⟩)
  refine⟨.ref qa,_,?_,rfl,q _ _ F (I.hok.fresh hq) hb a1⟩
  exact⟨J.ok,J.os,J.bare,J.base,J.loc,J.cell,J.free,J.freeC,J.pin,J.hok,J.len⟩
theorem pT(hr:B4 m X.A){K:W.Frag}(hK:X.K=K):BB X (.builtin "sorted") (oI K (iM X.w)):=by
 subst hK;intro pins s σ H xs us Q I r h
 obtain⟨p,Y,κ,rfl,e,ac,hT,q⟩:=h
 obtain⟨u,rfl,ru⟩:=cU r
 cases ru;obtain⟨o,es,ep,t,ho,hx,hd,al,hf,hg,U⟩:=(show BC X.prog X.w H s.heap p (iM X.w p Y) from I.hok p _ e).1
 have hz:es.size=Y.length:=by have:=congrArg List.length U;simpa using this
 have hs:sizeLine=16777216:=sizeLine_eq
 refine wb (κ:=κ) hr.hd (by lia) (λq Z=>⟨I.tupK (hT q Z).1,(hT q Z).2⟩) (λA E R hh hR=>?_) λh' d' tk qa c F hk Z hc a1=>?_
 .refine jD hh ho hx hd hf (by unfold scanBound;lia) hg λh' d' tk acc hk ag hp=>?_
  rw[U]at hp
  have O:∃rs:LC,rs.Perm Y/\acc=rs.map Value.ref:=by
   have hv:∀v∈acc,∃q,v=Value.ref q:=λv hv=>by
    obtain⟨q,_,rfl⟩:=KB.mp (hp.mem_iff.mp hv);exact⟨q,rfl⟩
   let f:Value->Addr:=λv=>match v with | .ref q=>q | _=>0
   refine⟨acc.map f,?_,?_⟩
   .have:=hp.map f
    rw[He]at this
    have e:(Y.map (f ∘ Value.ref))=Y:=by rw[show (f ∘ Value.ref)=id from rfl,List.map_id]
    rw[e]at this;exact this
   .rw[He]
    have:acc.map (Value.ref ∘ f)=acc.map id:=zbm λv ab=>by obtain⟨q,rfl⟩:=hv v ab;rfl
    rw[this,List.map_id]
  obtain⟨rs,ad,rfl⟩:=O
  exact hR h' d' tk rs hk ag ad
 .have hl:F.length<=60:=by rw[a1.length_eq];exact ac
  have J:=I.laid (t':=tk) (a:=qa) (o:=.lst (F.map V.ref)) hk Z (show BC X.prog X.w _ h' _ (.lst (F.map V.ref)) from ⟨by rw[zj];lia,F.map Value.ref,c,kD F,by simpa using hc⟩)
  refine⟨.ref qa,_,?_,rfl,q _ F (I.hok.fresh Z) a1⟩
  exact⟨J.ok,J.os,J.bare,J.base,J.loc,J.cell,J.free,J.freeC,J.pin,J.hok,J.len⟩
theorem n8(K:W.Frag)(w:World)(J:B4 m X.A)(F:X.K=K:=by rfl)(hw:X.w=w:=by rfl):BB X (.builtin "sorted") (oI K (iM w)):=hw ▸ pT J F
end
noncomputable def gJ(xs:LB)(lo hi st:LI):LB:=(sliceRange (sliceBounds lo hi st xs.length).1 (sliceBounds lo hi st xs.length).2.1 (sliceBounds lo hi st xs.length).2.2).filterMap λi=>xs[i]?
theorem ke{xs:LB}{F:LD}(r:A1 xs F):∀is:LN,A1 (is.filterMap λi=>xs[i]?) (is.filterMap λi=>F.toArray[i]?)
 | []=>.nil
 | i::is=>by
  cases e:xs[i]? with
  | none=>
   have J:F.toArray[i]?=none:=by simpa using r.none_of e
   rw[List.filterMap_cons_none e,List.filterMap_cons_none J];exact ke r is
  | some x=>
   obtain⟨u,O,U⟩:=r.get e
   have J:F.toArray[i]?=some u:=by simpa using O
   rw[List.filterMap_cons_some e,List.filterMap_cons_some J];exact .cons U (ke r is)
theorem Ci{xs:LB}{lo hi st:LI}{v:V}(h:v∈gJ xs lo hi st):v∈xs:=by
 obtain⟨i,_,e⟩:=KN.mp h
 exact kg e
def KS(K:W.Frag):V->LI->LI->LI->Hp->VK->Prop:=λx lo hi st H Q=>∃a xs,x = .ref a/\su K H a xs/\st≠some 0/\(gJ xs lo hi st).length<=sizeLine/\∀p,H p=none->Q (.ref p) (upd H p (.lst (gJ xs lo hi st)))
def HU(r:V->LI->LI->LI->Hp->VK->Prop)(te:TE)(tl th ts:TO):TE:=λσ H Q=>te σ H λx H1=>tl σ H1 λl H2=>th σ H2 λu H3=>ts σ H3 λk H4=>r x l u k H4 Q
theorem v1{r:V->LI->LI->LI->Hp->VK->Prop}{te:TE}{tl th ts:TO}{σ:St}{H:Hp}{Q:VK}:HU r te tl th ts σ H Q=te σ H λx H1=>tl σ H1 λl H2=>th σ H2 λu F=>ts σ F λk J=>r x l u k J Q:=rfl
section
variable{X:Cx}{e:Expr}{te:TE}{lo hi:Option Expr}{st:Expr}{tl th ts:TO}{pos p2:Pos}
theorem pK(K:W.Frag)(he:PE X e te)(hl:PO X lo tl)(hu:PO X hi th)(Z:PO X (some st) ts)(hK:X.K=K:=by rfl):PE X (.Subscript e (.Slice lo hi (some st) p2) pos) (HU (KS K) te tl th ts):=by
 subst hK;intro pins s σ H Q I h
 refine Subscript_ (bz (he pins s σ H _ I h) λv s1 ⟨x,H1,I1,r1,q1⟩=>?_)
 refine wpAny_Slice (bz (hl pins s1 σ H1 _ I1 q1) λvl s2 ⟨l,H2,I2,pl,q2⟩=>bz (hu pins s2 σ H2 _ I2 q2) λvu s3 ⟨u,H3,I3,pu,q3⟩=>bz (Z pins s3 σ H3 _ I3 q3) λvs J ⟨k,H4,I4,ps,q4⟩=>?_)
 obtain⟨a,xs,rfl,hx,h0,O,q⟩:=q4
 cases r1;have U:Inv X pins σ H4 {J with heap:=J.heap.push {cls:=.type "slice",data:=.fields #[vl,vu,vs]}}:=I4.kept (t':=J.toks) λb ob q=>wR _ q
 obtain⟨F,r,ht,hz⟩:=U.list hx
 have Y:=r.length;refine tail_any (ops:=[.ref a,.ref J.heap.objs.size]) ht.isList.typeIs slot_list_getitem.lookup ?_ (by with_unfolding_all rfl)
 refine wpAny_getItem_list_slice ht.isList (Heap.IsSliceOf.new ..) pl pu ps h0 ?_ (by rw[xo]<;>lia)
 have ev:A1 (gJ xs l u k) ((sliceRange (sliceBounds l u k xs.length).1 (sliceBounds l u k xs.length).2.1 (sliceBounds l u k xs.length).2.2).filterMap λi=>F.toArray[i]?):=ke r _
 have es:slicePick F.toArray l u k=((sliceRange (sliceBounds l u k xs.length).1 (sliceBounds l u k xs.length).2.1 (sliceBounds l u k xs.length).2.2).filterMap λi=>F.toArray[i]?).toArray:=by
  unfold slicePick;rw[xo,<-Y]
 rw[es];exact⟨.ref _,_,U.laid (t':=J.toks) (o:=.lst (gJ xs l u k)) (λb ob q=>wR _ q) (qt _) ⟨O,_,0,ev,yk _ rfl⟩,rfl,q _ (U.hok.fresh (qt _))⟩
end
theorem As(xs:LB){a b:Int}(F:¬ a<0)(J:¬ b<0)(h:b=a+36):(gJ xs (some a) (some b) (some 2)).length<=18:=by
 unfold gJ;refine xB (List.length_filterMap_le _ _) ?_
 unfold sliceRange sliceBounds;simp only[zj,zbn]
 simp only[Option.getD_some,gt_iff_lt,show (0:Int)<2 by decide,if_true,F,J,if_false]
 split<;>lia
theorem iP(xs:LB):(gJ xs (some 8) (some 44) (some 2)).length<=18/\(gJ xs (some 9) (some 45) (some 2)).length<=18:=⟨As xs (by decide) (by decide) rfl,As xs (by decide) (by decide) rfl⟩
section
variable{prog:Program}{w:World}{K:Type}[DecidableEq K]{knd:KeyKind prog w K}{A:Around}{E:KY}{s:Shared}{L:Bool}
theorem GJ(f:Nat->Int)(h:Int):(SetTable.fresh 0 0 L).probe f h ((SetTable.fresh 0 0 L).probeStart h)=some (.empty (SetTable.bits h%8) none):=rfl
theorem Oo(j:Nat):(SetTable.fresh 0 0 L).put j=({SetTable.fresh 0 0 L with place:=#[j]},0):=rfl
theorem Ko{a p:Addr}{k:List K}{o:Obj}{Q:Bool->Shared->Prop}(hk:IsTupleKey knd s.heap k p)(U:∀k v,knd.is k v=true->v.scannable=true)(F:s.heap.get? a=some o)(ex:o.ExactSet)(hd:o.data = .set #[] 0 (.fresh 0 0 L))
  (h:∀h' o' ep t,Heap.SameBut a s.heap h'->h'.get? a=some o'->o'.ExactSet->o'.data = .set #[(tupleKeyHash knd k,.ref p)] ep t->t.fits 1=true->cw L t->Q true {s with heap:=h'}) :
  wpAny (model prog w) A (setAddHashed a (.ref p) (tupleKeyHash knd k)) Q E s:=by
 have hf:(SetTable.fresh 0 0 L).fits (#[]:Array (Int×Value)).size=true:=rfl
 unfold setAddHashed setAddHashedIn;refine wpAny_holding (Kn (wpAny_setState_of F hd hf ?_))
 dsimp only
 have O:byScan (.ref p) #[]=false:=rfl
 rw[O];simp only[sZ,if_false]
 refine Kn ?_
 unfold setSearch setSearchFrom;refine Kn (wpAny_setState_of F hd hf ?_)
 dsimp only
 have hg:(SetTable.fresh 0 0 L).gaveWay=false:=by unfold SetTable.gaveWay;rw[show (SetTable.fresh 0 0 L).mask%2=1 by show 7%2=1;decide];rfl
 rw[hg];simp only[sZ,if_false]
 rw[show (none:Option SetTable.Probe).getD ((SetTable.fresh 0 0 L).probeStart (tupleKeyHash knd k))=(SetTable.fresh 0 0 L).probeStart (tupleKeyHash knd k) from rfl,GJ]
 dsimp only
 refine Kr ?_
 dsimp only
 refine Kn (wpAny_setState_of F hd hf ?_)
 dsimp only
 rw[Oo]
 dsimp only
 rw[Kx (show (SetTable.fresh 0 0 L).plain=true from rfl)];refine Kn (rJ hk U λb=>?_)
 have J:∀t2:SetTable,(∃c,t2={SetTable.fresh 0 0 L with place:=#[SetTable.bits (tupleKeyHash knd k)%8],plain:=c})->wpAny (model prog w) A (do
   storeSet a #[(tupleKeyHash knd k,Value.ref p)] t2
   if (!false&&t2.tooFull)=true then do
     setRelay a (SetTable.grown ((#[]:Array (Int×Value)).size+1))
     pure true
    else pure true) Q E s:=by
  rintro t2 ⟨c,rfl⟩
  refine Kn (wpAny_storeSet_of F hd ?_ (by show 1<=sizeLine;decide))
  rw[Kt (by simp[SetTable.tooFull,SetTable.fill,SetTable.fresh])]
  have W:=putSet_of #[(tupleKeyHash knd k,Value.ref p)] {SetTable.fresh 0 0 L with place:=#[SetTable.bits (tupleKeyHash knd k)%8],plain:=c} hd;have hg:=HK (Obj.putSet #[(tupleKeyHash knd k,Value.ref p)] {SetTable.fresh 0 0 L with place:=#[SetTable.bits (tupleKeyHash knd k)%8],plain:=c}) F (by rw[W];rfl)
  rw[W]at hg
  exact Kr (h _ _ _ _ (Hi ..) hg ex rfl rfl ⟨rfl,λa b ha Y Z=>by
   have:b<1:=Y
   lia⟩)
 cases b with
 | true=>exact J _ ⟨true,rfl⟩
 | false=>exact J _ ⟨false,rfl⟩
theorem zO{l:Addr}{F:LM}{k:List K}{p:Addr}{Q:KY}(hh:A.handled=none)(hu:A.units+20<cLine)(hl:s.heap.IsList l F)(a5:∀k v,knd.is k v=true->v.scannable=true)(hv:F = #[]\/F = #[.ref p]/\IsTupleKey knd s.heap k p)
  (h:∀(h':Heap) (tk:Nat) o es ep t,h'.get? s.heap.objs.size=some o->o.ExactSet->o.data = .set es ep t->es.toList.map (·.2)=F.toList->t.fits es.size=true->cw (cF w) t->
   (∀b o,b<s.heap.objs.size->s.heap.get? b=some o->h'.get? b=some o)->Q (.ref s.heap.objs.size) {s with heap:=h',toks:=tk}) :
  wpAny (model prog w) A (call (.type "set") [.ref l]) Q E s:=by
 refine pA (Po:=λh'=>∃o es ep t,h'.get? s.heap.objs.size=some o/\o.ExactSet/\o.data = .set es ep t/\es.toList.map (·.2)=F.toList/\t.fits es.size=true/\cw (cF w) t) hh hl (λR s1 I St hI hS a6 W h0 ad hR=>?_) λh' tk ⟨o,es,ep,t,h1,h2,h3,h4,h5,h6⟩ hk=>h h' tk o es ep t h1 h2 h3 h4 h5 h6 hk
 have a7:A.in1.in1.in1.units<cLine:=by
  show A.units+1+1+1<cLine
  lia
 have Y:s.heap.objs.size∉[I]:=λz=>ad (by rw[Kw.mp z];exact yb)
 have J:∀b∈[I],b∈[s.heap.objs.size,I]:=λb Z=>yc _ Z
 have ab:∀s2:Shared,St F.size s2->(∀s',Moved [I] (λa b=>b=a) s2 s'->R (.ok (.ret .none)) s')->codeAny (model prog w) A.in1.in1 (.builtin "set.update.loop" ⟨[.ref s.heap.objs.size,.ref I],[]⟩) R s2:=λs2 a8 hR=>by
  refine codeAny_builtin zbd ?_
  rw[IC zaU _];show wpAny _ A.in1.in1.in1 (pyNext (.ref I) >>= _) _ _ s2
  refine Kn (W.done s2 _ _ a8 λs' U=>?_)
  show wpAny _ A.in1.in1.in1 (ret Value.none) _ _ s'
  exact Kr (hR s' U)
 rcases hv with rfl | ⟨rfl,hp⟩
 .exact ab s1 h0 λs' U=>hR s' (U.mono J) ⟨_,#[],0,.fresh 0 0 (cF w),U.heap _ _ Y hS,⟨rfl,rfl,rfl⟩,rfl,rfl,rfl,rfl,λa b ha=>absurd ha (za5 _)⟩
 .refine codeAny_builtin zbd ?_
  rw[IC zaU _];show wpAny _ A.in1.in1.in1 (pyNext (.ref I) >>= _) _ _ s1
  refine Kn (W.item 0 s1 _ _ Nat.zero_lt_one h0 λv s' hP ag U=>?_)
  cases hP;have a4:p<s.heap.objs.size:=by obtain⟨o,_,_,ho,_⟩:=hp;exact wD ho
  have al:IsTupleKey knd s'.heap k p:=by
   obtain⟨o,as,n,ho,r⟩:=hp
   exact⟨o,as,n,U.heap _ _ (λz=>xa (hI ▸ JV a4) (Kw.mp z)) (a6 _ _ ho),r⟩
  show wpAny _ A.in1.in1.in1 (holding [Value.ref p] (setAdd s.heap.objs.size (.ref p)) >>= _) _ _ s'
  refine Kn (wpAny_holding ?_)
  unfold setAdd;refine wpAny_holding ?_
  refine Kn (wpAny_pyHash_tuple a7 al ?_)
  refine Ko (s:={s' with toks:=s'.toks+(k.length+1)}) (L:=cF w) al a5 (U.heap _ _ Y hS) ⟨rfl,rfl,rfl⟩ rfl λh' o' ep t ac g1 g2 g3 g4 g5=>?_
  refine Kr ⟨plainId_quiet zaU _,ab _ (W.frame _ s' _ _ ag (za4 _ _) λb Z o e=>?_) λa3 O=>hR a3 (Moved.trans W.gtrans ((U.mono J).then_heap (za4 _ _) λb o Z e=>?_) (O.mono J)) ⟨o',_,ep,t,O.heap _ _ Y g1,g2,g3,rfl,g4,g5⟩⟩
  .rw[ac.2 b (λh=>ad (by rw[<-h];exact Z))];exact e
  .rw[ac.2 b (λh=>Z (by rw[h];exact yb))];exact e
end
theorem ra:∀ {F:LC} {J:LD},A1 (F.map V.ref) J->J=F.map Value.ref
 | [],_,.nil=>rfl
 | q::F,_,.cons r rs=>by cases r;rw[ra rs];rfl
def Ee(K:W.Frag)(SO:Addr->LC->HO):LB->Hp->VK->Prop:=λxs H Q=>∃(p:Addr) (qs:LC),xs=[.ref p]/\su K H p (qs.map V.ref)/\(qs=[]\/∃(t:Addr) (ns:LJ),qs=[t]/\vr K H t (ns.map V.int))/\
 ∀l:Addr,H l=none->Q (.ref l) (upd H l (SO l qs))
section
variable{X:Cx}
theorem wU(Z:B4 m X.A){K:W.Frag}(hK:X.K=K):BB X (.type "set") (Ee K (iM X.w)):=by
 subst hK;intro pins s σ H xs us Q I r h
 obtain⟨p,F,rfl,hq,h1,q⟩:=h
 obtain⟨u,rfl,ru⟩:=cU r
 cases ru;obtain⟨U,rv,pl,hz⟩:=I.list hq
 have e0:U=F.map Value.ref:=ra rv
 subst e0
 have hv:∃(k:LJ) (t:Addr),(F.map Value.ref).toArray = #[]\/(F.map Value.ref).toArray = #[.ref t]/\IsTupleKey (intKind X.prog X.w) s.heap k t:=by
  rcases h1 with rfl | ⟨t,ns,rfl,Y⟩
  .exact⟨[],0,.inl rfl⟩
  .exact⟨ns,t,.inr ⟨rfl,I.tupK Y⟩⟩
 have hl:F.length<=1:=by rcases h1 with rfl | ⟨t,ns,rfl,Y⟩<;>simp
 obtain⟨k,t,hv⟩:=hv
 refine zO Z.hd (by have:=Z.un;lia) pl.isList (λk v h=>yt k v h) hv λh' tk o es ep t O hx hd J hf hg hk=>?_
 have hsz:es.size=F.length:=by rw[<-nX,<-zj (f:=(·.2)),J,zj]
 refine⟨.ref s.heap.objs.size,_,I.laid (λb o e=>hk b o (wD e) e) (qt _) (show BC X.prog X.w _ h' _ (iM X.w s.heap.objs.size F) from ⟨⟨o,es,ep,t,O,hx,hd,by rw[hsz];unfold scanBound;lia,hf,hg,J⟩,⟨o,O⟩,λh1 h2 g k=>?_⟩),rfl,q _ (I.hok.fresh (qt _))⟩
 obtain⟨o,es,ep,t,O,BG⟩:=g
 exact⟨o,es,ep,t,k o O,BG⟩
theorem xq(K:W.Frag)(w:World)(J:B4 m X.A)(F:X.K=K:=by rfl)(hw:X.w=w:=by rfl):BB X (.type "set") (Ee K (iM w)):=hw ▸ wU J F
end
end L2
section
open PySem PySem.Spec PyProof.Rows L2
seal L2.PE L2.PT L2.PW L2.PA L2.PS L2.G0 L2.PG L2.Km L2.Ht L2.PI L2.Hy L2.FS L2.UnR L2.BB L2.Ha L2.G7 L2.CY L2.PO L2.PPs
local macro_rules | `(tactic| walk_at "z")=>`(tactic| exact fun _ _ _ _ _ _ us hl=>by first | (obtain ⟨_,e⟩:=L2.zu1 us hl;subst e;rfl) | (obtain ⟨_,_,e⟩:=L2.zu2 us hl;subst e;rfl) | (obtain ⟨_,_,_,e⟩:=L2.zu3 us hl;subst e;rfl) | (obtain ⟨_,_,_,_,e⟩:=L2.zu4 us hl;subst e;rfl) | (obtain ⟨_,_,_,_,_,e⟩:=L2.zu5 us hl;subst e;rfl))
local macro_rules | `(tactic| walk_at "v")=>`(tactic| exact fun _ _ _ _ h=>by first | (obtain ⟨e,_⟩:=h;subst e;rfl) | (obtain ⟨_,e,_⟩:=h;subst e;rfl) | (obtain ⟨_,_,e,_⟩:=h;subst e;rfl) | (obtain ⟨_,_,_,e,_⟩:=h;subst e;rfl) | (obtain ⟨_,_,_,_,e,_⟩:=h;subst e;rfl) | (obtain ⟨_,_,_,_,_,e,_⟩:=h;subst e;rfl) | (obtain ⟨_,_,_,_,_,_,e,_⟩:=h;subst e;rfl) | (obtain ⟨_,_,_,_,_,_,_,e,_⟩:=h;subst e;rfl) | (obtain ⟨_,_,_,_,_,_,_,_,e,_⟩:=h;subst e;rfl) | (obtain ⟨_,_,_,_,_,_,_,_,_,e,_⟩:=h;subst e;rfl) | (obtain ⟨_,_,_,_,_,_,_,_,_,_,e,_⟩:=h;subst e;rfl))
local macro_rules | `(tactic| walk_at "r")=>do
 let f:=λ(p:Lean.Name) (s:String)=>(s.splitOn " ").toArray.mapM λx=>`(Lean.Parser.Tactic.simpLemma| $(Lean.mkCIdent (p++x.toName)):term)
 `(tactic| try simp only [$((<-f `L2 "vM mq lj sS vz vt sV ww sE vc qK vJ uS vh Dw yW AG rV Eb vP zo vQ Ar zL sI vw u9 vy ub Ae vd qS tH pj lm qA r_ yR tJ mo um v0 ve qm qu vx tT vO sr uw oj rQ rZ sH ug vL lK zF Ea pN pG j4 oM ou wj t_ tY ma oP uh wv Dv vS mE qP qo uu s_ lg lc oF oH qG tQ qV l8 tI vW rM vB oV oE fZ vp oB tV rz rX tO rD vI u7 uY start V.int.injEq V.ref.injEq V.str.injEq V.bl.injEq zw uX")++(<-f .anonymous "List.map_cons List.map_nil List.length_cons List.length_nil List.replicate List.cons_append List.nil_append List.append_nil List.getElem?_cons_zero List.getElem?_cons_succ List.set_cons_zero List.set_cons_succ Nat.reduceAdd Nat.reduceSub Option.some.injEq exists_eq_left' exists_eq_left and_true true_and decide_eq_true_eq Bool.not_true Bool.not_false if_true Bool.false_eq_true if_false ite_true ite_false")),*])
local macro_rules | `(tactic| walk_at "g")=>`(tactic| (generalize hG:upd _ _ _=HG; have sG:=ED hG (by assumption); have eG:=JK hG; clear hG))
local macro_rules | `(tactic| walk_at "n")=>`(tactic| ((first | rw [m6] | (dsimp only; rw [m6])); walk_at "r"))
local macro_rules | `(tactic| walk_at "lk")=>`(tactic| repeat (first | exact G5 | exact Gw | rw [EV (by decide +kernel)]))
local macro_rules | `(tactic| walk_at "pf")=>`(tactic| repeat (first | rw [putF_hit] | rw [A0] | rw [Ak (by decide +kernel)]))
namespace K57
open PySem L2
variable{α:Type}{i d n a l j N m:Nat}{S:Addr->Prop}{H H':Hp}{p q O:Addr}{xs:LB}{o:HO}{K:W.Frag}{J:LC}{ws nm:KZ}{y:Str}
abbrev wAK(mg:Str->Option Value):=mg "len"=none
abbrev wAL(mg:Str->Option Value):=mg "range"=none
variable{P:Program}{w:World}{K:W.Frag}{mg:Str->LF}{base:Heap}
noncomputable abbrev qAA:List Str:=["_law_script","_law_second","_law_words_here","_law_cells","_law_rule_here","_law_code_here","_law_inputs_here","_law_kept","_law_paper"]
noncomputable abbrev qAB:List Str:=["_law_code_here","_law_rule_here","_law_paper","_law_inputs_here","_law_slots_here","_law_rooms","_law_at","_law_used","_law_count","_law_row"]
noncomputable abbrev qAC:List Str:=["_law_cell","_law_many","_law_letters","_law_size","_law_at","_law_rest","_law_base","_law_k","_law_words_here"]
abbrev qAD:List Str:=["_law_cells","_law_first","_law_second","_law_sides","_law_words_here","_law_names","_law_program_here"]
noncomputable abbrev qAE:List Str:=["_law_cells","_law_code_here","_law_bounds","_law_found","_law_cell","_law_near","_law_far"]
noncomputable abbrev qAF:List Str:=["code","rule","found","waiting","at","place"]
noncomputable abbrev qAG:List Str:=["_law_slots_here","_law_rooms","_law_tokens","_law_sums","_law_slot","_law_held","_law_room"]
abbrev qAH:List Str:=["open","lend","back","end"]
abbrev qAI:List Str:=["_law_rule_here","_law_row","_law_slots_here","_law_rooms"]
noncomputable abbrev qAJ:List Str:=["code","rule","at","token","row","count","behind","room"]
abbrev qAK:List Str:=["one","other","tokens","unlike"]
abbrev qAL:List Str:=["steps","at","slots","turned"]
abbrev qAM:List Str:=["_law_cells","_law_first","_law_second","_law_sides","_law_words_here"]
abbrev qAN:List Str:=["_law_cells","_law_names","_law_words_here","_law_lends","_law_deep"]
abbrev qAO:List Str:=["_law_code_here","_law_rule_here","_law_paper","_law_inputs_here"]
abbrev qAP:List Str:=["step","at","slots","turned"]
abbrev qAQ:List Str:=["program","lines","step","block","closer"]
abbrev qAR:List Str:=["_law_cells","_law_sides","_law_words_here","_law_most"]
abbrev qAS:List Str:=["code","rule","at","token"]
abbrev qAT:List Str:=["_law_rule_here","_law_room","_law_text"]
abbrev qAU:List Str:=["slot","held"]
noncomputable abbrev qAV:List Str:=["self","head","lines","blocks"]
abbrev qAW:List Str:=["steps","line"]
abbrev qAX:List Str:=["_law_pile","_law_step_here"]
abbrev qAY:List Str:=["_law_slots_here","_law_rooms","_law_tokens"]
abbrev qAZ:List Str:=["_law_cell","_law_names","_law_words_here"]
abbrev qAa:List Str:=["row","token","slot","word"]
abbrev qAb:List Str:=["code","rule","at","tokens"]
abbrev qAc:List Str:=["row","token"]
abbrev qAd:List Str:=["_law_cell","_law_many"]
abbrev qAe:List Str:=["_law_script","_law_k"]
abbrev qAf:List Str:=["_law_cells","_law_code_here"]
abbrev qAg:List Str:=["step","slots","line"]
abbrev qAh:List Str:=["rule","room","text"]
abbrev qAi:List Str:=["rule","row","token"]
abbrev qAj:List Str:=["lend","if","while"]
noncomputable abbrev qAk:List Str:=["one","other","tokens","unlike","token"]
abbrev qAl:List Str:=["program","turned"]
abbrev qAm:List Str:=["found","rows","tokens"]
abbrev qAn:List Str:=["rule","slot","tokens"]
abbrev qAo:List Str:=["one","other","tokens"]
abbrev qAp:List Str:=["copy","tie"]
abbrev qAq:List Str:=["open","copy","drop","do","tie"]
abbrev qAr:List Str:=["open","copy","drop"]
abbrev qAs:List Str:=["open","do","copy","drop","tie"]
noncomputable abbrev qAt:List Str:=["rule","room","row"]
abbrev qAu:List Str:=["step","at","slots"]
noncomputable abbrev qAv:List Str:=["name","name"]
abbrev qAw:List Str:=["row","held"]
abbrev dk:Stmt:=top 1
theorem GF:aC ["rule","room","text","words"] qAh (sg dk):=FB
abbrev HS (s : Stmt) (n : Str) : Prop:=(sg s).names.lookup n=some .globalImplicit
theorem oIn {a b : Prop} (h : a) : a \/ b:=.inl h
abbrev cE:Stmt:=top 2
theorem Gb:aC ["rule","room","row","text"] qAt (sg cE):=FB
abbrev je:Stmt:=top 4
theorem Cu:aC qAU qAU (sg je):=FB
abbrev gN:Stmt:=top 5
theorem xl:aC qAU qAU (sg gN):=FB
abbrev c6:Stmt:=top 6
theorem ng:aC qAw qAw (sg c6):=FB
abbrev fH:Stmt:=top 7
theorem ql:aC ["token"] ["token"] (sg fH):=FB
abbrev gj:Stmt:=top 8
theorem uF:aC ["token"] ["token"] (sg gj):=FB
abbrev bu:Stmt:=top 9
theorem F5:aC qAa qAc (sg bu):=FB
theorem JN:aq (sg bu) "token" := Or.inr (Or.inl (by decide +kernel))
theorem Pe:aq (sg bu) "slot" := Or.inr (Or.inl (by decide +kernel))
theorem P9:aH (sg bu) "slot" := Or.inr (by decide +kernel)
theorem PC:aq (sg bu) "word" := Or.inr (Or.inl (by decide +kernel))
theorem Pq:aH (sg bu) "word" := Or.inr (by decide +kernel)
abbrev d0:Stmt:=top 10
theorem uI:aC qAc qAc (sg d0):=FB
abbrev cN:Stmt:=top 11
theorem mW:aC qAi qAi (sg cN):=FB
abbrev aW:Stmt:=top 12
theorem BN:aC ["rule","slot","tokens","new","room","begun","token","held"] qAn (sg aW):=FB
abbrev aO:Stmt:=top 13
theorem Gg:aC qAK qAo (sg aO):=FB
theorem Pb:(sg aO).names.lookup ("unlike" : Str)=some .local:=by decide +kernel
abbrev bS:Stmt:=top 14
theorem FA:aC ["code","rule","at","tokens","row","begun"] qAb (sg bS):=FB
abbrev aZ:Stmt:=top 15
theorem DU:aC qAJ qAS (sg aZ):=FB
theorem IG:aq (sg aZ) "row" := Or.inr (Or.inl (by decide +kernel))
theorem O9:aH (sg aZ) "row" := Or.inr (by decide +kernel)
abbrev cz:Stmt:=top 16
theorem Gp:aC ["code","at","row"] ["code","at"] (sg cz):=FB
abbrev cA:Stmt:=top 18
theorem GD:aC ["code","rule","at","token","begun","behind"] qAS (sg cA):=FB
abbrev fL:Stmt:=top 19
theorem GZ:aC ["found","rows","tokens","new","at","token"] qAm (sg fL):=FB
abbrev a_:Stmt:=top 20
theorem Dc:aC qAF ["code","rule"] (sg a_):=FB
theorem Qe:(sg a_).names.lookup ("found" : Str)=some .local:=by decide +kernel
theorem Pk:HS a_ "range":=by decide +kernel
abbrev fj:Stmt:=top 24
theorem pW:aC ["kind"] ["kind"] (sg fj):=FB
abbrev fX:Stmt:=top 25
theorem xU:aC ["step"] ["step"] (sg fX):=FB
abbrev eK:Stmt:=top 26
theorem rg:aC ["step"] ["step"] (sg eK):=FB
abbrev bP:Stmt:=top 27
theorem CB:aC ["program","steps","step","block"] ["program"] (sg bP):=FB
abbrev b9:Stmt:=top 28
theorem FJ:aC ["steps","names","step","part","kind"] ["steps"] (sg b9):=FB
theorem Kp:HS b9 "zip":=by decide +kernel
abbrev bB:Stmt:=top 29
theorem Da:aC qAQ ["program"] (sg bB):=FB
theorem Lv:HS bB "zip":=by decide +kernel
abbrev fq:Stmt:=top 30
theorem uN:aC ["program"] ["program"] (sg fq):=FB
abbrev bb:Stmt:=inClass (top 32) 0
theorem iB:aC qAV qAV (sg bb):=FB
abbrev dy:Stmt:=top 33
theorem n_:aC qAW qAW (sg dy):=FB
abbrev aX:Stmt:=top 34
theorem BZ:aC ["step","line","lines","blocks","block","steps"] ["step","line"] (sg aX):=FB
abbrev bK:Stmt:=top 35
theorem CH:aC ["steps","line","numbered","step"] qAW (sg bK):=FB
abbrev b5:Stmt:=top 37
theorem p6:aC ["program"] ["program"] (sg b5):=FB
theorem Ku:HS b5 "enumerate":=by decide +kernel
abbrev cm:Stmt:=top 38
theorem F0:aC ["program","slots","slot","holder"] ["program"] (sg cm):=FB
theorem N3:HS cm "enumerate":=by decide +kernel
abbrev bR:Stmt:=top 39
theorem GA:aC qAg ["step","slots"] (sg bR):=FB
theorem Mr:aq (sg bR) "slots" := Or.inr (Or.inl (by decide +kernel))
abbrev bi:Stmt:=top 40
theorem BX:aC ["step","at","slots","turned","line","back","giver","taker","lent","ahead","within"] qAP (sg bi):=FB
abbrev bM:Stmt:=top 41
theorem FG:aC ["step","at","slots","turned","more","jump","rest","behind","test"] qAP (sg bM):=FB
abbrev cf:Stmt:=top 42
theorem Gc:aC ["step","at","slots","within","behind"] qAu (sg cf):=FB
abbrev bD:Stmt:=top 43
theorem FI:aC ["step","at","slots","turned","first","loop","behind"] qAP (sg bD):=FB
abbrev bW:Stmt:=top 44
theorem FT:aC ["steps","at","slots","turned","rows","step","place"] qAL (sg bW):=FB
abbrev bZ:Stmt:=top 45
theorem Gj:aC ["program","turned","steps"] qAl (sg bZ):=FB
abbrev gM:Stmt:=top 46
theorem xb:aC ["program"] ["program"] (sg gM):=FB
abbrev er:Stmt:=top 47
theorem nG:aC ["program"] ["program"] (sg er):=FB
abbrev dA:Stmt:=top 49
theorem nh:aC qAe qAe (sg dA):=FB
abbrev aT:Stmt:=top 50
theorem BI:aC qAC qAd (sg aT):=FB
theorem Kl:aH (sg aT) "_law_letters" := Or.inr (by decide +kernel)
theorem M6:aH (sg aT) "_law_at" := Or.inr (by decide +kernel)
theorem Ll:aq (sg aT) "_law_base" := Or.inr (Or.inl (by decide +kernel))
theorem NT:aH (sg aT) "_law_base" := Or.inr (by decide +kernel)
theorem IN:aH (sg aT) "_law_k" := Or.inr (by decide +kernel)
theorem B5:HS aT "range":=by decide +kernel
abbrev bQ:Stmt:=top 51
theorem Cb:aC ["_law_cell","_law_names","_law_words_here","_law_x","_law_y","_law_word","_law_bound","_law_some"] qAZ (sg bQ):=FB
abbrev gS:Stmt:=top 52
theorem xP:aC qAX qAX (sg gS):=FB
abbrev ck:Stmt:=top 53
theorem Fs:aC ["_law_pile","_law_head","_law_first","_law_second","_law_side"] ["_law_pile"] (sg ck):=FB
abbrev bj:Stmt:=top 54
theorem CJ:aC ["_law_cells","_law_names","_law_words_here","_law_lends","_law_deep","_law_pile","_law_cell","_law_step_here"] qAN (sg bj):=FB
abbrev aS:Stmt:=top 55
theorem Bc:aC ["_law_cells","_law_sides","_law_words_here","_law_most","_law_texts","_law_k","_law_bits","_law_many","_law_share","_law_rooms","_law_rest","_law_room","_law_text","_law_digit"] qAR (sg aS):=FB
theorem Im:HS aS "range":=by decide +kernel
abbrev cS:Stmt:=top 56
theorem D8:aC ["_law_code_here","_law_most","_law_row"] ["_law_code_here"] (sg cS):=FB
abbrev fv:Stmt:=top 57
theorem uD:aC qAT qAT (sg fv):=FB
abbrev bI:Stmt:=top 58
theorem FU:aC qAD qAM (sg bI):=FB
abbrev ba:Stmt:=top 59
theorem CG:aC qAE qAf (sg ba):=FB
abbrev bv:Stmt:=top 60
theorem CZ:aC qAG qAY (sg bv):=FB
theorem P5:(sg bv).names.lookup ("_law_sums" : Str)=some .local:=by decide +kernel
theorem OV:HS bv "range":=by decide +kernel
theorem Lb:HS bv "zip":=by decide +kernel
abbrev dg:Stmt:=top 61
theorem uO:aC qAI qAI (sg dg):=FB
abbrev cD:Stmt:=top 62
theorem Gf:aC ["_law_tokens","_law_known_here","_law_token"] ["_law_tokens"] (sg cD):=FB
abbrev bq:Stmt:=top 63
theorem BS:aC qAB qAO (sg bq):=FB
theorem QK:(sg bq).names.lookup ("_law_slots_here" : Str)=some .local:=by decide +kernel
theorem F_:HS bq "range":=by decide +kernel
abbrev bo:Stmt:=top 64
theorem Ge:aC qAA ["_law_script"] (sg bo):=FB
theorem xX:aq (sg bo) "_law_script" := Or.inr (Or.inl (by decide +kernel))
theorem O8:(sg bo).names.lookup ("_law_cells" : Str)=some .local:=by decide +kernel
theorem LH:HS bo "range":=by decide +kernel
noncomputable def bF(k:Str):KZ:=if k = "lend" then ["back"] else if k = "if" then ["else","fi"] else if k = "while" then ["done"] else []
def kz:V->Str->Prop
 | .str y,x=>x=y
 | .int i,x=>i.natAbs.log2<1920/\x=Str.ofString (toString i)
 | _,_=>False
noncomputable def b_:List KZ->KZ->KZ
 | i::is,c::cs=>(i++[c])++b_ is cs
 | _,_=>[]
structure F2 (LA:Addr->KZ->Prop) (H:Hp) (a:Addr) (kind:Str) (hs:LB) (ws:KZ) (bs:LC) (ins:List KZ):Prop where
 at':H a=some (.tup (.str kind::hs++bs.map V.ref))
 parts:Paired kz hs ws
 size:((kind::ws).map (·.length)).sum+(kind::ws).length<=10000
 bl:bs.length=(bF kind).length
 inn:Paired LA bs ins
def mP(LA:Addr->KZ->Prop)(H:Hp)(a:Addr)(ls:KZ):Prop:=∃kind hs ws bs ins,F2 LA H a kind hs ws bs ins/\ls=Txt.join " " (kind::ws)::b_ ins (bF kind)
def Fu:Nat->Hp->Addr->KZ->Prop
 | 0=>λ_ _ _=>False
 | d+1=>λH p L=>∃(as:LC) (Ls:List KZ),H p=some (.lst (as.map V.ref))/\Paired (mP (Fu d H) H) as Ls/\L=Ls.flatten
theorem Fu.mono:∀(d:Nat) {H H':Hp} {p:Addr} {L:KZ},Fu d H p L->sj H H'->Fu d H' p L
 | 0,_,_,_,_,h,_=>h.elim
 | d+1,H,H',p,L,⟨as,Ls,h1,h2,h3⟩,sm=>by
  refine⟨as,Ls,sm _ _ h1,Paired.imp' (λa U z=>?_) h2,h3⟩
  obtain⟨kind,O,ws,bs,ins,F,J⟩:=z
  exact⟨kind,O,ws,bs,ins,⟨sm _ _ F.at',F.parts,F.size,F.bl,Paired.imp' (λb i y=>Fu.mono d y sm) F.inn⟩,J⟩
theorem cg{α β : Type}{R:α->β->Prop}:∀ {xs:List α} {ys:List β} {i:Nat} {x:α},Paired R xs ys->xs[i]?=some x->∃y,ys[i]?=some y/\R x y
 | _,_,_,_,.nil,e=>by simp at e
 | _,_,0,_,.cons (b:=b) h _,e=>⟨b,rfl,by have:=Option.some.inj e;subst this;exact h⟩
 | _,_,i+1,_,.cons _ t,e=>by
  rw[zaW]at e
  obtain⟨y,h1,h2⟩:=cg t e
  exact⟨y,by rw[zaW];exact h1,h2⟩
theorem aI{α β : Type}{R:α->β->Prop}:∀ {xs:List α} {ys:List β},Paired R xs ys->xs.length=ys.length
 | _,_,.nil=>rfl
 | _,_,.cons _ t=>by rw[qY,qY,aI t]
theorem lr:∀ {ins:List KZ} {cs:KZ} {j:Nat} {i:KZ} {c:Str},ins[j]?=some i->cs[j]?=some c->b_ (ins.take (j+1)) (cs.take (j+1))=b_ (ins.take j) (cs.take j)++(i++[c])
 | [],_,_,_,_,h,_=>by simp at h
 | _::_,[],_,_,_,_,h=>by simp at h
 | a::ins,b::cs,0,i,c,h,h'=>by
  have F:a=i:=by simpa using h
  have J:b=c:=by simpa using h'
  subst F J;show (a++[b])++b_ [] []=b_ [] []++(a++[b])
  simp[b_]
 | a::ins,b::cs,j+1,i,c,h,h'=>by
  have ih:=lr (ins:=ins) (cs:=cs) (j:=j) (i:=i) (c:=c) (by simpa using h) (by simpa using h')
  show (a++[b])++b_ (ins.take (j+1)) (cs.take (j+1))=((a++[b])++b_ (ins.take j) (cs.take j))++(i++[c])
  rw[ih,n6 (a++[b])]
theorem mB:∀ {ins:List KZ} {cs:KZ} (j:Nat),(b_ (ins.take j) (cs.take j)).length<=(b_ ins cs).length
 | [],_,j=>by simp[b_]
 | _::_,[],j=>by cases j<;>simp[b_]
 | a::ins,b::cs,0=>by simp[b_]
 | a::ins,b::cs,j+1=>by
  have ih:=mB (ins:=ins) (cs:=cs) j;show ((a++[b])++b_ (ins.take j) (cs.take j)).length<=((a++[b])++b_ ins cs).length
  simp only[qL];lia
theorem nP{α:Type}:∀(F:List (List α)) (i:Nat),(F.take i).flatten.length<=F.flatten.length
 | [],i=>by simp
 | a::F,0=>by simp
 | a::F,i+1=>by
  have ih:=nP F i;rw[Kj,List.flatten_cons,List.flatten_cons,qL,qL];lia
theorem AE{F:List (List α)}{l:List α}(h:F[i]?=some l):(F.take (i+1)).flatten=(F.take i).flatten++l:=by
 rw[HX,h,List.flatten_append];simp
def jU(K:W.Frag):Sp:=λvs H Q _=>∃k:Str,vs=[.str k]/\∀(p:Addr) (H':Hp),sj H H'->vr K H' p ((bF k).map V.str)->Q (.ref p) H'
def kf(K:W.Frag):Sp:=λvs H Q _=>∃(a:Addr) (k:Str) (xs:LB),vs=[.ref a]/\vr K H a (.str k::xs)/\(bF k).length<=xs.length+1/\
 ∀(p:Addr) (H':Hp),sj H H'->vr K H' p ((V.str k::xs).take (xs.length+1-(bF k).length))->Q (.ref p) H'
def iG(K:W.Frag):Sp:=λvs H Q _=>∃(a:Addr) (k:Str) (xs:LB),vs=[.ref a]/\vr K H a (.str k::xs)/\(bF k).length<=xs.length+1/\
 ∀(p:Addr) (H':Hp),sj H H'->vr K H' p ((V.str k::xs).drop (xs.length+1-(bF k).length))->Q (.ref p) H'
def we(d:Nat):Sp:=λvs H Q _=>∃(p:Addr) (L:KZ),vs=[.ref p]/\Fu d H p L/\L.length<=10000/\∀(q:Addr) (H':Hp),sj H H'->H q=none->H' q=some (.lst (L.map V.str))->Q (.ref q) H'
theorem xE(D:xn K mg "closers_of" fj) {d a0 a1 a2:Addr} (J:mg "CLOSERS" = some (.ref d)) (m:GX w K d [("lend",.ref a0),("if",.ref a1),("while",.ref a2)])
  (Z:∀H:Hp,vr K H a0 [.str "back"]) (q1:∀H:Hp,vr K H a1 [.str "else",.str "fi"]) (Y:∀H:Hp,vr K H a2 [.str "done"]):aF P w K mg base 1 "closers_of" ["kind"] (jU K):=by
 refine D.cal pW (λf O A outer s H vs Q E hr h=>?_)
 obtain⟨k,rfl,q⟩:=h
 refine⟨_,(aj (aA (G6 w K F.plainAttrs_dict F.slot_dict_get F.type_dict_get (ER w K) (uV J) (aa (pv 0) (aa (aQ ae) ae))))),?_⟩
 walk_at "r";refine⟨⟨d,_,rfl,m⟩,by decide,λp W=>?_⟩
 refine⟨d,_,k,.ref p,rfl,rfl,m,?_⟩
 have sm:=am W (.tup []);unfold bF at q
 by_cases h0:k = "lend"
 .subst h0;exact q _ _ sm (Z _)
 rw[Kt h0]at q
 by_cases h1:k = "if"
 .subst h1;exact q _ _ sm (q1 _)
 rw[Kt h1]at q
 by_cases h2:k = "while"
 .subst h2;exact q _ _ sm (Y _)
 rw[Kt h2]at q
 have e:bT [(("lend" : Str),V.ref a0),("if",.ref a1),("while",.ref a2)] k=none:=by simp[bT,mS h0,mS h1,mS h2]
 rw[e];exact q _ _ sm (vr.of ai)
theorem Eg(D:xn K mg "head_of" fX) (J:wAK mg) (F:aF P w K mg base 1 "closers_of" ["kind"] (jU K)):aF P w K mg base 2 "head_of" ["step"] (kf K):=by
 refine D.cal xU (λf Y A outer s H vs Q E hr h=>?_)
 obtain⟨a,k,xs,rfl,W,hl,q⟩:=h
 refine⟨_,(aj (aA (dW (gA K) (pv 0) fw (cP (ar gb (bm (aR K) J bG (aa (pv 0) ae)) (bm (aR K) J bG (aa (ay F hr (aa (ak (av K) (pv 0) af) ae)) ae))))))),?_⟩
 walk_at "r";refine⟨_,.inr W,?_⟩
 refine⟨_,_,.inr W,jO,?_⟩
 refine⟨k,rfl,λp H1 O hp=>?_⟩
 walk_at "r";refine⟨_,.inr hp,?_⟩
 walk_at "r"
 have e:((xs.length+1:Nat):Int)-((((bF k).map V.str).length:Nat):Int)=((xs.length+1-(bF k).length:Nat):Int):=by
  rw[zj];lia
 rw[e];refine fR (W.same O) λp2 H2 U h2=>q p2 H2 (O.trans U) ?_
 rw[vT]at h2
 exact h2
theorem zU(D:xn K mg "blocks_of" eK) (J:wAK mg) (F:aF P w K mg base 2 "head_of" ["step"] (kf K)):aF P w K mg base 3 "blocks_of" ["step"] (iG K):=by
 refine D.cal rg (λf Y A outer s H vs Q E hr h=>?_)
 obtain⟨a,k,xs,rfl,W,hl,q⟩:=h
 refine⟨_,(aj (aA (dW (gA K) (pv 0) (cP (bm (aR K) J bG (aa (ay F hr (aa (pv 0) ae)) ae))) fw))),?_⟩
 walk_at "r";refine⟨a,k,xs,rfl,W,hl,λp H1 O hp=>?_⟩
 walk_at "r";refine⟨_,.inr hp,?_⟩
 have e:(((V.str k::xs).take (xs.length+1-(bF k).length)).length:Int)=((xs.length+1-(bF k).length:Nat):Int):=by
  rw[Il,qY];lia
 rw[e];refine fR (W.same O) λp2 H2 U h2=>q p2 H2 (O.trans U) ?_
 rw[kn]at h2
 exact h2
theorem tD(D:xn K mg "lines_of" bB) (ad:mg "str" = none) (ac:mg "zip" = none) (J:aF P w K mg base 1 "closers_of" ["kind"] (jU K)) (U:aF P w K mg base 2 "head_of" ["step"] (kf K)) (O:aF P w K mg base 3 "blocks_of" ["step"] (iG K)) :
  ∀d:Nat,aF P w K mg base (d+4) "lines_of" ["program"] (we d)
 | 0=>D.cal (k:=3) Da (λf dc A outer s H vs Q E hr h=>by obtain⟨p,L,rfl,z,_⟩:=h;exact z.elim)
 | d+1=>by
  have W:=tD D ad ac J U O d;refine D.cal (k:=d+4) Da (λf dc A outer s H vs Q E hr h=>?_)
  obtain⟨p,L,rfl,⟨as,Ls,h1,h2,rfl⟩,hL,q⟩:=h
  have d5:=aI h2
  refine⟨_,(ah (aw 1 Da.nd (aJ ae))
   (ah (b4 xH rfl (bL K (pv 0)) (aM 2 Da.nd) (ah (br (bH K xh mY nu bA (pv 1) (aa (bH K zby F.slot_str_join F.type_str_join (tz K) ax (aa (dz (Cq.to (fsc:=(sg bB)) (N:=qAQ) (N0:=qAQ) (T:=["part"])) rfl (hZ K (ay U hr (aa (pv 2) ae) (hle:=by lia))) (λ_ _ _ _=>(aM 5 (show (["program","lines","step","block","closer","part"]:KZ).Nodup from by decide +kernel))) (ci (show (qAQ:KZ).length<=5 from by decide)) (λ_ _ _ _=>c7) (λ_ _ _ _=>(ee zk ad HR (aa (pv 5) ae)))) ae)) ae)))
   (aj (b4 xH rfl (wt K Lv ac (aa (ay O hr (aa (pv 2) ae) (hle:=by lia)) (aa (ay J hr (aa (ak (av K) (pv 2) af) ae) (hle:=by lia)) ae))) (jf K (n:=2) (cG (aM 3 Da.nd) (cG (aM 4 Da.nd) ie))) (ah (br (bH K xh Kf J7 dU (pv 1) (aa (ay W hr (aa (pv 3) ae) (hle:=by lia)) ae)))
   (aj (br (bH K xh mY nu bA (pv 1) (aa (pv 4) ae)))))))))
   (aj (aA (pv 1))))),?_⟩
  walk_at "r";refine⟨by decide,λlp a8=>?_⟩
  walk_at "g"
  rename_i H1 sm1 e1
  walk_at "n";refine⟨⟨_,su.of (sm1 _ _ h1)⟩,?_⟩
  refine cB (xs:=as.map V.ref) (λi σ H'=>∃o2 o3 o4:LK,σ=[some (.ref p),some (.ref lp),o2,o3,o4]/\sj H H'/\H' lp=some (.lst ((Ls.take i).flatten.map V.str)))
   ⟨none,none,none,rfl,sm1,e1⟩ (λi σ H' _ h=>by obtain⟨_,_,_,_,sm,_⟩:=h;exact su.of (sm _ _ h1)) ?_ ?_
  .rintro i v σ H' hv ⟨o2,o3,o4,rfl,sm,hl⟩
   have hi:i<as.length:=by have:=(Kq.mp hv).1;simpa using this
   rw[wC,qz hi]at hv
   cases hv;obtain⟨ls,dj,kind,Y,ws,bs,ins,st,rfl⟩:=cg h2 (qz hi)
   have a3:=AE dj;have ca:=nP Ls (i+1);rw[a3]at ca |-
   generalize (Ls.take i).flatten=pre at hl ca a3 |-;rw[qL,qY]at ca
   have d1:vr K H' as[i] (.str kind::(Y++bs.map V.ref)):=vr.of (sm _ _ st.at')
   have c5:(bF kind).length<=(Y++bs.map V.ref).length+1:=by rw[qL,zj,st.bl];lia
   have bg:(Y++bs.map V.ref).length+1-(bF kind).length=Y.length+1:=by rw[qL,zj,st.bl];lia
   have c9:=aI st.parts;have hsz:=st.size;walk_at "r";refine⟨⟨_,su.of hl⟩,as[i],kind,Y++bs.map V.ref,rfl,d1,c5,λhp H2 d4 a6=>?_⟩
   rw[bg]at a6
   have de:(V.str kind::(Y++bs.map V.ref)).take (Y.length+1)=V.str kind::Y:=by rw[Kj,List.take_left'];rfl
   rw[de]at a6
   walk_at "r";refine⟨⟨_,a6⟩,λC hC=>?_⟩
   refine jS (xs:=V.str kind::Y) (λj ys H3=>sj H2 H3/\H3 C=some (.lst ys)/\ys=((kind::ws).take j).map V.str) ⟨am hC _,ai,rfl⟩ (λj ys H3 _ h=>a6.same h.1) ?_ ?_
   .rintro j ys H3 x hx hj ⟨b2,b3,rfl⟩
    obtain⟨y,hy,ag⟩:=cg (R:=kz) (.cons (show kz (.str kind) kind from rfl) st.parts) hx
    have dm:j<(kind::ws).length:=(Kq.mp hy).1
    have cb:g_ (V.str kind::Y).length j (λj ys H3=>sj H2 H3/\H3 C=some (.lst ys)/\ys=((kind::ws).take j).map V.str) C (((kind::ws).take j).map V.str) (.str y) H3:=by
     refine fM hj (by rw[zj,Il];lia) (aU (by simp only[qY]at hsz dm |-;lia)) b3 ⟨b2.upd hC _,ai,?_⟩
     rw[HX,hy,yd];rfl
    match x,ag with
    | .str z,ag=>
     have e:y=z:=ag
     subst e;walk_at "r";exact cb
    | .int z,ag=>
     obtain⟨g1,rfl⟩:=ag
     walk_at "r";exact⟨g1,cb⟩
   rintro ys H3 ⟨b2,b3,rfl⟩
   have c8:H3 C=some (.lst ((kind::ws).map V.str)):=by
    rw[b3,qY,c9,HI (by simp)]
   have c3:=d4.trans b2;have dP:(Str.ofString " ").length=1:=by decide
   walk_at "r";refine⟨kind::ws,su.of c8,by rw[dP];lia,?_⟩
   refine⟨_,c3 _ _ hl,by rw[zj];exact cJ (by lia),?_⟩
   generalize hH4:upd H3 lp _=H4
   have cc:sj H H4:=λb o e=>by
    have nb:b≠lp:=λz=>by subst z;rw[a8]at e;cases e
    rw[<-hH4,au nb];exact c3 _ _ (sm _ _ e)
   have e4:H4 lp=some (.lst ((pre++[Txt.join " " (kind::ws)]).map V.str)):=by rw[<-hH4,ai,yd];rfl
   have b0:vr K H4 as[i] (.str kind::(Y++bs.map V.ref)):=vr.of (cc _ _ st.at')
   walk_at "n";refine⟨as[i],kind,Y++bs.map V.ref,rfl,b0,c5,λbp H5 c1 a5=>?_⟩
   rw[bg]at a5
   have d3:(V.str kind::(Y++bs.map V.ref)).drop (Y.length+1)=bs.map V.ref:=by rw[List.drop_succ_cons,List.drop_left'];rfl
   rw[d3]at a5
   walk_at "r";refine⟨_,_,.inr (b0.same c1),jO,kind,rfl,λcp H6 b1 cu=>?_⟩
   walk_at "r";refine⟨⟨_,a5.same b1⟩,⟨_,cu⟩,?_⟩
   have bt:=c1.trans b1;have d8:=aI st.inn;have dV:=st.bl
   refine o_ (xs:=bs.map V.ref) (ys:=(bF kind).map V.str) (λj σ H'=>∃o3 o4:LK,σ=[some (.ref p),some (.ref lp),some (.ref as[i]),o3,o4]/\sj H H'/\vr K H' bp (bs.map V.ref)/\vr K H' cp ((bF kind).map V.str)/\
     H' lp=some (.lst ((pre++([Txt.join " " (kind::ws)]++b_ (ins.take j) ((bF kind).take j))).map V.str)))
    (by rw[zj,zj];exact dV) ⟨o3,o4,rfl,cc.trans bt,a5.same b1,cu,by rw[bt _ _ e4];simp[b_]⟩ (λj σ H' _ h=>by obtain⟨_,_,_,_,z1,z2,_⟩:=h;exact⟨z1,z2⟩) ?_ ?_
   .rintro j x y t σ H7 hx hy ⟨o3,o4,rfl,bc,da,d2,a9⟩ ht
    have hj:j<bs.length:=by have:=(Kq.mp hx).1;simpa using this
    have c4:j<(bF kind).length:=by lia
    rw[wC,qz hj]at hx
    cases hx;rw[wC,qz c4]at hy
    cases hy;obtain⟨il,cd,dt⟩:=cg st.inn (qz hj)
    have c2:=lr cd (qz c4);have al:=mB (ins:=ins) (cs:=bF kind) (j+1);rw[c2]at al |-
    rw[qL,qL]at al
    generalize b_ (ins.take j) ((bF kind).take j)=ab at a9 c2 al |-;walk_at "g"
    rename_i H8 st7 et7
    have a7:=st7 _ _ a9;walk_at "r";refine⟨t,_,rfl,vr.of et7,rfl,?_⟩
    walk_at "r";refine⟨⟨_,su.of a7⟩,bs[j],il,rfl,Fu.mono d dt (bc.trans st7),by lia,λr H9 Z d7 dl=>?_⟩
    walk_at "r";refine⟨_,_,Z _ _ a7,dl,aU (by simp only[zj,qL,qY,yi];lia),?_⟩
    have cv:=((da.same st7).same Z).updL (Z _ _ a7) (o:=.lst ((pre++([Txt.join " " (kind::ws)]++ab)).map V.str++il.map V.str));have cq:=((d2.same st7).same Z).updL (Z _ _ a7) (o:=.lst ((pre++([Txt.join " " (kind::ws)]++ab)).map V.str++il.map V.str));have be:sj H (upd H9 lp (.lst ((pre++([Txt.join " " (kind::ws)]++ab)).map V.str++il.map V.str))):=((bc.trans st7).trans Z).upd a8 _
    have a4:upd H9 lp (.lst ((pre++([Txt.join " " (kind::ws)]++ab)).map V.str++il.map V.str)) lp=some (.lst ((pre++([Txt.join " " (kind::ws)]++ab)).map V.str++il.map V.str)):=ai
    generalize upd H9 lp (.lst ((pre++([Txt.join " " (kind::ws)]++ab)).map V.str++il.map V.str))=d6 at cv cq be a4 |-;walk_at "n";refine⟨⟨_,su.of a4⟩,_,a4,cJ (by simp only[zj,qL,qY,yi];lia),?_⟩
    refine⟨_,_,rfl,be.upd a8 _,cv.updL a4,cq.updL a4,?_⟩
    rw[ai];simp only[yd,yj,IH,n6,HJ,List.nil_append]
   .rintro σ H7 ⟨o3,o4,rfl,bc,_,_,a9⟩
    refine⟨_,_,_,rfl,bc,?_⟩
    rw[a9,zj,HI (by lia),HI (by lia)];rfl
  .rintro σ H' ⟨o2,o3,o4,rfl,sm,hl⟩
   walk_at "n";rw[zj,HI (by lia)]at hl
   exact q lp H' sm a8 hl
abbrev F1:Str := "abcdefghijklmnopqrstuvwxyz"
def qi(K:W.Frag):Sp:=λvs H Q _=>∃(a:Addr) (ns:LJ),vs=[.ref a]/\su K H a (ns.map V.int)/\ns.length<=63/\∀H',Q (.bl true) H'
def AL(K:W.Frag):Sp:=λvs H Q _=>∃(a:Addr) (ns:LJ) (k:Int),vs=[.ref a,.int k]/\su K H a (ns.map V.int)/\0<=k/\Q (.int (ns.getD k.toNat 0)) H
theorem tG:∀(cs:LN) (acc:LQ),((cs.map λc=>(⟨#[c]⟩ : Str)).foldl (λacc p=>acc++(Str.ofString "").cps++p.cps) acc).toList=acc.toList++cs
 | [],acc=>by simp
 | c::cs,acc=>by
  rw[yj,zaX,tG cs];have e:(Str.ofString "").cps = #[]:=by decide +kernel
  rw[e];simp
theorem sR(cs:LN):(Txt.join "" (cs.map λc=>(⟨#[c]⟩ : Str))).cps.toList=cs:=by
 cases cs with
 | nil=>rfl
 | cons c cs=>
  show (((c::cs).map λc=>(⟨#[c]⟩ : Str)).drop 1 |>.foldl (λacc p=>acc++(Str.ofString "").cps++p.cps) (((c::cs).map λc=>(⟨#[c]⟩ : Str)).headD Str.empty).cps).toList=c::cs
  rw[yj,List.drop_one,List.tail_cons,tG];rfl
theorem CO(cs:LN):(Txt.join "" (cs.map λc=>(⟨#[c]⟩ : Str))).length=cs.length:=by
 have e:=congrArg List.length (sR cs)
 simpa [Str.length] using e
theorem jx(b:Nat):∀(F:KZ),(∀s∈F,s.length<=b)->(F.map (·.length)).sum<=F.length*b
 | [],_=>by simp
 | s::F,h=>by
  have h1:=jx b F λx hx=>h x (yc _ hx)
  have h2:=h s yb;rw[yj,lJ,qY,Nat.succ_mul];lia
theorem ze(z:Int):∃c,F1.length<=sizeLine/\di F1.cps.toList (z%26)=some c/\c∈F1.cps.toList:=by
 have hz:(z%26).toNat<F1.cps.toList.length:=by
  show (z%26).toNat<26
  lia
 refine⟨F1.cps.toList[(z%26).toNat],by decide,?_,nY hz⟩
 have q:=ap (qz hz)
 rwa [show (((z%26).toNat:Nat):Int)=z%26 by lia]at q
theorem Eu(D:xn K mg "_law_cell_at" dA) (F:wAK mg):aF P w K mg base 1 "_law_cell_at" qAe (AL K):=by
 refine D.cal nh (λf O A outer s H vs Q E Y h=>?_)
 obtain⟨a,ns,k,rfl,J,U,q⟩:=h
 refine⟨_,(ah (bf (az ID (pv 1) (bm (aR K) F bG (aa (pv 0) ae)) (aG _)) (aj (aA (ak (av K) (pv 0) (pv 1)))) aN)
   (aj (aA af))),?_⟩
 try simp only[m6,vM,mq,lj,sS,vz,vt,sV,ww,sE,vc,qK,vJ,uS,vh,Dw,yW,AG,rV,Eb,vP,zo,vQ,Ar,zL,sI,vw,u9,vy,ub,Ae,vd,qS,tH,pj,lm,qA,r_,yR,tJ,mo,um,v0,ve,qm,qu,vx,tT,vO,sr,uw,oj,rQ,rZ,sH,ug,vL,lK,zF,Ea,pN,pG,j4,oM,ou,wj,t_,tY,ma,oP,uh,wv,Dv,vS,mE,qP,qo,uu,s_,lg,lc,oF,oH,qG,tQ,qV,l8,tI,vW,rM,vB,oV,oE,fZ,vp,oB,tV,rz,rX,tO,rD,vI,u7,uY,L2.start,yj,IH,qY,yi,List.replicate,HJ,List.nil_append,IJ,List.getElem?_cons_zero,zaW,List.set_cons_zero,List.set_cons_succ,Nat.reduceAdd,Nat.reduceSub,Option.some.injEq,exists_eq_left',exists_eq_left,V.int.injEq,V.ref.injEq,V.str.injEq,V.bl.injEq,zw,uX,and_true,true_and,decide_eq_true_eq,zaT,Bool.not_false,if_true,sZ,if_false,ite_true,ite_false]
 refine⟨_,.inl J,bx (λc=>?_) (λc=>?_)⟩
 .rw[zj]at c
  refine⟨_,.int (ns.getD k.toNat 0),.inl J,ji U ?_,q⟩
  rw[xf,qz (by lia)];rfl
 .rw[zj]at c
  have e:ns.getD k.toNat 0=0:=by
   rw[xf,IS (by lia)];rfl
  rw[e]at q;exact q
theorem AQ(F k:Str)(ws:KZ):Txt.join F (k::ws)=ws.foldl (λa x=>a++F++x) k:=by
 have go:∀(ws:KZ) (a:Str),(⟨ws.foldl (λacc p=>acc++F.cps++p.cps) a.cps⟩ : Str)=ws.foldl (λa x=>a++F++x) a:=by
  intro ws
  induction ws with
  | nil=>intro a;rfl
  | cons x ws ih=>intro a;rw[zaX,zaX];exact ih (a++F++x)
 exact go ws k
def df:KZ:=["open","copy","drop","tie","do"]
structure iD (ws:KZ):Prop where
 two:2<=ws.length
 three:ws.length<=3
 kind:ws.headD "" ∈ df
 len:∀x∈ws,x.length<=20
def I_(H:Hp)(a:Addr)(ws:KZ):Prop:=H a=some (.tup (ws.map V.str))/\iD ws
theorem AF(x:KZ):∀v∈x.map V.str,bU v=true:=by
 intro v hv
 obtain⟨o,_,rfl⟩:=KB.mp hv
 rfl
theorem yg{H:Hp}{a:Addr}{ws:KZ}{O:Addr->KZ->Prop}(h:I_ H a ws):mP O H a [Txt.join " " ws]:=by
 obtain⟨h1,two,three,kd,len⟩:=h
 cases ws with
 | nil=>simp at two
 | cons k ws=>
  have F:k∈df:=kd
  have J:bF k=[]:=by
   simp only[df,wQ,tK,or_false]at F
   rcases F with rfl | rfl | rfl | rfl | rfl<;>decide
  have U:∀ws:KZ,Paired kz (ws.map V.str) ws:=λws=>by
   induction ws with
   | nil=>exact .nil
   | cons x ws ih=>exact .cons (show kz (.str x) x from rfl) ih
  refine⟨k,ws.map V.str,ws,[],[],⟨by rw[IH,IJ];exact h1,U ws,?_,by rw[J];rfl,.nil⟩,by rw[J];rfl⟩
  have:=jx 20 (k::ws) len
  simp only[qY]at this two three |-
  lia
theorem eO{α β : Type}{R:α->β->Prop}{x:α}{y:β}(F:R x y):∀ {xs:List α} {ys:List β},Paired R xs ys->Paired R (xs++[x]) (ys++[y])
 | _,_,.nil=>.cons F .nil
 | _,_,.cons h t=>.cons h (eO F t)
set_option genSizeOf false in
inductive ud where
 | plain (ws:KZ)
 | lend (x y:Str) (b:List ud)
 | ite (n:Int) (b c:List ud)
 | whl (n:Int) (b:List ud)
variable{T:List ud}{s:ud}
def fQ(n:Int):Str:=Str.ofString (toString n)
noncomputable def cI(f:List ud->KZ):ud->KZ
 | .plain ws=>[Txt.join " " ws]
 | .lend x y b=>Txt.join " " ["lend",x,y]::(f b++[("back" : Str)])
 | .ite n b c=>Txt.join " " ["if",fQ n]::(f b++[("else" : Str)]++(f c++[("fi" : Str)]))
 | .whl n b=>Txt.join " " ["while",fQ n]::(f b++[("done" : Str)])
noncomputable def cO:Nat->List ud->KZ
 | 0,_=>[]
 | d+1,T=>T.flatMap (cI (cO d))
def lh(f:List ud->Prop):ud->Prop
 | .plain ws=>iD ws
 | .lend x y b=>x.length<=20/\y.length<=20/\f b
 | .ite n b c=>n.natAbs.log2<1920/\f b/\f c
 | .whl n b=>n.natAbs.log2<1920/\f b
def dR:Nat->List ud->Prop
 | 0,_=>False
 | d+1,T=>∀s∈T,lh (dR d) s
def Cv(PA:Addr->List ud->Prop)(H:Hp)(a:Addr):ud->Prop
 | .plain ws=>H a=some (.tup (ws.map V.str))
 | .lend x y b=>∃q,H a=some (.tup [.str "lend",.str x,.str y,.ref q])/\PA q b
 | .ite n b c=>∃q r,H a=some (.tup [.str "if",.int n,.ref q,.ref r])/\PA q b/\PA r c
 | .whl n b=>∃q,H a=some (.tup [.str "while",.int n,.ref q])/\PA q b
def Bm(S:Addr->Prop):Nat->Hp->Addr->List ud->Prop
 | 0=>λ_ _ _=>False
 | d+1=>λH p T=>S p/\∃as:LC,H p=some (.lst (as.map V.ref))/\Paired (Cv (Bm S d H) H) as T
theorem Cv.imp{PA F:Addr->List ud->Prop}{H H':Hp}{a:Addr}(J:∀b xs,H b=some (.tup xs)->H' b=some (.tup xs))(O:∀q b,PA q b->F q b):∀ {s:ud},Cv PA H a s->Cv F H' a s
 | .plain _,h=>J _ _ h
 | .lend _ _ _,⟨q,h,z⟩=>⟨q,J _ _ h,O _ _ z⟩
 | .ite _ _ _,⟨q,r,h,z,y⟩=>⟨q,r,J _ _ h,O _ _ z,O _ _ y⟩
 | .whl _ _,⟨q,h,z⟩=>⟨q,J _ _ h,O _ _ z⟩
theorem Bm.imp{S S':Addr->Prop}{H H':Hp}(F:∀b xs,H b=some (.tup xs)->H' b=some (.tup xs))(hl:∀b xs,S b->H b=some (.lst xs)->H' b=some (.lst xs))(J:∀b,S b->S' b) :
  ∀(d:Nat) {p:Addr} {T:List ud},Bm S d H p T->Bm S' d H' p T
 | 0,_,_,h=>h.elim
 | d+1,p,T,⟨h0,as,h1,h2⟩=>⟨J _ h0,as,hl _ _ h0 h1,Paired.imp' (λa s z=>z.imp F λq b y=>Bm.imp F hl J d y) h2⟩
theorem Bm.mono(h:Bm S d H p T)(sm:sj H H'):Bm S d H' p T:=h.imp (λb xs e=>sm _ _ e) (λb xs _ e=>sm _ _ e) (λ_ z=>z) d
theorem vE{n:Int}(h:n.natAbs.log2<1920):(fQ n).length<=1921:=by
 have e:=int_text_length_le (k:=1920) (by decide) h
 unfold fQ;rw[PySem.ofString_length];exact e
theorem w6{PA:Addr->List ud->Prop}{J:Addr->KZ->Prop}{H:Hp}{a:Addr}{f:List ud->KZ}{g:List ud->Prop}(F:∀q b,PA q b->g b->J q (f b)):∀ {s:ud},Cv PA H a s->lh g s->mP J H a (cI f s)
 | .plain ws,h,ok=>yg ⟨h,ok⟩
 | .lend x y b,⟨q,h,z⟩,⟨o1,o2,o3⟩=>by
  refine⟨"lend",[.str x,.str y],[x,y],[q],[f b],⟨h,.cons rfl (.cons rfl .nil),?_,by show 1=(bF "lend").length;decide,.cons (F _ _ z o3) .nil⟩,by show _=_::b_ [f b] ["back"];simp[cI,b_]⟩
  have:(Str.ofString "lend").length=4:=by decide
  simp only[yj,IH,lJ,List.sum_nil,qY,yi,this];lia
 | .ite n b c,⟨q,r,h,z,y⟩,⟨o1,o2,o3⟩=>by
  refine⟨"if",[.int n],[fQ n],[q,r],[f b,f c],⟨h,.cons ⟨o1,rfl⟩ .nil,?_,by show 2=(bF "if").length;decide,.cons (F _ _ z o2) (.cons (F _ _ y o3) .nil)⟩,?_⟩
  .have:(Str.ofString "if").length=2:=by decide
   have:=vE o1
   simp only[yj,IH,lJ,List.sum_nil,qY,yi];lia
  .show _=_::b_ [f b,f c] ["else","fi"]
   simp[cI,b_]
 | .whl n b,⟨q,h,z⟩,⟨o1,o2⟩=>by
  refine⟨"while",[.int n],[fQ n],[q],[f b],⟨h,.cons ⟨o1,rfl⟩ .nil,?_,by show 1=(bF "while").length;decide,.cons (F _ _ z o2) .nil⟩,by show _=_::b_ [f b] ["done"];simp[cI,b_]⟩
  have:(Str.ofString "while").length=5:=by decide
  have:=vE o1
  simp only[yj,IH,lJ,List.sum_nil,qY,yi];lia
theorem lf{PA:Addr->List ud->Prop}{F:Addr->KZ->Prop}{H:Hp}{f:List ud->KZ}{g:List ud->Prop}(O:∀q b,PA q b->g b->F q (f b)) :
  ∀ {J:LC} {T:List ud},Paired (Cv PA H) J T->(∀s∈T,lh g s)->Paired (mP F H) J (T.map (cI f))
 | _,_,.nil,_=>.nil
 | _,_,.cons h t,ok=>.cons (w6 O h (ok _ yb)) (lf O t λs U=>ok s (yc _ U))
theorem me{S:Addr->Prop}{H:Hp}:∀(d:Nat) {p:Addr} {T:List ud},Bm S d H p T->dR d T->Fu d H p (cO d T)
 | 0,_,_,h,_=>h.elim
 | d+1,p,T,⟨_,as,h1,h2⟩,ok=>⟨as,T.map (cI (cO d)),h1,lf (λq b z o=>me d z o) h2 ok,List.flatMap_def⟩
noncomputable def bw(f:List ud->Nat):ud->Nat
 | .plain _=>1
 | .lend _ _ b=>f b+2
 | .ite _ b c=>f b+f c+3
 | .whl _ b=>f b+2
noncomputable def ao:Nat->List ud->Nat
 | 0,_=>0
 | d+1,T=>(T.map (bw (ao d))).sum
noncomputable def fE(f:ud->Nat):Nat->List ud->List (Nat×ud)
 | _,[]=>[]
 | l,s::T=>(l,s)::fE f (l+f s) T
theorem j9(f:ud->Nat)(s:ud):∀(l:Nat) (T:List ud),fE f l (T++[s])=fE f l T++[(l+(T.map f).sum,s)]
 | l,[]=>by simp[fE]
 | l,t::T=>by
  show (l,t)::fE f (l+f t) (T++[s])=(l,t)::fE f (l+f t) T++[(l+(f t+(T.map f).sum),s)]
  rw[j9 f s (l+f t) T,lR];rfl
theorem gG(f:ud->Nat):∀(l:Nat) (T:List ud),(fE f l T).length=T.length
 | _,[]=>rfl
 | l,s::T=>by show (fE f (l+f s) T).length+1=T.length+1;rw[gG f _ T]
theorem vC(f:ud->Nat):∀(l:Nat) (T:List ud) (i:Nat) (s:ud),T[i]?=some s->(fE f l T)[i]?=some (l+((T.take i).map f).sum,s)
 | _,[],_,_,h=>by simp at h
 | l,t::T,0,s,h=>by
  have e:t=s:=by simpa using h
  subst e;simp[fE]
 | l,t::T,i+1,s,h=>by
  have h':T[i]?=some s:=by simpa using h
  have ih:=vC f (l+f t) T i s h';show (fE f (l+f t) T)[i]? = _
  rw[ih,Kj,yj,lJ,lR]
noncomputable def kindOf:ud->Str
 | .plain ws=>ws.headD ""
 | .lend _ _ _ => "lend"
 | .ite _ _ _ => "if"
 | .whl _ _ => "while"
noncomputable def dM:ud->LB
 | .plain ws=>(ws.drop 1).map V.str
 | .lend x y _=>[.str x,.str y]
 | .ite n _ _=>[.int n]
 | .whl n _=>[.int n]
noncomputable def cH(f:List ud->Nat)(l:Nat):ud->List (Nat×List ud)
 | .plain _=>[]
 | .lend _ _ b=>[(l+1,b)]
 | .ite _ b c=>[(l+1,b),(l+1+f b+1,c)]
 | .whl _ b=>[(l+1,b)]
noncomputable def cL(f:List ud->Nat)(l:Nat)(s:ud):LN:=l::(cH f l s).map λz=>z.1+f z.2
theorem By{f:List ud->Nat}{l:Nat}:∀ {s:ud} {j:Nat} {z:Nat×List ud},(cH f l s)[j]?=some z->∃y,(cL f l s)[j]?=some y/\z.1=y+1
 | .plain _,j,z,h=>by simp[cH]at h
 | .lend _ _ b,0,z,h=>by cases h;exact⟨l,rfl,rfl⟩
 | .lend _ _ b,j+1,z,h=>by simp[cH]at h
 | .ite _ b c,0,z,h=>by cases h;exact⟨l,rfl,rfl⟩
 | .ite _ b c,1,z,h=>by cases h;exact⟨l+1+f b,rfl,rfl⟩
 | .ite _ b c,j+2,z,h=>by simp[cH]at h
 | .whl _ b,0,z,h=>by cases h;exact⟨l,rfl,rfl⟩
 | .whl _ b,j+1,z,h=>by simp[cH]at h
theorem mC{f:List ud->Nat}{l:Nat}:∀ {s:ud},(cL f l s).getLast? = some (l+bw f s-1)/\1<=bw f s
 | .plain _=>by simp[cL,cH,bw]
 | .lend _ _ b=>by simp[cL,cH,bw];lia
 | .ite _ b c=>by simp[cL,cH,bw];lia
 | .whl _ b=>by simp[cL,cH,bw];lia
def hV:LG->V
 | none=>.non
 | some n=>.int n
set_option genInjectivity false in
set_option genSizeOf false in
structure RS where
 taken:Nat
 last:Int
 opened:Nat
 held:List (aL×V)
 log:List LB
noncomputable def yK(st:RS)(k:aL):LG:=match bT st.held k with
 | some (.int n)=>some n.toNat
 | _=>none
noncomputable def qg(k:aL)(h:LG)(st:RS):RS:={st with held:=cX st.held k (hV h)}
noncomputable def wY(l:Nat)(h:LG)(w:Str)(st:RS):RS:=match h with
 | none=>st
 | some n=>{st with log:=st.log++[[.int l,.int n,.str w,.int st.last]]}
noncomputable def JI(l:Nat)(k:aL)(st:RS):RS:=qg k (some st.opened) (wY l (some st.opened) "open" {st with opened:=st.opened+1})
noncomputable def Ct(l:Nat)(a b:LG)(st:RS):RS:=match a,b with
 | some n,some m=>if n=m then st else {st with log:=st.log++[[.int l,.int n,.int m]]}
 | _,_=>st
noncomputable def zG(l:Nat)(ws:KZ)(st:RS):RS:=match ws with
 | [k,x]=>if k = "open" then JI l (.inr x) st else qg (.inr x) none st
 | [k,x,y]=>if k = "do" then wY l (yK st (.inr y)) x st else if k = "copy" then qg (.inr x) (yK st (.inr y)) st else Ct l (yK st (.inr x)) (yK st (.inr y)) st
 | _=>st
inductive eZ:KZ->Prop
 | op (x:Str):eZ ["open",x]
 | dr (x:Str):eZ ["drop",x]
 | dd (u x:Str):eZ ["do",u,x]
 | cp (x y:Str):eZ ["copy",x,y]
 | ti (x y:Str):eZ ["tie",x,y]
def GoodR(st:RS):Prop:=∀k v,bT st.held k=some v->∃h,v=hV h
theorem GoodR.hold{st:RS}(g:GoodR st)(k:aL)(h:LG):GoodR (qg k h st):=λj v e=>by
 have F:(if j=k then some (hV h) else bT st.held j)=some v:=by rw[<-jp];exact e
 by_cases hj:j=k
 .rw[Kx hj]at F;exact⟨h,(Option.some.inj F).symm⟩
 .rw[Kt hj]at F;exact g j v F
theorem mQ(l:Nat)(h:LG)(w:Str)(st:RS):(wY l h w st).held=st.held:=by cases h<;>rfl
theorem AB(l:Nat)(a b:LG)(st:RS):(Ct l a b st).held=st.held:=by
 unfold Ct;split
 .split<;>rfl
 .rfl
theorem GoodR.of{st F:RS}(g:GoodR st)(e:F.held=st.held):GoodR F:=λk v h=>g k v (by rw[<-e];exact h)
theorem md{st:RS}(g:GoodR st)(l:Nat)(ws:KZ):GoodR (zG l ws st):=by
 unfold zG;split
 .split
  .exact GoodR.hold (GoodR.of g (by rw[mQ])) _ _
  .exact g.hold _ _
 .split
  .exact g.of (mQ _ _ _ _)
  .split
   .exact g.hold _ _
   .exact g.of (AB _ _ _ _)
 .exact g
noncomputable def nF(k:Str)(pp lp bp:Addr):List (Str×V):=[("kind",.str k),("parts",.ref pp),("lines",.ref lp),("blocks",.ref bp)]
theorem fY(k:Str)(F J O:Addr):(nF k F J O).lookup ("kind" : Str)=some (.str k):=by unfold nF;walk_at "lk"
theorem e_(k:Str)(F J O:Addr):(nF k F J O).lookup ("parts" : Str)=some (.ref F):=by unfold nF;walk_at "lk"
theorem dZ(k:Str)(J F O:Addr):(nF k J F O).lookup ("lines" : Str)=some (.ref F):=by unfold nF;walk_at "lk"
theorem gR(k:Str)(J O F:Addr):(nF k J O F).lookup ("blocks" : Str)=some (.ref F):=by unfold nF;walk_at "lk"
def fK(ns:LN):LB:=ns.map λ(n:Nat)=>V.int (n:Int)
def B1(K:W.Frag)(C:Addr)(f:List ud->Nat)(S:Addr->Prop)(PA:Addr->Nat->List ud->Prop)(H:Hp)(a:Addr)(l:Nat)(s:ud):Prop:=
 ∃(dx pp lp bp:Addr) (bs:LC),H a=some (.ins C dx (nF (kindOf s) pp lp bp))/\vr K H pp (dM s)/\S lp/\H lp=some (.lst (fK (cL f l s)))/\S bp/\H bp=some (.lst (bs.map V.ref))/\Paired (λq (z:Nat×List ud)=>PA q z.1 z.2) bs (cH f l s)
def Be(K:W.Frag)(C:Addr)(S:Addr->Prop):Nat->Hp->Addr->Nat->List ud->Prop
 | 0=>λ_ _ _ _=>False
 | d+1=>λH p l T=>S p/\∃as:LC,H p=some (.lst (as.map V.ref))/\Paired (λa (z:Nat×ud)=>B1 K C (ao d) S (Be K C S d H) H a z.1 z.2) as (fE (bw (ao d)) l T)
structure CD (S:Addr->Prop) (H H':Hp):Prop where
 t:∀b xs,H b=some (.tup xs)->H' b=some (.tup xs)
 z:∀b o u,H b=some (.frz o u)->H' b=some (.frz o u)
 i:∀b C dx fs,H b=some (.ins C dx fs)->H' b=some (.ins C dx fs)
 l:∀b xs,S b->H b=some (.lst xs)->H' b=some (.lst xs)
theorem CD.of(sm:sj H H'):CD S H H':=⟨λb xs h=>sm _ _ h,λb o u h=>sm _ _ h,λb C dx fs h=>sm _ _ h,λb xs _ h=>sm _ _ h⟩
theorem CD.upd(h:H p=some (.lst xs))(J:¬ S p):CD S H (upd H p o):=
  ⟨λb xs e=>by rw[au (cT e h (λz=>nomatch z))];exact e,λb o u e=>by rw[au (cT e h (λz=>nomatch z))];exact e,λb C dx fs e=>by rw[au (cT e h (λz=>nomatch z))];exact e,
   λb xs F e=>by rw[au (show b≠p from λz=>J (z ▸ F))];exact e⟩
theorem vr.stays{a:Addr}(h:vr K H a xs)(st:CD S H H'):vr K H' a xs:=by
 rcases h with (h | ⟨o,h⟩) | h
 .exact .inl (.inl (st.t _ _ h))
 .exact .inl (.inr ⟨o,st.z _ _ _ h⟩)
 .exact .inr h
theorem vr.updI{a x C dx:Addr}{fs:List (Str×V)}(h:vr K H a xs)(hx:H x=some (.ins C dx fs)):vr K (upd H x o) a xs:=by
 rcases h with (h | ⟨o',h⟩) | h
 .exact .inl (.inl (by rw[au (cT h hx (λz=>nomatch z))];exact h))
 .exact .inl (.inr ⟨o',by rw[au (cT h hx (λz=>nomatch z))];exact h⟩)
 .exact .inr h
theorem B1.imp{C:Addr}{f:List ud->Nat}{S':Addr->Prop}{PA F:Addr->Nat->List ud->Prop}{a:Addr}(h:B1 K C f S PA H a l s)(st:CD S H H')(U:∀b,S b->S' b)(hp:∀q l b,PA q l b->F q l b):B1 K C f S' F H' a l s:=by
 obtain⟨dx,pp,lp,bp,bs,h1,h2,O,h4,J,Y,Z⟩:=h
 exact⟨dx,pp,lp,bp,bs,st.i _ _ _ _ h1,vr.stays h2 st,U _ O,st.l _ _ O h4,U _ J,st.l _ _ J Y,Paired.imp' (λq z y=>hp _ _ _ y) Z⟩
theorem Be.imp{K:W.Frag}{C:Addr}{S S':Addr->Prop}{H H':Hp}(st:CD S H H')(F:∀b,S b->S' b):∀(d:Nat) {p:Addr} {l:Nat} {T:List ud},Be K C S d H p l T->Be K C S' d H' p l T
 | 0,_,_,_,h=>h.elim
 | d+1,p,l,T,⟨h0,as,h1,h2⟩=>⟨F _ h0,as,st.l _ _ h0 h1,Paired.imp' (λa z y=>y.imp st F λq l b J=>Be.imp st F d J) h2⟩
theorem Be.mono{C:Addr}(h:Be K C S d H p l T)(sm:sj H H'):Be K C S d H' p l T:=h.imp (CD.of sm) (λ_ z=>z) d
theorem B1.mono{C:Addr}{a:Addr}(h:B1 K C (ao d) S (Be K C S d H) H a l s)(sm:sj H H'):B1 K C (ao d) S (Be K C S d H') H' a l s:=
 h.imp (CD.of sm) (λ_ z=>z) λq l b y=>y.mono sm
theorem vD{xs:List α}{x:α}(h:xs.getLast? = some x):di xs (-1)=some x:=by
 rcases List.eq_nil_or_concat xs with rfl | ⟨ys,y,rfl⟩
 .simp at h
 .have e:y=x:=by simpa using h
  subst e
  have e:iR (ys++[y]).length (-1)=some ys.length:=by
   unfold iR;simp only[qL,qY,yi]
   split<;>simp_all<;>lia
  unfold di;rw[List.concat_eq_append,e];simp
theorem jt{ns:LN}(h:ns.getLast? = some n):di (fK ns) (-1)=some (.int n):=vD (by unfold fK;rw[List.getLast?_map,h];rfl)
theorem eW{ns:LN}(h:ns[i]?=some n):di (fK ns) i=some (.int n):=ap (by unfold fK;rw[wC,h];rfl)
theorem vv(d:Nat):∀T:List ud,T.length<=ao (d+1) T
 | []=>xR _
 | s::T=>by
  have:=vv d T
  have h1:=(mC (f:=ao d) (l:=0) (s:=s)).2;show T.length+1<=bw (ao d) s+ao (d+1) T
  lia
theorem nn{d:Nat}:∀ {T:List ud} {s:ud},s∈T->bw (ao d) s<=ao (d+1) T
 | [],_,h=>by cases h
 | t::T,s,h=>by
  show bw (ao d) s<=bw (ao d) t+ao (d+1) T
  rcases KC.mp h with rfl | h
  .lia
  .have:=nn (d:=d) h;lia
theorem uk:ao (d+1) (T.take i)<=ao (d+1) T:=by
 have e:ao (d+1) T=ao (d+1) (T.take i)+ao (d+1) (T.drop i):=by
  show (T.map _).sum=((T.take i).map _).sum+((T.drop i).map _).sum
  rw[<-List.sum_append,<-yd,IV]
 lia
theorem E_{f:List ud->Nat}{l:Nat}:∀ {s:ud} {z:Nat×List ud},z∈cH f l s->f z.2<=bw f s
 | .plain _,z,h=>by cases h
 | .lend _ _ b,z,h=>by simp[cH]at h;subst h;simp[bw]
 | .ite _ b c,z,h=>by
  simp[cH]at h
  rcases h with rfl | rfl<;>simp[bw]<;>lia
 | .whl _ b,z,h=>by simp[cH]at h;subst h;simp[bw]
theorem BH(f:List ud->Nat)(l:Nat)(s:ud):(cH f l s).length<=2:=by cases s<;>simp[cH]
theorem EU{PA:Addr->List ud->Prop}{H:Hp}{a:Addr}{f:List ud->Nat}{g:List ud->Prop}{l:Nat}:∀ {s:ud},Cv PA H a s->lh g s->∃bs:LC,H a=some (.tup (.str (kindOf s)::(dM s++bs.map V.ref)))/\bs.length=(bF (kindOf s)).length/\Paired (λq (z:Nat×List ud)=>PA q z.2/\g z.2) bs (cH f l s)
 | .plain ws,h,ok=>by
  have J:ws≠[]:=λe=>by have:=ok.two;rw[e]at this;simp at this
  obtain⟨k,r,rfl⟩:=List.exists_cons_of_ne_nil J
  have F:k∈df:=ok.kind
  refine⟨[],?_,?_,.nil⟩
  .show H a=some (.tup (.str k::(r.map V.str++[])))
   rw[IJ];exact h
  .show 0=(bF k).length
   revert F;unfold df
   intro F
   simp only[wQ,yh,or_false]at F
   rcases F with rfl | rfl | rfl | rfl | rfl<;>decide
 | .lend x y b,⟨q,h,z⟩,⟨_,_,o⟩=>⟨[q],h,by show 1=(bF "lend").length;decide,.cons ⟨z,o⟩ .nil⟩
 | .ite n b c,⟨q,r,h,z,y⟩,⟨_,o,o'⟩=>⟨[q,r],h,by show 2=(bF "if").length;decide,.cons ⟨z,o⟩ (.cons ⟨y,o'⟩ .nil)⟩
 | .whl n b,⟨q,h,z⟩,⟨_,o⟩=>⟨[q],h,by show 1=(bF "while").length;decide,.cons ⟨z,o⟩ .nil⟩
def mU(K:W.Frag)(C:Addr):Sp:=λvs H Q _=>∃(x dx hp:Addr) (k:Str) (ps:LB) (lp bp:Addr),vs=[.ref x,.ref hp,.ref lp,.ref bp]/\H x=some (.ins C dx [])/\vr K H hp (.str k::ps)/\
 ∀(pp:Addr) (H':Hp),(∀b o,H b=some o->b≠x->H' b=some o)->H' x=some (.ins C dx (nF k pp lp bp))->vr K H' pp ps->Q .non H'
def jn(K:W.Frag)(C:Addr):Sp:=λvs H Q _=>∃(p:Addr) (l d:Nat) (T:List ud) (S:Addr->Prop),vs=[.ref p,.int (l:Int)]/\Be K C S (d+1) H p l T/\ao (d+1) T<=10000/\Q (.int ((l+ao (d+1) T:Nat):Int)) H
def JF(K:W.Frag)(C:Addr)(d:Nat):Sp:=λvs H Q _=>∃(a:Addr) (l:Nat) (s:ud) (S:Addr->Prop),vs=[.ref a,.int (l:Int)]/\Cv (Bm S d H) H a s/\lh (dR d) s/\bw (ao d) s<=10000/\
 ∀(q:Addr) (H':Hp),sj H H'->B1 K C (ao d) (λb=>H b=none) (Be K C (λb=>H b=none) d H') H' q l s->Q (.ref q) H'
def rj(K:W.Frag)(C:Addr)(d:Nat):Sp:=λvs H Q _=>∃(p:Addr) (l:Nat) (T:List ud) (S:Addr->Prop),vs=[.ref p,.int (l:Int)]/\Bm S d H p T/\dR d T/\ao d T<=10000/\
 ∀(q:Addr) (H':Hp),sj H H'->Be K C (λb=>H b=none) d H' q l T->Q (.ref q) H'
section
variable{CN:Addr}
theorem AZ(D:GY K mg "NumberedStep" CN "NumberedStep.__init__" bb) (U:Fl K CN "kind") (O:Fl K CN "parts") (J:Fl K CN "lines") (F:Fl K CN "blocks") :
  qr P w K mg base 1 "NumberedStep" CN qAV (mU K CN):=by
 refine D.mkal (k:=0) iB (by walk_at "z") (by walk_at "v") (λf ag A outer s H vs Q E hr h=>?_)
 obtain⟨x,dx,hp,k,ps,lp,bp,rfl,hx,hh,q⟩:=h
 refine⟨_,(ah (kS U (pv 0) (ak (av K) (pv 1) af))
   (ah (kS O (pv 0) (dW (gA K) (pv 1) (cP af) fw))
   (ah (kS J (pv 0) (pv 2))
   (aj (kS F (pv 0) (pv 3)))))),?_⟩
 walk_at "r";refine⟨_,_,.inr hh,jO,dx,_,hx,by decide,?_⟩
 generalize hH1:upd H x _=H1
 have e1:H1 x=some (.ins CN dx [("kind",.str k)]):=by rw[<-hH1,ai];walk_at "pf"
 have k1:∀b o,H b=some o->b≠x->H1 b=some o:=λb o e n=>by rw[<-hH1,au n];exact e
 have ac:vr K H1 hp (.str k::ps):=by rw[<-hH1];exact vr.updI hh hx
 walk_at "n";refine fR ac λpp H2 W Z=>?_
 have ec:dH (V.str k::ps) (some 1) none=ps:=kn _ 1
 rw[ec]at Z
 refine⟨dx,_,W _ _ e1,by simp,?_⟩
 generalize hH3:upd H2 x _=Y
 have e3:Y x=some (.ins CN dx [("kind",.str k),("parts",.ref pp)]):=by rw[<-hH3,ai];walk_at "pf"
 have k3:∀b o,H2 b=some o->b≠x->Y b=some o:=λb o e n=>by rw[<-hH3,au n];exact e
 have ab:vr K Y pp ps:=by rw[<-hH3];exact vr.updI Z (W _ _ e1)
 walk_at "n";refine⟨dx,_,e3,by simp,?_⟩
 generalize hH4:upd Y x _=H4
 have e4:H4 x=some (.ins CN dx [("kind",.str k),("parts",.ref pp),("lines",.ref lp)]):=by rw[<-hH4,ai];walk_at "pf"
 have k4:∀b o,Y b=some o->b≠x->H4 b=some o:=λb o e n=>by rw[<-hH4,au n];exact e
 have ad:vr K H4 pp ps:=by rw[<-hH4];exact vr.updI ab e3
 walk_at "n";refine⟨dx,_,e4,by simp,?_⟩
 refine q pp _ (λb o e n=>?_) ?_ (vr.updI ad e4)
 .rw[au n];exact k4 _ _ (k3 _ _ (W _ _ (k1 _ _ e n)) n) n
 .rw[ai];unfold nF;walk_at "pf"
theorem zq(D:xn K mg "line_behind" dy) (W:wAK mg) (F:Fl K CN "lines"):aF P w K mg base 1 "line_behind" qAW (jn K CN):=by
 refine D.cal (k:=0) n_ (λf ac A outer s H vs Q E hr h=>?_)
 obtain⟨p,l,d,T,S,rfl,⟨h0,as,h1,h2⟩,hz,q⟩:=h
 have J:=aI h2;rw[gG]at J
 refine⟨_,(aj (aA (fS (az bn (bm (aR K) W bG (aa (pv 0) ae)) af (aG _)) (pv 1) (ar aB (ak (av K) (bJ F (ak (av K) (pv 0) (fN eX af))) (fN eX af)) af)))),?_⟩
 walk_at "r";refine⟨_,.inl (su.of h1),?_⟩
 rw[zj,J];rcases List.eq_nil_or_concat T with rfl | ⟨O,t,rfl⟩
 .refine bx (λc=>?_) (λc=>absurd rfl c)
  exact q
 .rw[List.concat_eq_append]at *
  refine bx (λc=>absurd c (by rw[qL];simp;lia)) (λc=>?_)
  rw[j9]at h2
  rcases List.eq_nil_or_concat as with rfl | ⟨Y,a,rfl⟩
  .have:=aI h2;simp at this
  rw[List.concat_eq_append]at *
  have ab:Y.length=O.length:=by simpa using J
  have h3:B1 K CN (ao d) S (Be K CN S d H) H a (l+(O.map (bw (ao d))).sum) t:=by
   obtain⟨z,U,Z⟩:=cg h2 (i:=Y.length) (x:=a) (by simp)
   rw[gT (by rw[gG];lia),gG,ab]at U
   simp at U
   subst U;exact Z
  obtain⟨dx,pp,lp,bp,bs,g1,g2,g3,g4,g5,g6,g7⟩:=h3
  obtain⟨g8,g9⟩:=mC (f:=ao d) (l:=l+(O.map (bw (ao d))).sum) (s:=t)
  walk_at "r";refine⟨_,_,.inl (su.of h1),vD (x:=V.ref a) (by simp),?_⟩
  refine⟨a,rfl,dx,_,_,g1,dZ _ _ _ _,?_⟩
  walk_at "r";refine⟨_,_,.inl (su.of g4),jt g8,?_⟩
  walk_at "r"
  have e:((l+(O.map (bw (ao d))).sum+bw (ao d) t-1:Nat):Int)+1=((l+ao (d+1) (O++[t]):Nat):Int):=by
   have:ao (d+1) (O++[t])=(O.map (bw (ao d))).sum+bw (ao d) t:=by show ((O++[t]).map _).sum=_;simp
   lia
  rw[e];exact q
theorem Hh(D:xn K mg "numbered_step" aX) (Y:aF P w K mg base 2 "head_of" ["step"] (kf K)) (U:aF P w K mg base 3 "blocks_of" ["step"] (iG K)) (O:aF P w K mg base 1 "line_behind" qAW (jn K CN))
  (J:qr P w K mg base 1 "NumberedStep" CN qAV (mU K CN)) {d:Nat} (F:aF P w K mg base (2*d+4) "numbered_steps" qAW (rj K CN d)) :
  aF P w K mg base (2*d+5) "numbered_step" ["step","line"] (JF K CN d):=by
 refine D.cal (k:=2*d+4) BZ (λf dl A outer sh H vs Q E hr h=>?_)
 obtain⟨a,l,s,S,rfl,h1,ok,hz,q⟩:=h
 obtain⟨bs,b1,b2,b3⟩:=EU (f:=ao d) (l:=l) h1 ok
 refine⟨_,(ah (aw 2 BZ.nd (aJ (aa (pv 1) ae)))
   (ah (aw 3 BZ.nd (aJ ae))
   (ah (b4 xH rfl (hZ K (ay U hr (aa (pv 0) ae) (hle:=by lia))) (aM 4 BZ.nd) (ah (aw 5 BZ.nd (ay F hr (aa (pv 4) (aa (ar aB (ak (av K) (pv 2) (fN eX af)) af) ae)) (hle:=by lia)))
   (ah (br (bH K xh mY nu bA (pv 3) (aa (pv 5) ae)))
   (aj (br (bH K xh mY nu bA (pv 2) (aa (ay O hr (aa (pv 5) (aa (ar aB (ak (av K) (pv 2) (fN eX af)) af) ae)) (hle:=by lia)) ae)))))))
   (aj (aA (Jy J hr (aa (ay Y hr (aa (pv 0) ae) (hle:=by lia)) (aa (pv 2) (aa (pv 3) ae))) (hle:=by lia))))))),?_⟩
 walk_at "r";refine⟨by decide,λlp bg=>?_⟩
 walk_at "g"
 rename_i HA sA eA
 walk_at "n";refine⟨by decide,λbp ag=>?_⟩
 walk_at "g"
 rename_i HB sB eB
 have a4:=sA.trans sB;have ca:(bF (kindOf s)).length<=(dM s++bs.map V.ref).length+1:=by rw[qL,zj,b2];lia
 have a3:(dM s++bs.map V.ref).length+1-(bF (kindOf s)).length=(dM s).length+1:=by rw[qL,zj,b2];lia
 walk_at "n";refine⟨a,kindOf s,_,rfl,vr.of (a4 _ _ b1),ca,λtp HC sC ad=>?_⟩
 rw[a3]at ad
 have cu:(V.str (kindOf s)::(dM s++bs.map V.ref)).drop ((dM s).length+1)=bs.map V.ref:=by rw[List.drop_succ_cons,List.drop_left'];rfl
 rw[cu]at ad
 walk_at "r";refine⟨⟨_,ad⟩,?_⟩
 have bt:=aI b3;have dt:=BH (ao d) l s;have a9:lp≠bp:=λz=>by rw[<-z]at ag;rw[ag]at eA;cases eA
 refine sJ (xs:=bs.map V.ref) (λj σ H'=>∃(o4 o5:LK) (qs:LC),σ=[some (.ref a),some (.int (l:Int)),some (.ref lp),some (.ref bp),o4,o5]/\sj H H'/\vr K H' tp (bs.map V.ref)/\H' lp=some (.lst (fK ((cL (ao d) l s).take (j+1))))/\H' bp=some (.lst (qs.map V.ref))/\
   (∀b,H' b=none->HC b=none)/\Paired (λq (z:Nat×List ud)=>Be K CN (λb=>HC b=none) d H' q z.1 z.2) qs ((cH (ao d) l s).take j))
  ⟨none,none,[],rfl,a4.trans sC,ad,by rw[sC _ _ (sB _ _ eA)];simp[fK,cL],by rw[sC _ _ eB];rfl,λb h=>h,.nil⟩ (λj σ H' _ h=>by obtain⟨_,_,_,_,_,z,_⟩:=h;exact z) ?_ ?_
 .rintro j v σ H' hv ⟨o4,o5,qs,rfl,sm,b0,ab,W,a7,ac⟩
  have hj:j<bs.length:=by have:=(Kq.mp hv).1;simpa using this
  rw[wC,qz hj]at hv
  cases hv;obtain⟨z,al,dc,c1⟩:=cg b3 (qz hj)
  obtain⟨y,da,dj⟩:=By al
  have Z:((cL (ao d) l s).take (j+1)).getLast? = some y:=by
   rw[HX,da];simp
  have de:=E_ (kg al);walk_at "r";refine⟨_,_,.inl (su.of ab),jt Z,?_⟩
  walk_at "r";have ey:(y:Int)+1=((z.1:Nat):Int):=by lia
  rw[ey];refine⟨bs[j],z.1,z.2,S,rfl,dc.mono sm,c1,by lia,λq' HD sD c9=>?_⟩
  have be:=aI ac;rw[Il]at be
  walk_at "n";refine⟨⟨_,su.of (sD _ _ W)⟩,_,sD _ _ W,cJ (by rw[zj];lia),?_⟩
  generalize hE:upd HD bp _=HE
  have c3:CD (λb=>H' b=none) HD HE:=by rw[<-hE];exact CD.upd (sD _ _ W) (λz=>by rw[W]at z;cases z)
  have a8:=Be.imp (S':=λb=>H' b=none) c3 (λ_ z=>z) d c9
  have eE:HE bp=some (.lst (qs.map V.ref++[V.ref q'])):=by rw[<-hE,ai]
  have lE:HE lp=some (.lst (fK ((cL (ao d) l s).take (j+1)))):=by rw[<-hE,au a9];exact sD _ _ ab
  walk_at "n";refine⟨⟨_,su.of lE⟩,_,_,.inl (su.of lE),jt Z,?_⟩
  walk_at "r";rw[ey];have cc:∀b,H' b=none->HC b=none:=a7
  have c8:=Be.imp (S':=λb=>HC b=none) (CD.of (sj.refl HE)) cc d a8
  cases d with
  | zero=>exact a8.elim
  | succ d=>
  refine⟨q',z.1,d,z.2,_,rfl,a8,by lia,?_⟩
  refine⟨_,lE,cJ (by unfold fK;rw[zj,Il];lia),?_⟩
  generalize hF:upd HE lp _=HF
  have cd:HC lp=some (.lst (fK [l])):=by rw[sC _ _ (sB _ _ eA)];simp[fK]
  have c4:HC bp=some (.lst []):=sC _ _ eB
  have a5:CD (λb=>HC b=none) HE HF:=by rw[<-hF];exact CD.upd lE (λz=>by rw[cd]at z;cases z)
  have as:CD (λb=>HC b=none) HD HE:=by rw[<-hE];exact CD.upd (sD _ _ W) (λz=>by rw[c4]at z;cases z)
  have up:∀ {p:Addr} {l:Nat} {T:List ud},Be K CN (λb=>HC b=none) (d+1) H' p l T->Be K CN (λb=>HC b=none) (d+1) HF p l T:=λz=>Be.imp a5 (λ_ y=>y) _ (Be.imp as (λ_ y=>y) _ (z.mono sD))
  refine⟨_,_,qs++[q'],rfl,?_,?_,?_,?_,?_,?_⟩
  .rw[<-hF,<-hE];exact((sm.trans sD).upd (sA.free ag) _).upd bg _
  .exact vr.stays (vr.stays (b0.same sD) as) a5
  .rw[<-hF,ai]
   have:(cL (ao (d+1)) l s)[j+1]?=some (z.1+ao (d+1) z.2):=by
    unfold cL;rw[zaW,wC,al];rfl
   unfold fK;rw[HX (i:=j+1),this,yd];rfl
  .rw[<-hF,au a9.symm,eE,yd];rfl
  .intro b hb
   refine a7 b (sD.free ?_)
   rw[<-hF,<-hE]at hb
   by_cases e1:b=lp
   .rw[e1,ai]at hb;cases hb
   .rw[au e1]at hb
    by_cases e2:b=bp
    .rw[e2,ai]at hb;cases hb
    .rw[au e2]at hb;exact hb
  .rw[HX,al]
   exact eO (R:=λq (z:Nat×List ud)=>Be K CN (λb=>HC b=none) (d+1) HF q z.1 z.2) (Be.imp a5 (λ_ y=>y) _ c8) (Paired.imp' (λq z y=>up y) ac)
 .rintro σ H' ⟨o4,o5,qs,rfl,sm,b0,ab,W,a7,ac⟩
  rw[zj,bt,Iq]at ac
  have cb:(cL (ao d) l s).take ((bs.map V.ref).length+1)=cL (ao d) l s:=by
   rw[HI];unfold cL;rw[qY,zj,zj,bt];exact qt _
  rw[cb]at ab
  walk_at "n";refine⟨a,kindOf s,_,rfl,vr.of (sm _ _ b1),ca,λhp HD sD a6=>?_⟩
  rw[a3]at a6
  have bc:(V.str (kindOf s)::(dM s++bs.map V.ref)).take ((dM s).length+1)=V.str (kindOf s)::dM s:=by rw[Kj,List.take_left'];rfl
  rw[bc]at a6
  walk_at "r";intro x dx hx c5 dm
  generalize hM:upd (upd HD dx (.own x)) x (.ins CN dx [])=HM
  have sM:sj HD HM:=by rw[<-hM];exact(am c5 (.own x)).upd hx _
  have eM:HM x=some (.ins CN dx []):=by rw[<-hM,ai]
  refine⟨x,dx,hp,kindOf s,dM s,lp,bp,rfl,eM,a6.same sM,λpp HN kN eN cq=>⟨rfl,?_⟩⟩
  have sN:sj HD HN:=λb o e=>kN b o (sM _ _ e) (aP e hx)
  have c2:sj H HN:=(sm.trans sD).trans sN
  have cv:∀b,HC b=none->H b=none:=λb z=>(a4.trans sC).free z
  refine q x HN c2 ⟨dx,pp,lp,bp,qs,eN,cq,bg,sN _ _ (sD _ _ ab),sA.free ag,sN _ _ (sD _ _ W),?_⟩
  exact Paired.imp' (λq z y=>Be.imp (CD.of (sD.trans sN)) cv d y) ac
theorem v4(D0:xn K mg "numbered_step" aX) (D:xn K mg "numbered_steps" bK) (W:aF P w K mg base 2 "head_of" ["step"] (kf K)) (O:aF P w K mg base 3 "blocks_of" ["step"] (iG K)) (F:aF P w K mg base 1 "line_behind" qAW (jn K CN))
  (J:qr P w K mg base 1 "NumberedStep" CN qAV (mU K CN)):∀d:Nat,aF P w K mg base (2*d+4) "numbered_steps" qAW (rj K CN d)
 | 0=>D.cal (k:=3) CH (λf a6 A outer s H vs Q E hr h=>by obtain⟨p,l,T,S,rfl,z,_⟩:=h;exact z.elim)
 | d+1=>by
  have U:=Hh D0 W O F J (v4 D0 D W O F J d);refine D.cal (k:=2*d+5) CH (λf a6 A outer s H vs Q E hr h=>?_)
  obtain⟨p,l,T,S,rfl,⟨h0,as,h1,h2⟩,ok,hz,q⟩:=h
  have a3:=aI h2;have be:=vv d T
  refine⟨_,(ah (aw 2 CH.nd (aJ ae))
   (ah (b4 xH rfl (bL K (pv 0)) (aM 3 CH.nd) (aj (br (bH K xh mY nu bA (pv 2) (aa (ay U hr (aa (pv 3) (aa (ay F hr (aa (pv 2) (aa (pv 1) ae)) (hle:=by lia)) ae)) (hle:=by lia)) ae)))))
   (aj (aA (pv 2))))),?_⟩
  walk_at "r";refine⟨by decide,λY ag=>?_⟩
  walk_at "g"
  rename_i HA sA eA
  walk_at "n";refine⟨⟨_,su.of (sA _ _ h1)⟩,?_⟩
  have a4:¬ HA Y=none:=λz=>by rw[eA]at z;cases z
  refine cB (xs:=as.map V.ref) (λi σ H'=>∃(o3:LK) (ns:LC),σ=[some (.ref p),some (.int (l:Int)),some (.ref Y),o3]/\sj H H'/\H' Y=some (.lst (ns.map V.ref))/\(∀b,H' b=none->HA b=none)/\
    Paired (λa (z:Nat×ud)=>B1 K CN (ao d) (λb=>HA b=none) (Be K CN (λb=>HA b=none) d H') H' a z.1 z.2) ns (fE (bw (ao d)) l (T.take i)))
   ⟨none,[],rfl,sA,eA,λ_ z=>z,.nil⟩ (λi σ H' _ h=>by obtain⟨_,_,_,sm,_⟩:=h;exact su.of (sm _ _ h1)) ?_ ?_
  .rintro i v σ H' hv ⟨o3,ns,rfl,sm,n1,nf,n2⟩
   have hi:i<as.length:=by have:=(Kq.mp hv).1;simpa using this
   rw[wC,qz hi]at hv
   cases hv;obtain⟨s,hs,a5⟩:=cg h2 (qz hi)
   have ab:=kg hs;have bc:=nn (d:=d) ab;have a9:=uk (d:=d) (i:=i) (T:=T);have al:=aI n2;rw[gG,Il]at al
   walk_at "r";refine⟨⟨_,su.of n1⟩,?_⟩
   refine⟨Y,l,d,T.take i,λ_=>True,rfl,⟨trivial,ns,n1,Paired.imp' (λa z y=>y.imp (CD.of (sj.refl H')) (λ_ _=>trivial) λq l b y'=>Be.imp (CD.of (sj.refl H')) (λ_ _=>trivial) d y') n2⟩,by lia,?_⟩
   refine⟨as[i],l+ao (d+1) (T.take i),s,S,rfl,?_,ok s ab,by lia,λq' Z sD a7=>?_⟩
   .exact Cv.imp (λb xs e=>sm _ _ e) (λq b y=>y.mono sm) a5
   refine⟨_,sD _ _ n1,cJ (by rw[zj];lia),?_⟩
   generalize hE:upd Z Y _=HE
   have eE:HE Y=some (.lst ((ns++[q']).map V.ref)):=by rw[<-hE,ai,yd];rfl
   have ac:CD (λb=>HA b=none) Z HE:=by rw[<-hE];exact CD.upd (sD _ _ n1) a4
   have a8:B1 K CN (ao d) (λb=>HA b=none) (Be K CN (λb=>HA b=none) d Z) Z q' (l+ao (d+1) (T.take i)) s:=a7.imp (CD.of (sj.refl Z)) nf λq l b y'=>Be.imp (CD.of (sj.refl Z)) nf d y'
   have up:∀ {a:Addr} {l:Nat} {s:ud},B1 K CN (ao d) (λb=>HA b=none) (Be K CN (λb=>HA b=none) d Z) Z a l s->B1 K CN (ao d) (λb=>HA b=none) (Be K CN (λb=>HA b=none) d HE) HE a l s:=λz=>z.imp ac (λ_ y=>y) λq l b y'=>Be.imp ac (λ_ y=>y) d y'
   refine⟨_,ns++[q'],rfl,?_,eE,?_,?_⟩
   .rw[<-hE];exact(sm.trans sD).upd ag _
   .intro b hb
    refine nf b (sD.free ?_)
    rw[<-hE]at hb
    by_cases e1:b=Y
    .rw[e1,ai]at hb;cases hb
    .rw[au e1]at hb;exact hb
   .have et:T.take (i+1)=T.take i++[s]:=by rw[HX,hs];rfl
    rw[et,j9];exact eO (R:=λa (z:Nat×ud)=>B1 K CN (ao d) (λb=>HA b=none) (Be K CN (λb=>HA b=none) d HE) HE a z.1 z.2) (up a8) (Paired.imp' (λa z y=>up (B1.mono y sD)) n2)
  .rintro σ H' ⟨o3,ns,rfl,sm,n1,nf,n2⟩
   rw[zj,a3,Iq]at n2
   walk_at "n";have ad:∀b,HA b=none->H b=none:=λb z=>sA.free z
   exact q Y H' sm ⟨ag,ns,n1,Paired.imp' (λa z y=>y.imp (CD.of (sj.refl H')) ad λq l b y'=>Be.imp (CD.of (sj.refl H')) ad d y') n2⟩
end
abbrev aD:=LB
variable{r:aD}{R:List aD}
noncomputable def cn(kv:List (aL×V))(k:aL):V:=(bT kv k).getD .non
def iN(n:Nat):V:=.int (n:Int)
noncomputable def cZ(kv:List (aL×V))(l:Nat)(ws:KZ):aD:=
 if ws.headD "" = "do" then [.str "do",iN l,cn kv (.inr (ws.getD 2 "")),.str (ws.getD 1 "")] else .str (ws.headD "")::iN l::(ws.drop 1).map λn=>cn kv (.inr n)
section
variable(kv:List (aL×V))(f:Bool->Nat->Nat->List ud->List aD)(cnt:List ud->Nat)
noncomputable def dI(t:Bool)(a l:Nat)(x y:Str)(b:List ud):List aD:=
 [[.str "copy",iN l,cn kv (.inl l),cn kv (.inr x)],[.str "do",iN l,cn kv (.inl l),.str "lend"],[.str "copy",iN l,cn kv (.inr y),cn kv (.inl l)]]++f t (a+3) (l+1) b ++
 [[.str "do",iN (l+1+cnt b),cn kv (.inl l),.str "back"],[.str "drop",iN (l+1+cnt b),cn kv (.inr y)],[.str "drop",iN (l+1+cnt b),cn kv (.inl l)]]
noncomputable def gX(t:Bool)(a l:Nat)(n:Int)(b c:List ud):List aD:=
 [[.str "test",iN l,.int n,iN (a+1+(f t (a+1) (l+1) b).length+1)]]++f t (a+1) (l+1) b ++
 [[.str "jump",iN (l+1+cnt b),iN (a+1+(f t (a+1) (l+1) b).length+1+(f t (a+1+(f t (a+1) (l+1) b).length+1) (l+1+cnt b+1) c).length)]]++f t (a+1+(f t (a+1) (l+1) b).length+1) (l+1+cnt b+1) c
noncomputable def dJ(a l:Nat)(n:Int)(b:List ud):List aD:=
 [[.str "test",iN l,.int n,iN (a+1+(f false (a+1) (l+1) b).length+1)]]++f false (a+1) (l+1) b++[[.str "jump",iN (l+1+cnt b),iN a]]
noncomputable def du(t:Bool)(a l:Nat)(n:Int)(b:List ud):List aD:=
 if t=true then [[.str "test",iN l,.int n,iN (a+1+(f true (a+1) (l+1) b).length+(dJ f cnt (a+1+(f true (a+1) (l+1) b).length) l n b).length)]]++f true (a+1) (l+1) b++dJ f cnt (a+1+(f true (a+1) (l+1) b).length) l n b
 else dJ f cnt a l n b
noncomputable def dE(t:Bool)(a l:Nat):ud->List aD
 | .plain ws=>[cZ kv l ws]
 | .lend x y b=>dI kv f cnt t a l x y b
 | .ite n b c=>gX f cnt t a l n b c
 | .whl n b=>du f cnt t a l n b
end
noncomputable def cy(g:Nat->Nat->ud->List aD)(c:ud->Nat):Nat->Nat->List ud->List aD
 | _,_,[]=>[]
 | a,l,s::T=>g a l s++cy g c (a+(g a l s).length) (l+c s) T
theorem lu(g:Nat->Nat->ud->List aD)(c:ud->Nat)(s:ud):∀(T:List ud) (a l:Nat),cy g c a l (T++[s])=cy g c a l T++g (a+(cy g c a l T).length) (l+(T.map c).sum) s
 | [],a,l=>by simp[cy]
 | t::T,a,l=>by
  show g a l t++cy g c _ _ (T++[s])=(g a l t++cy g c _ _ T)++_
  have e:(cy g c a l (t::T)).length=(g a l t).length+(cy g c (a+(g a l t).length) (l+c t) T).length:=qL
  rw[lu g c s T,n6,e,yj,lJ,lR,lR]
noncomputable def aE(kv:List (aL×V)):Nat->Bool->Nat->Nat->List ud->List aD
 | 0,_,_,_,_=>[]
 | d+1,t,a,l,T=>cy (dE kv (aE kv d) (ao d) t) (bw (ao d)) a l T
theorem js{f:Bool->Nat->Nat->List ud->List aD}{cnt:List ud->Nat}{n:Int}{b:List ud}:(dJ f cnt a l n b).length=(f false (a+1) (l+1) b).length+2:=by
 unfold dJ;simp
theorem Cd{kv:List (aL×V)}{f:Bool->Nat->Nat->List ud->List aD}{cnt:List ud->Nat}{m:Nat}(F:∀a l T,(f false a l T).length<=6*cnt T)(h1:∀a l T,(f true a l T).length<=6*m*cnt T)(J:1<=m):∀(s:ud) (t:Bool) (a l:Nat),(dE kv f cnt t a l s).length<=(if t=true then 6*(m+1) else 6)*bw cnt s
 | .plain ws,t,a,l=>by
  show 1<=_*1
  split<;>lia
 | .lend x y b,t,a,l=>by
  cases t with
  | false=>
   have:=F (a+3) (l+1) b
   show (dI kv f cnt false a l x y b).length<=6*(cnt b+2)
   unfold dI;simp only[qL,qY,yi]
   lia
  | true=>
   have:=h1 (a+3) (l+1) b
   show (dI kv f cnt true a l x y b).length<=6*(m+1)*(cnt b+2)
   unfold dI;simp only[qL,qY,yi]
   have e:6*(m+1)*(cnt b+2)=6*m*cnt b+6*cnt b+12*m+12:=by rw[rH 6 m 1,IB,rH,rH];lia
   lia
 | .ite n b c,t,a,l=>by
  cases t with
  | false=>
   have:=F (a+1) (l+1) b
   have:=F (a+1+(f false (a+1) (l+1) b).length+1) (l+1+cnt b+1) c
   show (gX f cnt false a l n b c).length<=6*(cnt b+cnt c+3)
   unfold gX;simp only[qL,qY,yi]
   lia
  | true=>
   have:=h1 (a+1) (l+1) b
   have:=h1 (a+1+(f true (a+1) (l+1) b).length+1) (l+1+cnt b+1) c
   show (gX f cnt true a l n b c).length<=6*(m+1)*(cnt b+cnt c+3)
   unfold gX;simp only[qL,qY,yi]
   have e:6*(m+1)*(cnt b+cnt c+3)=6*m*cnt b+6*m*cnt c+18*m+6*cnt b+6*cnt c+18:=by rw[rH 6 m 1,IB,rH,rH,rH,rH];lia
   lia
 | .whl n b,t,a,l=>by
  cases t with
  | false=>
   have:=F (a+1) (l+1) b
   show (du f cnt false a l n b).length<=6*(cnt b+2)
   unfold du;rw[Kt (by decide),js]
   lia
  | true=>
   have:=h1 (a+1) (l+1) b
   have:=F (a+1+(f true (a+1) (l+1) b).length+1) (l+1) b
   show (du f cnt true a l n b).length<=6*(m+1)*(cnt b+2)
   unfold du;rw[Kx rfl];simp only[qL,qY,yi,js]
   have e:6*(m+1)*(cnt b+2)=6*m*cnt b+6*cnt b+12*m+12:=by rw[rH 6 m 1,IB,rH,rH];lia
   lia
theorem qD{g:Nat->Nat->ud->List aD}{c:ud->Nat}{k:Nat}(h:∀s a l,(g a l s).length<=k*c s):∀(T:List ud) (a l:Nat),(cy g c a l T).length<=k*(T.map c).sum
 | [],_,_=>xR _
 | s::T,a,l=>by
  have:=h s a l
  have:=qD h T (a+(g a l s).length) (l+c s)
  show (g a l s++cy g c (a+(g a l s).length) (l+c s) T).length<=k*(c s+(T.map c).sum)
  rw[qL,rH];lia
theorem tZ(kv:List (aL×V)):∀(d:Nat) (a l:Nat) (T:List ud),(aE kv d false a l T).length<=6*ao d T/\(aE kv d true a l T).length<=6*(d+1)*ao d T
 | 0,_,_,_=>⟨xR _,xR _⟩
 | d+1,a,l,T=>by
  have ih:=tZ kv d;have st:=Cd (kv:=kv) (f:=aE kv d) (cnt:=ao d) (m:=d+1) (λa l T=>(ih a l T).1) (λa l T=>(ih a l T).2) (by lia)
  exact⟨qD (k:=6) (λs a l=>by have:=st s false a l;simpa using this) T a l,qD (k:=6*(d+1+1)) (λs a l=>by have:=st s true a l;simpa using this) T a l⟩
def b6(H:Hp)(c:Addr)(r:aD):Prop:=H c=some (.tup r)
noncomputable def cW(ws:KZ):KZ:=if ws.headD "" = "do" then [ws.getD 2 ""] else ws.drop 1
def iH(kv:List (aL×V))(k:aL):Prop:=bT kv k=some (cn kv k)
def lO(kv:List (aL×V))(f:Nat->List ud->Prop)(cnt:List ud->Nat)(l:Nat):ud->Prop
 | .plain ws=>(ws.headD "" = "do" -> ws.length=3)/\∀n∈cW ws,iH kv (.inr n)
 | .lend x y b=>iH kv (.inr x)/\iH kv (.inr y)/\iH kv (.inl (l:Int))/\f (l+1) b
 | .ite _ b c=>f (l+1) b/\f (l+1+cnt b+1) c
 | .whl _ b=>f (l+1) b
def fh(kv:List (aL×V)):Nat->Nat->List ud->Prop
 | 0,_,_=>False
 | d+1,l,T=>∀z∈fE (bw (ao d)) l T,lO kv (fh kv d) (ao d) z.1 z.2
section
variable{CN:Addr}
def CP(K:W.Frag)(C:Addr):Sp:=λvs H Q _=>∃(a sp:Addr) (l:Nat) (ws:KZ) (kv:List (aL×V)) (S:Addr->Prop) (PA:Addr->Nat->List ud->Prop) (g:List ud->Nat) (f:Nat->List ud->Prop),vs=[.ref a,.ref sp]/\B1 K C g S PA H a l (.plain ws)/\iD ws/\H sp=some (.dK kv)/\lO kv f g l (.plain ws)/\
 ∀(t:Addr) (H':Hp),sj H H'->b6 H' t (cZ kv l ws)->Q (.ref t) H'
theorem zY(D:xn K mg "simple_row" bR) (U:mg "tuple" = none) (J:Fl K CN "kind") (F:Fl K CN "parts") (O:Fl K CN "lines"):aF P w K mg base 1 "simple_row" ["step","slots"] (CP K CN):=by
 refine D.cal (k:=0) GA (λf a6 A outer s H vs Q E hr h=>?_)
 obtain⟨a,sp,l,ws,kv,S,PA,g,ff,rfl,⟨dx,pp,lp,bp,bs,Z,g2,g3,g4,g5,g6,g7⟩,ok,ab,⟨a3,W⟩,q⟩:=h
 refine⟨_,(ah (aw 2 GA.nd (ak (av K) (bJ O (pv 0)) af))
   (ah (bf (az bn (bJ J (pv 0)) ax (aG _)) (aj (aA (aQ (aa ax (aa (pv 2) (aa (ak (tX K) (pv 1 (hv:=Mr)) (ak (av K) (bJ F (pv 0)) af)) (aa (ak (av K) (bJ F (pv 0)) af) ae))))))) aN)
   (aj (aA (ar (gD K) (aQ (aa (bJ J (pv 0)) (aa (pv 2) ae))) (ee (oS K) U lN (aa (dz (Cq.to (fsc:=(sg bR)) (N:=qAg) (N0:=qAg) (T:=["name"])) rfl ((hZ K) (bJ F (pv 0))) (λ_ _ _ _=>(aM 3 (show (["step","slots","line","name"]:KZ).Nodup from by decide +kernel))) (ci (show (qAg:KZ).length<=3 from by decide)) (λ_ _ _ _=>c7) (λ_ _ _ _=>(ak (tX K) (pv 1 (hv:=(cr (sg bR) (by decide +kernel)))) (pv 3)))) ae))))))),?_⟩
 walk_at "r";refine⟨dx,_,_,Z,dZ _ _ _ _,?_⟩
 walk_at "r";refine⟨_,_,.inl (su.of g4),eW (i:=0) (n:=l) rfl,?_⟩
 walk_at "n";refine⟨dx,_,_,Z,fY _ _ _ _,?_⟩
 walk_at "r";unfold cZ at q;unfold cW at W;refine bx (λc=>?_) (λc=>?_)
 .have Y:ws.headD "" = "do" := c
  rw[Kx Y]at q W
  obtain⟨k0,w0,x0,rfl⟩ : ∃k w x,ws=[k,w,x]:=by
   have:=a3 Y
   match ws,this with
   | [k,w,x],_=>exact⟨k,w,x,rfl⟩
  have hx:=W x0 (by simp)
  refine⟨dx,_,_,Z,e_ _ _ _ _,?_⟩
  walk_at "r";refine⟨_,_,.inr g2,ap (j:=1) (v:=.str x0) rfl,?_⟩
  refine .inr ⟨sp,kv,.inr x0,_,rfl,rfl,ab,hx,?_⟩
  refine⟨dx,_,_,Z,e_ _ _ _ _,?_⟩
  walk_at "r";refine⟨_,_,.inr g2,ap (j:=0) (v:=.str w0) rfl,by decide,λt ht=>?_⟩
  exact q t _ (am ht _) ai
 .have Y:¬ ws.headD "" = "do" := c
  rw[Kt Y]at q W
  walk_at "n";refine⟨dx,_,_,Z,fY _ _ _ _,by decide,λt1 as=>?_⟩
  generalize hH1:upd H t1 _=H1
  have s1:sj H H1:=by rw[<-hH1];exact am as _
  have ag:H1 t1=some (.tup [.str (kindOf (.plain ws)),iN l]):=by rw[<-hH1];exact ai
  refine⟨dx,_,_,s1 _ _ Z,e_ _ _ _ _,?_⟩
  refine⟨pp,rfl,⟨_,g2.same s1⟩,λL hL=>?_⟩
  have al:vr K H1 pp ((ws.drop 1).map V.str):=g2.same s1
  have ac:=s1 _ _ ab;refine jS (xs:=(ws.drop 1).map V.str) (λi ys H'=>sj H1 H'/\H' L=some (.lst ys)/\ys=((ws.drop 1).take i).map λn=>cn kv (.inr n)) ⟨am hL _,ai,rfl⟩ (λi ys H' _ hh=>al.same hh.1) ?_ ?_
  .rintro i ys H' v hv hi ⟨sm,hl,rfl⟩
   rw[zj]at hi
   rw[wC,qz hi]at hv
   cases hv;have hn:=W _ (nY hi);have h3:=ok.three;have a4:(ws.drop 1).length<=3:=by rw[zbb];lia
   walk_at "r";refine .inr ⟨sp,kv,.inr (ws.drop 1)[i],_,rfl,rfl,sm _ _ ac,hn,?_⟩
   refine fM (by rw[zj];exact hi) (by rw[zj,Il];lia) (by rw[zj];exact aU (by lia)) hl ⟨sm.upd hL _,ai,?_⟩
   rw[HX,qz hi,yd];rfl
  .rintro ys H2 ⟨s2,e2,rfl⟩
   rw[zj,Iq]at e2
   have h2:=ok.two;have h3:=ok.three;have a4:(ws.drop 1).length<=3/\1<=(ws.drop 1).length:=by rw[zbb];lia
   walk_at "r";refine⟨_,.inl ⟨su.of e2,λt2 a5=>?_⟩⟩
   walk_at "g"
   rename_i H3 s3 et2
   refine⟨_,_,vr.of (s3 _ _ (s2 _ _ ag)),vr.of et2,by simp,by rw[zj];exact aU (by simp only[qY,yi];lia),λhz=>?_,λ_ t3 ad=>?_⟩
   .have:=congrArg List.length hz
    rw[zj]at this
    simp only[yi]at this
    lia
   .exact q t3 _ (((s1.trans s2).trans s3).trans (am ad _)) ai
end
def BM(H:Hp)(q:Addr)(rows:List aD):Prop:=∃as:LC,H q=some (.lst (as.map V.ref))/\Paired (b6 H) as rows
theorem BM.mono{rows:List aD}(h:BM H q rows)(s:sj H H'):BM H' q rows:=let ⟨as,h1,h2⟩:=h;⟨as,s _ _ h1,Paired.imp' (λ_ _ z=>s _ _ z) h2⟩
theorem eP{α β : Type}{R:α->β->Prop}:∀ {xs zs:List α} {ys F:List β},Paired R xs ys->Paired R zs F->Paired R (xs++zs) (ys++F)
 | _,_,_,_,.nil,h=>h
 | _,_,_,_,.cons a t,h=>.cons a (eP t h)
theorem eC{x:Addr}{F bs:LC}{J O:List aD}(a2:Paired (b6 H) F J)(U:Paired (b6 H) bs O)(hx:H x=none):BM (upd H x (.lst (F.map V.ref++bs.map V.ref))) x (J++O):=by
 have s:=am hx (.lst (F.map V.ref++bs.map V.ref));exact⟨F++bs,by rw[ai,yd],eP (Paired.imp' (λ_ _ z=>s _ _ z) a2) (Paired.imp' (λ_ _ z=>s _ _ z) U)⟩
theorem dw{O bs:LC}{F J:List aD}(a2:Paired (b6 H) O F)(U:Paired (b6 H) bs J)(hl:F.length+J.length<=1000000):(O.map V.ref).length+(bs.map V.ref).length<=sizeLine:=by
 rw[zj,zj,aI a2,aI U];exact aU hl
theorem ig{c x:Addr}(F:b6 H c r)(hx:H x=none):BM (upd H x (.lst [.ref c])) x [r]:=⟨[c],ai,.cons (am hx _ _ _ F) .nil⟩
section
variable{CN:Addr}
def h_(K:W.Frag)(C:Addr)(d:Nat):Sp:=λvs H Q _=>∃(p sp:Addr) (a l:Nat) (t:Bool) (T:List ud) (kv:List (aL×V)) (S:Addr->Prop),vs=[.ref p,.int (a:Int),.ref sp,.bl t]/\Be K C S d H p l T/\dR d T/\H sp=some (.dK kv)/\fh kv d l T/\ao d T<=200/\d<=20/\
 ∀(q:Addr) (H':Hp),sj H H'->H q=none->BM H' q (aE kv d t a l T)->Q (.ref q) H'
def AO(K:W.Frag)(C:Addr)(d:Nat):Sp:=λvs H Q _=>∃(x sp:Addr) (a l:Nat) (n:Int) (b:List ud) (kv:List (aL×V)) (S:Addr->Prop),vs=[.ref x,.int (a:Int),.ref sp]/\B1 K C (ao d) S (Be K C S d H) H x l (.whl n b)/\dR d b/\H sp=some (.dK kv)/\fh kv d (l+1) b/\ao d b<=200/\d<=20/\
 ∀(q:Addr) (H':Hp),sj H H'->H q=none->BM H' q (dJ (aE kv d) (ao d) a l n b)->Q (.ref q) H'
theorem dY{kv:List (aL×V)}{d a l:Nat}{t:Bool}{T:List ud}(h:ao d T<=200)(hd:d<=20):(aE kv d t a l T).length<=30000:=by
 have h1:=tZ kv d a l T;have h2:6*(d+1)*ao d T<=6*21*200:=Nat.mul_le_mul (by lia) h
 cases t with
 | false=>lia
 | true=>lia
theorem Er(D:xn K mg "loop_rows" cf) (ab:wAK mg) (U:Fl K CN "parts") (F:Fl K CN "lines") (O:Fl K CN "blocks") {d:Nat} (J:aF P w K mg base (3*d+2) "rows_of" qAL (h_ K CN d)):aF P w K mg base (3*d+3) "loop_rows" qAu (AO K CN d):=by
 refine D.cal (k:=3*d+2) Gc (λf bt A outer s H vs Q E hr h=>?_)
 obtain⟨x,sp,a,l,n,b,kv,S,rfl,⟨dx,pp,lp,bp,bs,g1,g2,g3,g4,g5,g6,g7⟩,ok,a6,hk,hc,hd,q⟩:=h
 obtain⟨q0,rfl⟩ : ∃q0,bs=[q0]:=by
  cases g7 with
  | cons _ t=>cases t;exact⟨_,rfl⟩
 have hb:Be K CN S d H q0 (l+1) b:=by
  cases g7 with
  | cons h _=>exact h
 refine⟨_,(ah (aw 3 Gc.nd (ay J hr (aa (ak (av K) (bJ O (pv 0)) af) (aa (ar aB (pv 1) af) (aa (pv 2) (aa eU ae)))) (hle:=by lia)))
   (ah (aw 4 Gc.nd (ar aB (ar aB (ar aB (pv 1) af) (bm (aR K) ab bG (aa (pv 3) ae))) af))
   (aj (aA (ar aB (ar aB (aJ (aa (aQ (aa ax (aa (ak (av K) (bJ F (pv 0)) af) (aa (ak (av K) (bJ U (pv 0)) af) (aa (pv 4) ae))))) ae)) (pv 3)) (aJ (aa (aQ (aa ax (aa (ak (av K) (bJ F (pv 0)) af) (aa (pv 1) ae)))) ae))))))),?_⟩
 walk_at "r";refine⟨dx,_,_,g1,gR _ _ _ _,?_⟩
 walk_at "r";refine⟨_,_,.inl (su.of g6),ap (j:=0) (v:=V.ref q0) rfl,?_⟩
 refine⟨q0,sp,a+1,l+1,false,b,kv,S,by simp,hb,ok,a6,hk,hc,hd,λwq H1 s1 be hW=>?_⟩
 have a9:=dY (kv:=kv) (a:=a+1) (l:=l+1) (t:=false) hc hd;generalize hWW:aE kv d false (a+1) (l+1) b=W at hW a9;obtain⟨bg,w1,w2⟩:=id hW
 have wl:=aI w2;walk_at "n";refine⟨_,.inl (su.of w1),?_⟩
 rw[zj,wl];walk_at "n";refine⟨dx,_,_,s1 _ _ g1,dZ _ _ _ _,?_⟩
 walk_at "r";refine⟨_,_,.inl (su.of (s1 _ _ g4)),eW (i:=0) (n:=l) rfl,?_⟩
 refine⟨dx,_,_,s1 _ _ g1,e_ _ _ _ _,?_⟩
 walk_at "r";refine⟨_,_,.inr (g2.same s1),ap (j:=0) (v:=V.int n) rfl,by decide,λt1 b0=>?_⟩
 walk_at "g"
 rename_i H2 s2 hH2
 have a7:b6 H2 t1 [.str "test",iN l,.int n,iN (a+1+W.length+1)]:=by
  show H2 t1=_
  rw[hH2];simp[iN]
 refine⟨by decide,λl1 a4=>?_⟩
 have s3:=am a4 (.lst [.ref t1]);have L1:=ig a7 a4;generalize upd H2 l1 (.lst [.ref t1])=H3 at s3 L1 |-;have ac:=s2.trans s3;obtain⟨a5,a1,a2⟩:=L1
 obtain⟨a3,b1,b2⟩:=hW.mono ac
 refine⟨_,_,a1,b1,dw a2 b2 (by simp only[qY,yi];lia),λl2 ag=>?_⟩
 have s4:=am ag (.lst (a5.map V.ref++a3.map V.ref));have L2:=eC a2 b2 ag;generalize upd H3 l2 (.lst (a5.map V.ref++a3.map V.ref))=H4 at s4 L2 |-;have Y:=(s1.trans ac).trans s4;refine⟨dx,_,_,Y _ _ g1,dZ _ _ _ _,?_⟩
 walk_at "r";refine⟨_,_,.inl (su.of (Y _ _ g4)),eW (i:=1) (n:=l+1+ao d b) rfl,by decide,λt2 bc=>?_⟩
 walk_at "g"
 rename_i H5 s5 hH5
 have a8:b6 H5 t2 [.str "jump",iN (l+1+ao d b),iN a]:=by
  show H5 t2=_
  rw[hH5];simp[iN]
 refine⟨by decide,λl3 al=>?_⟩
 have s6:=am al (.lst [.ref t2]);have L3:=ig a8 al;generalize upd H5 l3 (.lst [.ref t2])=H6 at s6 L3 |-;obtain⟨ad,c1,c2⟩:=L2.mono (s5.trans s6)
 obtain⟨as,d1,d2⟩:=L3
 refine⟨_,_,c1,d1,dw c2 d2 (by simp only[qL,qY,yi];lia),λl4 Z=>?_⟩
 have s7:=am Z (.lst (ad.map V.ref++as.map V.ref));have L4:=eC c2 d2 Z;generalize upd H6 l4 (.lst (ad.map V.ref++as.map V.ref))=H7 at s7 L4 |-;refine q l4 H7 (((Y.trans s5).trans s6).trans s7) (((Y.trans s5).trans s6).free Z) ?_
 unfold dJ;rw[hWW];exact L4
end
section
variable{CN:Addr}
def Ce(K:W.Frag)(C:Addr)(d:Nat):Sp:=λvs H Q _=>∃(x sp:Addr) (a l:Nat) (t:Bool) (n:Int) (b:List ud) (kv:List (aL×V)) (S:Addr->Prop),vs=[.ref x,.int (a:Int),.ref sp,.bl t]/\B1 K C (ao d) S (Be K C S d H) H x l (.whl n b)/\dR d b/\H sp=some (.dK kv)/\fh kv d (l+1) b/\ao d b<=200/\d<=20/\
 ∀(q:Addr) (H':Hp),sj H H'->H q=none->BM H' q (du (aE kv d) (ao d) t a l n b)->Q (.ref q) H'
theorem CQ(D:xn K mg "while_rows" bD) (J:wAK mg) (Z:Fl K CN "parts") (Y:Fl K CN "lines") (U:Fl K CN "blocks") {d:Nat} (O:aF P w K mg base (3*d+2) "rows_of" qAL (h_ K CN d)) (F:aF P w K mg base (3*d+3) "loop_rows" qAu (AO K CN d)):aF P w K mg base (3*d+4) "while_rows" qAP (Ce K CN d):=by
 refine D.cal (k:=3*d+3) FI (λf b3 A outer s H vs Q E hr h=>?_)
 obtain⟨x,sp,a,l,t,n,b,kv,S,rfl,hN,ok,ac,hk,hc,hd,q⟩:=h
 obtain⟨dx,pp,lp,bp,bs,g1,g2,g3,g4,g5,g6,g7⟩:=id hN
 obtain⟨q0,rfl⟩ : ∃q0,bs=[q0]:=by
  cases g7 with
  | cons _ t=>cases t;exact⟨_,rfl⟩
 have hb:Be K CN S d H q0 (l+1) b:=by
  cases g7 with
  | cons h _=>exact h
 refine⟨_,(ah (bf (jj (dF (pv 3))) (aj (aA (ay F hr (aa (pv 0) (aa (pv 1) (aa (pv 2) ae))) (hle:=by lia)))) aN)
   (ah (aw 4 FI.nd (ay O hr (aa (ak (av K) (bJ U (pv 0)) af) (aa (ar aB (pv 1) af) (aa (pv 2) (aa eU ae)))) (hle:=by lia)))
   (ah (aw 5 FI.nd (ay F hr (aa (pv 0) (aa (ar aB (ar aB (pv 1) af) (bm (aR K) J bG (aa (pv 4) ae))) (aa (pv 2) ae))) (hle:=by lia)))
   (ah (aw 6 FI.nd (ar aB (ar aB (ar aB (pv 1) af) (bm (aR K) J bG (aa (pv 4) ae))) (bm (aR K) J bG (aa (pv 5) ae))))
   (aj (aA (ar aB (ar aB (aJ (aa (aQ (aa ax (aa (ak (av K) (bJ Y (pv 0)) af) (aa (ak (av K) (bJ Z (pv 0)) af) (aa (pv 6) ae))))) ae)) (pv 4)) (pv 5)))))))),?_⟩
 walk_at "r"
 cases t with
 | false=>
  refine bx (λ_=>?_) (λc=>absurd rfl c)
  exact⟨x,sp,a,l,n,b,kv,S,rfl,hN,ok,ac,hk,hc,hd,λq' H' s' a9 L'=>q q' H' s' a9 (by unfold du;rw[Kt (by decide)];exact L')⟩
 | true=>
  refine bx (λc=>absurd c (by decide)) (λ_=>?_)
  walk_at "n";refine⟨dx,_,_,g1,gR _ _ _ _,?_⟩
  walk_at "r";refine⟨_,_,.inl (su.of g6),ap (j:=0) (v:=V.ref q0) rfl,?_⟩
  refine⟨q0,sp,a+1,l+1,true,b,kv,S,by simp,hb,ok,ac,hk,hc,hd,λwq H1 s1 bt hW=>?_⟩
  have be:=dY (kv:=kv) (a:=a+1) (l:=l+1) (t:=true) hc hd;generalize hWW:aE kv d true (a+1) (l+1) b=W at hW be;obtain⟨b0,w1,w2⟩:=id hW
  have wl:=aI w2;walk_at "n";refine⟨_,.inl (su.of w1),?_⟩
  rw[zj,wl];walk_at "r";refine⟨x,sp,a+1+W.length,l,n,b,kv,S,by simp,hN.mono s1,ok,s1 _ _ ac,hk,hc,hd,λlq H2 s2 bg ad=>?_⟩
  have bc:(dJ (aE kv d) (ao d) (a+1+W.length) l n b).length<=30002:=by
   rw[js];have:=dY (kv:=kv) (a:=a+1+W.length+1) (l:=l+1) (t:=false) hc hd
   lia
  generalize hLL:dJ (aE kv d) (ao d) (a+1+W.length) l n b=LP at ad bc;obtain⟨cb,l1,l2⟩:=id ad
  have ll:=aI l2;have ab:=s1.trans s2;walk_at "n";refine⟨_,.inl (su.of (s2 _ _ w1)),?_⟩
  rw[zj,wl];walk_at "r";refine⟨_,.inl (su.of l1),?_⟩
  rw[zj,ll];walk_at "n";refine⟨dx,_,_,ab _ _ g1,dZ _ _ _ _,?_⟩
  walk_at "r";refine⟨_,_,.inl (su.of (ab _ _ g4)),eW (i:=0) (n:=l) rfl,?_⟩
  refine⟨dx,_,_,ab _ _ g1,e_ _ _ _ _,?_⟩
  walk_at "r";refine⟨_,_,.inr (g2.same ab),ap (j:=0) (v:=V.int n) rfl,by decide,λt1 ca=>?_⟩
  walk_at "g"
  rename_i H3 s3 hH3
  have a8:b6 H3 t1 [.str "test",iN l,.int n,iN (a+1+W.length+LP.length)]:=by
   show H3 t1=_
   rw[hH3];simp[iN]
  refine⟨by decide,λm1 a4=>?_⟩
  have s4:=am a4 (.lst [.ref t1]);have L1:=ig a8 a4;generalize upd H3 m1 (.lst [.ref t1])=H4 at s4 L1 |-;obtain⟨a7,a1,a2⟩:=L1
  obtain⟨a6,b1,b2⟩:=hW.mono ((s2.trans s3).trans s4)
  refine⟨_,_,a1,b1,dw a2 b2 (by simp only[qY,yi];lia),λm2 as=>?_⟩
  have s5:=am as (.lst (a7.map V.ref++a6.map V.ref));have L2:=eC a2 b2 as;generalize upd H4 m2 (.lst (a7.map V.ref++a6.map V.ref))=H5 at s5 L2 |-;obtain⟨al,c1,c2⟩:=L2
  obtain⟨a5,d1,d2⟩:=ad.mono ((s3.trans s4).trans s5)
  refine⟨_,_,c1,d1,dw c2 d2 (by simp only[qL,qY,yi];lia),λm3 ag=>?_⟩
  have s6:=am ag (.lst (al.map V.ref++a5.map V.ref));have L4:=eC c2 d2 ag;generalize upd H5 m3 (.lst (al.map V.ref++a5.map V.ref))=H6 at s6 L4 |-;have a3:=((ab.trans s3).trans s4).trans s5;refine q m3 H6 (a3.trans s6) (a3.free ag) ?_
  unfold du;rw[Kx rfl,hWW,hLL];exact L4
def Je(K:W.Frag)(C:Addr)(d:Nat):Sp:=λvs H Q _=>∃(x sp:Addr) (a l:Nat) (t:Bool) (n:Int) (b c:List ud) (kv:List (aL×V)) (S:Addr->Prop),vs=[.ref x,.int (a:Int),.ref sp,.bl t]/\B1 K C (ao d) S (Be K C S d H) H x l (.ite n b c)/\dR d b/\dR d c/\H sp=some (.dK kv)/\fh kv d (l+1) b/\fh kv d (l+1+ao d b+1) c/\ao d b<=200/\ao d c<=200/\d<=20/\
 ∀(q:Addr) (H':Hp),sj H H'->H q=none->BM H' q (gX (aE kv d) (ao d) t a l n b c)->Q (.ref q) H'
theorem Jm(D:xn K mg "if_rows" bM) (Z:wAK mg) (Y:Fl K CN "parts") (O:Fl K CN "lines") (J:Fl K CN "blocks") {d:Nat} (F:aF P w K mg base (3*d+2) "rows_of" qAL (h_ K CN d)):aF P w K mg base (3*d+3) "if_rows" qAP (Je K CN d):=by
 refine D.cal (k:=3*d+2) FG (λf cc A outer s H vs Q E hr h=>?_)
 obtain⟨x,sp,a,l,t,n,b,c,kv,S,rfl,hN,ok,bg,a6,hk,b3,hc,ad,hd,q⟩:=h
 obtain⟨dx,pp,lp,bp,bs,g1,g2,g3,g4,g5,g6,g7⟩:=id hN
 obtain⟨q0,q1,rfl⟩ : ∃q0 q1,bs=[q0,q1]:=by
  cases g7 with
  | cons _ t=>cases t with
   | cons _ t=>cases t;exact⟨_,_,rfl⟩
 have hb:Be K CN S d H q0 (l+1) b/\Be K CN S d H q1 (l+1+ao d b+1) c:=by
  cases g7 with
  | cons h t=>cases t with
   | cons h' _=>exact⟨h,h'⟩
 refine⟨_,(ah (aw 4 FG.nd (ay F hr (aa (ak (av K) (bJ J (pv 0)) af) (aa (ar aB (pv 1) af) (aa (pv 2) (aa (pv 3) ae)))) (hle:=by lia)))
   (ah (aw 5 FG.nd (ar aB (ar aB (pv 1) af) (bm (aR K) Z bG (aa (pv 4) ae))))
   (ah (aw 6 FG.nd (ay F hr (aa (ak (av K) (bJ J (pv 0)) af) (aa (ar aB (pv 5) af) (aa (pv 2) (aa (pv 3) ae)))) (hle:=by lia)))
   (ah (aw 7 FG.nd (ar aB (ar aB (pv 5) af) (bm (aR K) Z bG (aa (pv 6) ae))))
   (ah (aw 8 FG.nd (aQ (aa ax (aa (ak (av K) (bJ O (pv 0)) af) (aa (ak (av K) (bJ Y (pv 0)) af) (aa (ar aB (pv 5) af) ae))))))
   (aj (aA (ar aB (ar aB (ar aB (aJ (aa (pv 8) ae)) (pv 4)) (aJ (aa (aQ (aa ax (aa (ak (av K) (bJ O (pv 0)) af) (aa (pv 7) ae)))) ae))) (pv 6))))))))),?_⟩
 walk_at "r";refine⟨dx,_,_,g1,gR _ _ _ _,?_⟩
 walk_at "r";refine⟨_,_,.inl (su.of g6),ap (j:=0) (v:=V.ref q0) rfl,?_⟩
 refine⟨q0,sp,a+1,l+1,t,b,kv,S,by simp,hb.1,ok,a6,hk,hc,hd,λwq H1 s1 cv hW=>?_⟩
 have ca:=dY (kv:=kv) (a:=a+1) (l:=l+1) (t:=t) hc hd;generalize hWW:aE kv d t (a+1) (l+1) b=W at hW ca;obtain⟨c3,w1,w2⟩:=id hW
 have wl:=aI w2;walk_at "n";refine⟨_,.inl (su.of w1),?_⟩
 rw[zj,wl];walk_at "n";refine⟨dx,_,_,s1 _ _ g1,gR _ _ _ _,?_⟩
 walk_at "r";refine⟨_,_,.inl (su.of (s1 _ _ g6)),ap (j:=1) (v:=V.ref q1) rfl,?_⟩
 refine⟨q1,sp,a+1+W.length+1,l+1+ao d b+1,t,c,kv,S,by simp,hb.2.mono s1,bg,s1 _ _ a6,b3,ad,hd,λrq H2 s2 c4 hR=>?_⟩
 have b0:=dY (kv:=kv) (a:=a+1+W.length+1) (l:=l+1+ao d b+1) (t:=t) ad hd;generalize hRR:aE kv d t (a+1+W.length+1) (l+1+ao d b+1) c=R at hR b0;obtain⟨cu,r1,r2⟩:=id hR
 have rl:=aI r2;have U:=s1.trans s2;walk_at "n";refine⟨_,.inl (su.of r1),?_⟩
 rw[zj,rl];walk_at "n";refine⟨dx,_,_,U _ _ g1,dZ _ _ _ _,?_⟩
 walk_at "r";refine⟨_,_,.inl (su.of (U _ _ g4)),eW (i:=0) (n:=l) rfl,?_⟩
 refine⟨dx,_,_,U _ _ g1,e_ _ _ _ _,?_⟩
 walk_at "r";refine⟨_,_,.inr (g2.same U),ap (j:=0) (v:=V.int n) rfl,by decide,λt1 cd=>?_⟩
 walk_at "g"
 rename_i H3 s3 hH3
 have bt:b6 H3 t1 [.str "test",iN l,.int n,iN (a+1+W.length+1)]:=by
  show H3 t1=_
  rw[hH3];simp[iN]
 walk_at "n";refine⟨by decide,λm1 be=>?_⟩
 have s4:=am be (.lst [.ref t1]);have L1:=ig bt be;generalize upd H3 m1 (.lst [.ref t1])=H4 at s4 L1 |-;obtain⟨a4,a1,a2⟩:=L1
 obtain⟨as,b1,b2⟩:=hW.mono ((s2.trans s3).trans s4)
 refine⟨_,_,a1,b1,dw a2 b2 (by simp only[qY,yi];lia),λm2 ag=>?_⟩
 have s5:=am ag (.lst (a4.map V.ref++as.map V.ref));have L2:=eC a2 b2 ag;generalize upd H4 m2 (.lst (a4.map V.ref++as.map V.ref))=H5 at s5 L2 |-;have ab:=((U.trans s3).trans s4).trans s5;refine⟨dx,_,_,ab _ _ g1,dZ _ _ _ _,?_⟩
 walk_at "r";refine⟨_,_,.inl (su.of (ab _ _ g4)),eW (i:=1) (n:=l+1+ao d b) rfl,by decide,λt2 cq=>?_⟩
 walk_at "g"
 rename_i H6 s6 hH6
 have cb:b6 H6 t2 [.str "jump",iN (l+1+ao d b),iN (a+1+W.length+1+R.length)]:=by
  show H6 t2=_
  rw[hH6];simp[iN]
 refine⟨by decide,λm3 al=>?_⟩
 have s7:=am al (.lst [.ref t2]);have L3:=ig cb al;generalize upd H6 m3 (.lst [.ref t2])=H7 at s7 L3 |-;obtain⟨bc,c1,c2⟩:=L2.mono (s6.trans s7)
 obtain⟨a8,d1,d2⟩:=L3
 refine⟨_,_,c1,d1,dw c2 d2 (by simp only[qL,qY,yi];lia),λm4 a5=>?_⟩
 have s8:=am a5 (.lst (bc.map V.ref++a8.map V.ref));have L4:=eC c2 d2 a5;generalize upd H7 m4 (.lst (bc.map V.ref++a8.map V.ref))=H8 at s8 L4 |-;obtain⟨a7,e1,e2⟩:=L4
 obtain⟨a3,f1,f2⟩:=hR.mono (((((s3.trans s4).trans s5).trans s6).trans s7).trans s8)
 refine⟨_,_,e1,f1,dw e2 f2 (by simp only[qL,qY,yi];lia),λm5 ac=>?_⟩
 have s9:=am ac (.lst (a7.map V.ref++a3.map V.ref));have L5:=eC e2 f2 ac;generalize upd H8 m5 (.lst (a7.map V.ref++a3.map V.ref))=H9 at s9 L5 |-;have a9:=((ab.trans s6).trans s7).trans s8;refine q m5 H9 (a9.trans s9) (a9.free ac) ?_
 unfold gX;rw[hWW,hRR];exact L5
end
section
variable{CN:Addr}
def E6(K:W.Frag)(C:Addr)(d:Nat):Sp:=λvs H Q _=>∃(z sp:Addr) (a l:Nat) (t:Bool) (x y:Str) (b:List ud) (kv:List (aL×V)) (S:Addr->Prop),vs=[.ref z,.int (a:Int),.ref sp,.bl t]/\B1 K C (ao d) S (Be K C S d H) H z l (.lend x y b)/\dR d b/\H sp=some (.dK kv)/\iH kv (.inr x)/\iH kv (.inr y)/\iH kv (.inl (l:Int))/\fh kv d (l+1) b/\ao d b<=200/\d<=20/\
 ∀(q:Addr) (H':Hp),sj H H'->H q=none->BM H' q (dI kv (aE kv d) (ao d) t a l x y b)->Q (.ref q) H'
theorem mO{F J x:Addr}{U W Y:aD}(h1:b6 H F U)(h2:b6 H J W)(Z:b6 H O Y)(hx:H x=none):BM (upd H x (.lst [.ref F,.ref J,.ref O])) x [U,W,Y]:=⟨[F,J,O],ai,.cons (am hx _ _ _ h1) (.cons (am hx _ _ _ h2) (.cons (am hx _ _ _ Z) .nil))⟩
theorem E7(D:xn K mg "lend_rows" bi) (ag:wAK mg) (J:Fl K CN "parts") (F:Fl K CN "lines") (U:Fl K CN "blocks") {d:Nat} (O:aF P w K mg base (3*d+2) "rows_of" qAL (h_ K CN d)):aF P w K mg base (3*d+3) "lend_rows" qAP (E6 K CN d):=by
 refine D.cal (k:=3*d+2) BX (λf cq A outer s H vs Q E hr h=>?_)
 obtain⟨z,sp,a,l,t,x,y,b,kv,S,rfl,hN,ok,Z,kx,ky,kl,hk,hc,hd,q⟩:=h
 obtain⟨dx,pp,lp,bp,bs,g1,g2,g3,g4,g5,g6,g7⟩:=id hN
 obtain⟨q0,rfl⟩ : ∃q0,bs=[q0]:=by
  cases g7 with
  | cons _ t=>cases t;exact⟨_,rfl⟩
 have hb:Be K CN S d H q0 (l+1) b:=by
  cases g7 with
  | cons h _=>exact h
 refine⟨_,(ah (aw 4 BX.nd (ak (av K) (bJ F (pv 0)) af))
   (ah (aw 5 BX.nd (ak (av K) (bJ F (pv 0)) af))
   (ah (aw 6 BX.nd (ak (tX K) (pv 2) (ak (av K) (bJ J (pv 0)) af)))
   (ah (aw 7 BX.nd (ak (tX K) (pv 2) (ak (av K) (bJ J (pv 0)) af)))
   (ah (aw 8 BX.nd (ak (tX K) (pv 2) (pv 4)))
   (ah (aw 9 BX.nd (aJ (aa (aQ (aa ax (aa (pv 4) (aa (pv 8) (aa (pv 6) ae))))) (aa (aQ (aa ax (aa (pv 4) (aa (pv 8) (aa ax ae))))) (aa (aQ (aa ax (aa (pv 4) (aa (pv 7) (aa (pv 8) ae))))) ae)))))
   (ah (aw 10 BX.nd (ay O hr (aa (ak (av K) (bJ U (pv 0)) af) (aa (ar aB (pv 1) (bm (aR K) ag bG (aa (pv 9) ae))) (aa (pv 2) (aa (pv 3) ae)))) (hle:=by lia)))
   (aj (aA (ar aB (ar aB (pv 9) (pv 10)) (aJ (aa (aQ (aa ax (aa (pv 5) (aa (pv 8) (aa ax ae))))) (aa (aQ (aa ax (aa (pv 5) (aa (pv 7) ae)))) (aa (aQ (aa ax (aa (pv 5) (aa (pv 8) ae)))) ae)))))))))))))),?_⟩
 walk_at "r";refine⟨dx,_,_,g1,dZ _ _ _ _,?_⟩
 walk_at "r";refine⟨_,_,.inl (su.of g4),eW (i:=0) (n:=l) rfl,?_⟩
 walk_at "n";refine⟨dx,_,_,g1,dZ _ _ _ _,?_⟩
 walk_at "r";refine⟨_,_,.inl (su.of g4),eW (i:=1) (n:=l+1+ao d b) rfl,?_⟩
 walk_at "n";refine⟨dx,_,_,g1,e_ _ _ _ _,?_⟩
 walk_at "r";refine⟨_,_,.inr g2,ap (j:=0) (v:=V.str x) rfl,.inr ⟨sp,kv,.inr x,_,rfl,rfl,Z,kx,?_⟩⟩
 walk_at "n";refine⟨dx,_,_,g1,e_ _ _ _ _,?_⟩
 walk_at "r";refine⟨_,_,.inr g2,ap (j:=1) (v:=V.str y) rfl,.inr ⟨sp,kv,.inr y,_,rfl,rfl,Z,ky,?_⟩⟩
 walk_at "n";refine .inr ⟨sp,kv,.inl (l:Int),_,rfl,rfl,Z,kl,?_⟩
 generalize hgx:cn kv (.inr x)=gx
 generalize hgy:cn kv (.inr y)=gy
 generalize hgl:cn kv (.inl (l:Int))=gl
 walk_at "n";refine⟨by decide,λt1 cb=>?_⟩
 generalize hH1:upd H t1 _=H1
 have s1:sj H H1:=by rw[<-hH1];exact am cb _
 have r1:b6 H1 t1 [.str "copy",iN l,gl,gx]:=by show H1 t1=_;rw[<-hH1];exact ai
 refine⟨by decide,λt2 cc=>?_⟩
 generalize hH2:upd H1 t2 _=H2
 have s2:sj H1 H2:=by rw[<-hH2];exact am cc _
 have r2:b6 H2 t2 [.str "do",iN l,gl,.str "lend"]:=by show H2 t2=_;rw[<-hH2];exact ai
 refine⟨by decide,λt3 ca=>?_⟩
 generalize hH3:upd H2 t3 _=H3
 have s3:sj H2 H3:=by rw[<-hH3];exact am ca _
 have r3:b6 H3 t3 [.str "copy",iN l,gy,gl]:=by show H3 t3=_;rw[<-hH3];exact ai
 refine⟨by decide,λm1 a9=>?_⟩
 have s4:=am a9 (.lst [.ref t1,.ref t2,.ref t3]);have L1:=mO (s3 _ _ (s2 _ _ r1)) (s3 _ _ r2) r3 a9;have a6:upd H3 m1 (.lst [.ref t1,.ref t2,.ref t3]) m1=some (.lst [.ref t1,.ref t2,.ref t3]):=ai
 generalize upd H3 m1 (.lst [.ref t1,.ref t2,.ref t3])=H4 at s4 L1 a6 |-;have Y:=((s1.trans s2).trans s3).trans s4;walk_at "n";refine⟨dx,_,_,Y _ _ g1,gR _ _ _ _,?_⟩
 walk_at "r";refine⟨_,_,.inl (su.of (Y _ _ g6)),ap (j:=0) (v:=V.ref q0) rfl,?_⟩
 walk_at "r";refine⟨_,.inl (su.of a6),?_⟩
 refine⟨q0,sp,a+3,l+1,t,b,kv,S,by simp,hb.mono Y,ok,Y _ _ Z,hk,hc,hd,λwq H5 s5 cu hW=>?_⟩
 have cd:=dY (kv:=kv) (a:=a+3) (l:=l+1) (t:=t) hc hd;generalize hWW:aE kv d t (a+3) (l+1) b=W at hW cd;have bt:=Y.trans s5;walk_at "n";obtain⟨a4,a1,a2⟩:=L1.mono s5
 obtain⟨a3,b1,b2⟩:=id hW
 refine⟨_,_,a1,b1,dw a2 b2 (by simp only[qY,yi];lia),λm2 al=>?_⟩
 have s6:=am al (.lst (a4.map V.ref++a3.map V.ref));have L2:=eC a2 b2 al;generalize upd H5 m2 (.lst (a4.map V.ref++a3.map V.ref))=H6 at s6 L2 |-;refine⟨by decide,λt4 bc=>?_⟩
 generalize hH7:upd H6 t4 _=H7
 have s7:sj H6 H7:=by rw[<-hH7];exact am bc _
 have r4:b6 H7 t4 [.str "do",iN (l+1+ao d b),gl,.str "back"]:=by show H7 t4=_;rw[<-hH7];exact ai
 refine⟨by decide,λt5 be=>?_⟩
 generalize hH8:upd H7 t5 _=H8
 have s8:sj H7 H8:=by rw[<-hH8];exact am be _
 have r5:b6 H8 t5 [.str "drop",iN (l+1+ao d b),gy]:=by show H8 t5=_;rw[<-hH8];exact ai
 refine⟨by decide,λt6 b0=>?_⟩
 generalize hH9:upd H8 t6 _=H9
 have s9:sj H8 H9:=by rw[<-hH9];exact am b0 _
 have r6:b6 H9 t6 [.str "drop",iN (l+1+ao d b),gl]:=by show H9 t6=_;rw[<-hH9];exact ai
 refine⟨by decide,λm3 as=>?_⟩
 have ad:=am as (.lst [.ref t4,.ref t5,.ref t6]);have L3:=mO (s9 _ _ (s8 _ _ r4)) (s9 _ _ r5) r6 as;generalize upd H9 m3 (.lst [.ref t4,.ref t5,.ref t6])=bg at ad L3 |-;obtain⟨a8,c1,c2⟩:=L2.mono (((s7.trans s8).trans s9).trans ad)
 obtain⟨a7,d1,d2⟩:=L3
 refine⟨_,_,c1,d1,dw c2 d2 (by simp only[qL,qY,yi];lia),λm4 ac=>?_⟩
 have a5:=am ac (.lst (a8.map V.ref++a7.map V.ref));have L4:=eC c2 d2 ac;generalize upd bg m4 (.lst (a8.map V.ref++a7.map V.ref))=b3 at a5 L4 |-;have ab:=((((bt.trans s6).trans s7).trans s8).trans s9).trans ad;refine q m4 b3 (ab.trans a5) (ab.free ac) ?_
 unfold dI;rw[hWW,hgx,hgy,hgl];exact L4
theorem u5(D:xn K mg "rows_of" bW) (DL:xn K mg "lend_rows" bi) (DI:xn K mg "if_rows" bM) (DO:xn K mg "loop_rows" cf) (DW:xn K mg "while_rows" bD) (DS:xn K mg "simple_row" bR) (W:wAK mg) (ad:mg "tuple" = none) (U:Fl K CN "kind") (J:Fl K CN "parts") (F:Fl K CN "lines") (O:Fl K CN "blocks"):∀d:Nat,aF P w K mg base (3*d+2) "rows_of" qAL (h_ K CN d)
 | 0=>D.cal (k:=1) FT (λf cd A outer s H vs Q E hr h=>by obtain⟨_,_,_,_,_,_,_,_,rfl,z,_⟩:=h;exact z.elim)
 | d+1=>by
  have ih:=u5 D DL DI DO DW DS W ad U J F O d;have ac:=E7 DL W J F O ih;have ag:=Jm DI W J F O ih;have Y:=CQ DW W J F O ih (Er DO W J F O ih);have Z:=zY (P:=P) (w:=w) (base:=base) DS ad U J F;refine D.cal (k:=3*d+4) FT (λf cd A outer s H vs Q E hr h=>?_)
  obtain⟨p,sp,a,l,t,T,kv,S,rfl,⟨h0,as,h1,h2⟩,ok,a7,hk,hc,hd,q⟩:=h
  have a9:=aI h2;rw[gG]at a9
  refine⟨_,(ah (aw 4 FT.nd (aJ ae))
   (ah (b4 xH rfl (bL K (pv 0)) (aM 5 FT.nd) (ah (aw 6 FT.nd (ar aB (pv 1) (bm (aR K) W bG (aa (pv 4) ae))))
   (aj (bf (az bn (bJ U (pv 5)) ax (aG _)) (aj (br (bH K xh Kf J7 dU (pv 4) (aa (ay ac hr (aa (pv 5) (aa (pv 6) (aa (pv 2) (aa (pv 3) ae)))) (hle:=by lia)) ae)))) (aj (bf (az bn (bJ U (pv 5)) ax (aG _)) (aj (br (bH K xh Kf J7 dU (pv 4) (aa (ay ag hr (aa (pv 5) (aa (pv 6) (aa (pv 2) (aa (pv 3) ae)))) (hle:=by lia)) ae)))) (aj (bf (az bn (bJ U (pv 5)) ax (aG _)) (aj (br (bH K xh Kf J7 dU (pv 4) (aa (ay Y hr (aa (pv 5) (aa (pv 6) (aa (pv 2) (aa (pv 3) ae)))) (hle:=by lia)) ae)))) (aj (br (bH K xh mY nu bA (pv 4) (aa (ay Z hr (aa (pv 5) (aa (pv 2) ae)) (hle:=by lia)) ae))))))))))))
   (aj (aA (pv 4))))),?_⟩
  walk_at "r";refine⟨by decide,λR hR=>?_⟩
  walk_at "g"
  rename_i H1 s1 bc
  have bc:H1 R=some (.lst (([]:LC).map V.ref)):=bc
  walk_at "n";refine⟨⟨_,su.of (s1 _ _ h1)⟩,?_⟩
  have b3:∀ {z:Addr} {o:HO},H z=some o->z≠R:=λe=>aP e hR
  refine cB (xs:=as.map V.ref) (λi σ H'=>∃(o5 o6:LK),σ=[some (.ref p),some (.int (a:Int)),some (.ref sp),some (.bl t),some (.ref R),o5,o6]/\sj H H'/\BM H' R (aE kv (d+1) t a l (T.take i)))
   ⟨_,_,rfl,s1,[],bc,.nil⟩ (λi σ H' _ hh=>by obtain⟨_,_,_,sm,_⟩:=hh;exact su.of (sm _ _ h1)) (λi v σ H2 hv hh=>?_) (λσ H2 hh=>?_)
  .obtain⟨o5,o6,rfl,sm,be,r1,r2⟩:=hh
   rw[wC]at hv
   cases hi:as[i]? with
   | none=>rw[hi]at hv;cases hv
   | some x=>
    rw[hi]at hv;cases hv
    have ca:i<T.length:=by have:=(Kq.mp hi).1;lia
    have hs:=qz ca;have hz:=vC (bw (ao d)) l T i _ hs;obtain⟨z,a8,bg⟩:=cg h2 hi
    rw[hz]at a8
    have a8:=Option.some.inj a8;subst a8;have al:=hk _ (kg hz);have a6:=nY ca;generalize T[i]=st at hs hz bg al a6;have a3:=ok st a6;have c4:=nn (d:=d) a6;generalize hl':l+((T.take i).map (bw (ao d))).sum=l' at hz bg al;have cq:T.take (i+1)=T.take i++[st]:=by rw[HX,hs];rfl
    have b2:aE kv (d+1) t a l (T.take (i+1))=aE kv (d+1) t a l (T.take i)++dE kv (aE kv d) (ao d) t (a+(aE kv (d+1) t a l (T.take i)).length) l' st:=by
     rw[cq];show cy _ _ a l (T.take i++[st])=_
     rw[lu,hl'];rfl
    have c1:=uk (d:=d) (i:=i) (T:=T);have cc:=dY (kv:=kv) (d:=d+1) (a:=a) (l:=l) (t:=t) (T:=T.take i) (by lia) hd
    rw[b2];generalize aE kv (d+1) t a l (T.take i)=pre at r2 cc;have rl:=aI r2;have hx2:=bg.mono sm;obtain⟨dx,pp,lp,bp,bs,g1,g2,g3,g4,g5,g6,g7⟩:=id hx2
    have put:∀ {b:Addr} {H3:Hp} {rows:List aD},sj H2 H3->BM H3 b rows->b≠R->rows.length<=100000->∃xs zs,H3 R=some (.lst xs)/\H3 b=some (.lst zs)/\xs.length+zs.length<=sizeLine/\(sj H (upd H3 R (.lst (xs++zs)))/\BM (upd H3 R (.lst (xs++zs))) R (pre++rows)):=λ{b H3 rows} s3 hL c2 c3=>by
     obtain⟨b1,e1,e2⟩:=hL
     have bl:=aI e2;have a5:=s3 _ _ r1
     have tp:∀ {c:Addr} {r:aD},b6 H3 c r->b6 (upd H3 R (.lst (be.map V.ref++b1.map V.ref))) c r:=λ{c r} z=>by
      show upd H3 R _ c=_
      rw[au (cT z a5 (λy=>nomatch y))];exact z
     refine⟨_,_,a5,e1,by rw[zj,zj,rl,bl];exact aU (by lia),λc o y=>?_,be++b1,by rw[ai,yd],eP (Paired.imp' (λ_ _ y=>tp (s3 _ _ y)) r2) (Paired.imp' (λ_ _ y=>tp y) e2)⟩
     rw[au (b3 y)];exact s3 _ _ (sm _ _ y)
    walk_at "r";refine⟨_,.inl (su.of r1),?_⟩
    rw[zj,rl];walk_at "n";refine⟨dx,_,_,g1,fY _ _ _ _,?_⟩
    walk_at "r";have ab:bw (ao d) st<=200:=by lia
    have bt:(dE kv (aE kv d) (ao d) t (a+pre.length) l' st).length<=30000:=by
     have:=dY (kv:=kv) (d:=d+1) (a:=a+pre.length) (l:=l') (t:=t) (T:=[st]) (by show bw (ao d) st+0<=200;lia) hd
     have e:aE kv (d+1) t (a+pre.length) l' [st]=dE kv (aE kv d) (ao d) t (a+pre.length) l' st++[]:=rfl
     rw[e,IJ]at this
     exact this
    cases st with
    | lend x0 y0 b0=>
     obtain⟨k1,k2,k3,k4⟩ : iH kv (.inr x0)/\iH kv (.inr y0)/\iH kv (.inl (l':Int))/\fh kv d (l'+1) b0:=al
     have cb:ao d b0+2<=200:=ab
     refine bx (λ_=>?_) (λc=>absurd rfl c)
     refine⟨⟨_,su.of r1⟩,x,sp,a+pre.length,l',t,x0,y0,b0,kv,S,by simp,hx2,a3.2.2,sm _ _ a7,k1,k2,k3,k4,by lia,by lia,λq' H3 s3 a4 L3=>?_⟩
     dsimp only
     rw[fZ];obtain⟨xs,zs,p1,p2,p3,p4,p5⟩:=put s3 L3 (aP r1 a4).symm (by have:(dI kv (aE kv d) (ao d) t (a+pre.length) l' x0 y0 b0).length<=30000:=bt;lia)
     exact⟨xs,zs,p1,p2,p3,_,_,rfl,p4,p5⟩
    | ite n0 b0 c0=>
     obtain⟨k1,k2⟩ : fh kv d (l'+1) b0/\fh kv d (l'+1+ao d b0+1) c0:=al
     have cb:ao d b0+ao d c0+3<=200:=ab
     refine bx (λc=>absurd c (by show ¬ (Str.ofString "if" = Str.ofString "lend");decide +kernel)) (λ_=>?_)
     refine⟨dx,_,_,g1,fY _ _ _ _,?_⟩
     walk_at "r";refine bx (λ_=>?_) (λc=>absurd rfl c)
     refine⟨⟨_,su.of r1⟩,x,sp,a+pre.length,l',t,n0,b0,c0,kv,S,by simp,hx2,a3.2.1,a3.2.2,sm _ _ a7,k1,k2,by lia,by lia,by lia,λq' H3 s3 a4 L3=>?_⟩
     dsimp only
     rw[fZ];obtain⟨xs,zs,p1,p2,p3,p4,p5⟩:=put s3 L3 (aP r1 a4).symm (by have:(gX (aE kv d) (ao d) t (a+pre.length) l' n0 b0 c0).length<=30000:=bt;lia)
     exact⟨xs,zs,p1,p2,p3,_,_,rfl,p4,p5⟩
    | whl n0 b0=>
     have k1:fh kv d (l'+1) b0:=al
     have cb:ao d b0+2<=200:=ab
     refine bx (λc=>absurd c (by show ¬ (Str.ofString "while" = Str.ofString "lend");decide +kernel)) (λ_=>?_)
     refine⟨dx,_,_,g1,fY _ _ _ _,?_⟩
     walk_at "r";refine bx (λc=>absurd c (by show ¬ (Str.ofString "while" = Str.ofString "if");decide +kernel)) (λ_=>?_)
     refine⟨dx,_,_,g1,fY _ _ _ _,?_⟩
     walk_at "r";refine bx (λ_=>?_) (λc=>absurd rfl c)
     refine⟨⟨_,su.of r1⟩,x,sp,a+pre.length,l',t,n0,b0,kv,S,by simp,hx2,a3.2,sm _ _ a7,k1,by lia,by lia,λq' H3 s3 a4 L3=>?_⟩
     dsimp only
     rw[fZ];obtain⟨xs,zs,p1,p2,p3,p4,p5⟩:=put s3 L3 (aP r1 a4).symm (by have:(du (aE kv d) (ao d) t (a+pre.length) l' n0 b0).length<=30000:=bt;lia)
     exact⟨xs,zs,p1,p2,p3,_,_,rfl,p4,p5⟩
    | plain ws=>
     have cv:ws.headD "" ∈ df:=a3.kind
     have nk:∀ {u:Str},u∉df->¬ kindOf (.plain ws)=u:=λhu c=>hu (by have c':ws.headD "" = _:=c;rw[<-c'];exact cv)
     refine bx (λc=>absurd c (nk (by decide +kernel))) (λ_=>?_)
     refine⟨dx,_,_,g1,fY _ _ _ _,?_⟩
     walk_at "r";refine bx (λc=>absurd c (nk (by decide +kernel))) (λ_=>?_)
     refine⟨dx,_,_,g1,fY _ _ _ _,?_⟩
     walk_at "r";refine bx (λc=>absurd c (nk (by decide +kernel))) (λ_=>?_)
     refine⟨⟨_,su.of r1⟩,x,sp,l',ws,kv,S,_,ao d,fh kv d,rfl,hx2,a3,sm _ _ a7,al,λc H3 s3 cu=>?_⟩
     have a5:=s3 _ _ r1
     have tp:∀ {c:Addr} {r:aD},b6 H3 c r->∀zs,b6 (upd H3 R (.lst zs)) c r:=λ{c r} z zs=>by
      show upd H3 R _ c=_
      rw[au (cT z a5 (λy=>nomatch y))];exact z
     walk_at "r";refine⟨_,a5,cJ (by rw[zj];lia),_,_,rfl,λc' o y=>?_,be++[c],by rw[ai,yd];rfl,eP (Paired.imp' (λ_ _ y=>tp (s3 _ _ y) _) r2) (.cons (tp cu _) .nil)⟩
     rw[au (b3 y)];exact s3 _ _ (sm _ _ y)
  .obtain⟨o5,o6,rfl,sm,hL⟩:=hh
   rw[zj,a9,Iq]at hL
   walk_at "n";exact q R H2 sm hR hL
end
noncomputable def gL(s:Str):Bool:=decide (0+("lend " : Str).length<=s.length)&&Builtin.Str.subAt s "lend " 0
noncomputable def f_(L:KZ):LN:=(List.range L.length).filter λi=>gL (L.getD i "")
def ly(d:Nat):Sp:=λvs H Q _=>∃(p:Addr) (L:KZ),vs=[.ref p]/\Fu d H p L/\L.length<=1000/\∀(q:Addr) (H':Hp),sj H H'->H q=none->H' q=some (.lst ((f_ L).map iN))->Q (.ref q) H'
theorem lB(f:Nat->Bool)(i:Nat):(List.range (i+1)).filter f=(List.range i).filter f++(if f i=true then [i] else []):=by
 rw[List.range_succ,List.filter_append]
 congr 1
 rw[List.filter_cons];split<;>rfl
theorem qJ(D:xn K mg "lend_lines" b5) (J:mg "enumerate" = none) {k:Nat} (O:aF P w K mg base k "lines_of" ["program"] (we d)):aF P w K mg base (k+1) "lend_lines" ["program"] (ly d):=by
 refine D.cal (k:=k) p6 (λf ad A outer s H vs Q E hr h=>?_)
 obtain⟨p,L,rfl,hL,hl,q⟩:=h
 refine⟨_,(aj (aA (dz (Cq.to (fsc:=(sg b5)) (N:=["program"]) (N0:=["program"]) (T:=["at","line"])) rfl (qH K Ku J (aa (ay O hr (aa (pv 0) ae) (hle:=by lia)) ae)) (λ_ _ _ _=>(jf K (n:=2) (cG (aM 1 (show (["program","at","line"]:KZ).Nodup from by decide +kernel)) (cG (aM 2 (show (["program","at","line"]:KZ).Nodup from by decide +kernel)) ie)))) (E1 (pH (ci (show (["program"]:KZ).length<=1 from by decide)) nv (pH (ci (show (["program"]:KZ).length<=2 from by decide)) nv Bv v7) (C4 nv v7))) (λ_ _ _ _=>(iC (dF (bH K zby F.slot_str_startswith F.type_str_startswith pS (pv 2) (aa ax ae))))) (λ_ _ _ _=>(pv 1))))),?_⟩
 walk_at "r";refine⟨p,L,rfl,hL,by lia,λlq H1 s1 ag e1=>?_⟩
 refine⟨lq,rfl,⟨_,e1⟩,λR Z=>?_⟩
 refine wJ (xs:=L.map V.str) (λi ys H'=>∃ns:LN,sj H1 H'/\H' R=some (.lst ys)/\ys=ns.map iN/\ns.length<=i/\ns=(List.range i).filter λj=>gL (L.getD j "")) ⟨[],am Z _,ai,rfl,qt _,rfl⟩ (λi ys H' _ hh=>by obtain⟨_,sm,_⟩:=hh;exact su.of (sm _ _ e1)) ?_ ?_
 .rintro i ys H' v t hv hi ⟨ns,sm,ac,rfl,ab,U⟩ ht
  rw[zj]at hi
  rw[wC,qz hi]at hv
  cases hv;walk_at "g"
  rename_i H2 s2 et
  have Y:=sm.trans s2;have W:=s2 _ _ ac
  have hg:gL (L.getD i "")=(decide (0+("lend " : Str).length<=L[i].length)&&Builtin.Str.subAt L[i] "lend " 0):=by
   unfold gL;rw[xf,qz hi];rfl
  walk_at "r";refine⟨t,_,rfl,vr.of et,rfl,?_⟩
  walk_at "r";rw[<-hg];refine bx (λc=>?_) (λc=>?_)
  .refine zg (by rw[zj];exact hi) (by rw[zj];exact ab) (by rw[zj];exact aU (by lia)) W ⟨ns++[i],Y.upd Z _,ai,rf _ _,by simp;lia,?_⟩
   rw[lB,Kx c,<-U]
  .refine xy (by rw[zj];exact hi) ⟨ns,Y,W,rfl,by lia,?_⟩
   rw[lB,Kt c,<-U,IJ]
 .rintro ys H2 ⟨ns,s2,e2,rfl,_,U⟩
  rw[zj]at U
  refine q R H2 (s1.trans s2) (s1.free Z) ?_
  rw[U]at e2
  exact e2
noncomputable def eV(ks:List aL):List (aL×V):=(List.range ks.length).foldl (λacc i=>cX acc (ks.getD i (.inl 0)) (iN i)) []
noncomputable def ij(ks:List aL)(i:Nat):List (aL×V):=(List.range i).foldl (λacc i=>cX acc (ks.getD i (.inl 0)) (iN i)) []
theorem iL(ks:List aL)(i:Nat):ij ks (i+1)=cX (ij ks i) (ks.getD i (.inl 0)) (iN i):=by
 unfold ij;rw[List.range_succ,zbo];rfl
theorem tW(ks:List aL):∀i,(ij ks i).length<=i
 | 0=>qt _
 | i+1=>by
  have:=tW ks i
  rw[iL];unfold cX;split
  .rw[zj];lia
  .rw[qL];simp;lia
theorem tM(ks:List aL):∀(i j:Nat) k,j<i->ks[j]?=some k->(bT (ij ks i) k).isSome=true
 | 0,j,_,h,_=>absurd h (za5 _)
 | i+1,j,k,h,hk=>by
  rw[iL,jp];split
  .rfl
  .rename_i c
   rcases iz j i with z | z
   .exact tM ks i j k z hk
   .have:j=i:=by lia
    subst this;exact absurd (by rw[xf,hk];rfl) c
theorem kI{ks:List aL}{k:aL}(h:k∈ks):iH (eV ks) k:=by
 obtain⟨j,F⟩:=List.mem_iff_getElem?.mp h
 have:=tM ks ks.length j k (Kq.mp F).1 F
 show bT (ij ks ks.length) k=some (cn (ij ks ks.length) k)
 unfold cn
 cases e:bT (ij ks ks.length) k with
 | none=>rw[e]at this;cases this
 | some v=>rfl
section
variable{NO:Hp->Addr->KZ->Prop}
def F6(NO:Hp->Addr->KZ->Prop):Sp:=λvs H Q _=>∃(p:Addr) (NM:KZ),vs=[.ref p]/\NO H p NM/\∀(q:Addr) (H':Hp),sj H H'->H q=none->H' q=some (.lst (NM.map V.str))->Q (.ref q) H'
noncomputable def bN(NM:KZ)(L:KZ):List aL:=NM.map Sum.inr++(f_ L).map λ(n:Nat)=>Sum.inl (n:Int)
def wc(NO:Hp->Addr->KZ->Prop)(d:Nat):Sp:=λvs H Q _=>∃(p:Addr) (NM L:KZ),vs=[.ref p]/\NO H p NM/\Fu d H p L/\L.length<=1000/\NM.length<=1000/\∀(q:Addr) (H':Hp),sj H H'->H q=none->H' q=some (.dK (eV (bN NM L)))->Q (.ref q) H'
theorem BW(ag:∀ {H H':Hp} {p:Addr} {NM:KZ},NO H p NM->sj H H'->NO H' p NM)(D:xn K mg "slots_of" cm) (J:mg "enumerate" = none) {d k:Nat} (O:aF P w K mg base k "names_of" ["program"] (F6 NO)) (F:aF P w K mg base k "lend_lines" ["program"] (ly d)):aF P w K mg base (k+1) "slots_of" ["program"] (wc NO d):=by
 refine D.cal (k:=k) F0 (λf a8 A outer s H vs Q E hr h=>?_)
 obtain⟨p,NM,L,rfl,hN,hL,hl,a6,q⟩:=h
 refine⟨_,(ah (aw 1 F0.nd qT)
   (ah (b4 xH rfl (qH K N3 J (aa (ar aB (ay O hr (aa (pv 0) ae) (hle:=by lia)) (ay F hr (aa (pv 0) ae) (hle:=by lia))) ae)) (jf K (n:=2) (cG (aM 2 F0.nd) (cG (aM 3 F0.nd) ie))) (aj (eY (pv 2) (fG (pv 1) (pv 3) (D3 hr)))))
   (aj (aA (pv 1))))),?_⟩
 walk_at "r";intro Y ac
 walk_at "g"
 rename_i H1 s1 U
 have U:H1 Y=some (.dK (ij (bN NM L) 0)):=U
 walk_at "n";refine⟨p,NM,rfl,ag hN s1,λnq H2 s2 a7 e2=>?_⟩
 have ab:=s1.trans s2;refine⟨p,L,rfl,hL.mono _ ab,hl,λlq H3 s3 a4 e3=>?_⟩
 have a3:(f_ L).length<=1000:=by
  unfold f_;refine xB (List.length_filter_le _ _) ?_
  rw[zbn];exact hl
 dsimp only
 rw[j4];refine⟨_,_,s3 _ _ e2,e3,by rw[zj,zj];exact aU (by lia),λcq bc=>?_⟩
 have Z:NM.map V.str++(f_ L).map iN=(bN NM L).map kV:=by
  unfold bN;rw[yd,He,He];rfl
 rw[Z];have al:(bN NM L).length<=2000:=by unfold bN;rw[qL,zj,zj];lia
 generalize hks:bN NM L=ks at U al q |-;walk_at "g"
 rename_i H4 s4 ecq
 have as:=(s2.trans s3).trans s4;have W:=as _ _ U;have ad:cq≠Y:=cT ecq W (λz=>nomatch z)
 walk_at "r";refine⟨⟨_,ecq⟩,?_⟩
 refine yU (xs:=ks.map kV) (λi σ H'=>∃(o2 o3:LK),σ=[some (.ref p),some (.ref Y),o2,o3]/\(∀b o,b≠Y->H4 b=some o->H' b=some o)/\H' Y=some (.dK (ij ks i)))
  ⟨_,_,rfl,λ_ _ _ z=>z,W⟩ (λi σ H' _ hh=>by obtain⟨_,_,_,sb,_⟩:=hh;exact su.of (sb _ _ ad ecq)) (λi v t σ H5 hv hh ht=>?_) (λσ H5 hh=>?_)
 .obtain⟨o2,o3,rfl,sb,e5⟩:=hh
  rw[wC]at hv
  cases hi:ks[i]? with
  | none=>rw[hi]at hv;cases hv
  | some k0=>
   rw[hi]at hv;cases hv
   have a5:=(Kq.mp hi).1;walk_at "g"
   rename_i H6 s6 et
   have a9:=tW ks i;walk_at "r";refine⟨t,_,rfl,vr.of et,rfl,?_⟩
   walk_at "r";refine⟨Y,_,k0,rfl,rfl,s6 _ _ e5,cJ (by lia),_,_,rfl,λb o hb z=>by rw[au hb];exact s6 _ _ (sb b o hb z),?_⟩
   rw[ai,iL,xf,hi];rfl
 .obtain⟨o2,o3,rfl,sb,e5⟩:=hh
  rw[zj]at e5
  walk_at "n";refine q Y H5 (λb o z=>sb b o (aP z ac) (s4 _ _ (s3 _ _ (ab _ _ z)))) ac e5
end
theorem uq{f:List ud->KZ}{g:List ud->Nat}(h:∀T,(f T).length=g T):∀s:ud,(cI f s).length=bw g s
 | .plain _=>rfl
 | .lend _ _ b=>by simp[cI,bw,h]
 | .ite _ b c=>by simp[cI,bw,h];lia
 | .whl _ b=>by simp[cI,bw,h]
theorem mK:∀(d:Nat) (T:List ud),(cO d T).length=ao d T
 | 0,_=>rfl
 | d+1,T=>by
  show (T.flatMap (cI (cO d))).length=(T.map (bw (ao d))).sum
  induction T with
  | nil=>rfl
  | cons s T ih=>rw[za8,qL,yj,lJ,ih,uq (mK d)]
def Sub(L:KZ)(l:Nat)(X:KZ):Prop:=∀(i:Nat) s,X[i]?=some s->L[l+i]?=some s
theorem Sub.left{L X Y:KZ}(h:Sub L l (X++Y)):Sub L l X:=λi s e=>h i s (by rw[xG (Kq.mp e).1];exact e)
theorem Sub.right{L X Y:KZ}(h:Sub L l (X++Y)):Sub L (l+X.length) Y:=λi s e=>by
 have:=h (X.length+i) s (by rw[gT (by lia),zbl];exact e)
 rw[<-lR]at this;exact this
def la(f:List ud->Prop)(N:Str->Prop):ud->Prop
 | .plain ws=>(ws.headD "" = "do" -> ws.length=3)/\∀n∈cW ws,N n
 | .lend x y b=>N x/\N y/\f b
 | .ite _ b c=>f b/\f c
 | .whl _ b=>f b
def ef(N:Str->Prop):Nat->List ud->Prop
 | 0,_=>False
 | d+1,T=>∀s∈T,la (ef N d) N s
theorem oT(x y:Str):gL (Txt.join " " ["lend",x,y])=true:=by
 have e:Txt.join " " ["lend",x,y]=("lend " : Str)++(x++((" " : Str)++y)):=by
  apply vV
  have h1:("lend " : Str).cps.toList=("lend" : Str).cps.toList++(" " : Str).cps.toList:=by decide +kernel
  rw[fW,fW,fW,h1];show ((("lend" : Str).cps++(" " : Str).cps++x.cps)++(" " : Str).cps++y.cps).toList=_
  simp only[tR,n6]
 rw[e];unfold gL;have hl:("lend " : Str).length=5:=by decide +kernel
 rw[Str.length_append,hl,decide_eq_true (by lia),Bool.true_and]
 unfold Builtin.Str.subAt;rw[hl,beq_iff_eq]
 apply Array.ext'
 rw[Array.toList_extract,fW];have F:("lend " : Str).cps.toList.length=5:=by decide +kernel
 simp[List.extract_eq_drop_take,List.take_append,F]
theorem yS{L:KZ}{s:Str}(h:L[i]?=some s)(F:gL s=true):i∈f_ L:=by
 unfold f_;rw[List.mem_filter];refine⟨KH.mpr (Kq.mp h).1,?_⟩
 rw[xf,h];exact F
section
variable{NM L:KZ}
theorem A_{f:Nat->List ud->Prop}{g:List ud->Prop}{d l:Nat}(hf:∀l b,Sub L l (cO d b)->g b->f l b):∀(s:ud),Sub L l (cI (cO d) s)->la g (λn=>n∈NM) s->lO (eV (bN NM L)) f (ao d) l s
 | .plain ws,_,⟨h1,h2⟩=>⟨h1,λn F=>kI (by unfold bN;exact lW _ (KB.mpr ⟨n,h2 n F,rfl⟩))⟩
 | .lend x y b,hS,⟨hx,hy,hb⟩=>by
  have hh:L[l]?=some (Txt.join " " ["lend",x,y]):=hS 0 _ rfl
  refine⟨kI (by unfold bN;exact lW _ (KB.mpr ⟨x,hx,rfl⟩)),kI (by unfold bN;exact lW _ (KB.mpr ⟨y,hy,rfl⟩)),kI (by unfold bN;exact gV _ (KB.mpr ⟨l,yS hh (oT x y),rfl⟩)),hf _ _ ?_ hb⟩
  have:Sub L l ([Txt.join " " ["lend",x,y]]++(cO d b++[("back" : Str)])):=hS
  exact this.right.left
 | .ite n b c,hS,⟨hb,hc⟩=>by
  have:Sub L l ([Txt.join " " ["if",fQ n]]++((cO d b++[("else" : Str)])++(cO d c++[("fi" : Str)]))):=hS
  refine⟨hf _ _ this.right.left.left hb,hf _ _ ?_ hc⟩
  have h2:=this.right.right.left;rw[qL,mK,List.length_singleton,List.length_singleton]at h2
  rw[show l+1+ao d b+1=l+1+(ao d b+1) by lia];exact h2
 | .whl n b,hS,hb=>by
  have:Sub L l ([Txt.join " " ["while",fQ n]]++(cO d b++[("done" : Str)])):=hS
  exact hf _ _ this.right.left hb
theorem mR:∀(d l:Nat) (T:List ud),Sub L l (cO d T)->ef (λn=>n∈NM) d T->fh (eV (bN NM L)) d l T
 | 0,_,_,_,h=>h
 | d+1,l,T,F,hN=>by
  have go:∀(T:List ud) (l:Nat),Sub L l (T.flatMap (cI (cO d)))->(∀s∈T,la (ef (λn=>n∈NM) d) (λn=>n∈NM) s)->∀z∈fE (bw (ao d)) l T,lO (eV (bN NM L)) (fh (eV (bN NM L)) d) (ao d) z.1 z.2:=λT=>by
   induction T with
   | nil=>intro l _ _ z hz;cases hz
   | cons s T ih=>
    intro l F hN z hz
    rw[za8]at F
    rcases KC.mp hz with rfl | hz
    .exact A_ (λl b h1 h2=>mR d l b h1 h2) s F.left (hN s yb)
    .have h2:=F.right
     rw[uq (mK d)]at h2
     exact ih (l+bw (ao d) s) h2 (λs J=>hN s (yc _ J)) z hz
  exact go T l F hN
end
section
variable{CN:Addr}{NO:Hp->Addr->KZ->Prop}
noncomputable def dX(NM:KZ)(d:Nat)(t:Bool)(T:List ud):List aD:=aE (eV (bN NM (cO d T))) d t 0 0 T++[[.str "end",iN (ao d T)]]
structure mG (NO:Hp->Addr->KZ->Prop) (H:Hp) (p:Addr) (d:Nat) (T:List ud) (NM:KZ):Prop where
 prog:∃S,Bm S d H p T
 ok:dR d T
 no:NO H p NM
 ln:Fu d H p (cO d T)
 nm:ef (λn=>n∈NM) d T
 cnt:ao d T<=200
 nl:NM.length<=1000
 d20:d<=20
def nU(NO:Hp->Addr->KZ->Prop)(d:Nat):Sp:=λvs H Q _=>∃(p:Addr) (t:Bool) (T:List ud) (NM:KZ),vs=[.ref p,.bl t]/\mG NO H p d T NM/\∀(q:Addr) (H':Hp),sj H H'->H q=none->BM H' q (dX NM d t T)->Q (.ref q) H'
theorem yB(a3:∀ {H H':Hp} {p:Addr} {NM:KZ},NO H p NM->sj H H'->NO H' p NM)(D:xn K mg "rows_and_end" bZ) {d k:Nat} (a8:1<=k) (F:aF P w K mg base (2*d+4) "numbered_steps" qAW (rj K CN d)) (U:aF P w K mg base (3*d+2) "rows_of" qAL (h_ K CN d)) (O:aF P w K mg base k "slots_of" ["program"] (wc NO d)) (J:aF P w K mg base 1 "line_behind" qAW (jn K CN)) (h1:2*d+4<=k) (h2:3*d+2<=k):aF P w K mg base (k+1) "rows_and_end" qAl (nU NO d):=by
 refine D.cal (k:=k) Gj (λf a6 A outer s H vs Q E hr h=>?_)
 obtain⟨p,t,T,NM,rfl,I,q⟩:=h
 obtain⟨S,hP⟩:=I.prog
 have a4:=I.cnt
 refine⟨_,(ah (aw 2 Gj.nd (ay F hr (aa (pv 0) (aa af ae)) (hle:=by lia)))
   (aj (aA (ar aB (ay U hr (aa (pv 2) (aa af (aa (ay O hr (aa (pv 0) ae) (hle:=by lia)) (aa (pv 1) ae)))) (hle:=by lia)) (aJ (aa (aQ (aa ax (aa (ay J hr (aa (pv 2) (aa af ae)) (hle:=by lia)) ae))) ae)))))),?_⟩
 walk_at "r";refine⟨p,0,T,S,rfl,hP,I.ok,by lia,λnq H1 s1 hN=>?_⟩
 walk_at "n";refine⟨p,NM,cO d T,rfl,a3 I.no s1,I.ln.mono _ s1,by rw[mK];lia,I.nl,λsq H2 s2 a5 e2=>?_⟩
 refine⟨nq,sq,0,0,t,T,_,_,rfl,hN.mono s2,I.ok,e2,mR d 0 T (λi s e=>by rw[nV];exact e) I.nm,I.cnt,I.d20,λrq H3 s3 a7 hR=>?_⟩
 have al:=dY (kv:=eV (bN NM (cO d T))) (a:=0) (l:=0) (t:=t) I.cnt I.d20;generalize hRR:aE (eV (bN NM (cO d T))) d t 0 0 T=R at hR al;have Z:=s2.trans s3
 cases d with
 | zero=>exact hN.elim
 | succ d=>
  refine⟨nq,0,d,T,_,rfl,hN.mono Z,by lia,?_⟩
  walk_at "r";refine⟨by decide,λt1 as=>?_⟩
  generalize hH4:upd H3 t1 _=H4
  have s4:sj H3 H4:=by rw[<-hH4];exact am as _
  have ag:b6 H4 t1 [.str "end",iN (ao (d+1) T)]:=by
   show H4 t1=_
   rw[<-hH4,ai,nV];rfl
  refine⟨by decide,λm1 ab=>?_⟩
  have s5:=am ab (.lst [.ref t1]);have L1:=ig ag ab;generalize upd H4 m1 (.lst [.ref t1])=H5 at s5 L1 |-;obtain⟨ad,a1,a2⟩:=hR.mono (s4.trans s5)
  obtain⟨ac,b1,b2⟩:=L1
  refine⟨_,_,a1,b1,dw a2 b2 (by simp only[qY,yi];lia),λm2 W=>?_⟩
  have s6:=am W (.lst (ad.map V.ref++ac.map V.ref));have L2:=eC a2 b2 W;generalize upd H5 m2 (.lst (ad.map V.ref++ac.map V.ref))=H6 at s6 L2 |-;have Y:=((s1.trans Z).trans s4).trans s5;refine q m2 H6 (Y.trans s6) (Y.free W) ?_
  unfold dX;rw[hRR];exact L2
def zH(NO:Hp->Addr->KZ->Prop)(d:Nat):Sp:=λvs H Q _=>∃(p:Addr) (T:List ud) (NM:KZ),vs=[.ref p]/\mG NO H p d T NM/\∀(q:Addr) (H':Hp),sj H H'->H q=none->BM H' q (dX NM d false T)->Q (.ref q) H'
theorem Ez(D:xn K mg "code_of" gM) {k:Nat} (F:aF P w K mg base k "rows_and_end" qAl (nU NO d)):aF P w K mg base (k+1) "code_of" ["program"] (zH NO d):=by
 refine D.cal (k:=k) xb (λf J A outer s H vs Q E U h=>?_)
 obtain⟨p,T,NM,rfl,I,q⟩:=h
 refine⟨_,(aj (aA (ay F U (aa (pv 0) (aa eU ae)) (hle:=by lia)))),?_⟩
 walk_at "r";exact⟨p,false,T,NM,rfl,I,q⟩
def tU(NO:Hp->Addr->KZ->Prop)(d:Nat):Sp:=λvs H Q _=>∃(p:Addr) (T:List ud) (NM:KZ),vs=[.ref p]/\mG NO H p d T NM/\∀(q:Addr) (H':Hp),sj H H'->H q=none->BM H' q (dX NM d true T)->Q (.ref q) H'
theorem Ag(D:xn K mg "turned_code" er) {k:Nat} (F:aF P w K mg base k "rows_and_end" qAl (nU NO d)):aF P w K mg base (k+1) "turned_code" ["program"] (tU NO d):=by
 refine D.cal (k:=k) nG (λf J A outer s H vs Q E U h=>?_)
 obtain⟨p,T,NM,rfl,I,q⟩:=h
 refine⟨_,(aj (aA (ay F U (aa (pv 0) (aa eU ae)) (hle:=by lia)))),?_⟩
 walk_at "r";exact⟨p,true,T,NM,rfl,I,q⟩
end
noncomputable def dC:ud->List (List ud)
 | .plain _=>[]
 | .lend _ _ b=>[b]
 | .ite _ b c=>[b,c]
 | .whl _ b=>[b]
noncomputable def ga(f:List ud->List ud)(s:ud):List ud:=s::(dC s).flatMap f
noncomputable def cj:Nat->List ud->List ud
 | 0,_=>[]
 | d+1,T=>T.flatMap (ga (cj d))
inductive f7:KZ->Prop
 | opn (x:Str):f7 ["open",x]
 | drp (x:Str):f7 ["drop",x]
 | cpy (x y:Str):f7 ["copy",x,y]
 | tie (x y:Str):f7 ["tie",x,y]
 | doo (u x:Str):f7 ["do",u,x]
noncomputable def b7:ud->KZ
 | .plain ws=>if ws.headD "" = "do" then ws.drop 2 else ws.drop 1
 | .lend x y _=>[x,y]
 | .ite _ _ _=>[]
 | .whl _ _=>[]
def gi(f:List ud->Prop):ud->Prop
 | .plain ws=>f7 ws
 | .lend _ _ b=>f b
 | .ite _ b c=>f b/\f c
 | .whl _ b=>f b
def i0:Nat->List ud->Prop
 | 0,_=>False
 | d+1,T=>∀s∈T,gi (i0 d) s
def Fv(H:Hp)(a:Addr)(s:ud):Prop:=Cv (λ_ _=>True) H a s
theorem Fv.mono{a:Addr}(h:Fv H a s)(sm:sj H H'):Fv H' a s:=Cv.imp (λb xs e=>sm _ _ e) (λ_ _ _=>trivial) h
theorem yJ{PA:Addr->List ud->Prop}{H:Hp}{a:Addr}{g:List ud->Prop}:∀ {s:ud},Cv PA H a s->gi g s->∃(kind:Str) (F:LB) (bs:LC),H a=some (.tup (.str kind::F++bs.map V.ref))/\bs.length=(bF kind).length/\Paired PA bs (dC s)/\∀b∈dC s,g b
 | .plain ws,h,ok=>by
  cases ok with
  | opn x=>exact⟨"open",[.str x],[],h,by show 0=(bF "open").length;decide,.nil,by simp[dC]⟩
  | drp x=>exact⟨"drop",[.str x],[],h,by show 0=(bF "drop").length;decide,.nil,by simp[dC]⟩
  | cpy x y=>exact⟨"copy",[.str x,.str y],[],h,by show 0=(bF "copy").length;decide,.nil,by simp[dC]⟩
  | tie x y=>exact⟨"tie",[.str x,.str y],[],h,by show 0=(bF "tie").length;decide,.nil,by simp[dC]⟩
  | doo u x=>exact⟨"do",[.str u,.str x],[],h,by show 0=(bF "do").length;decide,.nil,by simp[dC]⟩
 | .lend x y b,⟨q,h,z⟩,ok=>⟨"lend",[.str x,.str y],[q],h,by show 1=(bF "lend").length;decide,.cons z .nil,by simpa [dC,gi] using ok⟩
 | .ite n b c,⟨q,r,h,z,y⟩,ok=>⟨"if",[.int n],[q,r],h,by show 2=(bF "if").length;decide,.cons z (.cons y .nil),by simpa [dC,gi] using ok⟩
 | .whl n b,⟨q,h,z⟩,ok=>⟨"while",[.int n],[q],h,by show 1=(bF "while").length;decide,.cons z .nil,by simpa [dC,gi] using ok⟩
def tN(d:Nat):Sp:=λvs H Q _=>∃(p:Addr) (T:List ud) (S:Addr->Prop),vs=[.ref p]/\Bm S d H p T/\i0 d T/\(cj d T).length<=5000/\
 ∀(q:Addr) (H':Hp) (ads:LC),sj H H'->H q=none->H' q=some (.lst (ads.map V.ref))->Paired (Fv H') ads (cj d T)->Q (.ref q) H'
theorem yf{β: Type}(f:α->List β)(T:List α)(i:Nat):((T.take i).flatMap f).length<=(T.flatMap f).length:=by
 rw[List.flatMap_def,List.flatMap_def,List.map_take];exact nP _ _
theorem ny{β: Type}(f:α->List β){T:List α}{x:α}(h:T[i]?=some x):(T.take (i+1)).flatMap f=(T.take i).flatMap f++f x:=by
 rw[HX,h,List.flatMap_append];simp
theorem jw{α β : Type}{R:α->β->Prop}:∀ {xs zs:List α} {ys F:List β},Paired R xs ys->Paired R zs F->Paired R (xs++zs) (ys++F)
 | _,_,_,_,.nil,h=>h
 | _,_,_,_,.cons h t,h'=>.cons h (jw t h')
theorem oo(D:xn K mg "steps_within" bP) (F:aF P w K mg base 3 "blocks_of" ["step"] (iG K)):∀d:Nat,aF P w K mg base (d+4) "steps_within" ["program"] (tN d)
 | 0=>D.cal (k:=3) CB (λf cd A outer s H vs Q E hr h=>by obtain⟨p,T,S,rfl,z,_⟩:=h;exact z.elim)
 | d+1=>by
  have J:=oo D F d;refine D.cal (k:=d+4) CB (λf cd A outer s H vs Q E hr h=>?_)
  obtain⟨p,T,S,rfl,⟨hS,as,h1,h2⟩,ok,hL,q⟩:=h
  have c4:=aI h2
  refine⟨_,(ah (aw 1 CB.nd (aJ ae))
   (ah (b4 xH rfl (bL K (pv 0)) (aM 2 CB.nd) (ah (br (bH K xh mY nu bA (pv 1) (aa (pv 2) ae)))
   (aj (b4 xH rfl (hZ K (ay F hr (aa (pv 2) ae) (hle:=by lia))) (aM 3 CB.nd) (aj (br (bH K xh Kf J7 dU (pv 1) (aa (ay J hr (aa (pv 3) ae) (hle:=by lia)) ae))))))))
   (aj (aA (pv 1))))),?_⟩
  walk_at "r";refine⟨by decide,λlp a4=>?_⟩
  walk_at "g"
  rename_i H1 sm1 e1
  walk_at "n";refine⟨⟨_,su.of (sm1 _ _ h1)⟩,?_⟩
  refine cB (xs:=as.map V.ref) (λi σ H'=>∃(O:LC) (o2 o3:LK),σ=[some (.ref p),some (.ref lp),o2,o3]/\sj H H'/\H' lp=some (.lst (O.map V.ref))/\Paired (Fv H') O ((T.take i).flatMap (ga (cj d))))
   ⟨[],none,none,rfl,sm1,e1,.nil⟩ (λi σ H' _ h=>by obtain⟨_,_,_,_,sm,_⟩:=h;exact su.of (sm _ _ h1)) ?_ ?_
  .rintro i v σ H' hv ⟨O,o2,o3,rfl,sm,hl,hp⟩
   have hi:i<as.length:=by have:=(Kq.mp hv).1;simpa using this
   rw[wC,qz hi]at hv
   cases hv;obtain⟨s,hs,st⟩:=cg h2 (qz hi)
   have cb:=ok s (kg hs);obtain⟨kind,Z,bs,ha,bt,b0,ca⟩:=yJ st cb
   have a5:=ny (ga (cj d)) hs;have a6:=yf (ga (cj d)) T (i+1);have c8:(T.flatMap (ga (cj d))).length<=5000:=hL
   rw[a5]at a6 |-
   have b2:=aI hp;generalize (T.take i).flatMap (ga (cj d))=pre at hp a6 b2 |-;have cu:(ga (cj d) s).length=1+((dC s).flatMap (cj d)).length:=by show (s::_).length=_;rw[qY];lia
   rw[qL,cu]at a6
   have c1:Fv H as[i] s:=Cv.imp (λb xs e=>e) (λ_ _ _=>trivial) st
   walk_at "r";refine⟨⟨_,su.of hl⟩,_,hl,by rw[zj];exact cJ (by lia),?_⟩
   have a3:∀ {X:Hp} {o:HO} {l:LC} {us:List ud} {ys:LB},X lp=some (.lst ys)->Paired (Fv X) l us->Paired (Fv (upd X lp o)) l us:=λ{X o l us ys} e h=>Paired.imp' (λa s z=>Cv.imp (λb xs e'=>by rw[au (cT e' e (λz=>nomatch z))];exact e') (λ_ _ _=>trivial) z) h
   have a8:=a3 (o:=.lst (O.map V.ref++[.ref as[i]])) hl hp;have al:sj H (upd H' lp (.lst (O.map V.ref++[.ref as[i]]))):=sm.upd a4 _
   have e2:upd H' lp (.lst (O.map V.ref++[.ref as[i]])) lp=some (.lst ((O++[as[i]]).map V.ref)):=by rw[ai,yd];rfl
   generalize upd H' lp (.lst (O.map V.ref++[.ref as[i]]))=H2 at a8 al e2 |-;have b3:vr K H2 as[i] (.str kind::(Z++bs.map V.ref)):=vr.of (al _ _ ha)
   have b1:(bF kind).length<=(Z++bs.map V.ref).length+1:=by rw[qL,zj,bt];lia
   have a9:(Z++bs.map V.ref).length+1-(bF kind).length=Z.length+1:=by rw[qL,zj,bt];lia
   walk_at "n";refine⟨as[i],kind,Z++bs.map V.ref,rfl,b3,b1,λbp H3 ag ab=>?_⟩
   rw[a9]at ab
   have cc:(V.str kind::(Z++bs.map V.ref)).drop (Z.length+1)=bs.map V.ref:=by rw[List.drop_succ_cons,List.drop_left'];rfl
   rw[cc]at ab
   walk_at "r";refine⟨⟨_,ab⟩,?_⟩
   have c5:=aI b0
   refine sJ (xs:=bs.map V.ref) (λj σ H'=>∃(U:LC) (o3:LK),σ=[some (.ref p),some (.ref lp),some (.ref as[i]),o3]/\sj H H'/\vr K H' bp (bs.map V.ref)/\H' lp=some (.lst (U.map V.ref))/\Paired (Fv H') U (pre++(s::((dC s).take j).flatMap (cj d))))
    ⟨O++[as[i]],o3,rfl,al.trans ag,ab,ag _ _ e2,?_⟩ (λj σ H' _ h=>by obtain⟨_,_,_,_,z1,_⟩:=h;exact z1) ?_ ?_
   .exact eO (R:=Fv H3) (c1.mono (al.trans ag)) (Paired.imp' (λa s z=>Fv.mono z ag) a8)
   .rintro j x σ H4 hx ⟨U,o3,rfl,ad,bg,W,ac⟩
    have hj:j<bs.length:=by have:=(Kq.mp hx).1;simpa using this
    rw[wC,qz hj]at hx
    cases hx;obtain⟨b,hb,cq⟩:=cg b0 (qz hj)
    have c2:=ny (cj d) hb;have hle:=yf (cj d) (dC s) (j+1);rw[c2]at hle |-
    rw[qL]at hle
    have a7:=aI ac;rw[qL,qY]at a7
    walk_at "r";refine⟨⟨_,su.of W⟩,bs[j],b,S,rfl,cq.mono ad,ca b (kg hb),by lia,λr H5 bc Y c9 cv be=>?_⟩
    have c3:=aI be;walk_at "r";refine⟨_,_,Y _ _ W,cv,aU (by rw[zj,zj];lia),?_⟩
    refine⟨U++bc,_,rfl,(ad.trans Y).upd a4 _,(bg.same Y).updL (Y _ _ W),by rw[ai,yd],?_⟩
    rw[<-HJ,<-n6];exact jw (a3 (Y _ _ W) (Paired.imp' (λa s z=>Fv.mono z Y) ac)) (a3 (Y _ _ W) be)
   .rintro σ H4 ⟨U,o3,rfl,ad,bg,W,ac⟩
    rw[zj,HI (by lia)]at ac
    exact⟨U,_,_,rfl,ad,W,ac⟩
  .rintro σ H' ⟨O,o2,o3,rfl,sm,hl,hp⟩
   walk_at "n";rw[zj,HI (by lia)]at hp
   exact q lp H' O sm a4 hl hp
noncomputable def fO(acc:KZ)(x:Str):KZ:=if x∈acc then acc else acc++[x]
def fD(l:KZ):KZ:=l.foldl fO []
def ku(l:KZ):List (aL×V):=l.map λx=>(Sum.inr x,V.bl true)
theorem Fb(acc:KZ)(x:Str):cX (ku acc) (.inr x) (.bl true)=ku (fO acc x):=by
 unfold cX fO
 by_cases h:x∈acc
 .rw[Kx h]
  have F:((ku acc).any λkv=>decide (kv.1=(Sum.inr x:aL)))=true:=by
   rw[List.any_eq_true];exact⟨(.inr x,.bl true),KB.mpr ⟨x,h,rfl⟩,by simp⟩
  rw[Kx F];unfold ku;rw[He];refine zbm λy _=>?_
  by_cases e:y=x
  .subst e;simp
  .have:¬ ((Sum.inr y:aL)=Sum.inr x):=λz=>e (Sum.inr.inj z)
   simp[this]
 .rw[Kt h]
  have F:((ku acc).any λkv=>decide (kv.1=(Sum.inr x:aL)))=false:=by
   rw[List.any_eq_false];intro kv J
   obtain⟨y,O,rfl⟩:=KB.mp J
   have:¬ ((Sum.inr y:aL)=Sum.inr x):=λz=>h (Sum.inr.inj z ▸ O)
   simp[this]
  rw[Kt (by rw[F];exact xN)]
  unfold ku;rw[yd];rfl
theorem jg:∀(l acc:KZ),(l.foldl fO acc).length<=acc.length+l.length
 | [],acc=>by simp
 | x::l,acc=>by
  have:=jg l (fO acc x)
  have h2:(fO acc x).length<=acc.length+1:=by unfold fO;split<;>simp
  rw[zaX,qY];lia
noncomputable def cx:LB->KZ->KZ
 | .str x::xs,k::ks=>if k = "name" then x::cx xs ks else cx xs ks
 | _::xs,_::ks=>cx xs ks
 | _,_=>[]
noncomputable def eh:List (Str×KZ):=[("open",["name"]),("do",["word","name"]),("copy",qAv),("drop",["name"]),("tie",qAv),("lend",["name","name","steps"]),("if",["bound","steps","steps"]),("while",["bound","steps"])]
structure PF (H:Hp) (a:Addr) (s:ud) (kind:Str) (xs:LB) (ks:KZ):Prop where
 at':H a=some (.tup (.str kind::xs))
 kd:(kind,ks)∈eh
 len:xs.length=ks.length
 txt:∀(i:Nat) (x:V),xs[i]?=some x->ks[i]?=some "name" -> ∃y,x = .str y
 names:cx xs ks=b7 s
theorem tS{α:Type}{a b x:α}{i:Nat}(h:[a,b][i]?=some x):(i=0/\x=a)\/(i=1/\x=b):=by
 match i,h with
 | 0,h=>exact .inl ⟨rfl,by simpa using h.symm⟩
 | 1,h=>exact .inr ⟨rfl,by simpa using h.symm⟩
 | i+2,h=>simp at h
theorem xS{H:Hp}{a:Addr}{g:List ud->Prop}:∀ {s:ud},Fv H a s->gi g s->∃kind xs ks,PF H a s kind xs ks
 | .plain ws,h,ok=>by
  cases ok with
  | opn x=>exact⟨"open",[.str x],["name"],h,by simp[eh],rfl,λi y e _=>by match i,e with | 0,e=>exact⟨x,by simpa using e.symm⟩ | i+1,e=>simp at e,by simp[cx,b7];decide⟩
  | drp x=>exact⟨"drop",[.str x],["name"],h,by simp[eh],rfl,λi y e _=>by match i,e with | 0,e=>exact⟨x,by simpa using e.symm⟩ | i+1,e=>simp at e,by simp[cx,b7];decide⟩
  | cpy x y=>exact⟨"copy",[.str x,.str y],qAv,h,by simp[eh],rfl,λi z e _=>by rcases tS e with ⟨_,rfl⟩ | ⟨_,rfl⟩<;>exact⟨_,rfl⟩,by simp[cx,b7];decide⟩
  | tie x y=>exact⟨"tie",[.str x,.str y],qAv,h,by simp[eh],rfl,λi z e _=>by rcases tS e with ⟨_,rfl⟩ | ⟨_,rfl⟩<;>exact⟨_,rfl⟩,by simp[cx,b7];decide⟩
  | doo u x=>exact⟨"do",[.str u,.str x],["word","name"],h,by simp[eh],rfl,λi z e _=>by rcases tS e with ⟨_,rfl⟩ | ⟨_,rfl⟩<;>exact⟨_,rfl⟩,by simp[cx,b7];decide⟩
 | .lend x y b,⟨q,h,_⟩,ok=>⟨"lend",[.str x,.str y,.ref q],["name","name","steps"],h,by simp[eh],rfl,λi z e F=>by match i,e,F with | 0,e,F=>exact⟨_,by simpa using e.symm⟩ | 1,e,F=>exact⟨_,by simpa using e.symm⟩ | 2,e,F=>exact absurd (by simpa using F) (show ¬ (("steps" : Str) = "name") from by decide) | i+3,e,F=>simp at e,by simp[cx,b7]⟩
 | .ite n b c,⟨q,r,h,_,_⟩,ok=>⟨"if",[.int n,.ref q,.ref r],["bound","steps","steps"],h,by simp[eh],rfl,λi z e F=>by match i,e,F with | 0,e,F=>exact absurd (by simpa using F) (show ¬ (("bound" : Str) = "name") from by decide) | 1,e,F=>exact absurd (by simpa using F) (show ¬ (("steps" : Str) = "name") from by decide) | 2,e,F=>exact absurd (by simpa using F) (show ¬ (("steps" : Str) = "name") from by decide) | i+3,e,F=>simp at e,by simp[cx,b7]⟩
 | .whl n b,⟨q,h,_⟩,ok=>⟨"while",[.int n,.ref q],["bound","steps"],h,by simp[eh],rfl,λi z e F=>by match i,e,F with | 0,e,F=>exact absurd (by simpa using F) (show ¬ (("bound" : Str) = "name") from by decide) | 1,e,F=>exact absurd (by simpa using F) (show ¬ (("steps" : Str) = "name") from by decide) | i+2,e,F=>simp at e,by simp[cx,b7]⟩
theorem t0:∀ {xs:LB} {ks:KZ} (x:V) (k:Str),xs.length=ks.length->cx (xs++[x]) (ks++[k])=cx xs ks++cx [x] [k]
 | [],[],x,k,_=>rfl
 | [],_::_,_,_,h=>by simp at h
 | _::_,[],_,_,h=>by simp at h
 | y::xs,c::ks,x,k,h=>by
  have ih:=t0 (xs:=xs) (ks:=ks) x k (by simpa using h)
  cases y<;>simp only[HJ,cx,ih]
  split<;>simp
theorem pV(xs:LB)(ks:KZ)(j:Nat)(h:xs.length=ks.length):(cx (xs.take j) (ks.take j)).length<=(cx xs ks).length:=by
 induction xs generalizing ks j with
 | nil=>simp[cx]
 | cons y xs ih=>
  cases ks with
  | nil=>simp at h
  | cons c ks=>
   cases j with
   | zero=>simp[cx]
   | succ j=>
    have:=ih ks j (by simpa using h)
    rw[Kj,Kj]
    cases y<;>simp only[cx]<;>(try split)<;>(try simp only[qY])<;>lia
theorem Bl{a l:Addr}{kvs:List (aL×V)}(h:vr K H a xs)(hl:H l=some (.dK kvs)):vr K (upd H l o) a xs:=by
 rcases h with (h | ⟨o',h⟩) | h
 .exact .inl (.inl (by rw[au (cT h hl (λz=>nomatch z))];exact h))
 .exact .inl (.inr ⟨o',by rw[au (cT h hl (λz=>nomatch z))];exact h⟩)
 .exact .inr h
def om:Sp:=λvs H Q _=>∃(sp:Addr) (ads:LC) (Ps:List ud) (g:List ud->Prop),vs=[.ref sp]/\H sp=some (.lst (ads.map V.ref))/\Paired (Fv H) ads Ps/\(∀s∈Ps,gi g s)/\(Ps.flatMap b7).length<=5000/\
 ∀(q:Addr) (H':Hp),sj H H'->H q=none->H' q=some (.lst ((fD (Ps.flatMap b7)).map V.str))->Q (.ref q) H'
theorem xr(D:xn K mg "names_in" b9) (al:mg "zip" = none) (O:mg "list" = none) {dP:Addr} {kvs:List (Str×V)} (J:mg "PARTS" = some (.ref dP)) (m:GX w K dP kvs)
  (qk:∀kind ks,(kind,ks)∈eh->∃a,bT kvs kind=some (.ref a)/\∀H:Hp,vr K H a (ks.map V.str)):aF P w K mg base 1 "names_in" ["steps"] om:=by
 refine D.cal FJ (λf cv A outer s H vs Q E hr h=>?_)
 obtain⟨sp,W,U,g,rfl,a8,hp,hok,hL,q⟩:=h
 have cu:=aI hp
 refine⟨_,(ah (aw 1 FJ.nd qT)
   (ah (b4 xH rfl (bL K (pv 0)) (aM 2 FJ.nd) (aj (b4 xH rfl (wt K Kp al (aa (dW (gA K) (pv 2) (cP af) fw) (aa (ak (KP w K) (uV J) (ak (av K) (pv 2) af)) ae))) (jf K (n:=2) (cG (aM 3 FJ.nd) (cG (aM 4 FJ.nd) ie))) (aj (bf (az bn (pv 4) ax (aG _)) (aj (eY eU (fG (pv 1) (pv 3) (D3 hr)))) aN)))))
   (aj (aA (ee (wG hr) O i8 (aa (pv 1) ae)))))),?_⟩
 walk_at "r";refine λdp cd=>?_
 walk_at "g"
 rename_i H1 sm1 e1
 walk_at "n";refine⟨⟨_,su.of (sm1 _ _ a8)⟩,?_⟩
 refine cB (xs:=W.map V.ref) (λi σ H'=>∃o2 Z o4:LK,σ=[some (.ref sp),some (.ref dp),o2,Z,o4]/\sj H H'/\H' dp=some (.dK (ku (fD ((U.take i).flatMap b7)))))
  ⟨none,none,none,rfl,sm1,e1⟩ (λi σ H' _ h=>by obtain⟨_,_,_,_,sm,_⟩:=h;exact su.of (sm _ _ a8)) ?_ ?_
 .rintro i v σ H' hv ⟨o2,Z,o4,rfl,sm,hd⟩
  have hi:i<W.length:=by have:=(Kq.mp hv).1;simpa using this
  rw[wC,qz hi]at hv
  cases hv;obtain⟨s,hs,st⟩:=cg hp (qz hi)
  obtain⟨kind,xs,ks,ca,b1,ad,b2,be⟩:=xS st (hok s (kg hs))
  obtain⟨ka,cc,bp⟩:=qk kind ks b1
  have cq:=ny b7 hs;have bg:=yf b7 U (i+1);rw[cq]at bg |-
  have a4:fD ((U.take i).flatMap b7++b7 s)=(b7 s).foldl fO (fD ((U.take i).flatMap b7)):=by unfold fD;rw[zbo]
  rw[a4];have a3:=jg ((U.take i).flatMap b7) [];rw[qL]at bg
  rw[yi]at a3
  have a5:(fD ((U.take i).flatMap b7)).length<=((U.take i).flatMap b7).length:=by unfold fD;lia
  generalize fD ((U.take i).flatMap b7)=acc at hd a5 |-;have a7:vr K H' W[i] (.str kind::xs):=vr.of (sm _ _ ca)
  walk_at "r";refine fR a7 λp2 H2 as h2=>?_
  have e1:dH (V.str kind::xs) (some 1) none=xs:=kn _ 1
  rw[e1]at h2
  walk_at "r";refine⟨_,_,.inr (a7.same as),jO,dP,kvs,kind,.ref ka,rfl,rfl,m,cc,?_⟩
  refine⟨p2,ka,rfl,⟨_,h2⟩,⟨_,bp _⟩,?_⟩
  refine o_ (xs:=xs) (ys:=ks.map V.str) (λj σ H'=>∃Z o4:LK,σ=[some (.ref sp),some (.ref dp),some (.ref W[i]),Z,o4]/\sj H H'/\vr K H' p2 xs/\H' dp=some (.dK (ku ((cx (xs.take j) (ks.take j)).foldl fO acc))))
   (by rw[zj];exact ad) ⟨Z,o4,rfl,sm.trans as,h2,as _ _ hd⟩ (λj σ H' _ h=>by obtain⟨_,_,_,_,z1,_⟩:=h;exact⟨z1,bp _⟩) ?_ ?_
  .rintro j x y t σ H3 hx hy ⟨Z,o4,rfl,Y,h3,F⟩ ht
   have c1:j<xs.length:=(Kq.mp hx).1
   have b3:j<ks.length:=by lia
   have ac:ks[j]?=some ks[j]:=qz b3
   rw[wC,ac]at hy
   cases hy;have cb:xs.take (j+1)=xs.take j++[x]:=by rw[HX,hx];rfl
   have b0:ks.take (j+1)=ks.take j++[ks[j]]:=by rw[HX,ac];rfl
   have bc:=t0 (xs:=xs.take j) (ks:=ks.take j) x ks[j] (by rw[Il,Il,ad])
   have a6:=pV xs ks j ad;rw[be]at a6
   have a9:=jg (cx (xs.take j) (ks.take j)) acc;rw[cb,b0,bc];have ag:=b2 j x hx;rw[ac]at ag
   generalize ks[j]=kj at bc ag |-;generalize cx (xs.take j) (ks.take j)=pk at F a6 a9 |-;walk_at "g"
   rename_i H4 st et
   walk_at "r";refine⟨t,_,rfl,vr.of et,rfl,?_⟩
   walk_at "r";refine bx (λc=>?_) (λc=>?_)
   .subst c
    obtain⟨z,rfl⟩:=ag rfl
    have ab:=st _ _ F;refine⟨dp,_,.inr z,rfl,rfl,ab,by unfold ku;rw[zj];exact cJ (by lia),?_⟩
    rw[Fb];refine⟨_,_,rfl,(Y.trans st).upd cd _,Bl (h3.same st) ab,?_⟩
    rw[ai,zbo];rfl
   .have bt:cx [x] [kj]=[]:=by
     cases x<;>simp[cx,c]
    rw[bt,IJ];exact⟨_,_,rfl,Y.trans st,h3.same st,st _ _ F⟩
  .rintro σ H3 ⟨Z,o4,rfl,Y,h3,F⟩
   rw[Iq,HI (by lia),be]at F
   exact⟨_,_,_,rfl,Y,F⟩
 .rintro σ H' ⟨o2,Z,o4,rfl,sm,hd⟩
  walk_at "n";rw[zj,HI (by lia)]at hd
  have a3:=jg (U.flatMap b7) [];rw[yi]at a3
  refine⟨_,hd,by unfold ku fD;rw[zj];lia,λl hl=>q l _ (sm.trans (am hl _)) (sm.free hl) ?_⟩
  rw[ai];unfold ku;rw[He];rfl
def pB:Sp:=λvs H Q _=>∃(p:Addr) (T:List ud) (S:Addr->Prop),vs=[.ref p]/\Bm S 10 H p T/\i0 10 T/\(cj 10 T).length<=1000/\((cj 10 T).flatMap b7).length<=5000/\
 ∀(q:Addr) (H':Hp),sj H H'->H q=none->H' q=some (.lst ((fD ((cj 10 T).flatMap b7)).map V.str))->Q (.ref q) H'
theorem qU:∀(d:Nat) {T:List ud},i0 d T->∀s∈cj d T,∃g:List ud->Prop,gi g s
 | 0,_,h,_,_=>h.elim
 | d+1,T,ok,s,F=>by
  obtain⟨u,U,F⟩:=Kz.mp F
  have o:=ok u U;rcases KC.mp F with rfl | F
  .exact⟨_,o⟩
  obtain⟨b,J,F⟩:=Kz.mp F
  refine qU d (T:=b) ?_ s F
  cases u with
  | plain ws=>simp[dC]at J
  | lend x y c=>
   have:b=c:=by simpa [dC] using J
   subst this;exact o
  | ite n c e=>
   obtain⟨W,O⟩:=o
   have:b=c\/b=e:=by simpa [dC] using J
   rcases this with rfl | rfl
   .exact W
   .exact O
  | whl n c=>
   have:b=c:=by simpa [dC] using J
   subst this;exact o
theorem A8:∀ {s:ud} {g:List ud->Prop},gi g s->gi (λ_=>True) s
 | .plain _,_,h=>h
 | .lend _ _ _,_,_=>trivial
 | .ite _ _ _,_,_=>⟨trivial,trivial⟩
 | .whl _ _,_,_=>trivial
theorem wZ(D:xn K mg "names_of" fq) (J:aF P w K mg base 1 "names_in" ["steps"] om) (F:aF P w K mg base 14 "steps_within" ["program"] (tN 10)):aF P w K mg base 15 "names_of" ["program"] pB:=by
 refine D.cal uN (λf ad A outer s H vs Q E hr h=>?_)
 obtain⟨p,T,S,rfl,hp,ok,h1,h2,q⟩:=h
 refine⟨_,(aj (aA (ay J hr (aa (ay F hr (aa (pv 0) ae) (hle:=by lia)) ae) (hle:=by lia)))),?_⟩
 walk_at "r";refine⟨p,T,S,rfl,hp,ok,by lia,λsp H1 W O ag Y ac=>?_⟩
 walk_at "r";refine⟨sp,W,cj 10 T,λ_=>True,rfl,Y,ac,λs hs=>let ⟨g,z⟩:=qU 10 ok s hs;A8 z,h2,λr H2 U Z ab=>?_⟩
 exact q r H2 (O.trans U) (O.free Z) ab
theorem j_{ws:KZ}(h:f7 ws):(ws.headD "" = "do" -> ws.length=3)/\cW ws=b7 (.plain ws):=by
 cases h with
 | opn x=>exact⟨λc=>absurd c (by show ¬ (Str.ofString "open" = Str.ofString "do");decide +kernel),by unfold cW;simp only[b7];rw[Kt (by show ¬ (Str.ofString "open" = Str.ofString "do");decide +kernel),Kt (by show ¬ (Str.ofString "open" = Str.ofString "do");decide +kernel)]⟩
 | drp x=>exact⟨λc=>absurd c (by show ¬ (Str.ofString "drop" = Str.ofString "do");decide +kernel),by unfold cW;simp only[b7];rw[Kt (by show ¬ (Str.ofString "drop" = Str.ofString "do");decide +kernel),Kt (by show ¬ (Str.ofString "drop" = Str.ofString "do");decide +kernel)]⟩
 | cpy x y=>exact⟨λc=>absurd c (by show ¬ (Str.ofString "copy" = Str.ofString "do");decide +kernel),by unfold cW;simp only[b7];rw[Kt (by show ¬ (Str.ofString "copy" = Str.ofString "do");decide +kernel),Kt (by show ¬ (Str.ofString "copy" = Str.ofString "do");decide +kernel)]⟩
 | tie x y=>exact⟨λc=>absurd c (by show ¬ (Str.ofString "tie" = Str.ofString "do");decide +kernel),by unfold cW;simp only[b7];rw[Kt (by show ¬ (Str.ofString "tie" = Str.ofString "do");decide +kernel),Kt (by show ¬ (Str.ofString "tie" = Str.ofString "do");decide +kernel)]⟩
 | doo u x=>exact⟨λ_=>rfl,by unfold cW;simp only[b7];rw[Kx (by rfl),Kx (by rfl)];rfl⟩
theorem E4{f g:List ud->Prop}{N:Str->Prop}{O:List ud->List ud}(hf:∀b,g b->(∀n∈(O b).flatMap b7,N n)->f b):∀(s:ud),gi g s->(∀n∈(ga O s).flatMap b7,N n)->la f N s
 | .plain ws,ok,h=>by
  obtain⟨h1,h2⟩:=j_ ok
  refine⟨h1,λn F=>h n ?_⟩
  rw[h2]at F
  exact Kz.mpr ⟨.plain ws,yb,F⟩
 | .lend x y b,ok,h=>by
  refine⟨h x (Kz.mpr ⟨.lend x y b,yb,by simp[b7]⟩),h y (Kz.mpr ⟨.lend x y b,yb,by simp[b7]⟩),hf b ok λn F=>h n ?_⟩
  obtain⟨s,J,F⟩:=Kz.mp F
  exact Kz.mpr ⟨s,yc _ (Kz.mpr ⟨b,by simp[dC],J⟩),F⟩
 | .ite m b c,ok,h=>by
  refine⟨hf b ok.1 λn F=>h n ?_,hf c ok.2 λn F=>h n ?_⟩
  .obtain⟨s,J,F⟩:=Kz.mp F
   exact Kz.mpr ⟨s,yc _ (Kz.mpr ⟨b,by simp[dC],J⟩),F⟩
  .obtain⟨s,J,F⟩:=Kz.mp F
   exact Kz.mpr ⟨s,yc _ (Kz.mpr ⟨c,by simp[dC],J⟩),F⟩
 | .whl m b,ok,h=>hf b ok λn F=>h n (by
   obtain⟨s,J,F⟩:=Kz.mp F
   exact Kz.mpr ⟨s,yc _ (Kz.mpr ⟨b,by simp[dC],J⟩),F⟩)
theorem zn{N:Str->Prop}:∀(d:Nat) (T:List ud),i0 d T->(∀n∈(cj d T).flatMap b7,N n)->ef N d T
 | 0,_,h,_=>h
 | d+1,T,ok,h=>λs O=>E4 (λb U F=>zn d b U F) s (ok s O) λn F=>h n (by
   obtain⟨s',J,F⟩:=Kz.mp F
   exact Kz.mpr ⟨s',Kz.mpr ⟨s,O,J⟩,F⟩)
def dv(x:Str):Prop:=32∉x.cps.toList
def ft(f:List ud->Prop):ud->Prop
 | .plain ws=>eZ ws/\∀x∈ws,dv x
 | .lend x y b=>dv x/\dv y/\f b
 | .ite n b c=>n.natAbs<10^61/\f b/\f c
 | .whl n b=>n.natAbs<10^61/\f b
def b8:Nat->List ud->Prop
 | 0,_=>False
 | d+1,T=>∀s∈T,ft (b8 d) s
theorem rL(h:b8 (d+1) T)(J:ft (b8 d) s):b8 (d+1) (T++[s]):=λu F=>(KA.mp F).elim (h u) (λz=>by rw[Kw.mp z];exact J)
theorem lC(d:Nat):b8 (d+1) []:=λs F=>by cases F
noncomputable def gv(f:List ud->List KZ):ud->List KZ
 | .plain ws=>[ws]
 | .lend x y b=>["lend",x,y]::(f b++[[("back" : Str)]])
 | .ite n b c=>["if",fQ n]::(f b++[[("else" : Str)]]++(f c++[[("fi" : Str)]]))
 | .whl n b=>["while",fQ n]::(f b++[[("done" : Str)]])
noncomputable def qx:Nat->List ud->List KZ
 | 0,_=>[]
 | d+1,T=>T.flatMap (gv (qx d))
theorem II{f:List ud->KZ}{g:List ud->List KZ}(h:∀b,f b=(g b).map (Txt.join " ")):∀s:ud,cI f s=(gv g s).map (Txt.join " ")
 | .plain ws=>rfl
 | .lend x y b=>by simp[cI,gv,h];rfl
 | .ite n b c=>by simp[cI,gv,h];exact⟨rfl,rfl⟩
 | .whl n b=>by simp[cI,gv,h];rfl
theorem Dn:∀(d:Nat) (T:List ud),cO d T=(qx d T).map (Txt.join " ")
 | 0,_=>rfl
 | d+1,T=>by
  show T.flatMap (cI (cO d))=(T.flatMap (gv (qx d))).map _
  rw[List.map_flatMap]
  congr 1
  funext s
  exact II (Dn d) s
structure wn (ws:KZ):Prop where
 ne:ws≠[]
 free:∀x∈ws,dv x
 num:(ws.headD "" = "if" \/ ws.headD "" = "while")->∃n:Int,ws[1]?=some (fQ n)/\n.natAbs<10^61
theorem rK(n:Int):dv (fQ n):=by
 unfold dv fQ
 cases n with
 | ofNat m=>
  have e:(Str.ofString (toString (Int.ofNat m))).cps.toList=(Nat.toDigits 10 m).map Char.toNat:=W.KIN.signs_num m
  rw[e];intro z
  have:=(mI m).1 32 z
  lia
 | negSucc m=>
  have e:(Str.ofString (toString (Int.negSucc m))).cps.toList=45::(Nat.toDigits 10 (m+1)).map Char.toNat:=by
   rw[signs_ofString];show ("-" ++ Nat.repr (m+1)).toList.map Char.toNat=_
   rw[String.toList_append,yd,Nat.toList_repr];rfl
  rw[e];intro z
  rcases KC.mp z with z | z
  .cases z
  .have:=(mI (m+1)).1 32 z
   lia
theorem kQ{x:Str}(h:dv x)(h1:¬ x = "if") (h2:¬ x = "while"):wn [x]:=⟨by simp,by simpa using h,λz=>z.elim (λz=>absurd z h1) (λz=>absurd z h2)⟩
theorem Hd{g:List ud->List KZ}{f:List ud->Prop}(h:∀b,f b->∀ws∈g b,wn ws):∀ {s:ud},ft f s->∀ws∈gv g s,wn ws
 | .plain us,⟨px,hf⟩,ws,F=>by
  have e:ws=us:=by simpa [gv] using F
  subst e;refine⟨λz=>(by subst z;cases px),hf,λz=>?_⟩
  exfalso
  cases px with
  | op x=>rcases z with z | z<;>exact absurd z (show ¬ ("open" : Str)=_ by decide)
  | dr x=>rcases z with z | z<;>exact absurd z (show ¬ ("drop" : Str)=_ by decide)
  | dd u x=>rcases z with z | z<;>exact absurd z (show ¬ ("do" : Str)=_ by decide)
  | cp x y=>rcases z with z | z<;>exact absurd z (show ¬ ("copy" : Str)=_ by decide)
  | ti x y=>rcases z with z | z<;>exact absurd z (show ¬ ("tie" : Str)=_ by decide)
 | .lend x y b,⟨hx,hy,hb⟩,ws,F=>by
  simp only[gv,wQ,zaP,yh,or_false]at F
  rcases F with rfl | F | rfl
  .refine⟨by simp,λu J=>?_,λz=>?_⟩
   .simp only[wQ,yh,or_false]at J
    rcases J with rfl | rfl | rfl
    .show 32∉_;decide
    .exact hx
    .exact hy
   .exfalso;rcases z with z | z<;>exact absurd z (show ¬ ("lend" : Str)=_ by decide)
  .exact h b hb ws F
  .exact kQ (show 32∉_ by decide) (by decide) (by decide)
 | .ite n b c,⟨hn,hb,hc⟩,ws,F=>by
  simp only[gv,wQ,zaP,yh,or_false]at F
  rcases F with rfl | (F | rfl) | F | rfl
  .refine⟨by simp,λu J=>?_,λ_=>⟨n,rfl,hn⟩⟩
   simp only[wQ,yh,or_false]at J
   rcases J with rfl | rfl
   .show 32∉_;decide
   .exact rK n
  .exact h b hb ws F
  .exact kQ (show 32∉_ by decide) (by decide) (by decide)
  .exact h c hc ws F
  .exact kQ (show 32∉_ by decide) (by decide) (by decide)
 | .whl n b,⟨hn,hb⟩,ws,F=>by
  simp only[gv,wQ,zaP,yh,or_false]at F
  rcases F with rfl | F | rfl
  .refine⟨by simp,λu J=>?_,λ_=>⟨n,rfl,hn⟩⟩
   simp only[wQ,yh,or_false]at J
   rcases J with rfl | rfl
   .show 32∉_;decide
   .exact rK n
  .exact h b hb ws F
  .exact kQ (show 32∉_ by decide) (by decide) (by decide)
theorem DF:∀ {d:Nat} {T:List ud},b8 d T->∀ws∈qx d T,wn ws
 | 0,_,h,_,_=>h.elim
 | d+1,T,h,ws,F=>by
  obtain⟨s,J,F⟩:=Kz.mp F
  exact Hd (λb z=>DF z) (h s J) ws F
theorem zc(l:KZ):(fD l).Nodup:=by
 unfold fD
 have go:∀(l acc:KZ),acc.Nodup->(l.foldl fO acc).Nodup:=λl=>by
  induction l with
  | nil=>intro acc h;exact h
  | cons x l ih=>
   intro acc h
   refine ih _ ?_
   unfold fO;split
   .exact h
   .rename_i c
    rw[IQ];exact⟨h,by simp,λa F b J=>by rw[Kw.mp J];exact λz=>c (z ▸ F)⟩
 exact go l [] IM
theorem Ac{f g:List ud->Prop}(h:∀b,f b->g b):∀ {s:ud},ft f s->gi g s
 | .plain ws,⟨px,_⟩=>by
  show f7 ws
  cases px with
  | op x=>exact .opn x
  | dr x=>exact .drp x
  | dd u x=>exact .doo u x
  | cp x y=>exact .cpy x y
  | ti x y=>exact .tie x y
 | .lend _ _ _,z=>h _ z.2.2
 | .ite _ _ _,z=>⟨h _ z.2.1,h _ z.2.2⟩
 | .whl _ _,z=>h _ z.2
theorem lG:∀ {d:Nat} {T:List ud},b8 d T->i0 d T
 | 0,_,h=>h
 | _+1,_,h=>λs F=>Ac (λ_ z=>lG z) (h s F)
def l5(ws:KZ):Prop:=ws.headD "" = "lend" -> ∃x y,ws=[("lend" : Str),x,y]
theorem Hn{f:List ud->List KZ}{p:List ud->Prop}(h:∀b,p b->∀ws∈f b,l5 ws):∀(s:ud),ft p s->∀ws∈gv f s,l5 ws
 | .plain us,⟨px,_⟩,ws,F=>by
  have e:ws=us:=by simpa [gv] using F
  subst e;intro z
  exfalso
  cases px with
  | op x=>exact absurd z (show ¬ ("open" : Str)=_ by decide +kernel)
  | dr x=>exact absurd z (show ¬ ("drop" : Str)=_ by decide +kernel)
  | dd u x=>exact absurd z (show ¬ ("do" : Str)=_ by decide +kernel)
  | cp x y=>exact absurd z (show ¬ ("copy" : Str)=_ by decide +kernel)
  | ti x y=>exact absurd z (show ¬ ("tie" : Str)=_ by decide +kernel)
 | .lend x y b,⟨_,_,hb⟩,ws,F=>by
  simp only[gv,wQ,zaP,yh,or_false]at F
  rcases F with rfl | F | rfl
  .exact λ_=>⟨x,y,rfl⟩
  .exact h b hb ws F
  .exact λz=>absurd z (show ¬ ("back" : Str)=_ by decide +kernel)
 | .ite n b c,⟨_,hb,hc⟩,ws,F=>by
  simp only[gv,wQ,zaP,yh,or_false]at F
  rcases F with rfl | (F | rfl) | F | rfl
  .exact λz=>absurd z (show ¬ ("if" : Str)=_ by decide +kernel)
  .exact h b hb ws F
  .exact λz=>absurd z (show ¬ ("else" : Str)=_ by decide +kernel)
  .exact h c hc ws F
  .exact λz=>absurd z (show ¬ ("fi" : Str)=_ by decide +kernel)
 | .whl n b,⟨_,hb⟩,ws,F=>by
  simp only[gv,wQ,zaP,yh,or_false]at F
  rcases F with rfl | F | rfl
  .exact λz=>absurd z (show ¬ ("while" : Str)=_ by decide +kernel)
  .exact h b hb ws F
  .exact λz=>absurd z (show ¬ ("done" : Str)=_ by decide +kernel)
theorem y7:∀ {d:Nat} {T:List ud},b8 d T->∀ws∈qx d T,l5 ws
 | 0,_,h,_,_=>h.elim
 | d+1,T,h,ws,F=>by
  obtain⟨s,J,F⟩:=Kz.mp F
  exact Hn (λb z=>y7 z) s (h s J) ws F
theorem uz{ws:KZ}(o:wn ws)(h:l5 ws):gL (Txt.join " " ws)=decide (ws.headD "" = "lend"):=by
 by_cases c:ws.headD "" = "lend"
 .obtain⟨x,y,rfl⟩:=h c
  rw[oT,decide_eq_true c]
 .rw[decide_eq_false c]
  cases hb:gL (Txt.join " " ws) with
  | false=>rfl
  | true=>
   exfalso
   unfold gL at hb;rw[zaR,decide_eq_true_eq]at hb
   obtain⟨h1,h2⟩:=hb
   unfold Builtin.Str.subAt at h2;rw[beq_iff_eq]at h2
   have hl:("lend " : Str).length=5:=by decide +kernel
   rw[hl]at h2
   have U:((Txt.join " " ws).cps.extract 0 (0+5)).toList=("lend " : Str).cps.toList:=by rw[h2]
   rw[Array.toList_extract]at U
   simp only[List.extract_eq_drop_take,nV,Nat.sub_zero,List.drop_zero]at U
   have O:(Txt.join " " ws).cps.toList=("lend" : Str).cps.toList++32::(Txt.join " " ws).cps.toList.drop 5:=by
    conv=>lhs;rw[<-IV 5 (Txt.join " " ws).cps.toList,U]
    have:("lend " : Str).cps.toList=("lend" : Str).cps.toList++[32]:=by decide +kernel
    rw[this,n6];rfl
   have hf:32∉("lend" : Str).cps.toList:=by decide +kernel
   obtain⟨J,wr,rfl⟩:=List.exists_cons_of_ne_nil o.ne
   have F:32∉J.cps.toList:=o.free J yb
   cases wr with
   | nil=>
    have:(Txt.join " " [J]).cps.toList=J.cps.toList:=rfl
    rw[this]at O
    rw[O]at F
    exact F (gV _ yb)
   | cons x r=>
    have W:∀(r:KZ) (a:Str) (BG:LN),a.cps.toList=J.cps.toList++32::BG->∃rest',(r.foldl (λa x=>a++(" " : Str)++x) a).cps.toList=J.cps.toList++32::rest':=λr=>by
     induction r with
     | nil=>intro a BG e;exact⟨BG,e⟩
     | cons y r ih=>
      intro a BG e
      refine ih (a++(" " : Str)++y) (BG++(" " : Str).cps.toList++y.cps.toList) ?_
      rw[fW,fW,e];simp only[n6,HJ]
    rw[AQ]at O
    obtain⟨BG,Z⟩:=W r (J++(" " : Str)++x) x.cps.toList (by
     have Y:(" " : Str).cps.toList=[32]:=by decide +kernel
     rw[fW,fW,Y,n6];rfl)
    rw[zaX,Z]at O
    have:=(rE F hf O).1
    exact c (vV this)
def mL(W:List KZ):LN:=(List.range W.length).filter λi=>decide ((W.getD i []).headD "" = "lend")
theorem Ba{W:List KZ}(J:∀ws∈W,wn ws)(hl:∀ws∈W,l5 ws):f_ (W.map (Txt.join " "))=mL W:=by
 unfold f_ mL;rw[zj];refine List.filter_congr λi hi=>?_
 have F:=KH.mp hi;rw[xf,xf,wC,qz F];exact uz (J _ (nY F)) (hl _ (nY F))
theorem Fp{l:KZ}{n:Str}(h:n∈l):n∈fD l:=by
 unfold fD
 have go:∀(l acc:KZ),n∈acc\/n∈l->n∈l.foldl fO acc:=λl=>by
  induction l with
  | nil=>intro acc h;exact h.elim id (λz=>by cases z)
  | cons x l ih=>
   intro acc h
   refine ih _ ?_
   unfold fO;rcases h with h | h
   .left;split
    .exact h
    .exact lW _ h
   .rcases KC.mp h with rfl | h
    .left;split
     .assumption
     .exact gV _ yb
    .exact .inr h
 exact go l [] (.inr h)
theorem iW(F:eZ ws):ws.headD "" = "open" \/ ws.headD "" = "drop" \/ ws.headD "" = "do" \/ ws.headD "" = "copy" \/ ws.headD "" = "tie" := by
 cases F
 .exact .inl rfl
 .exact .inr (.inl rfl)
 .exact .inr (.inr (.inl rfl))
 .exact .inr (.inr (.inr (.inl rfl)))
 .exact .inr (.inr (.inr (.inr rfl)))
def CK(R X:List α)(a:Nat):Prop:=∀i r,X[i]?=some r->R[a+i]?=some r
theorem CK.left{R X Y:List α}(h:CK R (X++Y) a):CK R X a:=λi r e=>h i r (by rw[xG (Kq.mp e).1];exact e)
theorem CK.right{R X Y:List α}(h:CK R (X++Y) a):CK R Y (a+X.length):=λi r e=>by
 have:=h (X.length+i) r (by rw[gT (by lia)];rw[show X.length+i-X.length=i by lia];exact e)
 rw[lR];exact this
theorem CK.one{R:List α}{x:α}(h:CK R [x] a):R[a]?=some x:=h 0 x rfl
theorem CK.c0{R Y:List α}{x:α}(h:CK R (x::Y) a):R[a]?=some x:=h 0 x rfl
theorem CK.cs{R Y:List α}{x:α}(h:CK R (x::Y) a):CK R Y (a+1):=λi r e=>by
 have:=h (i+1) r (by rw[zaW];exact e)
 rw[show a+1+i=a+(i+1) by lia];exact this
noncomputable def aV:LG->V
 | none=>.non
 | some n=>.int n
set_option genInjectivity false in
set_option genSizeOf false in
structure Rl where
 s:Int
 ws:KZ
 rs:List (List LG)
structure eR (r:Rl):Prop where
 s:r.s=1\/r.s=2
 nw:r.ws.length<=16
 n0:1<=r.rs.length
 n1:r.rs.length<=60
 row:∀x∈r.rs,x.length=r.ws.length/\∀k,some k∈x->k<r.rs.length
 lw:∀w∈r.ws,w.length<=20
def FX(H:Hp)(p:Addr)(rs:List (List LG))(as:LC):Prop:=
 H p=some (.lst (as.map V.ref))/\as.length=rs.length/\∀(i:Nat) a x,as[i]?=some a->rs[i]?=some x->H a=some (.lst (x.map aV))
def CT(H:Hp)(p:Addr)(r:Rl):Prop:=∃pw pr as,H p=some (.tup [.int r.s,.ref pw,.ref pr])/\H pw=some (.lst (r.ws.map V.str))/\FX H pr r.rs as
theorem FX.mono{rs:List (List LG)}{F:LC}(sm:sj H H')(h:FX H p rs F):FX H' p rs F:=by
 obtain⟨h1,h2,O⟩:=h
 exact⟨sm _ _ h1,h2,λi a x J U=>sm _ _ (O i a x J U)⟩
theorem CT.mono{r:Rl}(sm:sj H H')(h:CT H p r):CT H' p r:=by
 obtain⟨U,F,O,h1,h2,J⟩:=h
 exact⟨U,F,O,sm _ _ h1,sm _ _ h2,J.mono sm⟩
theorem pE(F:KZ):(F.map V.str).all bU=true:=by
 rw[zbu];intro x hx;obtain⟨s,_,rfl⟩:=KB.mp hx;rfl
theorem uQ(y:Str)(F:KZ):jQ (.str y) (F.map V.str)=decide (y∈F):=by
 rw[zaQ];unfold jQ;rw[List.any_eq_true,decide_eq_true_eq]
 constructor
 .rintro⟨x,hx,e⟩
  obtain⟨s,O,rfl⟩:=KB.mp hx
  have J:(s==y)=true:=e
  rw[<-eq_of_beq J];exact O
 .intro h
  exact⟨.str y,KB.mpr ⟨y,h,rfl⟩,by show (y==y)=true;simp⟩
theorem yV(x:List LG):∀v∈x.map aV,bU v=true:=by
 intro v hv
 obtain⟨o,_,rfl⟩:=KB.mp hv
 cases o<;>rfl
theorem A5{K:W.Frag}{H:Hp}{p q:Addr}{rs:List (List LG)}{O bs:LC}(h1:FX H p rs O)(h2:FX H q rs bs):Gr K H 2 (.ref p) (.ref q) true:=by
 obtain⟨a1,a2,Z⟩:=h1
 obtain⟨Y,b2,U⟩:=h2
 refine Gr.seq (.inl ⟨su.of a1,su.of Y⟩) (by simp;lia) λi x y J F=>?_
 rw[wC]at J F
 cases qa:O[i]? with
 | none=>rw[qa]at J;cases J
 | some a=>
  cases qb:bs[i]? with
  | none=>rw[qb]at F;cases F
  | some b=>
   rw[qa]at J;rw[qb]at F
   cases J;cases F
   have hi:i<rs.length:=by have:=(Kq.mp qa).1;lia
   exact Gr.seqFlat (.inl ⟨su.of (Z i a _ qa (qz hi)),su.of (U i b _ qb (qz hi))⟩) (yV _)
theorem xZ{K:W.Frag}{pr L:Addr}{g:TG}{te:TE}{nT:Nat}{σ:L2.St}{Q:VK}{H:Hp}{rs:List (List LG)}{as:LC}(hR:FX H pr rs as)(hn:rs.length<=60)(hL:H L=none)
  (hs:∀(a:Addr) (xs:LB) (H':Hp) (C:VK),H' a=some (.lst xs)->(∀l,H' l=none->C (.ref l) (upd H' l (.lst xs)))->g (.ref a) (σ++List.replicate nT none) H' λσ2 H2=>te σ2 H2 C)
  (q:∀H' bs,sj H H'->FX H' L rs bs->(∀b∈bs,H b=none/\b≠L)->bs.Nodup->Q (.ref L) H'):f6 (k8 K pr) g lH te nT σ L Q (upd H L (.lst [])):=by
 obtain⟨h1,h2,h3⟩:=hR
 refine fu (xs:=as.map V.ref) (λi ys H'=>∃bs:LC,sj H H'/\H' L=some (.lst ys)/\ys=bs.map V.ref/\bs.length=i/\(∀b∈bs,H b=none/\b≠L/\∃o,H' b=some o)/\bs.Nodup/\∀(j:Nat) b x,bs[j]?=some b->rs[j]?=some x->H' b=some (.lst (x.map aV)))
  ⟨[],am hL _,ai,rfl,rfl,by simp,IM,by simp⟩ (λi ys H' _ h=>by obtain⟨_,sm,_⟩:=h;exact su.of (sm _ _ h1)) ?_ ?_
 .rintro i ys H' x hx hi ⟨bs,sm,hl,rfl,hb,J,U,Y⟩
  rw[wC]at hx
  cases qa:as[i]? with
  | none=>rw[qa]at hx;cases hx
  | some a=>
   rw[qa]at hx;cases hx
   have ab:i<rs.length:=by have:=(Kq.mp qa).1;lia
   have ha:=h3 i a _ qa (qz ab);have e:=hs a _ H' (g_ (as.map V.ref).length i (λi ys H'=>∃bs:LC,sj H H'/\H' L=some (.lst ys)/\ys=bs.map V.ref/\bs.length=i/\(∀b∈bs,H b=none/\b≠L/\∃o,H' b=some o)/\bs.Nodup/\∀(j:Nat) b x,bs[j]?=some b->rs[j]?=some x->H' b=some (.lst (x.map aV))) L (bs.map V.ref)) (sm _ _ ha) ?_
   .have e2:(jC (as.map V.ref).length i (λi ys H'=>∃bs:LC,sj H H'/\H' L=some (.lst ys)/\ys=bs.map V.ref/\bs.length=i/\(∀b∈bs,H b=none/\b≠L/\∃o,H' b=some o)/\bs.Nodup/\∀(j:Nat) b x,bs[j]?=some b->rs[j]?=some x->H' b=some (.lst (x.map aV))) L (bs.map V.ref) te)=λσ2 H2=>te σ2 H2 (g_ (as.map V.ref).length i (λi ys H'=>∃bs:LC,sj H H'/\H' L=some (.lst ys)/\ys=bs.map V.ref/\bs.length=i/\(∀b∈bs,H b=none/\b≠L/\∃o,H' b=some o)/\bs.Nodup/\∀(j:Nat) b x,bs[j]?=some b->rs[j]?=some x->H' b=some (.lst (x.map aV))) L (bs.map V.ref)):=by
     funext σ2 H2;exact lK
    rw[e2];exact e
   .intro l F
    have nl:l≠L:=by
     rintro rfl
     rw[hl]at F;cases F
    have ad:upd H' l (.lst ((rs[i]).map aV)) L=some (.lst (bs.map V.ref)):=by rw[au (mS nl)];exact hl
    refine fM hi (by rw[zj];exact hb) (by rw[zj,h2];exact aU (by lia)) ad ⟨bs++[l],(sm.trans (am F _)).upd hL _,ai,by rw[yd];rfl,by simp[hb],?_,?_,?_⟩
    .intro b Z
     rcases KA.mp Z with z | z
     .obtain⟨z1,z2,o,z3⟩:=J b z
      exact⟨z1,z2,o,by rw[au z2];exact(am F _) _ _ z3⟩
     .rw[Kw.mp z]
      exact⟨sm.free F,nl,_,by rw[au nl];exact ai⟩
    .rw[IQ]
     refine⟨U,by simp,λb Z c hc=>?_⟩
     rw[Kw.mp hc];rintro rfl
     obtain⟨_,_,o,z⟩:=J b Z
     rw[F]at z;cases z
    .intro j b x O e2
     rcases iz j bs.length with z | z
     .rw[xG z]at O
      have q1:=Y j b x O e2;have q2:=(J b (kg O)).2.1;rw[au q2];exact(am F _) _ _ q1
     .rw[gT z]at O
      have hj:j-bs.length=0:=by
       have:=(Kq.mp O).1
       simp at this;lia
      rw[hj]at O
      have ag:l=b:=by simpa using O
      subst ag;have ac:j=i:=by lia
      subst ac;rw[qz ab]at e2
      cases e2;rw[au nl];exact ai
 .rintro ys H' ⟨bs,sm,hl,rfl,hb,J,U,Y⟩
  exact q H' bs sm ⟨hl,by rw[hb,zj,h2],Y⟩ (λb z=>⟨(J b z).1,(J b z).2.1⟩) U
noncomputable def step(r:Rl)(k:Nat)(y:Str):LG:=if y∈r.ws then (r.rs.getD k []).getD (r.ws.idxOf y) none else some k
noncomputable def after(r:Rl):Nat->KZ->LG
 | k,[]=>some k
 | k,y::ys=>match step r k y with
  | none=>none
  | some k'=>after r k' ys
theorem mZ{r:Rl}{k:Nat}(ok:eR r)(J:k<r.rs.length)(h:step r k y=some j):j<r.rs.length:=by
 unfold step at h
 by_cases hy:y∈r.ws
 .rw[Kx hy,xf (l:=r.rs),qz J]at h
  have hx:=ok.row r.rs[k] (nY J);have O:r.ws.idxOf y<(r.rs[k]).length:=by rw[hx.1];exact KM.mpr hy
  have h':(r.rs[k]).getD (r.ws.idxOf y) none=some j:=h
  rw[xf,qz O]at h'
  have F:(r.rs[k])[r.ws.idxOf y]=some j:=h'
  exact hx.2 j (F ▸ nY O)
 .rw[Kt hy]at h
  cases h;exact J
def ur:Sp:=λvs H Q _=>∃(p:Addr) (r:Rl) (k:Nat) (y:Str),vs=[.ref p,.int k,.str y]/\CT H p r/\eR r/\k<r.rs.length/\Q (aV (step r k y)) H
def AJ(K:W.Frag):Sp:=λvs H Q _=>∃(p b:Addr) (r:Rl) (j:Nat) (ys:KZ),vs=[.ref p,.int j,.ref b]/\CT H p r/\eR r/\j<r.rs.length/\su K H b (ys.map V.str)/\Q (aV (after r j ys)) H
theorem v5{r:Rl}{k:Nat}{x:List LG}(ok:eR r)(hx:r.rs[k]?=some x)(F:y∈r.ws):(x.map aV)[r.ws.idxOf y]?=some (aV (step r k y)):=by
 have J:r.ws.idxOf y<x.length:=by rw[(ok.row x (kg hx)).1];exact KM.mpr F
 rw[wC,qz J];show some (aV x[r.ws.idxOf y])=_
 unfold step;rw[Kx F,xf (l:=r.rs),hx];show _=some (aV (x.getD (r.ws.idxOf y) none))
 rw[xf,qz J];rfl
theorem Ex(D:xn K mg "next_room" dk):aF P w K mg base 1 "next_room" qAh ur:=by
 refine D.cal GF (λf W A outer s H vs Q E hr h=>?_)
 obtain⟨p,r,k,y,rfl,Z,ok,hk,q⟩:=h
 obtain⟨pw,pr,U,h1,h2,Y,h4,h5⟩:=Z
 refine⟨_,(ah (aw 3 GF.nd (ak (av K) (pv 0) af))
   (ah (bf (az (kh K) (pv 2) (pv 3) (by with_unfolding_all rfl)) (aj (aA (pv 1))) aN)
   (aj (aA (ak (av K) (ak (av K) (ak (av K) (pv 0) af) (pv 1)) (bH K xh zbv F.type_list_index (pq K) (pv 3) (aa (pv 2) ae))))))),?_⟩
 walk_at "r";refine⟨_,_,.inr (vr.of h1),rfl,?_⟩
 walk_at "n";refine⟨_,.inl (su.of h2),rfl,pE _,?_⟩
 rw[uQ];refine bx (λc=>?_) (λc=>?_)
 .have J:y∉r.ws:=by simpa using c
  have e:step r k y=some k:=by unfold step;rw[Kt J]
  rw[e]at q;exact q
 .have J:y∈r.ws:=by simpa using c
  obtain⟨b,O⟩ : ∃b,U[k]?=some b:=⟨U[k],qz (by lia)⟩
  obtain⟨x,hx⟩ : ∃x,r.rs[k]?=some x:=⟨_,qz hk⟩
  walk_at "n";refine⟨_,_,.inr (vr.of h1),rfl,?_⟩
  walk_at "r";refine⟨_,_,.inl (su.of Y),(ji (by lia) (by simpa using O)),?_⟩
  walk_at "r";refine⟨⟨_,su.of h2⟩,_,su.of h2,J,?_⟩
  exact⟨_,_,.inl (su.of (h5 k b x O hx)),(ap (v5 ok hx J)),q⟩
theorem wM{r:Rl}{k i:Nat}{ys:KZ}{y:Str}(h:ys[i]?=some y):after r k (ys.drop i)=match step r k y with
  | none=>none
  | some k'=>after r k' (ys.drop (i+1)):=by
 have hi:=(Kq.mp h);obtain⟨hi,e⟩:=hi
 rw[za7 hi,e]
 rfl
theorem ut(D:xn K mg "room_from" cE) (F:aF P w K mg base 1 "next_room" qAh ur):aF P w K mg base 2 "room_from" qAt (AJ K):=by
 refine D.cal Gb (λf W A outer s H vs Q E hr h=>?_)
 obtain⟨p,b,r,j,ys,rfl,Y,ok,Z,U,q⟩:=h
 refine⟨_,(ah (b4 xH rfl (bL K (pv 2)) (aM 3 Gb.nd) (ah (aw 1 Gb.nd (ay F hr (aa (pv 0) (aa (pv 1) (aa (pv 3) ae)))))
   (aj (bf (az kJ (pv 1) dB (aG _)) (aj (aA dB)) aN))))
   (aj (aA (pv 1)))),?_⟩
 walk_at "r";refine⟨⟨_,U⟩,?_⟩
 refine cB (xs:=ys.map V.str) (λi σ H'=>∃(k:Nat) (o:LK),σ=[some (.ref p),some (.int k),some (.ref b),o]/\H=H'/\k<r.rs.length/\after r j ys=after r k (ys.drop i)) ⟨j,none,rfl,rfl,Z,rfl⟩ (λi σ H' _ h=>by obtain⟨_,_,_,rfl,_⟩:=h;exact U) ?_ ?_
 .rintro i x σ H' hx ⟨k,o,rfl,rfl,O,e⟩
  rw[wC]at hx
  cases qy:ys[i]? with
  | none=>rw[qy]at hx;cases hx
  | some y=>
   rw[qy]at hx;cases hx
   rw[wM qy]at e
   walk_at "r";refine⟨p,r,k,y,rfl,Y,ok,O,?_⟩
   cases hst:step r k y with
   | none=>
    rw[hst]at e
    walk_at "n";refine bx (λc=>?_) (λc=>?_)
    .rw[e]at q;exact q
    .exact absurd rfl c
   | some k'=>
    rw[hst]at e
    have J:=mZ ok O hst;walk_at "n";refine bx (λc=>?_) (λc=>?_)
    .cases c
    .exact⟨k',_,rfl,J,e⟩
 .rintro σ H' ⟨k,o,rfl,rfl,O,e⟩
  rw[zj,List.drop_length]at e
  walk_at "n";have e':after r j ys=some k:=e
  rw[e']at q;exact q
theorem mh{c:Addr}(h:BM H c R)(e:R[i]?=some r):∃(F:LC) (b:Addr),H c=some (.lst (F.map V.ref))/\F.length=R.length/\F[i]?=some b/\H b=some (.tup r):=by
 obtain⟨F,a1,a2⟩:=h
 have hl:=aI a2;have hi:=(Kq.mp e).1;have J:i<F.length:=by lia
 obtain⟨W,O,U⟩:=cg a2 (qz J)
 rw[e]at O
 cases O;exact⟨F,_,a1,hl,qz J,U⟩
theorem fP(x:Str):∀ss:KZ,jQ (.str x) (ss.map V.str)=decide (x∈ss)
 | []=>rfl
 | y::ss=>by
  have ih:=fP x ss;show (gn (.str y) (.str x)||jQ (.str x) (ss.map V.str))=_
  rw[ih];show ((y==x)||decide (x∈ss))=_
  by_cases h:y=x
  .subst h;simp
  .have h2:¬ x=y:=λz=>h z.symm
   rw[beq_eq_false_iff_ne.mpr h];simp[h2]
inductive CY (N:Nat):aD->Prop
 | op (l s:Nat):s<N->CY N [.str "open",iN l,iN s]
 | dd (l s:Nat) (x:Str):s<N->CY N [.str "do",iN l,iN s,.str x]
 | cp (l s t:Nat):s<N->t<N->CY N [.str "copy",iN l,iN s,iN t]
 | dr (l s:Nat):s<N->CY N [.str "drop",iN l,iN s]
 | ti (l s t:Nat):s<N->t<N->CY N [.str "tie",iN l,iN s,iN t]
 | ts (l:Nat) (n:Int) (j:Nat):CY N [.str "test",iN l,.int n,iN j]
 | jm (l j:Nat):CY N [.str "jump",iN l,iN j]
 | en (l:Nat):CY N [.str "end",iN l]
noncomputable def aY(r:aD)(k:Nat):Nat:=match r.getD k .non with
 | .int j=>j.toNat
 | _=>0
noncomputable def bX(r:aD):Str:=match r.getD 0 .non with
 | .str x=>x
 | _ => ""
def Aj(r:aD):Str:=match r.getD 3 .non with
 | .str x=>x
 | _ => ""
theorem CY.hd(h:CY N r):r[0]?=some (.str (bX r)):=by cases h<;>rfl
theorem CY.s2{N:Nat}{r:aD}(h:CY N r)(g:bX r∈(qAq:KZ)):r[2]?=some (.int (aY r 2:Nat))/\aY r 2<N:=by
 cases h with
 | op l s h | dr l s h=>exact⟨rfl,h⟩
 | dd l s x h=>exact⟨rfl,h⟩
 | cp l s t h _ | ti l s t h _=>exact⟨rfl,h⟩
 | ts l n j=>exact absurd g (by show ¬ (("test" : Str)∈_);decide)
 | jm l j=>exact absurd g (by show ¬ (("jump" : Str)∈_);decide)
 | en l=>exact absurd g (by show ¬ (("end" : Str)∈_);decide)
theorem CY.s3{N:Nat}{r:aD}(h:CY N r)(g:bX r∈(qAp:KZ)):r[3]?=some (.int (aY r 3:Nat))/\aY r 3<N:=by
 cases h with
 | cp l s t _ h | ti l s t _ h=>exact⟨rfl,h⟩
 | op l s h=>exact absurd g (by show ¬ (("open" : Str)∈_);decide)
 | dr l s h=>exact absurd g (by show ¬ (("drop" : Str)∈_);decide)
 | dd l s x h=>exact absurd g (by show ¬ (("do" : Str)∈_);decide)
 | ts l n j=>exact absurd g (by show ¬ (("test" : Str)∈_);decide)
 | jm l j=>exact absurd g (by show ¬ (("jump" : Str)∈_);decide)
 | en l=>exact absurd g (by show ¬ (("end" : Str)∈_);decide)
theorem CY.wd{N:Nat}{r:aD}(h:CY N r)(g:bX r = "do"):r[3]?=some (.str (Aj r)):=by
 cases h with
 | dd l s x h=>rfl
 | op l s h=>exact absurd g (by show ¬ (("open" : Str)=_);decide)
 | dr l s h=>exact absurd g (by show ¬ (("drop" : Str)=_);decide)
 | cp l s t _ h=>exact absurd g (by show ¬ (("copy" : Str)=_);decide)
 | ti l s t _ h=>exact absurd g (by show ¬ (("tie" : Str)=_);decide)
 | ts l n j=>exact absurd g (by show ¬ (("test" : Str)=_);decide)
 | jm l j=>exact absurd g (by show ¬ (("jump" : Str)=_);decide)
 | en l=>exact absurd g (by show ¬ (("end" : Str)=_);decide)
noncomputable def fA(r:aD)(n:Nat):Nat:=if bX r = "copy" /\ cR n (aY r 3)=true then iF n (aY r 2) else if bX r∈(qAr:KZ) then iS n (aY r 2) else n
def l7:Sp:=λvs H Q _=>∃s n:Nat,vs=[.int (s:Int),.int (n:Int)]/\Q (.bl (cR n s)) H
theorem EJ(D:xn K mg "is_in" je):aF P w K mg base 1 "is_in" qAU l7:=by
 refine D.cal (k:=0) Cu (λf J A outer O H vs Q E U h=>?_)
 obtain⟨s,n,rfl,q⟩:=h
 refine⟨_,(aj (aA (jk bn (ar j6 (ar uf (pv 1) (pv 0)) af) af (aG _)))),?_⟩
 walk_at "r";refine⟨by lia,?_⟩
 rw[gE,GC];have e:decide ((if cR n s=true then (1:Int) else 0)=1)=cR n s:=by cases cR n s<;>decide
 rw[e];exact q
def jW:Sp:=λvs H Q _=>∃s n:Nat,vs=[.int (s:Int),.int (n:Int)]/\s<=1000000/\Q (.int (iS n s:Nat)) H
theorem xm(D:xn K mg "without" gN):aF P w K mg base 1 "without" qAU jW:=by
 refine D.cal (k:=0) xl (λf F A outer O H vs Q E W h=>?_)
 obtain⟨s,n,rfl,U,q⟩:=h
 refine⟨_,(aj (aA (ar j6 (pv 1) (fN GG (ar mn af (pv 0)))))),?_⟩
 walk_at "r";refine⟨⟨by lia,by lia,by decide⟩,?_⟩
 rw[gE,show (1:Int)*2^s=((2^s:Nat):Int) by push_cast;lia,uC]
 exact q
def zZ:Sp:=λvs H Q _=>∃(b:Addr) (r:aD) (n N:Nat),vs=[.ref b,.int (n:Int)]/\b6 H b r/\CY N r/\N<=1000000/\∀H':Hp,sj H H'->Q (.int (fA r n:Nat)) H'
theorem Fh(D:xn K mg "held_behind" c6) (U:aF P w K mg base 1 "is_in" qAU l7) (J:aF P w K mg base 1 "without" qAU jW):aF P w K mg base 2 "held_behind" qAw zZ:=by
 refine D.cal (k:=1) ng (λf ab A outer s0 H vs Q E hr h=>?_)
 obtain⟨b,r,n,N,rfl,W,Z,hN,q⟩:=h
 refine⟨_,(ah (bf (PW.pt' (eI (az bn (ak (av K) (pv 0) af) ax (aG _)) (fz (dF (ay U hr (aa (ak (av K) (pv 0) af) (aa (pv 1) ae))))))) (aj (aA (ar Jj (pv 1) (ar mn af (ak (av K) (pv 0) af))))) aN)
   (ah (bf (az (j3 K) (ak (av K) (pv 0) af) (aQ (aa ax (aa ax (aa ax ae)))) (by with_unfolding_all rfl)) (aj (aA (ay J hr (aa (ak (av K) (pv 0) af) (aa (pv 1) ae))))) aN)
   (aj (aA (pv 1))))),?_⟩
 walk_at "r";refine⟨_,_,.inr (vr.of W),ap (j:=0) Z.hd,?_⟩
 walk_at "r";refine bx (λc=>?_) (λc=>?_)
 .obtain⟨h2,l2⟩:=Z.s2 (by rw[c];decide)
  obtain⟨h3,l3⟩:=Z.s3 (by rw[c];decide)
  refine⟨_,_,.inr (vr.of W),ap (j:=3) h3,?_⟩
  refine⟨aY r 3,n,rfl,_,rfl,bx (λd=>?_) (λd=>?_)⟩
  .refine⟨_,_,.inr (vr.of W),ap (j:=2) h2,?_⟩
   walk_at "r";refine⟨⟨by lia,by lia,by decide⟩,?_⟩
   have F:=q H (λ_ _ z=>z)
   unfold fA at F;rw[Kx ⟨c,d⟩]at F
   rw[gE,show (1:Int)*2^aY r 2=((2^aY r 2:Nat):Int) by push_cast;lia]
   show Q (V.int (Builtin.bitOr (n:Int) ((2^aY r 2:Nat):Int))) H
   rw[FD];exact F
  .have cc:¬ (bX r = "copy" /\ cR n (aY r 3)=true):=λz=>d z.2
   walk_at "n";refine⟨_,_,.inr (vr.of W),ap (j:=0) Z.hd,by decide,λp hp=>?_⟩
   have Y:=am hp (.tup [V.str "open",.str "copy",.str "drop"]);refine⟨_,.inr (vr.of ai),rfl,rfl,?_⟩
   have O:=Y _ _ W;generalize upd H p (.tup [V.str "open",.str "copy",.str "drop"])=H1 at Y O |-;rw[show [V.str "open",.str "copy",.str "drop"]=(qAr:KZ).map V.str from rfl,fP];have F:=q H1 Y;unfold fA at F;rw[Kt cc]at F
   refine bx (λe=>?_) (λe=>?_)
   .have e:=of_decide_eq_true e
    rw[Kx e]at F
    obtain⟨h2,l2⟩:=Z.s2 (by simp only[wQ,yh,or_false]at e |-;rcases e with e | e | e<;>simp[e])
    exact⟨_,_,.inr (vr.of O),ap (j:=2) h2,aY r 2,n,rfl,by lia,F⟩
   .rw[Kt (λz=>e (decide_eq_true z))]at F
    walk_at "n";exact F
 .have cc:¬ (bX r = "copy" /\ cR n (aY r 3)=true):=λz=>c z.1
  walk_at "n";refine⟨_,_,.inr (vr.of W),ap (j:=0) Z.hd,by decide,λp hp=>?_⟩
  have Y:=am hp (.tup [V.str "open",.str "copy",.str "drop"]);refine⟨_,.inr (vr.of ai),rfl,rfl,?_⟩
  have O:=Y _ _ W;generalize upd H p (.tup [V.str "open",.str "copy",.str "drop"])=H1 at Y O |-;rw[show [V.str "open",.str "copy",.str "drop"]=(qAr:KZ).map V.str from rfl,fP];have F:=q H1 Y;unfold fA at F;rw[Kt cc]at F
  refine bx (λe=>?_) (λe=>?_)
  .have e:=of_decide_eq_true e
   rw[Kx e]at F
   obtain⟨h2,l2⟩:=Z.s2 (by simp only[wQ,yh,or_false]at e |-;rcases e with e | e | e<;>simp[e])
   exact⟨_,_,.inr (vr.of O),ap (j:=2) h2,aY r 2,n,rfl,by lia,F⟩
  .rw[Kt (λz=>e (decide_eq_true z))]at F
   walk_at "n";exact F
def db(H:Hp)(t:Addr)(n k:Nat):Prop:=H t=some (.tup [.int (n:Int),.int (k:Int)])
def qf:Sp:=λvs H Q _=>∃(t:Addr) (n k:Nat),vs=[.ref t]/\db H t n k/\Q (.bl false) H
theorem FO(D:xn K mg "is_of_two" fH) (F:wAK mg):aF P w K mg base 1 "is_of_two" ["token"] qf:=by
 refine D.cal (k:=0) ql (λf J A outer W H vs Q E Y h=>?_)
 obtain⟨t,n,k,rfl,O,q⟩:=h
 refine⟨_,(aj (aA (jk kO (bm (aR K) F bG (aa (pv 0) ae)) af (aG _)))),?_⟩
 walk_at "r";refine⟨_,.inr (vr.of O),?_⟩
 walk_at "r";exact q
def D4:Sp:=λvs H Q _=>∃(t:Addr) (n k:Nat),vs=[.ref t]/\db H t n k/\∀H':Hp,sj H H'->Q (.bl true) H'
theorem FN(D:xn K mg "has_room" gj) (F:wAK mg):aF P w K mg base 1 "has_room" ["token"] D4:=by
 refine D.cal (k:=0) uF (λf J A outer Y H vs Q E Z h=>?_)
 obtain⟨t,n,k,rfl,O,q⟩:=h
 refine⟨_,(aj (aA (jk (j3 K) (bm (aR K) F bG (aa (pv 0) ae)) (aQ (aa af (aa af ae))) (by with_unfolding_all rfl)))),?_⟩
 walk_at "r";refine⟨_,.inr (vr.of O),by decide,λp W=>?_⟩
 exact⟨_,.inr (vr.of ai),rfl,rfl,q _ (am W _)⟩
noncomputable def gm(r:aD)(n:Nat):KZ:=if bX r = "do" /\ cR n (aY r 2)=true then [Aj r] else []
def mF(e:Str->Prop):Sp:=λvs H Q _=>∃(b t:Addr) (r:aD) (n k N:Nat),vs=[.ref b,.ref t]/\b6 H b r/\CY N r/\e (bX r)/\db H t n k/\∀(L:Addr) (H':Hp),sj H H'->H L=none->H' L=some (.lst ((gm r n).map V.str))->Q (.ref L) H'
theorem E5(D:xn K mg "texts_done" bu) (J:aF P w K mg base 1 "is_in" qAU l7) (F:aF P w K mg base 1 "is_of_two" ["token"] qf):aF P w K mg base 2 "texts_done" qAc (mF (· = "do")):=by
 refine D.cal (k:=1) F5 (λf ab A outer s0 H vs Q E U h=>?_)
 obtain⟨b,t,r,n,k,N,rfl,Y,Z,hd,W,q⟩:=h
 refine⟨_,(ah (aw 2 F5.nd (ak (av K) (pv 0) af) (hx:=P9))
   (ah (aw 3 F5.nd (ak (av K) (pv 0) af) (hx:=Pq))
   (ah (bf (jj (dF (ay F U (aa (pv 1 (hv:=JN)) ae)))) (aj (aA (fS (dF (ay J U (aa (pv 2 (hv:=Pe)) (aa (ak (av K) (pv 1 (hv:=JN)) af) ae)))) (aJ (aa (pv 3 (hv:=PC)) ae)) (aJ ae)))) aN)
   (aj (aA (dz (Cq.to (fsc:=(sg bu)) (N:=qAa) (N0:=qAa) (T:=["side"])) rfl ((hZ K) (aQ (aa af (aa af ae)))) (λ_ _ _ _=>(aM 4 (show (["row","token","slot","word","side"]:KZ).Nodup from by decide +kernel))) (ci (show (qAa:KZ).length<=4 from by decide)) (λ_ _ _ _=>(iC (dF (ay J U (aa (pv 2 (hv:=(cr (sg bu) (by decide +kernel)))) (aa (ak (av K) (pv 1 (hv:=(cr (sg bu) (by decide +kernel)))) (ar gb (pv 4) af)) ae)))))) (λ_ _ _ _=>(EN (nR (AT (pv 4)) (nR ax (nR (AT (pv 3 (hv:=(cr (sg bu) (by decide +kernel))))) Hm))))))))))),?_⟩
 obtain⟨h2,l2⟩:=Z.s2 (by rw[hd];decide)
 have h3:=Z.wd hd;walk_at "r";refine⟨_,_,.inr (vr.of Y),ap (j:=2) h2,?_⟩
 walk_at "n";refine⟨_,_,.inr (vr.of Y),ap (j:=3) h3,?_⟩
 walk_at "n";refine⟨t,n,k,rfl,W,_,rfl,?_⟩
 rw[Kx (by decide)]
 refine⟨_,_,.inr (vr.of W),rfl,?_⟩
 refine⟨aY r 2,n,rfl,_,rfl,bx (λc=>?_) (λc=>?_)⟩
 .refine⟨by decide,λp O=>q p _ (am O _) O ?_⟩
  unfold gm;rw[Kx ⟨hd,c⟩];exact ai
 .refine⟨by decide,λp O=>q p _ (am O _) O ?_⟩
  unfold gm;rw[Kt (λz=>c z.2)]
  exact ai
theorem B9(D:xn K mg "texts_at" d0) (F:aF P w K mg base 2 "texts_done" qAc (mF (· = "do"))) (J:aF P w K mg base 1 "is_of_two" ["token"] qf):aF P w K mg base 3 "texts_at" qAc (mF (· ≠ "end")):=by
 refine D.cal (k:=2) uI (λf Z A outer s0 H vs Q E Y h=>?_)
 obtain⟨b,t,r,n,k,N,rfl,O,U,hd,ht,q⟩:=h
 refine⟨_,(ah (bf (az bn (ak (av K) (pv 0) af) ax (aG _)) (aj (aA (ay F Y (aa (pv 0) (aa (pv 1) ae))))) aN)
   (ah (bf (az qF (ak (av K) (pv 0) af) ax (aG _)) (aj (aA (aJ ae))) aN)
   (ah (bf (jj (dF (ay J Y (aa (pv 1) ae)))) (aj (aA (aJ (aa ax ae)))) aN)
   (aj (aA (fS (az bn (ak (av K) (pv 1) af) af (aG _)) (aJ (aa ax (aa ax ae))) (aJ (aa ax (aa ax ae))))))))),?_⟩
 walk_at "r";refine⟨_,_,.inr (vr.of O),ap (j:=0) U.hd,?_⟩
 walk_at "r";refine bx (λc=>?_) (λc=>?_)
 .exact⟨b,t,r,n,k,N,rfl,O,U,c,ht,q⟩
 .walk_at "n"
  refine⟨_,_,.inr (vr.of O),ap (j:=0) U.hd,?_⟩
  walk_at "r";rw[Kx (by simpa using hd)]
  refine⟨by decide,λp W=>?_⟩
  refine q p _ (am W _) W ?_
  unfold gm;rw[Kt (λz=>c z.1)]
  exact ai
def vX:Sp:=λvs H Q _=>∃(p b t:Addr) (rl:Rl) (r:aD) (n k N:Nat),vs=[.ref p,.ref b,.ref t]/\CT H p rl/\eR rl/\k<rl.rs.length/\b6 H b r/\CY N r/\bX r ≠ "end" /\ db H t n k/\∀H':Hp,sj H H'->Q (aV (after rl k (gm r n))) H'
theorem Bd(D:xn K mg "room_behind" cN) (F:aF P w K mg base 2 "room_from" qAt (AJ K)) (J:aF P w K mg base 3 "texts_at" qAc (mF (· ≠ "end"))):aF P w K mg base 4 "room_behind" qAi vX:=by
 refine D.cal (k:=3) mW (λf Z A outer s0 H vs Q E Y h=>?_)
 obtain⟨p,b,t,rl,r,n,k,N,rfl,hR,ok,O,hb,hk,hd,U,q⟩:=h
 refine⟨_,(aj (aA (ay F Y (aa (pv 0) (aa (ak (av K) (pv 2) (fN eX af)) (aa (ay J Y (aa (pv 1) (aa (pv 2) ae))) ae)))))),?_⟩
 walk_at "r";refine⟨_,_,.inr (vr.of U),rfl,?_⟩
 refine⟨b,t,r,n,k,N,rfl,hb,hk,hd,U,λL H1 W hL e1=>?_⟩
 exact⟨p,L,rl,k,_,rfl,hR.mono W,ok,O,su.of e1,q H1 W⟩
noncomputable def jv(rl:Rl)(r:aD)(n k:Nat):Option (Nat×Nat):=if bX r = "end" then none else (after rl k (gm r n)).map λj=>(fA r n,j)
def O6(H:Hp)(o:Option (Nat×Nat))(Q:VK):Prop:=∀H':Hp,sj H H'->(o=none->Q .non H')/\∀(m j:Nat) (u:Addr),o=some (m,j)->H u=none->db H' u m j->Q (.ref u) H'
def DR:Sp:=λvs H Q _=>∃(c p t:Addr) (R:List aD) (rl:Rl) (r:aD) (i n k N:Nat),vs=[.ref c,.ref p,.int (i:Int),.ref t]/\BM H c R/\R[i]?=some r/\CT H p rl/\eR rl/\k<rl.rs.length/\CY N r/\N<=1000000/\db H t n k/\O6 H (jv rl r n k) Q
theorem Iv(D:xn K mg "behind_at" aZ) (Y:mg "tuple" = none) (O:aF P w K mg base 1 "is_of_two" ["token"] qf) (U:aF P w K mg base 1 "has_room" ["token"] D4) (F:aF P w K mg base 2 "held_behind" qAw zZ) (J:aF P w K mg base 4 "room_behind" qAi vX):aF P w K mg base 5 "behind_at" qAS DR:=by
 refine D.cal (k:=4) DU (λf bp A outer s0 H vs Q E hr h=>?_)
 obtain⟨c,p,t,R,rl,r,i,n,k,N,rfl,hL,a9,hR,ok,a8,hk,hN,ht,q⟩:=h
 refine⟨_,(ah (aw 4 DU.nd (ak (av K) (pv 0) (pv 2)) (hx:=O9))
   (ah (bf (az bn (ak (av K) (pv 4 (hv:=IG)) af) ax (aG _)) (aj (aA dB)) aN)
   (ah (aw 5 DU.nd (fS (dF (ay O hr (aa (pv 3) ae))) af af))
   (ah (aw 6 DU.nd (ar (gD K) (ee (oS K) Y lN (aa (dz (Cq.to (fsc:=(sg aZ)) (N:=qAJ) (N0:=qAJ) (T:=["held"])) rfl ((hZ K) (dW (gA K) (pv 3) fw (cP (pv 5)))) (λ_ _ _ _=>(aM 8 (show (["code","rule","at","token","row","count","behind","room","held"]:KZ).Nodup from by decide +kernel))) (ci (show (qAJ:KZ).length<=8 from by decide)) (λ_ _ _ _=>c7) (λ_ _ _ _=>(ay F hr (aa (pv 4 (hv:=(cr (sg aZ) (by decide +kernel)))) (aa (pv 8) ae))))) ae)) (dW (gA K) (pv 3) (cP (pv 5)) fw)))
   (ah (bf (jj (dF (ay U hr (aa (pv 3) ae)))) (aj (aA (pv 6))) aN)
   (ah (aw 7 DU.nd (ay J hr (aa (pv 1) (aa (pv 4 (hv:=IG)) (aa (pv 3) ae)))))
   (aj (aA (fS (az kJ (pv 7) dB (aG _)) dB (ar (gD K) (dW (gA K) (pv 6) fw (cP (fN eX af))) (aQ (aa (pv 7) ae)))))))))))),?_⟩
 obtain⟨as,b,a1,al,ab,hb⟩:=mh hL a9
 have a5:di (as.map V.ref) (i:Int)=some (.ref b):=ap (by rw[wC,ab];rfl)
 walk_at "r";refine⟨_,_,.inl (su.of a1),a5,?_⟩
 walk_at "n";refine⟨_,_,.inr (vr.of hb),ap (j:=0) hk.hd,?_⟩
 walk_at "r";refine bx (λcc=>?_) (λcc=>?_)
 .refine(q H (λ_ _ z=>z)).1 ?_
  unfold jv;rw[Kx cc]
 have a7:jv rl r n k=(after rl k (gm r n)).map λj=>(fA r n,j):=by unfold jv;rw[Kt cc]
 rw[a7]at q
 walk_at "n";refine⟨t,n,k,rfl,ht,?_⟩
 walk_at "n";walk_at "n";refine fR (vr.of ht) (λp1 H1 s1 Z=>?_)
 rw[show dH [V.int (n:Int),.int (k:Int)] none (some 1)=[V.int (n:Int)] from rfl]at Z
 refine⟨p1,rfl,⟨_,Z⟩,λL hL=>?_⟩
 refine jS (xs:=[V.int (n:Int)]) (λi ys H'=>sj H1 H'/\H' L=some (.lst ys)/\ys=[V.int (fA r n:Nat)].take i) ⟨am hL _,ai,rfl⟩ (λi ys H' _ hh=>Z.same hh.1) ?_ ?_
 .rintro i ys H' v hv hi ⟨sm,hl,rfl⟩
  have a6:i=0:=by simpa using hi
  subst a6
  cases hv;walk_at "r";refine⟨b,r,n,N,rfl,sm _ _ (s1 _ _ hb),hk,hN,λH2 s2=>?_⟩
  exact fM (by simp) rfl (aU (by simp)) (s2 _ _ hl) ⟨(sm.trans s2).upd hL _,ai,rfl⟩
 rintro ys H2 ⟨s2,e2,rfl⟩
 walk_at "r";refine⟨_,.inl ⟨su.of e2,λt2 be=>?_⟩⟩
 walk_at "g"
 rename_i H3 s3 e3
 have e3:H3 t2=some (.tup [V.int (fA r n:Nat)]):=e3
 have ac:=s1.trans (s2.trans s3);refine fR (vr.of (ac _ _ ht)) (λp4 H4 s4 a3=>?_)
 rw[show dH [V.int (n:Int),.int (k:Int)] (some 1) none=[V.int (k:Int)] from rfl]at a3
 walk_at "r";refine⟨_,_,vr.of (s4 _ _ e3),a3,by simp,aU (by simp),λhz=>absurd hz (by simp),λ_ t5 bg=>?_⟩
 walk_at "g"
 rename_i H5 s5 e5
 have e5:H5 t5=some (.tup [V.int (fA r n:Nat),V.int (k:Int)]):=e5
 have ad:=ac.trans (s4.trans s5);walk_at "n";refine⟨t,n,k,rfl,ad _ _ ht,λH6 s6=>⟨_,rfl,?_⟩⟩
 rw[Kt (by decide)]
 have W:=ad.trans s6;walk_at "n";refine⟨p,b,t,rl,r,n,k,N,rfl,hR.mono W,ok,a8,W _ _ hb,hk,cc,W _ _ ht,λH7 s7=>?_⟩
 cases ha:after rl k (gm r n) with
 | none=>
  rw[ha]at q
  walk_at "n";rw[Kx (show aV none=V.non from rfl)];exact(q H7 (W.trans s7)).1 rfl
 | some j=>
  rw[ha]at q
  walk_at "n";rw[Kt (by simp[aV])]
  refine fR (vr.of (s7 _ _ (s6 _ _ e5))) (λp8 H8 s8 a4=>?_)
  rw[show dH [V.int (fA r n:Nat),.int (k:Int)] none (some (-1))=[V.int (fA r n:Nat)] from rfl]at a4
  refine⟨by decide,λt9 bc=>?_⟩
  walk_at "g"
  rename_i H9 s9 e9
  walk_at "r";refine⟨_,_,a4.same s9,vr.of e9,by simp,aU (by simp),λhz=>absurd hz (by simp),λ_ u hu=>?_⟩
  have ag:=W.trans (s7.trans (s8.trans s9));exact(q _ (ag.trans (am hu _))).2 _ j u rfl (ag.free hu) ai
theorem va(ks:List aL):∀(i:Nat) (k:aL) (v:V),bT (ij ks i) k=some v->∃n:Nat,v=iN n/\n<i
 | 0,_,_,h=>by cases h
 | i+1,k,v,h=>by
  rw[iL,jp]at h
  split at h
  .exact⟨i,(Option.some.inj h).symm,by lia⟩
  .obtain⟨n,h1,h2⟩:=va ks i k v h
   exact⟨n,h1,by lia⟩
section
variable{kv:List (aL×V)}{N:Nat}
theorem xK(U:∀k,iH kv k->∃n,cn kv k=iN n/\n<N){l:Nat}{ws:KZ}(px:eZ ws)(O:∀n∈cW ws,iH kv (.inr n)):CY N (cZ kv l ws):=by
 unfold cZ;unfold cW at O
 cases px with
 | dd u x=>
  obtain⟨n1,J,F⟩:=U _ (O x (by rw[Kx (show ([("do" : Str),u,x]:KZ).headD "" = "do" from rfl)];simp))
  rw[Kx (show ([("do" : Str),u,x]:KZ).headD "" = "do" from rfl)];show CY N [.str "do",iN l,cn kv (.inr x),.str u]
  rw[J];exact .dd _ _ _ F
 | op x=>
  obtain⟨n1,J,F⟩:=U _ (O x (by rw[Kt (show ¬ ([("open" : Str),x]:KZ).headD "" = "do" from (by decide +kernel:¬ ("open" : Str) = "do"))];simp))
  rw[Kt (show ¬ ([("open" : Str),x]:KZ).headD "" = "do" from (by decide +kernel:¬ ("open" : Str) = "do"))]
  show CY N [.str "open",iN l,cn kv (.inr x)]
  rw[J];exact .op _ _ F
 | dr x=>
  obtain⟨n1,J,F⟩:=U _ (O x (by rw[Kt (show ¬ ([("drop" : Str),x]:KZ).headD "" = "do" from (by decide +kernel:¬ ("drop" : Str) = "do"))];simp))
  rw[Kt (show ¬ ([("drop" : Str),x]:KZ).headD "" = "do" from (by decide +kernel:¬ ("drop" : Str) = "do"))]
  show CY N [.str "drop",iN l,cn kv (.inr x)]
  rw[J];exact .dr _ _ F
 | cp x y=>
  obtain⟨n1,J,F⟩:=U _ (O x (by rw[Kt (show ¬ ([("copy" : Str),x,y]:KZ).headD "" = "do" from (by decide +kernel:¬ ("copy" : Str) = "do"))];simp))
  obtain⟨Z,Y,W⟩:=U _ (O y (by rw[Kt (show ¬ ([("copy" : Str),x,y]:KZ).headD "" = "do" from (by decide +kernel:¬ ("copy" : Str) = "do"))];simp))
  rw[Kt (show ¬ ([("copy" : Str),x,y]:KZ).headD "" = "do" from (by decide +kernel:¬ ("copy" : Str) = "do"))]
  show CY N [.str "copy",iN l,cn kv (.inr x),cn kv (.inr y)]
  rw[J,Y];exact .cp _ _ _ F W
 | ti x y=>
  obtain⟨n1,J,F⟩:=U _ (O x (by rw[Kt (show ¬ ([("tie" : Str),x,y]:KZ).headD "" = "do" from (by decide +kernel:¬ ("tie" : Str) = "do"))];simp))
  obtain⟨Z,Y,W⟩:=U _ (O y (by rw[Kt (show ¬ ([("tie" : Str),x,y]:KZ).headD "" = "do" from (by decide +kernel:¬ ("tie" : Str) = "do"))];simp))
  rw[Kt (show ¬ ([("tie" : Str),x,y]:KZ).headD "" = "do" from (by decide +kernel:¬ ("tie" : Str) = "do"))]
  show CY N [.str "tie",iN l,cn kv (.inr x),cn kv (.inr y)]
  rw[J,Y];exact .ti _ _ _ F W
end
def A9(N E:Nat)(R:List aD)(i:Nat)(r:aD):Prop:=CY N r/\(bX r = "test" -> i+1<aY r 3/\aY r 3<=E)/\(bX r = "jump" -> (i<aY r 2/\aY r 2<=E)\/(aY r 2<=i/\∃q,R[aY r 2]?=some q/\bX q = "test" /\ i<aY q 3))
def Seg(N E:Nat)(R:List aD)(a n:Nat):Prop:=∀i r,a<=i->i<a+n->R[i]?=some r->A9 N E R i r
section
variable{N E:Nat}{R:List aD}{kv:List (aL×V)}
theorem Seg.nil:Seg N E R a 0:=λi r h1 h2=>by lia
theorem Seg.app(h:Seg N E R a n)(k:Seg N E R (a+n) m):Seg N E R a (n+m):=λi r h1 h2=>by
 by_cases c:i<a+n
 .exact h i r h1 c
 .exact k i r (by lia) (by lia)
theorem Seg.one(e:R[a]?=some r)(h:A9 N E R a r):Seg N E R a 1:=λi q h1 h2 F=>by
 have:i=a:=by lia
 subst this;rw[e]at F
 cases F;exact h
theorem Seg.pln(g:Str)(e:R[a]?=some r)(h:CY N r)(hg:bX r=g)(p:g∈(qAs:KZ)):Seg N E R a 1:=Seg.one e ⟨h,λz=>absurd p (by rw[<-hg,z];decide),λz=>absurd p (by rw[<-hg,z];decide)⟩
theorem Seg.tst{n:Int}(e:R[a]?=some [.str "test",iN l,.int n,iN j]) (h:a+1<j) (h2:j<=E):Seg N E R a 1:=Seg.one e ⟨.ts _ _ _,λ_=>⟨h,h2⟩,λz=>absurd (show ("test" : Str) = "jump" from z) (by decide)⟩
theorem Seg.jmp(e:R[a]?=some [.str "jump",iN l,iN j]) (h:(a<j/\j<=E)\/(j<=a/\∃q,R[j]?=some q/\bX q = "test" /\ a<aY q 3)):Seg N E R a 1:=Seg.one e ⟨.jm _ _,λz=>absurd (show ("jump" : Str) = "test" from z) (by decide),λ_=>h⟩
theorem vG(hk:∀k,iH kv k->∃n,cn kv k=iN n/\n<N):∀(d:Nat) (t:Bool) (a l:Nat) (T:List ud),b8 d T->fh kv d l T->CK R (aE kv d t a l T) a->a+(aE kv d t a l T).length<=E->Seg N E R a (aE kv d t a l T).length
 | 0,_,_,_,_,h,_,_,_=>h.elim
 | d+1,t,a,l,T,hf,hkl,hs,U=>by
  have ih:=vG hk d
  have st:∀(s:ud) (a l:Nat),ft (b8 d) s->lO kv (fh kv d) (ao d) l s->CK R (dE kv (aE kv d) (ao d) t a l s) a->a+(dE kv (aE kv d) (ao d) t a l s).length<=E->Seg N E R a (dE kv (aE kv d) (ao d) t a l s).length:=λs a l hq O Y U=>by
   cases s with
   | plain ws=>
    have h1:=xK (l:=l) hk hq.1 O.2
    have h2:bX (cZ kv l ws)=ws.headD "" := by
     unfold cZ;split
     .rename_i z;rw[z];rfl
     .rfl
    exact Seg.pln _ (CK.one Y) h1 h2 (by rcases iW hq.1 with z | z | z | z | z<;>rw[z]<;>decide)
   | lend x y b=>
    obtain⟨k1,k2,k3,k4⟩:=O
    obtain⟨n1,e1,f1⟩:=hk _ k1
    obtain⟨n2,e2,f2⟩:=hk _ k2
    obtain⟨n3,e3,f3⟩:=hk _ k3
    have F:CK R (dI kv (aE kv d) (ao d) t a l x y b) a:=Y
    have J:a+(dI kv (aE kv d) (ao d) t a l x y b).length<=E:=U
    show Seg N E R a (dI kv (aE kv d) (ao d) t a l x y b).length
    unfold dI at F J |-
    rw[e1,e2,e3]at F J |-
    generalize hb:aE kv d t (a+3) (l+1) b=B at F J |-;simp only[qL,qY,yi,nV]at J |-
    have s1:=F.left.left;have A2:=ih t (a+3) (l+1) b hq.2.2 k4 (by rw[hb];exact F.left.right) (by rw[hb];lia)
    have s3:=F.right;rw[hb]at A2
    rw[qL,<-lR]at s3
    have W:Seg N E R a 3:=((Seg.pln "copy" s1.c0 (.cp _ _ _ f3 f1) rfl (by decide)).app (Seg.pln "do" s1.cs.c0 (.dd _ _ _ f3) rfl (by decide))).app (Seg.pln "copy" s1.cs.cs.c0 (.cp _ _ _ f2 f3) rfl (by decide))
    have A3:Seg N E R (a+3+B.length) 3:=((Seg.pln "do" s3.c0 (.dd _ _ _ f3) rfl (by decide)).app (Seg.pln "drop" s3.cs.c0 (.dr _ _ f2) rfl (by decide))).app (Seg.pln "drop" s3.cs.cs.c0 (.dr _ _ f3) rfl (by decide))
    have:=W.app (A2.app A3)
    rw[show 1+1+1+B.length+(1+1+1)=3+(B.length+3) by lia];exact this
   | ite n b c=>
    have F:CK R (gX (aE kv d) (ao d) t a l n b c) a:=Y
    have J:a+(gX (aE kv d) (ao d) t a l n b c).length<=E:=U
    show Seg N E R a (gX (aE kv d) (ao d) t a l n b c).length
    unfold gX at F J |-
    generalize hb:aE kv d t (a+1) (l+1) b=B at F J |-;generalize hc:aE kv d t (a+1+B.length+1) (l+1+ao d b+1) c=C at F J |-;simp only[qL,qY,yi,nV]at J |-
    have s0:=F.left.left.left.one;have W:=ih t (a+1) (l+1) b hq.2.1 O.1 (by rw[hb];exact F.left.left.right) (by rw[hb];lia)
    rw[hb]at W
    have Z:=F.left.right.one;simp only[qL,qY,yi,nV]at Z
    rw[<-lR]at Z
    have sC:=F.right;simp only[qL,qY,yi,nV]at sC
    rw[show a+(1+B.length+1)=a+1+B.length+1 by lia]at sC
    have A2:=ih t _ _ c hq.2.2 O.2 (by rw[hc];exact sC) (by rw[hc];lia)
    rw[hc]at A2
    have:=(Seg.tst (N:=N) s0 (by lia) (by lia)).app (W.app ((Seg.jmp Z (.inl ⟨by lia,by lia⟩)).app A2))
    rw[show 1+B.length+1+C.length=1+(B.length+(1+C.length)) by lia];exact this
   | whl n b=>
    have lp:∀a:Nat,CK R (dJ (aE kv d) (ao d) a l n b) a->a+(dJ (aE kv d) (ao d) a l n b).length<=E->Seg N E R a (dJ (aE kv d) (ao d) a l n b).length:=λa Y U=>by
     unfold dJ at Y U |-
     generalize hb:aE kv d false (a+1) (l+1) b=B at Y U |-;simp only[qL,qY,yi,nV]at U |-
     have s0:=Y.left.left.one;have W:=ih false (a+1) (l+1) b hq.2 O (by rw[hb];exact Y.left.right) (by rw[hb];lia)
     rw[hb]at W
     have Z:=Y.right.one;simp only[qL,qY,yi,nV]at Z
     rw[<-lR]at Z
     have:=(Seg.tst (N:=N) s0 (by lia) (by lia)).app (W.app (Seg.jmp Z (.inr ⟨by lia,_,s0,rfl,by show a+1+B.length<a+1+B.length+1;lia⟩)))
     rw[show 1+B.length+1=1+(B.length+1) by lia];exact this
    have F:CK R (du (aE kv d) (ao d) t a l n b) a:=Y
    have J:a+(du (aE kv d) (ao d) t a l n b).length<=E:=U
    show Seg N E R a (du (aE kv d) (ao d) t a l n b).length
    unfold du at F J |-
    cases t with
    | false=>rw[Kt (by decide)]at F J |-;exact lp a F J
    | true=>
     rw[Kx rfl]at F J |-
     have ac:=js (f:=aE kv d) (cnt:=ao d) (a:=a+1+(aE kv d true (a+1) (l+1) b).length) (l:=l) (n:=n) (b:=b);generalize hb:aE kv d true (a+1) (l+1) b=B at F J ac |-;simp only[qL,qY,yi,nV]at J |-
     have s0:=F.left.left.one;have W:=ih true (a+1) (l+1) b hq.2 O (by rw[hb];exact F.left.right) (by rw[hb];lia)
     rw[hb]at W
     have sL:=F.right;simp only[qL,qY,yi,nV]at sL
     rw[<-lR]at sL
     have A2:=lp _ sL (by lia)
     have:=(Seg.tst (N:=N) s0 (by lia) (by lia)).app (W.app A2)
     rw[lR];exact this
  have go:∀(T:List ud) (a l:Nat),(∀s∈T,ft (b8 d) s)->(∀z∈fE (bw (ao d)) l T,lO kv (fh kv d) (ao d) z.1 z.2)->CK R (cy (dE kv (aE kv d) (ao d) t) (bw (ao d)) a l T) a->a+(cy (dE kv (aE kv d) (ao d) t) (bw (ao d)) a l T).length<=E->Seg N E R a (cy (dE kv (aE kv d) (ao d) t) (bw (ao d)) a l T).length:=λT=>by
   induction T with
   | nil=>intro a l _ _ _ _;exact Seg.nil
   | cons s T ihT=>
    intro a l hf hz hs U
    have ab:CK R (dE kv (aE kv d) (ao d) t a l s++cy _ _ _ _ T) a:=hs
    have J:a+(dE kv (aE kv d) (ao d) t a l s++cy _ _ _ _ T).length<=E:=U
    show Seg N E R a (dE kv (aE kv d) (ao d) t a l s++cy _ _ _ _ T).length
    rw[qL]at J |-
    exact(st s a l (hf s yb) (hz _ yb) ab.left (by lia)).app (ihT _ _ (λs hs=>hf s (yc _ hs)) (λz h=>hz z (yc _ h)) ab.right (by lia))
  exact go T a l hf hkl hs U
end
theorem yq{a b:Int}{ds ts:LJ}(Y:a<b)(hd:∀x,x∈ds ↔ x∈[a,b])(hl:ds.length<=2)(W:ts.Perm ds)(U:ts.Pairwise (· <= ·)):ts=[a,b]:=by
 have O:a∈ts:=W.mem_iff.mpr ((hd a).mpr (by simp))
 have F:b∈ts:=W.mem_iff.mpr ((hd b).mpr (by simp))
 have J:ts.length<=2:=by rw[W.length_eq];exact hl
 match ts,O,F,J,U with
 | [x],O,F,_,_=>
  have e1:=Kw.mp O;have e2:=Kw.mp F;lia
 | [x,y],O,F,_,U=>
  simp only[wQ,yh,or_false]at O F
  have Z:x<=y:=by simp at U;exact U
  have h1:x=a:=by lia
  have h2:y=b:=by lia
  rw[h1,h2]
 | _::_::_::_,_,_,hl,_=>simp at hl
theorem CY.t3(h:CY N r)(g:bX r = "test"):r[3]?=some (.int (aY r 3:Nat)):=by
 cases h<;>first | rfl | (simp only[bX,List.getD_cons_zero]at g;exact absurd g (by decide))
theorem CY.j2(h:CY N r)(g:bX r = "jump"):r[2]?=some (.int (aY r 2:Nat)):=by
 cases h<;>first | rfl | (simp only[bX,List.getD_cons_zero]at g;exact absurd g (by decide))
noncomputable def fV(i:Nat)(r:aD):LN:=if bX r = "end" then [] else if bX r = "jump" then [aY r 2] else if bX r = "test" then [i+1,aY r 3] else [i+1]
structure J3 (N:Nat) (R:List aD):Prop where
 row:∀i r,R[i]?=some r->A9 N (R.length-1) R i r
 en:∃r,R[R.length-1]?=some r/\bX r = "end"
theorem J3.nx(h:J3 N R)(e:R[i]?=some r):∀j∈fV i r,j<R.length:=λj F=>by
 have hi:=(Kq.mp e).1;obtain⟨_,h2,O⟩:=h.row i r e
 obtain⟨q,J,W⟩:=h.en
 unfold fV at F;split at F
 .cases F
 rename_i n1
 have U:i+1<R.length:=by
  rcases iz (i+1) R.length with z | z
  .exact z
  .rw[show R.length-1=i by lia,e]at J
   cases J;exact absurd W n1
 split at F
 .rename_i n3
  rw[Kw.mp F];rcases O n3 with z | z<;>lia
 split at F
 .rename_i n3
  have:=h2 n3
  simp only[wQ,yh,or_false]at F
  rcases F with z | z<;>lia
 .rw[Kw.mp F];exact U
def Hl:Sp:=λvs H Q _=>∃(c:Addr) (R:List aD) (i N:Nat) (r:aD),vs=[.ref c,.int (i:Int)]/\BM H c R/\J3 N R/\R[i]?=some r/\∀(q:Addr) (H':Hp),sj H H'->H q=none->H' q=some (.lst ((fV i r).map iN))->Q (.ref q) H'
theorem uM(D:xn K mg "rows_behind" cz) (J:mg "sorted" = none) (U:mg "set" = none):aF P w K mg base 1 "rows_behind" ["code","at"] Hl:=by
 refine D.cal (k:=0) Gp (λf a5 A outer s0 H vs Q E hr h=>?_)
 obtain⟨c,R,i,N,r,rfl,hL,hC,ag,q⟩:=h
 refine⟨_,(ah (aw 2 Gp.nd (ak (av K) (pv 0) (pv 1)))
   (ah (bf (az bn (ak (av K) (pv 2) af) ax (aG _)) (aj (aA (aJ ae))) aN)
   (ah (bf (az bn (ak (av K) (pv 2) af) ax (aG _)) (aj (aA (aJ (aa (ak (av K) (pv 2) af) ae)))) aN)
   (ah (bf (az bn (ak (av K) (pv 2) af) ax (aG _)) (aj (aA (bm (pU w hr) J iQ (aa (ee (yI K w hr) U tu (aa (aJ (aa (ar aB (pv 1) af) (aa (ak (av K) (pv 2) af) ae))) ae)) ae)))) aN)
   (aj (aA (aJ (aa (ar aB (pv 1) af) ae)))))))),?_⟩
 obtain⟨as,b,a1,al,ab,eb⟩:=mh hL ag
 obtain⟨Y,ht,_⟩:=hC.row i r ag
 unfold fV at q;walk_at "r";refine⟨_,_,.inl (su.of a1),ap (by rw[wC,ab];rfl),?_⟩
 walk_at "n";refine⟨_,_,.inr (vr.of eb),ap (j:=0) Y.hd,?_⟩
 walk_at "r";refine bx (λc1=>?_) (λc1=>?_)
 .rw[Kx c1]at q
  exact⟨by decide,λO F=>q O _ (am F _) F ai⟩
 rw[Kt c1]at q
 walk_at "n";refine⟨_,_,.inr (vr.of eb),ap (j:=0) Y.hd,?_⟩
 walk_at "r";refine bx (λc2=>?_) (λc2=>?_)
 .rw[Kx c2]at q
  refine⟨_,_,.inr (vr.of eb),ap (j:=2) (Y.j2 c2),?_⟩
  exact⟨by decide,λO F=>q O _ (am F _) F ai⟩
 rw[Kt c2]at q
 walk_at "n";refine⟨_,_,.inr (vr.of eb),ap (j:=0) Y.hd,?_⟩
 walk_at "r";refine bx (λc3=>?_) (λc3=>?_)
 .rw[Kx c3]at q
  have Z:=ht c3;refine⟨_,_,.inr (vr.of eb),ap (j:=3) (Y.t3 c3),?_⟩
  generalize aY r 3=j at Z q |-;refine⟨by decide,λO F=>?_⟩
  walk_at "g"
  rename_i H1 s1 e1
  have e1:H1 O=some (.lst ([(i:Int)+1,(j:Int)].map V.int)):=e1
  refine⟨O,_,rfl,su.of e1,by simp,λsl ds a4 a3 ad ac=>?_⟩
  walk_at "g"
  rename_i H2 s2 e2
  refine⟨sl,ds,rfl,e2,by simp at ac;lia,λrl ts W hp hs=>?_⟩
  have:=yq (a:=(i:Int)+1) (b:=(j:Int)) (by lia) ad (by simpa using ac) hp hs
  subst this;exact q rl _ ((s1.trans s2).trans (am W _)) ((s1.trans s2).free W) ai
 .rw[Kt c3]at q
  walk_at "n";exact⟨by decide,λO F=>q O _ (am F _) F ai⟩
noncomputable def iI(rl:Rl)(r:aD):List (Nat×Nat):=if bX r = "open" then (match step rl 0 "open" with | some j=>[(2^aY r 2,j)] | none=>[]) else []
def FL(H:Hp)(cs:LC)(ks:List (Nat×Nat)):Prop:=cs.length=ks.length/\∀(i:Nat) c k,cs[i]?=some c->ks[i]?=some k->db H c k.1 k.2
theorem FL.nil(H:Hp):FL H [] []:=⟨rfl,λi c k h=>by simp at h⟩
theorem FL.one{H:Hp}{t:Addr}{n k:Nat}(h:db H t n k):FL H [t] [(n,k)]:=⟨rfl,λi c k h1 h2=>by
 cases i with
 | zero=>cases h1;cases h2;exact h
 | succ i=>simp at h1⟩
theorem FL.same{cs:LC}{ks:List (Nat×Nat)}(h:FL H cs ks)(s:sj H H'):FL H' cs ks:=⟨h.1,λi c k h1 h2=>s _ _ (h.2 i c k h1 h2)⟩
def AW:Sp:=λvs H Q _=>∃(p L:Addr) (rl:Rl) (s:Nat),vs=[.ref p,.int (s:Int),.ref L]/\CT H p rl/\eR rl/\rl.s=1/\s<9000/\
 ∀(L':Addr) (H':Hp) (cs:LC),sj H H'->H L'=none->H' L'=some (.lst (cs.map V.ref))->FL H' cs (match step rl 0 "open" with | some j=>[(2^s,j)] | none=>[])->Q (.ref L') H'
theorem Es(D:xn K mg "begun_by_open" aW) (O:wAK mg) (F:aF P w K mg base 1 "next_room" qAh ur) (J:aF P w K mg base 1 "without" qAU jW):aF P w K mg base 2 "begun_by_open" qAn AW:=by
 refine D.cal (k:=1) BN (λf ac A outer s0 H vs Q E Y h=>?_)
 obtain⟨p,L,rl,s,rfl,hp,hok,h1,hs,q⟩:=h
 refine⟨_,(ah (aw 3 BN.nd (ar mn af (pv 1)))
   (ah (bf (az bn (ak (av K) (pv 0) af) af (aG _)) (ah (aw 4 BN.nd (ay F Y (aa (pv 0) (aa af (aa ax ae)))))
   (aj (aA (fS (az kJ (pv 4) dB (aG _)) (aJ ae) (aJ (aa (aQ (aa (pv 3) (aa (pv 4) ae))) ae)))))) aN)
   (ah (aw 5 BN.nd (aJ (aa (aQ (aa (pv 3) ae)) ae)))
   (ah (b4 xH rfl (bL K (pv 2)) (aM 6 BN.nd) (aj (bf (az bn (bm (aR K) O bG (aa (pv 6) ae)) af (aG _)) (ah (aw 7 BN.nd (ay J Y (aa (pv 1) (aa (ak (av K) (pv 6) af) ae))))
   (ah (br (bH K xh mY nu bA (pv 5) (aa (aQ (aa (pv 7) (aa (pv 3) (aa af ae)))) ae)))
   (aj (br (bH K xh mY nu bA (pv 5) (aa (aQ (aa (pv 3) (aa (pv 7) (aa af ae)))) ae)))))) aN)))
   (aj (aA (pv 5))))))),?_⟩
 walk_at "r";refine⟨⟨by lia,by lia,by decide⟩,?_⟩
 have e2:(1:Int)*2^(Int.toNat (s:Int))=((2^s:Nat):Int):=by rw[gE];push_cast;lia
 rw[e2];obtain⟨pw,pr,as,W,ab,ad⟩:=id hp
 walk_at "n";refine⟨_,_,.inr (vr.of W),ap (j:=0) (by rfl),?_⟩
 walk_at "r";rw[Kx h1];refine⟨p,rl,0,"open",rfl,hp,hok,by have:=hok.n0;lia,?_⟩
 cases hst:step rl 0 "open" with
 | none=>
  rw[hst]at q
  walk_at "n";rw[Kx (show aV none=V.non from rfl)];exact⟨by decide,λu U=>q u _ [] (am U _) U ai (FL.nil _)⟩
 | some j=>
  rw[hst]at q
  walk_at "n";rw[Kt (by simp[aV])]
  refine⟨by decide,λt ht=>?_⟩
  have Z:=am ht (.tup [V.int (2^s:Nat),V.int (j:Int)]);have e1:db (upd H t (.tup [V.int (2^s:Nat),V.int (j:Int)])) t (2^s) j:=ai
  exact⟨by decide,λu U=>q u _ [t] (Z.trans (am U _)) (Z.free U) ai (FL.one ((am U _) _ _ e1))⟩
def Av:Sp:=λvs H Q _=>∃(L:Addr) (s t:Nat) (bs:LC) (ks:List (Nat×Nat)),vs=[.int (s:Int),.int (t:Int),.ref L]/\H L=some (.lst (bs.map V.ref))/\FL H bs ks/\∀(L':Addr) (H':Hp),sj H H'->H L'=none->H' L'=some (.lst [])->Q (.ref L') H'
theorem EM(D:xn K mg "begun_by_tie" aO) (O:wAK mg) (F:aF P w K mg base 1 "is_in" qAU l7):aF P w K mg base 2 "begun_by_tie" qAo Av:=by
 refine D.cal (k:=1) Gg (λf ac A outer s0 H vs Q E hr h=>?_)
 obtain⟨L,s,t,bs,ks,rfl,hL,hT,q⟩:=h
 refine⟨_,(ah (gg (Cq.to (fsc:=(sg aO)) (N:=qAK) (N0:=qAK) (T:=["token"])) rfl Gg.nd (i:=3) rfl Pb (bL K (pv 2)) (λ_ _ _ _=>(aM 4 (show (qAk:KZ).Nodup from by decide +kernel))) (ci (show (qAK:KZ).length<=4 from by decide)) (λ_ _ _ _=>(iC (az bn (bm (aR K) O bG (aa (pv 4) ae)) af (aG _)))) (λ_ _ _ _=>(pv 4)))
   (aj (aA (dz (Cq.to (fsc:=(sg aO)) (N:=qAK) (N0:=qAK) (T:=["token"])) rfl (bL K (pv 3)) (λ_ _ _ _=>(aM 4 (show (qAk:KZ).Nodup from by decide +kernel))) (ci (show (qAK:KZ).length<=4 from by decide)) (λ_ _ _ _=>(iC (PW.pt' (eI (dF (ay F hr (aa (pv 0 (hv:=(cr (sg aO) (by decide +kernel)))) (aa (ak (av K) (pv 4) af) ae)))) (fz (dF (ay F hr (aa (pv 1 (hv:=(cr (sg aO) (by decide +kernel)))) (aa (ak (av K) (pv 4) af) ae))))))))) (λ_ _ _ _=>(ar (gD K) (pv 4) (aQ (aa af ae)))))))),?_⟩
 walk_at "r";refine⟨⟨_,su.of hL⟩,λD1 ab=>?_⟩
 refine jB (xs:=bs.map V.ref) (λi ys H'=>sj H H'/\ys=[]/\H' D1=some (.lst [])) ⟨am ab _,rfl,ai⟩ (λi ys H' _ hh=>su.of (hh.1 _ _ hL)) ?_ ?_
 .rintro i ys H' v hv hi ⟨sm,rfl,W⟩
  have J:i<bs.length:=by simpa using hi
  rw[wC,qz J]at hv
  cases hv;have Y:=hT.2 i _ _ (qz J) (qz (show i<ks.length by rw[<-hT.1];exact J))
  walk_at "r";refine⟨_,.inr (vr.of (sm _ _ Y)),?_⟩
  rw[Kt (by simp)]
  exact xy hi ⟨sm,rfl,W⟩
 .rintro ys H1 ⟨s1,rfl,W⟩
  walk_at "n";refine⟨⟨_,su.of W⟩,λD2 U=>?_⟩
  refine jB (xs:=[]) (λi ys H'=>sj H1 H'/\ys=[]/\H' D2=some (.lst [])) ⟨am U _,rfl,ai⟩ (λi ys H' _ hh=>su.of (hh.1 _ _ W)) ?_ ?_
  .rintro i ys H' v hv
   simp at hv
  .rintro ys H2 ⟨s2,rfl,Z⟩
   exact q D2 H2 (s1.trans s2) (s1.free U) Z
def se:Sp:=λvs H Q _=>∃(c p L:Addr) (R:List aD) (rl:Rl) (r:aD) (i N:Nat) (bs:LC) (ks:List (Nat×Nat)),vs=[.ref c,.ref p,.int (i:Int),.ref L]/\BM H c R/\R[i]?=some r/\CY N r/\N<=9000/\CT H p rl/\eR rl/\rl.s=1/\H L=some (.lst (bs.map V.ref))/\FL H bs ks/\
 ∀(L':Addr) (H':Hp) (cs:LC),sj H H'->H L'=none->H' L'=some (.lst (cs.map V.ref))->FL H' cs (iI rl r)->Q (.ref L') H'
theorem E3(D:xn K mg "begins_at" bS) (ab:mg "set" = none) (Y:mg "sorted" = none) (F:aF P w K mg base 2 "begun_by_open" qAn AW) (J:aF P w K mg base 2 "begun_by_tie" qAo Av):aF P w K mg base 3 "begins_at" qAb se:=by
 refine D.cal (k:=2) FA (λf a6 A outer s0 H vs Q E hr h=>?_)
 obtain⟨c,p,L,R,rl,r,i,N,bs,ks,rfl,hR,hi,hk,hN,hp,hok,a5,hL,hT,q⟩:=h
 refine⟨_,(ah (aw 4 FA.nd (ak (av K) (pv 0) (pv 2)))
   (ah (aw 5 FA.nd (aJ ae))
   (ah (bf (az bn (ak (av K) (pv 4) af) ax (aG _)) (aj (aw 5 FA.nd (ay F hr (aa (pv 1) (aa (ak (av K) (pv 4) af) (aa (pv 3) ae)))))) (aj (bf (az bn (ak (av K) (pv 4) af) ax (aG _)) (aj (aw 5 FA.nd (ay J hr (aa (ak (av K) (pv 4) af) (aa (ak (av K) (pv 4) af) (aa (pv 3) ae)))))) aN)))
   (aj (aA (bm (n8 K w hr) Y iQ (aa (ee (xq K w hr) ab tu (aa (pv 5) ae)) ae))))))),?_⟩
 obtain⟨as,b,a1,a2,a3,hb⟩:=mh hR hi
 walk_at "r";refine⟨_,_,.inl (su.of a1),ap (by rw[wC,a3];rfl),?_⟩
 walk_at "n";refine⟨by decide,λB hB=>?_⟩
 walk_at "g"
 rename_i H1 s1 e1
 have e1:H1 B=some (.lst (([]:LC).map V.ref)):=e1
 refine kF (λσ' H'=>∃(Bg:Addr) (cs:LC),σ'=[some (.ref c),some (.ref p),some (.int (i:Int)),some (.ref L),some (.ref b),some (.ref Bg)]/\sj H H'/\H' Bg=some (.lst (cs.map V.ref))/\FL H' cs (iI rl r)) (λk Z=>?_) ?_
 .walk_at "r"
  refine⟨_,_,.inr (vr.of (s1 _ _ hb)),ap (j:=0) hk.hd,?_⟩
  walk_at "r";refine bx (λc1=>?_) (λc1=>?_)
  .obtain⟨h2,l2⟩:=hk.s2 (by rw[c1];decide)
   refine⟨_,_,.inr (vr.of (s1 _ _ hb)),ap (j:=2) h2,p,L,rl,aY r 2,rfl,hp.mono s1,hok,a5,by lia,λL' H' cs sm al e O=>Z _ _ ⟨L',cs,rfl,s1.trans sm,e,?_⟩⟩
   unfold iI;rw[Kx c1];exact O
  .have e0:iI rl r=[]:=by unfold iI;rw[Kt c1]
   rw[e0]at Z
   refine⟨_,_,.inr (vr.of (s1 _ _ hb)),ap (j:=0) hk.hd,?_⟩
   walk_at "r";refine bx (λc2=>?_) (λc2=>?_)
   .obtain⟨h2,l2⟩:=hk.s2 (by rw[c2];decide)
    obtain⟨h3,l3⟩:=hk.s3 (by rw[c2];decide)
    exact⟨_,_,.inr (vr.of (s1 _ _ hb)),ap (j:=2) h2,_,_,.inr (vr.of (s1 _ _ hb)),ap (j:=3) h3,L,aY r 2,aY r 3,bs,ks,rfl,s1 _ _ hL,hT.same s1,λL' H' sm al e=>Z _ _ ⟨L',[],rfl,s1.trans sm,e,FL.nil _⟩⟩
   .exact Z _ _ ⟨B,[],rfl,s1,e1,FL.nil _⟩
 .rintro σ' H2 ⟨Bg,cs,rfl,s2,ac,O⟩
  walk_at "n"
  have ag:cs=[]\/∃(t:Addr) (n k:Nat),cs=[t]/\db H2 t n k:=by
   have hl:=O.1;unfold iI at hl O;split at hl
   .split at hl
    .rename_i j hj
     rw[hj]at O
     obtain⟨t,rfl⟩:=List.length_eq_one_iff.mp hl
     exact .inr ⟨t,_,_,rfl,O.2 0 t (2^aY r 2,j) rfl (by simp[*])⟩
    .exact .inl (JR hl)
   .exact .inl (JR hl)
  rcases ag with rfl | ⟨t,n,k,rfl,ht⟩
  .refine⟨Bg,[],rfl,su.of ac,.inl rfl,λl hl=>?_⟩
   have s3:=am hl (iM w l []);refine⟨l,[],λ_=>[],rfl,ai,by decide,λx hx=>(by cases hx),λl2 a4 W U=>?_⟩
   obtain rfl:=List.perm_nil.mp U
   have s4:=s2.trans (s3.trans (am W (.lst [])));exact q l2 _ [] s4 (s2.free (s3.free W)) ai (O.same (s3.trans (am W _)))
  .have ad:H2 t=some (.tup ([(n:Int),(k:Int)].map V.int)):=ht
   refine⟨Bg,[t],rfl,su.of ac,.inr ⟨t,[(n:Int),(k:Int)],rfl,vr.of ad⟩,λl hl=>?_⟩
   have s3:=am hl (iM w l [t]);refine⟨l,[t],λ_=>[(n:Int),(k:Int)],rfl,ai,by simp,λx hx=>⟨by rw[Kw.mp hx];exact vr.of (s3 _ _ ad),by simp⟩,λl2 a4 W U=>?_⟩
   obtain rfl:=List.perm_singleton.mp U
   have s4:=s2.trans (s3.trans (am W (.lst [V.ref t])));exact q l2 _ [t] s4 (s2.free (s3.free W)) ai (O.same (s3.trans (am W _)))
theorem FL.snoc{H:Hp}{cs:LC}{ks:List (Nat×Nat)}{c:Addr}{n k:Nat}(h:FL H cs ks)(F:db H c n k):FL H (cs++[c]) (ks++[(n,k)]):=by
 refine⟨by rw[qL,qL,h.1];rfl,λi b u h1 h2=>?_⟩
 rcases iz i cs.length with z | z
 .rw[xG z]at h1
  rw[xG (by rw[<-h.1];exact z)]at h2
  exact h.2 i b u h1 h2
 .rw[gT z]at h1
  rw[gT (by rw[<-h.1];exact z),<-h.1]at h2
  cases e:i-cs.length with
  | zero=>
   rw[e]at h1 h2
   obtain rfl:=Option.some.inj h1
   obtain rfl:=Option.some.inj h2
   exact F
  | succ n=>rw[e]at h1;simp at h1
noncomputable def pF(rl:Rl)(r:aD)(n k:Nat):List (Nat×Nat):=iI rl r++(jv rl r n k).toList
theorem nI(F:Rl)(r:aD):(iI F r).length<=1:=by
 unfold iI;split
 .split<;>simp
 .simp
theorem Ek(F:Rl)(r:aD)(n k:Nat):(pF F r n k).length<=2:=by
 have:=nI F r
 unfold pF;rw[qL]
 cases jv F r n k<;>simp<;>lia
def zm:Sp:=λvs H Q _=>∃(c p t:Addr) (R:List aD) (rl:Rl) (r:aD) (i n k N:Nat),vs=[.ref c,.ref p,.int (i:Int),.ref t]/\BM H c R/\R[i]?=some r/\CT H p rl/\eR rl/\rl.s=1/\k<rl.rs.length/\CY N r/\N<=9000/\db H t n k/\
 ∀(L':Addr) (H':Hp) (cs:LC),sj H H'->H L'=none->H' L'=some (.lst (cs.map V.ref))->FL H' cs (pF rl r n k)->Q (.ref L') H'
theorem EQ(D:xn K mg "made_of" cA) (J:aF P w K mg base 3 "begins_at" qAb se) (F:aF P w K mg base 5 "behind_at" qAS DR):aF P w K mg base 6 "made_of" qAS zm:=by
 refine D.cal (k:=5) GD (λf ad A outer s0 H vs Q E hr h=>?_)
 obtain⟨c,p,t,R,rl,r,i,n,k,N,rfl,hC,W,hR,ok,h1,ab,hk,hN,ht,q⟩:=h
 refine⟨_,(ah (aw 4 GD.nd (ay J hr (aa (pv 0) (aa (pv 1) (aa (pv 2) (aa (aJ (aa (pv 3) ae)) ae))))))
   (ah (aw 5 GD.nd (ay F hr (aa (pv 0) (aa (pv 1) (aa (pv 2) (aa (pv 3) ae))))))
   (aj (aA (fS (az kJ (pv 5) dB (aG _)) (pv 4) (ar aB (pv 4) (aJ (aa (pv 5) ae)))))))),?_⟩
 walk_at "r";refine⟨by decide,λx hx=>?_⟩
 walk_at "g"
 rename_i H1 s1 e1
 have e1:H1 x=some (.lst ([t].map V.ref)):=e1
 refine⟨c,p,x,R,rl,r,i,N,[t],[(n,k)],rfl,hC.mono s1,W,hk,hN,hR.mono s1,ok,h1,e1,FL.one (s1 _ _ ht),λL H2 cs s2 hL eL hT=>?_⟩
 have O:=s1.trans s2;walk_at "n";refine⟨c,p,t,R,rl,r,i,n,k,N,rfl,hC.mono O,W,hR.mono O,ok,ab,hk,by lia,O _ _ ht,λH3 s3=>⟨λhn=>?_,λm j u hs hu Y=>?_⟩⟩
 .walk_at "n"
  refine q L H3 cs (O.trans s3) (s1.free hL) (s3 _ _ eL) ?_
  unfold pF;rw[hn]
  simpa using hT.same s3
 .walk_at "n"
  rw[Kt (by simp)]
  refine⟨by decide,λy hy=>?_⟩
  walk_at "g"
  rename_i H4 s4 e4
  have e4:H4 y=some (.lst ([u].map V.ref)):=e4
  have U:=s3.trans s4;have ac:cs.length<=1:=by rw[hT.1];exact nI rl r
  refine⟨_,_,U _ _ eL,e4,by rw[zj];exact aU (by simp;lia),λz hz=>?_⟩
  have Z:=am hz (.lst (cs.map V.ref++[u].map V.ref));refine q z _ (cs++[u]) (O.trans (U.trans Z)) ((O.trans U).free hz) (by rw[ai,yd]) ?_
  unfold pF;rw[hs]
  exact(hT.same (U.trans Z)).snoc ((s4.trans Z) _ _ Y)
noncomputable def pt1(st:List (List (Nat×Nat))×List (Nat×Nat×Nat))(i:Nat)(t:Nat×Nat):List (List (Nat×Nat))×List (Nat×Nat×Nat):=if t∈st.1.getD i [] then st else (st.1.set i (st.1.getD i []++[t]),st.2++[(i,t)])
def gY(ks:List (Nat×Nat)):List (List aL×V):=ks.map λt=>([Sum.inl (t.1:Int),Sum.inl (t.2:Int)],V.bl true)
theorem AK(ks:List (Nat×Nat))(t:Nat×Nat):(bT (gY ks) [Sum.inl (t.1:Int),Sum.inl (t.2:Int)]).isSome=decide (t∈ks):=by
 unfold gY bT;rw[List.find?_map,Option.map_map,Option.isSome_map,zaQ,List.find?_isSome,decide_eq_true_iff];refine⟨λ⟨x,hx,e⟩=>?_,λh=>⟨t,h,by simp⟩⟩
 have F:=of_decide_eq_true e;simp only[List.cons.injEq,Sum.inl.injEq,Int.natCast_inj,and_true]at F
 rw[show t=x from Prod.ext F.1.symm F.2.symm];exact hx
def CS(H:Hp)(F:Addr)(fds:LC)(Ks:List (List (Nat×Nat))):Prop:=H F=some (.lst (fds.map V.ref))/\fds.length=Ks.length/\fds.Nodup/\∀(j:Nat) fd ks,fds[j]?=some fd->Ks[j]?=some ks->H fd=some (.dT (gY ks))
def Hj(H:Hp)(q:Addr)(pl:Nat×Nat×Nat):Prop:=∃t,H q=some (.tup [.int (pl.1:Int),.ref t])/\db H t pl.2.1 pl.2.2
def CM(H:Hp)(qs:LC)(pls:List (Nat×Nat×Nat)):Prop:=qs.length=pls.length/\∀(i:Nat) q pl,qs[i]?=some q->pls[i]?=some pl->Hj H q pl
def GU(fds:LC)(H H':Hp):Prop:=∀a o,a∉fds->H a=some o->H' a=some o
theorem GU.trans{F:LC}{H1 H2:Hp}(h:GU F H H1)(g:GU F H1 H2):GU F H H2:=λa o J e=>g a o J (h a o J e)
theorem CS.off{F:Addr}{Ks:List (List (Nat×Nat))}(h:CS H F J Ks){a:Addr}(e:H a=some o)(U:∀kvs,o ≠ .dT kvs):a∉J:=λW=>by
 obtain⟨j,O,rfl⟩:=KD.mp W
 have:=h.2.2.2 j _ _ (qz O) (qz (show j<Ks.length by rw[<-h.2.1];exact O))
 rw[e]at this
 exact U _ (Option.some.inj this)
theorem CS.keep{F:Addr}{Ks:List (List (Nat×Nat))}(h:CS H F J Ks)(s:sj H H'):CS H' F J Ks:=⟨s _ _ h.1,h.2.1,h.2.2.1,λj fd ks h1 h2=>s _ _ (h.2.2.2 j fd ks h1 h2)⟩
theorem CM.keep{F:List (Nat×Nat×Nat)}(h:CM H J F)(s:∀a xs,H a=some (.tup xs)->H' a=some (.tup xs)):CM H' J F:=⟨h.1,λi q pl h1 h2=>let ⟨t,e1,e2⟩:=h.2 i q pl h1 h2;⟨t,s _ _ e1,s _ _ e2⟩⟩
theorem CM.nil(H:Hp):CM H [] []:=⟨rfl,λi c k h=>by simp at h⟩
theorem CM.app{F rs:LC}{J p2:List (Nat×Nat×Nat)}(h:CM H F J)(g:CM H rs p2):CM H (F++rs) (J++p2):=by
 refine⟨by rw[qL,qL,h.1,g.1],λi b ts h1 h2=>?_⟩
 rcases iz i F.length with z | z
 .rw[xG z]at h1
  rw[xG (by rw[<-h.1];exact z)]at h2
  exact h.2 i b ts h1 h2
 .rw[gT z]at h1
  rw[gT (by rw[<-h.1];exact z),<-h.1]at h2
  exact g.2 _ b ts h1 h2
theorem CM.one{H:Hp}{q:Addr}{pl:Nat×Nat×Nat}(h:Hj H q pl):CM H [q] [pl]:=⟨rfl,λi c k h1 h2=>by
 cases i with
 | zero=>cases h1;cases h2;exact h
 | succ i=>simp at h1⟩
theorem CS.put{F:Addr}{Ks:List (List (Nat×Nat))}(h:CS H F J Ks){fd:Addr}(hf:J[i]?=some fd)(ks:List (Nat×Nat)):CS (upd H fd (.dT (gY ks))) F J (Ks.set i ks):=by
 have hi:=(Kq.mp hf).1;have hF:F≠fd:=λz=>h.off h.1 (λ_=>by simp) (by rw[z];exact kg hf)
 refine⟨by rw[au hF];exact h.1,by rw[J4];exact h.2.1,h.2.2.1,λj O U h1 h2=>?_⟩
 have hj:=(Kq.mp h1).1
 by_cases e:i=j
 .subst e
  rw[hf]at h1
  cases h1;rw[zbr (by rw[<-h.2.1];exact hi)]at h2
  cases h2;exact ai
 .rw[zba e]at h2
  have W:O≠fd:=λz=>by
   subst z;have Z:=(Kq.mp hf).2;have Y:=(Kq.mp h1).2;exact e ((List.getElem_inj h.2.2.1).mp (Z.trans Y.symm))
  rw[au W];exact h.2.2.2 j O U h1 h2
theorem CS.else{F a:Addr}{Ks:List (List (Nat×Nat))}(h:CS H F J Ks)(h1:F≠a)(h2:a∉J):CS (upd H a o) F J Ks:=⟨by rw[au h1];exact h.1,h.2.1,h.2.2.1,λj fd ks O U=>by rw[au (λz=>h2 (by rw[<-z];exact kg O))];exact h.2.2.2 j fd ks O U⟩
noncomputable def ptT(toks:List (Nat×Nat))(i:Nat)(st:List (List (Nat×Nat))×List (Nat×Nat×Nat)):=toks.foldl (λst t=>pt1 st i t) st
noncomputable def lx(Ks:List (List (Nat×Nat)))(rows:LN)(toks:List (Nat×Nat)):List (List (Nat×Nat))×List (Nat×Nat×Nat):=rows.foldl (λst i=>ptT toks i st) (Ks,[])
def BdS(Ks:List (List (Nat×Nat)))(m:Nat)(st:List (List (Nat×Nat))×List (Nat×Nat×Nat)):Prop:=st.1.length=Ks.length/\st.2.length<=m/\∀a,(st.1.getD a []).length<=60000+st.2.length
theorem BdS.pt1{Ks:List (List (Nat×Nat))}{t:Nat×Nat}{st:List (List (Nat×Nat))×List (Nat×Nat×Nat)}(h:BdS Ks m st):BdS Ks (m+1) (pt1 st i t):=by
 obtain⟨h1,h2,F⟩:=h
 unfold K57.pt1;split
 .exact⟨h1,by lia,F⟩
 .refine⟨by rw[J4];exact h1,by simp;lia,λa=>?_⟩
  have hi:=F i;have J:=F a;simp only[xf,zbp,qL,qY,yi]at hi J |-
  split
  .split
   .simp only[Option.getD_some,qL,qY,yi];lia
   .simp
  .lia
theorem oU{β: Type}(f:β->α->β)(b:β){l:List α}(h:i<l.length):(l.take (i+1)).foldl f b=f ((l.take i).foldl f b) l[i]:=by
 rw[J6 h,zbo];rfl
def rN:Sp:=λvs H Q _=>∃(F rw tk:Addr) (rows:LN) (cs fds:LC) (toks:List (Nat×Nat)) (Ks:List (List (Nat×Nat))),vs=[.ref F,.ref rw,.ref tk]/\H rw=some (.lst (rows.map iN))/\H tk=some (.lst (cs.map V.ref))/\FL H cs toks/\CS H F fds Ks/\(∀j∈rows,j<Ks.length)/\rows.length<=2/\toks.length<=2/\(∀ks∈Ks,ks.length<=60000)/\
 ∀(W:Addr) (H':Hp) (qs:LC),GU fds H H'->CS H' F fds (lx Ks rows toks).1->H W=none->H' W=some (.lst (qs.map V.ref))->CM H' qs (lx Ks rows toks).2->Q (.ref W) H'
theorem Eo(D:xn K mg "put" fL):aF P w K mg base 1 "put" qAm rN:=by
 refine D.cal (k:=0) GZ (λf cb A outer s0 H vs Q E hr h=>?_)
 obtain⟨F,rw,tk,rows,cs,J,toks,Ks,rfl,a5,as,hT,hP,a3,ca,b3,bp,q⟩:=h
 refine⟨_,(ah (aw 3 GZ.nd (aJ ae))
   (ah (b4 xH rfl (bL K (pv 1)) (aM 4 GZ.nd) (aj (b4 xH rfl (bL K (pv 2)) (aM 5 GZ.nd) (aj (bf (az (oq hr) (pv 5) (ak (av K) (pv 0) (pv 4)) (by with_unfolding_all rfl)) (ah (eY eU (fG (ak (av K) (pv 0) (pv 4)) (pv 5) (zu hr)))
   (aj (br (bH K xh mY nu bA (pv 3) (aa (aQ (aa (pv 4) (aa (pv 5) ae))) ae))))) aN)))))
   (aj (aA (pv 3))))),?_⟩
 walk_at "r";refine⟨by decide,λW hW=>?_⟩
 walk_at "g"
 rename_i H1 s1 e1
 have e1:H1 W=some (.lst (([]:LC).map V.ref)):=e1
 have fo:W∉J:=(hP.keep s1).off e1 (λ_=>by simp)
 walk_at "n";refine⟨⟨_,su.of (s1 _ _ a5)⟩,?_⟩
 have B0:BdS Ks 0 (Ks,[]):=⟨rfl,qt _,λa=>by
  show (Ks.getD a []).length<=_
  rw[xf]
  cases e:Ks[a]? with
  | none=>simp
  | some ks=>exact xB (bp ks (kg e)) (by simp)⟩
 refine cB (xs:=rows.map iN) (λi σ H'=>∃(st:List (List (Nat×Nat))×List (Nat×Nat×Nat)) (Y:LC) (o4 o5:LK),σ=[some (.ref F),some (.ref rw),some (.ref tk),some (.ref W),o4,o5]/\st=(rows.take i).foldl (λst i=>ptT toks i st) (Ks,[])/\GU J H H'/\CS H' F J st.1/\H' W=some (.lst (Y.map V.ref))/\CM H' Y st.2/\BdS Ks (2*i) st)
  ⟨_,[],_,_,rfl,rfl,λa o _ e=>s1 _ _ e,hP.keep s1,e1,CM.nil _,B0⟩ (λi σ H' _ hh=>by obtain⟨_,_,_,_,_,_,z,_⟩:=hh;exact su.of (z _ _ (hP.off a5 (λ_=>by simp)) a5)) ?_ ?_
 .rintro i v σ H2 hv ⟨st,Y,o4,o5,rfl,ad,k2,P2,w2,L2,B2⟩
  have hi:i<rows.length:=by have:=(Kq.mp hv).1;simpa using this
  rw[wC,qz hi]at hv
  cases hv;have a4:=a3 _ (nY hi);have eo:=oU (λst i=>ptT toks i st) (Ks,[]) hi
  rw[<-ad]at eo
  generalize rows[i]=at_ at a4 eo |-;have al:=hP.off as (λ_=>by simp)
  walk_at "r";refine⟨⟨_,su.of (k2 _ _ al as)⟩,?_⟩
  refine cB (xs:=cs.map V.ref) (λj σ H'=>∃(U:List (List (Nat×Nat))×List (Nat×Nat×Nat)) (Y:LC) (o5:LK),σ=[some (.ref F),some (.ref rw),some (.ref tk),some (.ref W),some (.int (at_:Int)),o5]/\U=(toks.take j).foldl (λst t=>pt1 st at_ t) st/\GU J H H'/\CS H' F J U.1/\H' W=some (.lst (Y.map V.ref))/\CM H' Y U.2/\BdS Ks (2*i+j) U)
   ⟨st,Y,_,rfl,rfl,k2,P2,w2,L2,B2⟩ (λj σ H' _ hh=>by obtain⟨_,_,_,_,_,z,_⟩:=hh;exact su.of (z _ _ al as)) ?_ ?_
  .rintro j v σ H3 hv ⟨U,Y,o5,rfl,ab,k3,P3,w3,L3,B3⟩
   have hj:j<cs.length:=by have:=(Kq.mp hv).1;simpa using this
   rw[wC,qz hj]at hv
   cases hv;have a8:j<toks.length:=by rw[<-hT.1];exact hj
   have ag:=hT.2 j _ _ (qz hj) (qz a8);have ei:=oU (λst t=>pt1 st at_ t) st a8
   rw[<-ab]at ei
   have O:db H3 cs[j] toks[j].1 toks[j].2:=k3 _ _ (hP.off ag (λ_=>by simp)) ag
   generalize toks[j]=t at ei O;generalize cs[j]=c at O |-;have a9:at_<J.length:=by rw[P3.2.1,B3.1];exact a4
   have bt:at_<U.1.length:=by rw[B3.1];exact a4
   have ac:=qz a9;have bc:=qz bt;have a6:=P3.2.2.2 at_ _ _ ac bc;have eg:U.1.getD at_ []=U.1[at_]:=by rw[xf,bc];rfl
   walk_at "r";refine⟨_,_,.inl (su.of P3.1),ap (by rw[wC,ac];rfl),J[at_],c,_,[Sum.inl (t.1:Int),Sum.inl (t.2:Int)],rfl,rfl,a6,O,?_⟩
   rw[AK];unfold K57.pt1 at ei;rw[eg]at ei
   have b1:=B3.2.2 at_;rw[eg]at b1
   have cc:=B3.2.1;refine⟨_,rfl,bx (λc1=>?_) (λc1=>?_)⟩
   .have Z:t∉U.1[at_]:=by simpa using c1
    rw[Kt Z]at ei
    have bg:bT (gY U.1[at_]) [Sum.inl (t.1:Int),Sum.inl (t.2:Int)]=none:=by
     have:=AK U.1[at_] t
     rw[decide_eq_false Z]at this
     exact Option.isSome_eq_false_iff.mp this |> Option.isNone_iff_eq_none.mp
    refine⟨_,_,.inl (su.of P3.1),ap (by rw[wC,ac];rfl),J[at_],c,_,[Sum.inl (t.1:Int),Sum.inl (t.2:Int)],rfl,rfl,a6,O,aU (by unfold gY;rw[zj];lia),?_⟩
    rw[Cr _ bg,show gY U.1[at_]++[([Sum.inl (t.1:Int),Sum.inl (t.2:Int)],V.bl true)]=gY (U.1[at_]++[t]) by unfold gY;rw[yd];rfl]
    have be:J[at_]∈J:=nY a9
    have P4:=P3.put ac (U.1[at_]++[t]);have kk:∀a o,a∉J->H3 a=some o->upd H3 J[at_] (.dT (gY (U.1[at_]++[t]))) a=some o:=λa o ha e=>by rw[au (λz=>ha (by rw[z];exact be))];exact e
    have k4:=k3.trans kk;have w4:=kk _ _ fo w3;have L4:=L3.keep λa xs e=>kk _ _ (P3.off e (λ_=>by simp)) e
    have t4:db _ c t.1 t.2:=kk _ _ (P3.off O (λ_=>by simp)) O
    generalize upd H3 J[at_] (.dT (gY (U.1[at_]++[t])))=H4 at P4 k4 w4 L4 t4 |-;walk_at "n";refine⟨⟨_,su.of w4⟩,by decide,λq1 a7=>⟨_,am a7 _ _ _ w4,by rw[zj,L3.1];exact aU (by lia),?_⟩⟩
    have s5:=am a7 (.tup [V.int (at_:Int),V.ref c]);have e5:upd H4 q1 (.tup [V.int (at_:Int),V.ref c]) q1=some (.tup [V.int (at_:Int),V.ref c]):=ai
    have w5:=s5 _ _ w4;have L5:=(L4.keep λa xs e=>s5 _ _ e).app (CM.one (pl:=(at_,t)) ⟨c,e5,s5 _ _ t4⟩)
    have b0:F≠W:=λz=>by rw[<-z,hP.1]at hW;cases hW
    refine⟨_,Y++[q1],_,rfl,ei.symm,λa o ha e=>?_,(P4.keep s5).else b0 fo,by rw[ai,yd];rfl,L5.keep λa xs e=>?_,?_⟩
    .rw[au (λz=>by rw[z,hW]at e;cases e)]
     exact s5 _ _ (k4 _ _ ha e)
    .rw[au (λz=>by rw[z,w5]at e;cases e)];exact e
    .have:=B3.pt1 (i:=at_) (t:=t)
     unfold K57.pt1 at this;rw[eg,Kt Z]at this
     exact this
   .have b2:t∈U.1[at_]:=by simpa using c1
    rw[Kx b2]at ei
    exact⟨U,Y,_,rfl,ei.symm,k3,P3,w3,L3,B3.1,by lia,B3.2.2⟩
  .rintro σ H3 ⟨U,Y,o5,rfl,ab,k3,P3,w3,L3,B3⟩
   rw[zj,hT.1,Iq]at ab
   refine⟨U,Y,_,_,rfl,by rw[ab,eo];rfl,k3,P3,w3,L3,B3.1,by have:=B3.2.1;rw[zj,hT.1]at this;lia,B3.2.2⟩
 .rintro σ H2 ⟨st,Y,o4,o5,rfl,ad,k2,P2,w2,L2,B2⟩
  rw[zj,Iq]at ad
  walk_at "n";subst ad;exact q W H2 Y k2 P2 hW w2 L2
abbrev fB:=List (List (Nat×Nat))
structure Io (Ks:fB) (Z:Nat×Nat->Prop) (st:fB×List (Nat×Nat×Nat)):Prop where
 len:st.1.length=Ks.length
 mono:∀j x,x∈Ks.getD j []->x∈st.1.getD j []
 new:∀j x,x∈st.1.getD j []->x∈Ks.getD j []\/(j,x)∈st.2
 sum:(st.1.map List.length).sum=(Ks.map List.length).sum+st.2.length
 nd:∀j,(st.1.getD j []).Nodup
 ok:∀pl∈st.2,pl.1<Ks.length/\Z pl.2
theorem jL{Ks:fB}{ks:List (Nat×Nat)}(hi:i<Ks.length):(Ks.set i ks).getD j []=if i=j then ks else Ks.getD j []:=by
 rw[xf,xf,zbp];split
 .rename_i e;subst e;simp[hi]
 .rfl
theorem vj:∀ {Ks:fB} {i:Nat} {t:Nat×Nat},i<Ks.length->((Ks.set i (Ks.getD i []++[t])).map List.length).sum=(Ks.map List.length).sum+1
 | [],_,_,h=>by simp at h
 | ks::Ks,0,t,_=>by simp;lia
 | ks::Ks,i+1,t,h=>by
  have:=vj (Ks:=Ks) (i:=i) (t:=t) (by simpa using h)
  simp only[List.set_cons_succ,List.getD_cons_succ,yj,lJ]
  lia
theorem Io.pt1{Ks:fB}{Z:Nat×Nat->Prop}{st:fB×List (Nat×Nat×Nat)}{t:Nat×Nat}(h:Io Ks Z st)(hi:i<Ks.length)(J:Z t):Io Ks Z (pt1 st i t)/\t∈(pt1 st i t).1.getD i []/\∀j x,x∈st.1.getD j []->x∈(pt1 st i t).1.getD j []:=by
 have F:i<st.1.length:=by rw[h.len];exact hi
 unfold K57.pt1
 by_cases c:t∈st.1.getD i []
 .rw[Kx c];exact⟨h,c,λ_ _ z=>z⟩
 rw[Kt c]
 have up:∀j x,x∈st.1.getD j []->x∈(st.1.set i (st.1.getD i []++[t])).getD j []:=λj x hx=>by
  rw[jL F];split
  .rename_i e;subst e;exact lW _ hx
  .exact hx
 refine⟨⟨by rw[J4];exact h.len,λj x hx=>up j x (h.mono j x hx),λj x hx=>?_,?_,λj=>?_,λpl U=>?_⟩,?_,up⟩
 .rw[jL F]at hx
  split at hx
  .rename_i e
   subst e;rcases KA.mp hx with z | z
   .exact(h.new i x z).imp id (lW _)
   .rw[Kw.mp z];exact .inr (gV _ (Kw.mpr rfl))
  .exact(h.new j x hx).imp id (lW _)
 .show ((st.1.set i (st.1.getD i []++[t])).map List.length).sum=_
  rw[vj F,h.sum,qL];rfl
 .rw[jL F]
  split
  .rename_i e
   subst e;rw[IQ];exact⟨h.nd i,KO.mpr ⟨by simp,IM⟩,λa W b O z=>c (by rw[Kw.mp O]at z;rw[<-z];exact W)⟩
  .exact h.nd j
 .rcases KA.mp U with z | z
  .exact h.ok pl z
  .rw[Kw.mp z];exact⟨hi,J⟩
 .show t∈(st.1.set i (st.1.getD i []++[t])).getD i []
  rw[jL F,Kx rfl];exact gV _ (Kw.mpr rfl)
theorem Io.ptT{Ks:fB}{Z:Nat×Nat->Prop}{i:Nat}(hi:i<Ks.length):∀ {toks:List (Nat×Nat)} {st:fB×List (Nat×Nat×Nat)},Io Ks Z st->(∀t∈toks,Z t)->Io Ks Z (ptT toks i st)/\(∀t∈toks,t∈(ptT toks i st).1.getD i [])/\∀j x,x∈st.1.getD j []->x∈(ptT toks i st).1.getD j []
 | [],st,h,_=>⟨h,⟨λ_ z=>(yh z).elim,λ_ _ z=>z⟩⟩
 | t::toks,st,h,ht=>by
  obtain⟨h1,h2,O⟩:=h.pt1 hi (ht t yb)
  obtain⟨J,U,F⟩:=h1.ptT hi λx hx=>ht x (yc _ hx)
  refine⟨J,λx hx=>?_,λj x hx=>F j x (O j x hx)⟩
  rcases KC.mp hx with z | z
  .rw[z];exact F i t h2
  .exact U x z
theorem Io.ptR{Ks:fB}{Z:Nat×Nat->Prop}{toks:List (Nat×Nat)}(J:∀t∈toks,Z t):∀ {rows:LN} {st:fB×List (Nat×Nat×Nat)},Io Ks Z st->(∀i∈rows,i<Ks.length)->Io Ks Z (rows.foldl (λst i=>K57.ptT toks i st) st)/\(∀i∈rows,∀t∈toks,t∈(rows.foldl (λst i=>K57.ptT toks i st) st).1.getD i [])/\∀j x,x∈st.1.getD j []->x∈(rows.foldl (λst i=>K57.ptT toks i st) st).1.getD j []
 | [],st,h,_=>⟨h,⟨λ_ z=>(yh z).elim,λ_ _ z=>z⟩⟩
 | i::rows,st,h,hr=>by
  obtain⟨h1,h2,W⟩:=h.ptT (hr i yb) J
  obtain⟨U,Y,O⟩:=h1.ptR J λx hx=>hr x (yc _ hx)
  refine⟨U,λx hx t F=>?_,λj x hx=>O j x (W j x hx)⟩
  rcases KC.mp hx with z | z
  .rw[z];exact O i t (h2 t F)
  .exact Y x z t F
structure Ik (R:List aD) (rl:Rl) (Z:Nat×Nat->Prop) (m:Nat) (Ks:fB) (W:List (Nat×Nat×Nat)):Prop where
 len:Ks.length=R.length
 nd:∀j,(Ks.getD j []).Nodup
 bd:∀j x,x∈Ks.getD j []->Z x
 beg:∀i r,i<m->R[i]?=some r->∀j∈fV i r,∀t∈iI rl r,t∈Ks.getD j []
 cl:∀i r,R[i]?=some r->∀x∈Ks.getD i [],(i,x)∈W\/∀j∈fV i r,∀t∈pF rl r x.1 x.2,t∈Ks.getD j []
 wok:∀pl∈W,pl.1<R.length/\Z pl.2
 sum:W.length<=(Ks.map List.length).sum
theorem Ik.step{Y:Rl}{Z:Nat×Nat->Prop}{m':Nat}{Ks:fB}{W V:List (Nat×Nat×Nat)}{toks:List (Nat×Nat)}(I:Ik R Y Z m Ks W)(hi:R[i]?=some r)(O:∀j∈fV i r,j<R.length)(ht:∀t∈toks,Z t)
  (hb:∀a,a<m'->a<m\/(a=i/\∀t∈iI Y r,t∈toks)) (hV:∀pl∈V,pl∈W) (hl:V.length<=W.length) (hW:∀a x,(a,x)∈W->(a,x)∈V\/(a=i/\∀t∈pF Y r x.1 x.2,t∈toks)) :
  Ik R Y Z m' (lx Ks (fV i r) toks).1 (V++(lx Ks (fV i r) toks).2)/\((lx Ks (fV i r) toks).1.map List.length).sum=(Ks.map List.length).sum+(lx Ks (fV i r) toks).2.length:=by
 have P0:Io Ks Z (Ks,[]):=⟨rfl,λ_ _ z=>z,λ_ _ z=>.inl z,rfl,I.nd,λ_ z=>nomatch z⟩
 obtain⟨J,g2,g3⟩:=P0.ptR ht (rows:=fV i r) λa ha=>by rw[I.len];exact O a ha
 show Ik R Y Z m' ((fV i r).foldl (λst i=>K57.ptT toks i st) (Ks,[])).1 _/\_
 unfold lx;generalize (fV i r).foldl (λst i=>K57.ptT toks i st) (Ks,[])=st at J g2 g3
 refine⟨⟨J.len.trans I.len,J.nd,λj x hx=>?_,λa q ha U j O t F=>?_,λa q U x hx=>?_,λpl hp=>?_,?_⟩,J.sum⟩
 .rcases J.new j x hx with z | z
  .exact I.bd j x z
  .exact(J.ok _ z).2
 .rcases hb a ha with z | ⟨rfl,z⟩
  .exact g3 j t (I.beg a q z U j O t F)
  .rw[hi]at U
   cases U;exact g2 j O t (z t F)
 .rcases J.new a x hx with z | z
  .rcases I.cl a q U x z with y | y
   .rcases hW a x y with u | ⟨rfl,u⟩
    .exact .inl (lW _ u)
    .rw[hi]at U
     cases U;exact .inr λj O t F=>g2 j O t (u t F)
   .exact .inr λj O t F=>g3 j t (y j O t F)
  .exact .inl (gV _ z)
 .rcases KA.mp hp with z | z
  .exact I.wok pl (hV pl z)
  .obtain⟨h1,h2⟩:=J.ok pl z
   exact⟨by rw[<-I.len];exact h1,h2⟩
 .rw[qL,J.sum]
  have:=I.sum
  lia
def Zt(N Z:Nat)(x:Nat×Nat):Prop:=x.1<2^N/\x.2<Z
theorem mi:∀(n:Nat) (l:LN),l.Nodup->(∀x∈l,x<n)->l.length<=n
 | 0,l,_,h=>by
  cases l with
  | nil=>exact qt _
  | cons a l=>exact absurd (h a yb) (by lia)
 | n+1,l,hn,h=>by
  have h1:=mi n (l.filter (· != n)) (hn.filter _) λx hx=>by
   obtain⟨a,b⟩:=List.mem_filter.mp hx
   have:=h x a
   have:x≠n:=by simpa using b
   lia
  have h2:l.length<=(l.filter (· != n)).length+1:=by
   clear h h1
   induction l with
   | nil=>simp
   | cons a l ih=>
    rw[HY]at hn
    rw[List.filter_cons];split
    .simp only[qY];have:=ih hn.2;lia
    .rename_i c
     have e:a=n:=by simpa using c
     have:l.filter (· != n)=l:=List.filter_eq_self.mpr λx hx=>by
      have:x≠n:=λz=>hn.1 (by rw[e,<-z];exact hx)
      simpa using this
     rw[this];simp
  lia
theorem FY{Z:Nat}{l:List (Nat×Nat)}(W:l.Nodup)(h:∀x∈l,Zt N Z x):l.length<=2^N*Z:=by
 have h1:(l.map λx=>x.1*Z+x.2).length<=2^N*Z:=by
  refine mi (2^N*Z) (l.map λx=>x.1*Z+x.2) (List.pairwise_map.mpr (List.Pairwise.imp_of_mem (λ{a b} ha Y F e=>F ?inj) W)) λy hy=>?lt
  case inj=>
   have O:a.1*Z+a.2=b.1*Z+b.2:=e
   have h2:=(h a ha).2;have J:=(h b Y).2
   have U:a.1=b.1:=by
    have:=congrArg (· / Z) O
    simpa [Nat.mul_comm _ Z,Nat.mul_add_div (Nat.lt_of_le_of_lt (xR _) h2),Nat.div_eq_of_lt h2,Nat.div_eq_of_lt J] using this
   rw[U]at O
   exact Prod.ext U (by lia)
  case lt=>
   obtain⟨x,hx,rfl⟩:=KB.mp hy
   obtain⟨h2,J⟩:=h x hx
   calc x.1*Z+x.2<x.1*Z+Z:=by lia
    _=(x.1+1)*Z:=by rw[IB,Nat.one_mul]
    _<=2^N*Z:=Nat.mul_le_mul_right _ h2
 rwa [zj]at h1
theorem Af:∀ {Ks:fB} {b:Nat},(∀ks∈Ks,ks.length<=b)->(Ks.map List.length).sum<=Ks.length*b
 | [],b,_=>by simp
 | ks::Ks,b,h=>by
  have h1:=Af λx hx=>h x (yc ks hx)
  have h2:=h ks yb;rw[yj,lJ,qY,IB,Nat.one_mul];lia
theorem Ik.cap{J:Rl}{Z:Nat}{Ks:fB}{W:List (Nat×Nat×Nat)}(I:Ik R J (Zt N Z) m Ks W):(∀ks∈Ks,ks.length<=2^N*Z)/\(Ks.map List.length).sum<=R.length*(2^N*Z):=by
 have h:∀ks∈Ks,ks.length<=2^N*Z:=λks F=>by
  obtain⟨j,O,rfl⟩:=KD.mp F
  have e:Ks.getD j []=Ks[j]:=by rw[xf,qz O];rfl
  rw[<-e];exact FY (I.nd j) (I.bd j)
 exact⟨h,by rw[<-I.len];exact Af h⟩
theorem Gd{s:Nat}(h:cR n s=false)(J:s<N)(F:n<2^N):n+2^s<2^N:=by
 have e:=sy n s;unfold iF at e;rw[Kt (by rw[h];decide)]at e
 rw[<-e];exact Nat.or_lt_two_pow F (Nat.pow_lt_pow_right (by decide) J)
theorem Ir(J:CY N r)(F:n<2^N):fA r n<2^N:=by
 have hd:∀s,iS n s<2^N:=λs=>by
  unfold iS;split
  .exact Nat.lt_of_le_of_lt (Nat.sub_le _ _) F
  .exact F
 unfold fA;split
 .rename_i c
  obtain⟨_,O⟩:=J.s2 (by rw[c.1];decide)
  unfold iF;split
  .exact F
  .rename_i b;exact Gd (Bool.eq_false_iff.mpr b) O F
 .split
  .exact hd _
  .exact F
theorem pM(F:Rl)(k:Nat)(x:Str):after F k [x]=step F k x:=by
 show (match step F k x with | none=>none | some k'=>some k')=_
 cases step F k x<;>rfl
theorem A4{F:Rl}(ok:eR F){k:Nat}(J:k<F.rs.length)(e:after F k (gm r n)=some j):j<F.rs.length:=by
 unfold gm at e;split at e
 .rw[pM]at e;exact mZ ok J e
 .cases e;exact J
theorem zM{J:Rl}(ok:eR J)(O:CY N r):∀t∈iI J r,Zt N J.rs.length t:=λt F=>by
 unfold iI at F;split at F
 .rename_i c
  obtain⟨_,U⟩:=O.s2 (by rw[c];decide)
  split at F
  .rename_i j e
   rw[Kw.mp F];exact⟨Nat.pow_lt_pow_right (by decide) U,mZ ok (by have:=ok.n0;lia) e⟩
  .cases F
 .cases F
theorem HW{F:Rl}(ok:eR F)(J:CY N r){x:Nat×Nat}(hx:Zt N F.rs.length x):∀t∈pF F r x.1 x.2,Zt N F.rs.length t:=λt O=>by
 rcases KA.mp O with z | z
 .exact zM ok J t z
 .rw[Option.mem_toList]at z
  unfold jv at z;split at z
  .cases z
  .obtain⟨j,e,rfl⟩:=KF.mp z
   exact⟨Ir J hx.1,A4 ok hx.2 e⟩
def mv(R:List aD)(rl:Rl)(Ks:fB):Prop:=Ks.length=R.length/\(∀j x,x∈Ks.getD j []->x.2<rl.rs.length)/\∀i r,R[i]?=some r->∀j∈fV i r,(∀t∈iI rl r,t∈Ks.getD j [])/\∀x∈Ks.getD i [],∀u,jv rl r x.1 x.2=some u->u∈Ks.getD j []
noncomputable def xJ(H:Hp)(b:Addr):Nat×Nat:=match H b with
 | some (.tup [.int n,.int k])=>(n.toNat,k.toNat)
 | _=>(0,0)
theorem lX{b:Addr}{k:Nat}(h:db H b n k):xJ H b=(n,k):=by
 unfold xJ;rw[show H b=_ from h];rfl
def GV(H:Hp)(l:Addr)(Ky:List (Nat×Nat)):Prop:=∃(cs:LC) (ks:List (Nat×Nat)),H l=some (.lst (cs.map V.ref))/\FL H cs ks/\ks.length<=60000/\∀x,x∈ks ↔ x∈Ky
theorem Hc{O:List (Nat×Nat)}{bs:LC}{l:Addr}(hl:H l=none)(hn:O.length<=60000)(hb:Paired (λ(p:List aL×V) b=>H b=some (.tup (p.1.map kV))) (gY O) bs)(Y:J.Perm bs):GV (upd H l (.lst (J.map V.ref))) l O:=by
 have s1:=am hl (.lst (J.map V.ref));have W:O.length=bs.length:=by have:=zaO hb;unfold gY at this;rw[zj]at this;exact this
 have at_:∀(j:Nat) b x,bs[j]?=some b->O[j]?=some x->db H b x.1 x.2:=λj b x h1 h2=>by
  have:=hU hb (show (gY O)[j]?=some ([Sum.inl (x.1:Int),Sum.inl (x.2:Int)],V.bl true) by unfold gY;rw[wC,h2];rfl) h1
  exact this
 have mem:∀b∈bs,∃x∈O,db H b x.1 x.2:=λb U=>by
  obtain⟨j,Z,e⟩:=KD.mp U
  have F:j<O.length:=by lia
  exact⟨O[j],nY F,at_ j b _ (by rw[qz Z,e]) (qz F)⟩
 refine⟨J,J.map (xJ H),ai,⟨by rw[zj],λi c k h1 h2=>?_⟩,by rw[zj,Y.length_eq,<-W];exact hn,λx=>⟨λhx=>?_,λhx=>?_⟩⟩
 .rw[wC,h1]at h2
  cases h2;obtain⟨x,_,hx⟩:=mem c (Y.mem_iff.mp (kg h1))
  rw[lX hx];exact s1 _ _ hx
 .obtain⟨b,U,rfl⟩:=KB.mp hx
  obtain⟨y,hy,e⟩:=mem b (Y.mem_iff.mp U)
  rw[lX e];exact hy
 .obtain⟨j,Z,rfl⟩:=KD.mp hx
  have F:j<bs.length:=by lia
  exact KB.mpr ⟨bs[j],Y.mem_iff.mpr (nY F),lX (at_ j _ _ (qz F) (qz Z))⟩
theorem GV.keep{l:Addr}{J:List (Nat×Nat)}(h:GV H l J)(Y:∀a xs,H a=some (.tup xs)->H' a=some (.tup xs))(s2:H' l=H l):GV H' l J:=by
 obtain⟨cs,ks,W,F,O,U⟩:=h
 exact⟨cs,ks,s2.trans W,⟨F.1,λi c k h1 h2=>Y _ _ (F.2 i c k h1 h2)⟩,O,U⟩
def vk:Sp:=λvs H Q _=>∃(c p:Addr) (R:List aD) (rl:Rl) (N:Nat),vs=[.ref c,.ref p]/\BM H c R/\J3 N R/\N<=9000/\CT H p rl/\eR rl/\rl.s=1/\2^N*rl.rs.length<=60000/\R.length*(2^N*rl.rs.length)<=1000000/\
 ∀(L:Addr) (H':Hp) (ls:LC) (Ks:fB),sj H H'->H L=none->H' L=some (.lst (ls.map V.ref))->ls.length=R.length->mv R rl Ks->(∀(j:Nat) l,ls[j]?=some l->GV H' l (Ks.getD j []))->Q (.ref L) H'
theorem vm(i:Nat)(r:aD):(fV i r).length<=2:=by
 unfold fV;split
 .simp
 split
 .simp
 split<;>simp
theorem wy{O:Hp}{F W rb tk:Addr}{qs cs:LC}{Ks:fB}{U:List (Nat×Nat×Nat)}{rows:LN}{toks:List (Nat×Nat)}{Q':VK}(sm:sj H O)(a3:∀fd∈J,H fd=none)(ad:H W=none)(as:F≠W)(P:CS O F J Ks)(w:O W=some (.lst (qs.map V.ref)))(L:CM O qs U)(ag:∀ks∈Ks,ks.length<=60000)
  (e1:O rb=some (.lst (rows.map iN))) (e2:O tk=some (.lst (cs.map V.ref))) (hT:FL O cs toks) (hr:∀j∈rows,j<Ks.length) (al:rows.length<=2) (ac:toks.length<=2) (hp:U.length+(lx Ks rows toks).2.length<=1000000)
  (q:∀(H5:Hp) (Z:LC),sj H H5->CS H5 F J (lx Ks rows toks).1->H5 W=some (.lst (Z.map V.ref))->CM H5 Z (U++(lx Ks rows toks).2)->Q' .non H5):rN [.ref F,.ref rb,.ref tk] O (λx H4=>kK (.ref W) [x] H4 Q') E0:=by
 have Y:W∉J:=P.off w (λ_=>by simp)
 refine⟨F,rb,tk,rows,cs,J,toks,Ks,rfl,e1,e2,hT,P,hr,al,ac,ag,λW' H4 a4 kx P4 ab e4 L4=>?_⟩
 have w4:=kx _ _ Y w;have a5:=L.keep λa xs e=>kx _ _ (P.off e (λ_=>by simp)) e
 have a6:W≠W':=λz=>by rw[<-z,w]at ab;cases ab
 refine⟨W,W',_,_,rfl,rfl,w4,e4,by rw[zj,zj,L.1,L4.1];exact aU (by lia),q _ (qs++a4) (λa o e=>?_) (P4.else as Y) (by rw[ai,yd]) ((a5.app L4).keep λa xs e=>?_)⟩
 .have ha:a∉J:=λz=>by rw[a3 a z]at e;cases e
  rw[au (λz=>by rw[z,ad]at e;cases e)]
  exact kx _ _ ha (sm _ _ e)
 .rw[au (λz=>by rw[z,w4]at e;cases e)];exact e
theorem Cf(D:xn K mg "paper_of" a_) (a9:wAL mg) (bg:wAK mg) (a5:mg "sorted" = none) (bp:aF P w K mg base 1 "put" qAm rN) (J:aF P w K mg base 1 "rows_behind" ["code","at"] Hl) (ac:aF P w K mg base 3 "begins_at" qAb se) (ag:aF P w K mg base 6 "made_of" qAS zm):aF P w K mg base 7 "paper_of" ["code","rule"] vk:=by
 refine D.cal (k:=6) Dc (λf ec A outer s0 H vs Q E hr h=>?_)
 obtain⟨c,p,R,rl,N,rfl,hC,a4,hN,hR,ok,h1,c4,d4,q⟩:=h
 refine⟨_,(ah (gg (Cq.to (fsc:=(sg a_)) (N:=qAF) (N0:=qAF) (T:=["row"])) rfl Dc.nd (i:=2) rfl Qe (bL K (pv 0)) (λ_ _ _ _=>(aM 6 (show (["code","rule","found","waiting","at","place","row"]:KZ).Nodup from by decide +kernel))) (ci (show (qAF:KZ).length<=6 from by decide)) (λ_ _ _ _=>c7) (λ_ _ _ _=>rT))
   (ah (aw 3 Dc.nd (aJ ae))
   (ah (b4 xH rfl (dh Pk a9 (aa (bm (aR K) bg bG (aa (pv 0) ae)) ae)) (aM 4 Dc.nd) (aj (br (bH K xh Kf J7 dU (pv 3) (aa (ay bp hr (aa (pv 2) (aa (ay J hr (aa (pv 0) (aa (pv 4) ae))) (aa (ay ac hr (aa (pv 0) (aa (pv 1) (aa (pv 4) (aa (aJ ae) ae))))) ae)))) ae)))))
   (ah (sK xH (az kO (bm (aR K) bg bG (aa (pv 3) ae)) af (aG _)) (ah (aw 5 Dc.nd (wk K xh PySem.F.slot_list_pop PySem.F.type_list_pop uU (pv 3)))
   (ah (aw 4 Dc.nd (ak (av K) (pv 5) af))
   (aj (br (bH K xh Kf J7 dU (pv 3) (aa (ay bp hr (aa (pv 2) (aa (ay J hr (aa (pv 0) (aa (pv 4) ae))) (aa (ay ag hr (aa (pv 0) (aa (pv 1) (aa (pv 4) (aa (ak (av K) (pv 5) af) ae))))) ae)))) ae)))))))
   (aj (aA (dz (Cq.to (fsc:=(sg a_)) (N:=qAF) (N0:=qAF) (T:=["tokens"])) rfl (bL K (pv 2)) (λ_ _ _ _=>(aM 6 (show (["code","rule","found","waiting","at","place","tokens"]:KZ).Nodup from by decide +kernel))) (ci (show (qAF:KZ).length<=6 from by decide)) (λ_ _ _ _=>c7) (λ_ _ _ _=>(bm (yo K hr) a5 iQ (aa (pv 6) ae)))))))))),?_⟩
 obtain⟨as,a1,a2⟩:=id hC
 have hl:=aI a2;have c9:R.length<=1000000:=xB (Nat.le_mul_of_pos_right _ (Nat.mul_pos (Nat.two_pow_pos _) ok.n0)) d4
 walk_at "r";refine⟨⟨_,su.of a1⟩,λF hF=>?_⟩
 refine fu (xs:=as.map V.ref) (λi ys H'=>sj H H'/\∃O:LC,ys=O.map V.ref/\H' F=some (.lst (O.map V.ref))/\O.length=i/\O.Nodup/\∀fd∈O,H fd=none/\H' fd=some (.dT [])) ⟨am hF _,[],rfl,ai,rfl,IM,λ_ z=>nomatch z⟩ (λi ys H' _ hh=>su.of (hh.1 _ _ a1)) ?_ ?_
 .rintro i ys H' v hv hi ⟨sm,O,rfl,eF,al,c3,bc⟩
  walk_at "r";intro d hd
  have s1:=am hd (.dT []);have ea:d≠F:=λz=>by rw[z,eF]at hd;cases hd
  refine fM hi (by rw[zj];exact al) (by rw[zj,hl];exact aU c9) (s1 _ _ eF) ⟨(sm.trans s1).upd hF _,O++[d],by simp,by rw[ai];simp,by simp[al],?_,λfd hf=>?_⟩
  .rw[IQ]
   exact⟨c3,by simp,λa ha b hb z=>by rw[Kw.mp hb]at z;have:=(bc a ha).2;rw[z,hd]at this;cases this⟩
  .rcases KA.mp hf with z | z
   .obtain⟨z1,z2⟩:=bc fd z
    refine⟨z1,?_⟩
    rw[au (λy=>by rw[y,eF]at z2;cases z2)]
    exact s1 _ _ z2
   .rw[Kw.mp z]
    exact⟨sm.free hd,by rw[au ea];exact ai⟩
 rintro ys H1 ⟨s1,O,rfl,eF,al,c3,bc⟩
 rw[zj,hl]at al
 walk_at "n";refine⟨by decide,λZ a3=>?_⟩
 have s2:=am a3 (.lst []);have e2:upd H1 Z (.lst []) Z=some (.lst (([]:LC).map V.ref)):=ai
 have b3:H Z=none:=s1.free a3
 have cd:F≠Z:=λz=>by rw[<-z,eF]at a3;cases a3
 have P0:CS (upd H1 Z (.lst [])) F O (List.replicate R.length []):=⟨s2 _ _ eF,by rw[al,Kk],c3,λj fd ks h1 h2=>by
  have hk:ks=[]:=List.eq_of_mem_replicate (kg h2)
  rw[hk];exact s2 _ _ (bc fd (kg h1)).2⟩
 have cv:∀j,(List.replicate R.length ([]:List (Nat×Nat))).getD j []=[]:=λj=>by
  rw[xf,za0];split<;>rfl
 have I0:Ik R rl (Zt N rl.rs.length) 0 (List.replicate R.length []) []:=⟨Kk,λj=>(by rw[cv];exact IM),λj x hx=>(by rw[cv]at hx;cases hx),λi r hi=>(by lia),λi r _ x hx=>(by rw[cv]at hx;cases hx),λ_ z=>(yh z).elim,xR _⟩
 have cq:=s1.trans s2;generalize upd H1 Z (.lst [])=H2 at s2 e2 P0 cq |-;have b1:∀fd∈O,H fd=none:=λfd h=>(bc fd h).1
 walk_at "n";refine⟨_,.inl (su.of (cq _ _ a1)),?_⟩
 rw[zj,hl];refine⟨by lia,by lia,?_⟩
 rw[gE]
 refine d_ (λi σ H'=>∃(Ks:fB) (W:List (Nat×Nat×Nat)) (U:LC) (o4:LK),σ=[some (.ref c),some (.ref p),some (.ref F),some (.ref Z),o4,none]/\sj H H'/\CS H' F O Ks/\H' Z=some (.lst (U.map V.ref))/\CM H' U W/\Ik R rl (Zt N rl.rs.length) i Ks W)
  ⟨_,[],[],_,rfl,cq,P0,e2,CM.nil _,I0⟩ ?_ ?_
 .rintro i σ H3 hi ⟨Ks,W,U,o4,rfl,s3,P3,w3,L3,I3⟩
  have Y:=qz hi;have ad:=(a4.row i _ Y).1;have a8:=a4.nx Y;obtain⟨da,eb⟩:=I3.cap
  rw[Int.zero_add];walk_at "r";refine⟨⟨_,su.of w3⟩,?_⟩
  refine⟨c,R,i,N,_,rfl,hC.mono s3,a4,Y,λrb H4 s4 d6 c2=>⟨by decide,λx hx=>?_⟩⟩
  walk_at "g"
  rename_i H5 s5 e5
  have e5:H5 x=some (.lst (([]:LC).map V.ref)):=e5
  have dP:=s3.trans (s4.trans s5);refine⟨c,p,x,R,rl,_,i,N,[],[],rfl,hC.mono dP,Y,ad,hN,hR.mono dP,ok,h1,e5,FL.nil _,λtk H6 cs s6 d5 ca hT=>?_⟩
  have ab:=s4.trans (s5.trans s6)
  obtain⟨I',dt⟩:=I3.step (m':=i+1) (V:=W) Y a8 (zM ok ad) (λa ha=>by
   rcases iz a i with z | z
   .exact .inl z
   .exact .inr ⟨by lia,λt z=>z⟩) (λ_ z=>z) (qt _) (λa x z=>.inl z)
  have d3:=I'.cap.2;have b2:=I'.sum;rw[qL]at b2
  exact wy (s3.trans ab) b1 b3 cd (P3.keep ab) (ab _ _ w3) (L3.keep λa xs e=>ab _ _ e) (λks hk=>xB (da ks hk) c4) ((s5.trans s6) _ _ c2) ca hT (λj hj=>by rw[I3.len];exact a8 j hj) (vm _ _) (xB (nI _ _) (by decide)) (by lia) λH7 cb s7 P7 w7 L7=>⟨_,_,cb,_,rfl,s7,P7,w7,L7,I'⟩
 rintro σ H3 ⟨Ks,W,U,o4,rfl,s3,P3,w3,L3,I3⟩
 walk_at "n";refine⟨λm σ H'=>∃(Ks:fB) (W:List (Nat×Nat×Nat)) (U:LC) (o4 o5:LK),σ=[some (.ref c),some (.ref p),some (.ref F),some (.ref Z),o4,o5]/\sj H H'/\CS H' F O Ks/\H' Z=some (.lst (U.map V.ref))/\CM H' U W/\Ik R rl (Zt N rl.rs.length) R.length Ks W/\m=2*(R.length*(2^N*rl.rs.length)-(Ks.map List.length).sum)+W.length,⟨_,Ks,W,U,o4,none,rfl,s3,P3,w3,L3,I3,rfl⟩,?_⟩
 clear I3 L3 w3 P3 s3;rintro m σ H3 ⟨Ks,W,U,o4,o5,rfl,s3,P3,w3,L3,I3,hm⟩
 have be:=I3.cap;walk_at "r";refine⟨_,.inl (su.of w3),?_⟩
 rw[zj];refine bx (λc1=>?_) (λc1=>?_)
 .have a7:U≠[]:=λz=>by rw[z]at c1;simp at c1
  have b0:W≠[]:=λz=>a7 (JR (by rw[L3.1,z];rfl))
  obtain⟨U,q0,rfl⟩ : ∃gs x,U=gs++[x]:=⟨U.dropLast,U.getLast a7,(za9 a7).symm⟩
  obtain⟨W,pl,rfl⟩ : ∃gs x,W=gs++[x]:=⟨W.dropLast,W.getLast b0,(za9 b0).symm⟩
  have dm:U.length=W.length:=by have:=L3.1;simpa using this
  obtain⟨t,t1,t2⟩:=L3.2 U.length q0 pl (by simp) (by rw[dm];simp)
  obtain⟨d2,dl⟩:=I3.wok pl (gV _ (Kw.mpr rfl))
  have Y:=qz d2;have ad:=(a4.row _ _ Y).1;have a8:=a4.nx Y;refine⟨λσ' H'=>∃m',m'<m/\∃(Ks:fB) (W:List (Nat×Nat×Nat)) (U:LC) (o4 o5:LK),σ'=[some (.ref c),some (.ref p),some (.ref F),some (.ref Z),o4,o5]/\sj H H'/\CS H' F O Ks/\H' Z=some (.lst (U.map V.ref))/\CM H' U W/\Ik R rl (Zt N rl.rs.length) R.length Ks W/\m'=2*(R.length*(2^N*rl.rs.length)-(Ks.map List.length).sum)+W.length,λσ' H' z=>z,?_⟩
  refine⟨⟨_,su.of w3⟩,_,.ref q0,w3,by simp,?_⟩
  rw[show ((U++[q0]).map V.ref).dropLast=U.map V.ref by simp]
  have d7:Z∉O:=P3.off w3 (λ_=>by simp)
  have w4:upd H3 Z (.lst (U.map V.ref)) Z=some (.lst (U.map V.ref)):=ai
  have s4:=s3.upd b3 (.lst (U.map V.ref));have P4:CS (upd H3 Z (.lst (U.map V.ref))) F O Ks:=P3.else cd d7
  have kt:∀a xs,H3 a=some (.tup xs)->upd H3 Z (.lst (U.map V.ref)) a=some (.tup xs):=λa xs e=>by rw[au (λz=>by rw[z,w3]at e;cases e)];exact e
  have L4:CM (upd H3 Z (.lst (U.map V.ref))) U W:=⟨dm,λi q pl h1 h2=>(L3.keep kt).2 i q pl (by rw[xG (Kq.mp h1).1];exact h1) (by rw[xG (Kq.mp h2).1];exact h2)⟩
  have t3:=kt _ _ t1;have t4:db (upd H3 Z (.lst (U.map V.ref))) t pl.2.1 pl.2.2:=kt _ _ t2
  generalize upd H3 Z (.lst (U.map V.ref))=H4 at w4 s4 P4 L4 t3 t4 |-;walk_at "n";refine⟨_,_,.inr (vr.of t3),rfl,?_⟩
  walk_at "n";refine⟨⟨_,su.of w4⟩,?_⟩
  refine⟨c,R,pl.1,N,_,rfl,hC.mono s4,a4,Y,λrb H5 s5 d6 c2=>?_⟩
  have dc:=s4.trans s5;refine⟨_,_,.inr (vr.of (s5 _ _ t3)),rfl,?_⟩
  refine⟨c,p,t,R,rl,_,pl.1,pl.2.1,pl.2.2,N,rfl,hC.mono dc,Y,hR.mono dc,ok,h1,dl.2,ad,hN,s5 _ _ t4,λtk H6 cs s6 d5 ca hT=>?_⟩
  have ab:=s5.trans s6
  obtain⟨I',dt⟩:=I3.step (m':=R.length) (V:=W) Y a8 (HW ok ad dl) (λa ha=>.inl ha) (λ_ z=>lW _ z) (by simp) (λa x z=>by
   rcases KA.mp z with z | z
   .exact .inl z
   .cases Kw.mp z;exact .inr ⟨rfl,λt z=>z⟩)
  have d3:=I'.cap.2;have b2:=I'.sum;rw[qL]at b2
  refine wy (s4.trans ab) b1 b3 cd (P4.keep ab) (ab _ _ w4) (L4.keep λa xs e=>ab _ _ e) (λks hk=>xB (be.1 ks hk) c4) (s6 _ _ c2) ca hT (λj hj=>by rw[I3.len];exact a8 j hj) (vm _ _) (Ek _ _ _ _) (by lia) λH7 cb s7 P7 w7 L7=>⟨_,?_,_,_,cb,_,_,rfl,s7,P7,w7,L7,I',rfl⟩
  rw[hm,qL,qL,qY,yi];have:=be.2
  lia
 .have a7:U=[]:=JR (by lia)
  have b0:W=[]:=JR (by rw[<-L3.1,a7];rfl)
  have d9:mv R rl Ks:=⟨I3.len,λj x hx=>(I3.bd j x hx).2,λi r e j hj=>⟨λt ht=>I3.beg i r (Kq.mp e).1 e j hj t ht,λx hx u hu=>?_⟩⟩
  .walk_at "n"
   refine⟨⟨_,su.of P3.1⟩,λD1 c8=>?_⟩
   have d8:H D1=none:=s3.free c8
   refine fu (xs:=O.map V.ref) (λi ys H'=>sj H3 H'/\∃ls:LC,ys=ls.map V.ref/\H' D1=some (.lst (ls.map V.ref))/\ls.length=i/\∀(j:Nat) l,ls[j]?=some l->l≠D1/\GV H' l (Ks.getD j [])) ⟨am c8 _,[],rfl,ai,rfl,λj l h=>by simp at h⟩ (λi ys H' _ hh=>su.of (hh.1 _ _ P3.1)) ?_ ?_
   .rintro i ys H4 v hv hi ⟨s4,ls,rfl,eD,a6,cc⟩
    have cu:i<O.length:=by simpa using hi
    rw[wC,qz cu]at hv
    cases hv;have c5:i<Ks.length:=by rw[<-P3.2.1];exact cu
    have hd:=s4 _ _ (P3.2.2.2 i _ _ (qz cu) (qz c5));have eg:Ks.getD i []=Ks[i]:=by rw[xf,qz c5];rfl
    have dV:=xB (be.1 _ (nY c5)) c4;walk_at "r";refine⟨_,_,rfl,hd,λx hx=>?_,by unfold gY;rw[zj];exact dV,λl bs dj bt hb hp=>?_⟩
    .obtain⟨t,_,rfl⟩:=KB.mp hx
     exact⟨by simp,[(t.1:Int),(t.2:Int)],rfl⟩
    have rt:=Hc bt dV hb hp;have s5:=am bt (.lst (dj.map V.ref));have de:l≠D1:=λz=>by rw[z,eD]at bt;cases bt
    have e5:=s5 _ _ eD;generalize upd H4 l (.lst (dj.map V.ref))=H5 at rt s5 e5 |-;have kt:∀a xs,H5 a=some (.tup xs)->upd H5 D1 (.lst (ls.map V.ref++[V.ref l])) a=some (.tup xs):=λa xs e=>by rw[au (λz=>by rw[z,e5]at e;cases e)];exact e
    refine fM hi (by rw[zj];exact a6) (by rw[zj,al];exact aU c9) e5 ⟨(s4.trans s5).upd c8 _,ls++[l],by simp,by rw[ai];simp,by simp[a6],λj l' h'=>?_⟩
    rcases iz j ls.length with z | z
    .rw[xG z]at h'
     obtain⟨n1,rk⟩:=cc j l' h'
     refine⟨n1,rk.keep (λa xs e=>kt a xs (s5 _ _ e)) ?_⟩
     obtain⟨_,_,e1,_⟩:=rk
     rw[au n1,e1];exact s5 _ _ e1
    .rw[gT z]at h'
     have d1:j-ls.length=0:=by have:=(Kq.mp h').1;simp at this;lia
     rw[d1]at h'
     cases h';rw[show j=i by lia,eg]
     exact⟨de,rt.keep kt (au de)⟩
   .rintro ys H4 ⟨s4,ls,rfl,eD,a6,cc⟩
    rw[zj,al]at a6
    exact q D1 H4 ls Ks (s3.trans s4) d8 eD a6 d9 λj l h=>(cc j l h).2
  .rcases I3.cl i r e x hx with z | z
   .rw[b0]at z;cases z
   .exact z j hj u (gV _ (by rw[Option.mem_toList];exact hu))
noncomputable def hN(S:List LG)(h:Nat):Nat->Nat
 | 0=>0
 | i+1=>hN S h i+(if S.getD i none=some h then 2^i else 0)
theorem EC(h:n<2^i)(s:Nat):cR (n+2^i) s=(cR n s||decide (i=s)):=by
 have F:cR n i=false:=Nat.testBit_lt_two_pow h
 have e:n+2^i=n ||| 2^i:=by
  rw[sy];unfold iF;rw[Kt (by rw[F];decide)]
 rw[e];unfold cR;rw[Nat.testBit_or,zbi]
theorem DK(S:List LG)(h:Nat):∀i,hN S h i<2^i
 | 0=>Nat.zero_lt_one
 | i+1=>by
  have:=DK S h i
  show hN S h i+_<_
  rw[Nat.pow_succ];split<;>lia
theorem kq(S:List LG)(h s:Nat):∀i,cR (hN S h i) s=decide (s<i/\S.getD s none=some h)
 | 0=>by
  show cR 0 s=_
  rw[show cR 0 s=false from Nat.zero_testBit s];simp
 | i+1=>by
  have ih:=kq S h s i;show cR (hN S h i+_) s=_
  by_cases c:S.getD i none=some h
  .rw[Kx c,EC (DK S h i),ih]
   by_cases e:i=s
   .subst e
    rw[decide_eq_true (show i<i+1/\_ from ⟨Kg i,c⟩)];simp
   .simp[e,show (s<i+1)=(s<i) from propext ⟨λz=>by lia,λz=>by lia⟩]
  .rw[Kt c,Nat.add_zero,ih]
   by_cases e:i=s
   .subst e
    rw[decide_eq_false (λz=>IP _ z.1),decide_eq_false (λz=>c z.2)]
   .simp[show (s<i+1)=(s<i) from propext ⟨λz=>by lia,λz=>by lia⟩]
theorem iw{S:List LG}{s:Nat}{x:LG}(F:s<S.length):(S.set s x).getD j none=if s=j then x else S.getD j none:=by
 rw[xf,xf,zbp];split
 .rename_i e;subst e;simp[F]
 .rfl
theorem AU{S:List LG}{s:Nat}(F:s<S.length)(x:LG)(h:Nat):∀i,hN (S.set s x) h i+(if s<i/\S.getD s none=some h then 2^s else 0)=hN S h i+(if s<i/\x=some h then 2^s else 0)
 | 0=>by simp[hN]
 | i+1=>by
  have ih:=AU F x h i;show hN (S.set s x) h i+_+_=hN S h i+_+_
  rw[iw F]
  by_cases e:s=i
  .subst e
   simp only[IP,false_and,if_false,Nat.add_zero]at ih
   simp only[if_true,Kg,true_and,ih]
   lia
  .rw[Kt e]
   simp only[show (s<i+1)=(s<i) from propext ⟨λz=>by lia,λz=>by lia⟩]
   lia
theorem Ax(S:List LG)(h:Nat)(hh:∀s,S.getD s none≠some h):∀i,hN S h i=0
 | 0=>rfl
 | i+1=>by show hN S h i+_=0;rw[Ax S h hh i,Kt (hh i)]
theorem lQ{S:List LG}{s:Nat}(F:s<S.length)(x:LG)(h:Nat):hN (S.set s x) h S.length=if x=some h then iF (hN S h S.length) s else iS (hN S h S.length) s:=by
 have e:=AU F x h S.length;have b:=kq S h s S.length;simp only[F,true_and]at e b
 unfold iF iS
 by_cases c:S.getD s none=some h
 .rw[decide_eq_true c]at b
  rw[Kx c]at e
  rw[Kx b,Kx b];split at e
  .rename_i y;rw[Kx y];lia
  .rename_i y;rw[Kt y];lia
 .rw[decide_eq_false c]at b
  rw[Kt c]at e
  have J:¬ cR (hN S h S.length) s=true:=by rw[b];decide
  rw[Kt J,Kt J];split at e
  .rename_i y;rw[Kx y];lia
  .rename_i y;rw[Kt y];lia
noncomputable def rO(rl:Rl)(r:aD)(S M:List LG):List LG×List LG:=match S.getD (aY r 2) none with
 | some h=>(match M.getD h none with | some k=>(S,M.set h (step rl k (Aj r))) | none=>(S,M))
 | none=>(S,M)
noncomputable def mf(rl:Rl)(r:aD)(S M:List LG):List LG×List LG:=
 if bX r = "open" then (S.set (aY r 2) (some M.length),M++[step rl 0 "open"])
 else if bX r = "do" then rO rl r S M
 else if bX r = "copy" then (S.set (aY r 2) (S.getD (aY r 3) none),M)
 else if bX r = "drop" then (S.set (aY r 2) none,M) else (S,M)
structure vH (Ky:List (Nat×Nat)) (S M:List LG):Prop where
 lt:∀s h,S.getD s none=some h->h<M.length
 tk:∀h k,M.getD h none=some k->(hN S h S.length,k)∈Ky
theorem BF{R:List aD}{J:Rl}{Ks:fB}{i j n0:Nat}{r:aD}{S M:List LG}(hc:mv R J Ks)(hi:R[i]?=some r)(W:CY n0 r)(hl:S.length=n0)(ab:bX r ≠ "end") (hj:j∈fV i r) (I:vH (Ks.getD i []) S M):vH (Ks.getD j []) (mf J r S M).1 (mf J r S M).2/\(mf J r S M).1.length=n0:=by
 obtain⟨c1,c2⟩:=hc.2.2 i r hi j hj
 have ac:∀h,M.length<=h->M.getD h none=none:=λh hh=>by rw[xf,IS hh];rfl
 have go:∀h k m,M.getD h none=some k->after J k (gm r (hN S h S.length))=some m->(fA r (hN S h S.length),m)∈Ks.getD j []:=λh k m O Y=>c2 _ (I.tk h k O) (fA r (hN S h S.length),m) (by unfold jv;rw[Kt ab,Y];rfl)
 have no:bX r ≠ "do" -> ∀h k,M.getD h none=some k->(fA r (hN S h S.length),k)∈Ks.getD j []:=λhd h k e=>go h k k e (by unfold gm;rw[Kt (λz=>hd z.1)];rfl)
 unfold mf
 by_cases d1:bX r = "open"
 .rw[Kx d1]
  obtain⟨_,l2⟩:=W.s2 (by rw[d1];decide)
  have F:aY r 2<S.length:=by lia
  refine⟨⟨λs h e=>?_,λh k e=>?_⟩,by simp[hl]⟩
  .rw[iw F]at e
   simp only[qL,qY,yi]
   split at e
   .cases e;lia
   .have:=I.lt s h e;lia
  .rw[J4,lQ F]
   rw[xf]at e
   rcases Nat.lt_trichotomy h M.length with z | z | z
   .rw[xG z,<-xf]at e
    rw[Kt (by simp;lia)]
    have:=no (by rw[d1];decide) h k e
    unfold fA at this;rw[Kt (λz=>absurd (d1.symm.trans z.1) (by decide)),Kx (by rw[d1];decide)]at this
    exact this
   .subst z
    rw[gT (qt _),J0]at e
    have U:step J 0 "open" = some k:=e
    rw[Kx rfl,Ax S _ (λs y=>by have:=I.lt s _ y;lia)]
    have:iF 0 (aY r 2)=2^aY r 2:=by
     unfold iF;rw[Kt (by rw[show cR 0 (aY r 2)=false from Nat.zero_testBit _];decide),nV]
    rw[this];exact c1 _ (by unfold iI;rw[Kx d1,U];exact Kw.mpr rfl)
   .rw[IS (by simp;lia)]at e;cases e
 rw[Kt d1]
 by_cases d2:bX r = "do"
 .rw[Kx d2]
  obtain⟨_,l2⟩:=W.s2 (by rw[d2];decide)
  have hb:∀n,fA r n=n:=λn=>by unfold fA;rw[Kt (λz=>absurd (d2.symm.trans z.1) (by decide)),Kt (by rw[d2];decide)]
  have other:∀h k,S.getD (aY r 2) none≠some h->M.getD h none=some k->(hN S h S.length,k)∈Ks.getD j []:=λh k hh e=>by
   have:=go h k k e (by
    unfold gm;rw[Kt (λz=>by have:=z.2;rw[kq]at this;exact hh (of_decide_eq_true this).2)];rfl)
   rw[hb]at this;exact this
  unfold rO
  cases O:S.getD (aY r 2) none with
  | none=>exact⟨⟨I.lt,λh k e=>other h k (by rw[O];simp) e⟩,hl⟩
  | some h0=>
   dsimp only
   cases Y:M.getD h0 none with
   | none=>
    refine⟨⟨I.lt,λh k e=>other h k (λz=>?_) e⟩,hl⟩
    rw[O]at z
    cases z;have:=Y.symm.trans e
    cases this
   | some k0=>
    have Z:=I.lt _ _ O;refine⟨⟨λs h e=>by show h<(M.set h0 _).length;rw[J4];exact I.lt s h e,λh k e=>?_⟩,hl⟩
    have U:(M.set h0 (step J k0 (Aj r))).getD h none=some k:=e
    rw[iw Z]at U
    split at U
    .rename_i z
     subst z
     have:=go h0 k0 k Y (by
      unfold gm;rw[Kx ⟨d2,by rw[kq];exact decide_eq_true ⟨by lia,O⟩⟩,pM];exact U)
     rw[hb]at this;exact this
    .rename_i z
     exact other h k (λy=>z (Option.some.inj (O.symm.trans y))) U
 rw[Kt d2]
 by_cases d3:bX r = "copy"
 .rw[Kx d3]
  obtain⟨_,l2⟩:=W.s2 (by rw[d3];decide)
  obtain⟨_,l3⟩:=W.s3 (by rw[d3];decide)
  have F:aY r 2<S.length:=by lia
  refine⟨⟨λs h e=>?_,λh k e=>?_⟩,by simp[hl]⟩
  .rw[iw F]at e
   split at e
   .exact I.lt _ h e
   .exact I.lt s h e
  .rw[J4,lQ F]
   have:=no d2 h k e
   unfold fA at this;rw[kq]at this
   simp only[show aY r 3<S.length by lia,true_and,decide_eq_true_eq,d3]at this
   split
   .rename_i y;rw[Kx y]at this;exact this
   .rename_i y;rw[Kt y,Kx (by decide)]at this;exact this
 rw[Kt d3]
 by_cases d4:bX r = "drop"
 .rw[Kx d4]
  obtain⟨_,l2⟩:=W.s2 (by rw[d4];decide)
  have F:aY r 2<S.length:=by lia
  refine⟨⟨λs h e=>?_,λh k e=>?_⟩,by simp[hl]⟩
  .rw[iw F]at e
   split at e
   .cases e
   .exact I.lt s h e
  .rw[J4,lQ F,Kt (by simp)]
   have:=no d2 h k e
   unfold fA at this;rw[Kt (λz=>d3 z.1),Kx (by rw[d4];decide)]at this
   exact this
 rw[Kt d4];refine⟨⟨I.lt,λh k e=>?_⟩,hl⟩
 have:=no d2 h k e
 unfold fA at this;rw[Kt (λz=>d3 z.1),Kt (by simp[d1,d3,d4])]at this
 exact this
def vg:Sp:=λvs H Q _=>∃(p:Addr) (r:Rl) (k:Nat) (y:Str),vs=[.ref p,.int k,.str y]/\CT H p r/\eR r/\k<r.rs.length/\Q (aV (step r k y)) H
theorem Dd(D:xn K mg "_law_next" fv):aF P w K mg base 1 "_law_next" qAT vg:=by
 refine D.cal uD (λf W A outer s H vs Q E hr h=>?_)
 obtain⟨p,r,k,y,rfl,Z,ok,hk,q⟩:=h
 obtain⟨pw,pr,U,h1,h2,Y,h4,h5⟩:=Z
 refine⟨_,(ah (bf (az (kh K) (pv 2) (ak (av K) (pv 0) af) (by with_unfolding_all rfl)) (aj (aA (pv 1))) aN)
   (aj (aA (ak (av K) (ak (av K) (ak (av K) (pv 0) af) (pv 1)) (bH K xh zbv F.type_list_index (pq K) (ak (av K) (pv 0) af) (aa (pv 2) ae)))))),?_⟩
 walk_at "r";refine⟨_,_,.inr (vr.of h1),rfl,?_⟩
 walk_at "r";refine⟨_,.inl (su.of h2),rfl,pE _,?_⟩
 rw[uQ];refine bx (λc=>?_) (λc=>?_)
 .have J:y∉r.ws:=by simpa using c
  have e:step r k y=some k:=by unfold step;rw[Kt J]
  rw[e]at q;exact q
 .have J:y∈r.ws:=by simpa using c
  obtain⟨b,O⟩ : ∃b,U[k]?=some b:=⟨U[k],qz (by lia)⟩
  obtain⟨x,hx⟩ : ∃x,r.rs[k]?=some x:=⟨_,qz hk⟩
  walk_at "n";refine⟨_,_,.inr (vr.of h1),rfl,?_⟩
  walk_at "r";refine⟨_,_,.inl (su.of Y),(ji (by lia) (by simpa using O)),?_⟩
  walk_at "r";refine⟨_,_,.inr (vr.of h1),rfl,?_⟩
  walk_at "r";refine⟨⟨_,su.of h2⟩,_,su.of h2,J,?_⟩
  exact⟨_,_,.inl (su.of (h5 k b x O hx)),(ap (v5 ok hx J)),q⟩
def xV(H:Hp)(d:Addr)(Ky:List (Nat×Nat)):Prop:=∃kvs,H d=some (.dT kvs)/\∀x:Nat×Nat,(bT kvs [Sum.inl (x.1:Int),Sum.inl (x.2:Int)]).isSome=decide (x∈Ky)
def vK:Sp:=λvs H Q _=>∃(L:Addr) (Ky:List (Nat×Nat)),vs=[.ref L]/\GV H L Ky/\∀(d:Addr) (H':Hp),sj H H'->H d=none->xV H' d Ky->Q (.ref d) H'
theorem Ca(D:xn K mg "_law_known" cD) (F:mg "isinstance" = none) (J:mg "tuple" = none):aF P w K mg base 1 "_law_known" ["_law_tokens"] vK:=by
 refine D.cal (k:=0) Gf (λf ac A outer s0 H vs Q E hr h=>?_)
 obtain⟨L,Ky,rfl,⟨cs,ks,eL,hT,hn,hm⟩,q⟩:=h
 refine⟨_,(ah (aw 1 Gf.nd rT)
   (ah (b4 xH rfl (bL K (pv 0)) (aM 2 Gf.nd) (aj (bf (dF (bm sU F jM (aa (pv 2) (aa (Ai J lN) ae)))) (aj (eY eU (fG (pv 1) (pv 2) (zu hr)))) aN)))
   (aj (aA (pv 1))))),?_⟩
 walk_at "r";intro d hd
 walk_at "g"
 rename_i H1 s1 e1
 walk_at "n";refine⟨⟨_,su.of (s1 _ _ eL)⟩,?_⟩
 have U:=hT.1;refine cB (xs:=cs.map V.ref) (λi σ H'=>∃(kvs:List (List aL×V)) (Z:LK),σ=[some (.ref L),some (.ref d),Z]/\sj H H'/\H' d=some (.dT kvs)/\kvs.length<=i/\∀x:Nat×Nat,(bT kvs [Sum.inl (x.1:Int),Sum.inl (x.2:Int)]).isSome=decide (x∈ks.take i)) ⟨[],none,rfl,s1,e1,qt _,λx=>rfl⟩ (λi σ H' _ hh=>by obtain⟨_,_,_,z,_⟩:=hh;exact su.of (z _ _ eL)) ?_ ?_
 .rintro i v σ H2 hv ⟨kvs,Z,rfl,s2,e2,ab,W⟩
  have hi:i<cs.length:=by have:=(Kq.mp hv).1;simpa using this
  rw[wC,qz hi]at hv
  cases hv;have O:i<ks.length:=by lia
  have Y:=s2 _ _ (hT.2 i _ _ (qz hi) (qz O));have et:ks.take (i+1)=ks.take i++[ks[i]]:=J6 O
  rw[et];generalize ks[i]=t at Y;generalize cs[i]=c at Y |-;walk_at "r";refine⟨"tuple",by simp[cY,Y],by decide,?_⟩
  rw[Kx (by decide)]
  refine⟨d,c,kvs,[Sum.inl (t.1:Int),Sum.inl (t.2:Int)],rfl,rfl,e2,Y,aU (by lia),_,_,rfl,s2.upd hd _,ai,?_,λx=>?_⟩
  .unfold cX
   split
   .rw[zj];lia
   .rw[qL];simp;lia
  .rw[jp]
   by_cases c1:x=t
   .subst c1
    rw[Kx rfl];simp
   .have hx:=W x
    rw[Kt (λz=>c1 ?_),hx]
    .exact decide_eq_decide.mpr ⟨lW _,λz=>(KA.mp z).elim id λy=>absurd (Kw.mp y) c1⟩
    .simp only[List.cons.injEq,Sum.inl.injEq,Int.natCast_inj,and_true]at z
     exact Prod.ext z.1 z.2
 .rintro σ H2 ⟨kvs,Z,rfl,s2,e2,ab,W⟩
  rw[zj,U,Iq]at W
  walk_at "n";exact q d H2 s2 hd ⟨kvs,e2,λx=>by rw[W x];exact decide_eq_decide.mpr (hm x)⟩
def ue:Sp:=λvs H Q _=>∃(sp rp d:Addr) (S M:List LG) (Ky:List (Nat×Nat)),vs=[.ref sp,.ref rp,.ref d]/\H sp=some (.lst (S.map aV))/\H rp=some (.lst (M.map aV))/\xV H d Ky/\vH Ky S M/\S.length<=9000/\M.length<=100000/\∀H':Hp,sj H H'->Q (.bl true) H'
theorem zB(D:xn K mg "_law_stands" bv) (F:wAL mg) (Z:wAK mg) (Y:mg "zip" = none):aF P w K mg base 1 "_law_stands" qAY ue:=by
 refine D.cal (k:=0) CZ (λf as A outer s0 H vs Q E hr h=>?_)
 obtain⟨sp,rp,d,S,M,Ky,rfl,hS,hM,hK,I,a3,a4,q⟩:=h
 refine⟨_,(ah (gg (Cq.to (fsc:=(sg bv)) (N:=qAG) (N0:=["_law_slots_here","_law_rooms","_law_tokens","_law_sums","_law_slot","_law_held","_law_room'"]) (T:=["_law_room"])) rfl CZ.nd (i:=3) rfl P5 (bL K (pv 1)) (λ_ _ _ _=>(aM 7 (show (["_law_slots_here","_law_rooms","_law_tokens","_law_sums","_law_slot","_law_held","_law_room'","_law_room"]:KZ).Nodup from by decide +kernel))) (ci (show (qAG:KZ).length<=7 from by decide)) (λ_ _ _ _=>c7) (λ_ _ _ _=>af))
   (ah (b4 xH rfl (dh OV F (aa (bm (aR K) Z bG (aa (pv 0) ae)) ae)) (aM 4 CZ.nd) (aj (bf (az jy (ak (av K) (pv 0) (pv 4)) dB (aG _)) (aj (eY (ar aB (ak (av K) (pv 3) (ak (av K) (pv 0) (pv 4))) (ar mn af (pv 4))) (fG (pv 3) (ak (av K) (pv 0) (pv 4)) kW))) aN)))
   (ah (b4 xH rfl (ET K Lb Y (aa (dW (tf K) (pv 3) fw (cP af)) (aa (dW (tf K) (pv 1) fw (cP af)) ae))) (jf K (n:=2) (cG (aM 5 CZ.nd) (cG (aM 6 CZ.nd) ie))) (aj (bf (PW.pt' (eI (az jy (pv 6) dB (aG _)) (fz (az (oq hr) (aQ (aa (pv 5) (aa (pv 6) ae))) (pv 2) (by with_unfolding_all rfl))))) (aj (aA eU)) aN)))
   (aj (aA eU))))),?_⟩
 walk_at "r";refine⟨⟨_,su.of hM⟩,λsm U=>?_⟩
 refine fu (xs:=M.map aV) (λi ys H'=>sj H H'/\H' sm=some (.lst ys)/\ys=List.replicate i (V.int 0)) ⟨am U _,ai,rfl⟩ (λi ys H' _ hh=>su.of (hh.1 _ _ hM)) ?_ ?_
 .rintro i ys H' v hv hi ⟨s1,e1,rfl⟩
  walk_at "r";refine fM hi (by rw[Kk]) (by rw[zj];exact aU (by lia)) e1 ⟨s1.upd U _,ai,?_⟩
  rw[List.replicate_succ']
 rintro ys H1 ⟨s1,e1,rfl⟩
 rw[zj]at e1
 walk_at "n";refine⟨_,.inl (su.of (s1 _ _ hS)),?_⟩
 rw[zj];refine⟨by lia,by lia,?_⟩
 rw[gE]
 have z0:List.replicate M.length (V.int 0)=(List.range M.length).map λh=>iN (hN S h 0):=by
  exact(List.eq_replicate_iff.mpr ⟨by simp,λb hb=>by obtain⟨_,_,rfl⟩:=KB.mp hb;rfl⟩).symm
 rw[z0]at e1
 refine d_ (λi σ H'=>∃(o4:LK),σ=[some (.ref sp),some (.ref rp),some (.ref d),some (.ref sm),o4,none,none]/\sj H H'/\H' sm=some (.lst ((List.range M.length).map λh=>iN (hN S h i)))) ⟨_,rfl,s1,e1⟩ ?_ ?_
 .rintro i σ H2 hi ⟨o4,rfl,s2,e2⟩
  rw[Int.zero_add];have O:(S.map aV)[i]?=some (aV (S.getD i none)):=by rw[wC,xf,qz hi];rfl
  have same:S.getD i none=none->((List.range M.length).map λh=>iN (hN S h i))=(List.range M.length).map λh=>iN (hN S h (i+1)):=λz=>by
   refine zbm λh _=>?_
   show _=iN (hN S h i+_)
   rw[z,Kt (by simp),Nat.add_zero]
  walk_at "r";refine⟨_,_,.inl (su.of (s2 _ _ hS)),ap O,?_⟩
  cases hg:S.getD i none with
  | none=>exact⟨_,rfl,s2,by rw[<-same hg];exact e2⟩
  | some h=>
   have hh:=I.lt i h hg;rw[Kx (by simp[aV])]
   rw[hg]at O
   refine⟨_,_,.inl (su.of (s2 _ _ hS)),ap O,?_⟩
   walk_at "r";refine⟨_,_,.inl (su.of e2),ap (j:=h) (v:=iN (hN S h i)) (by rw[wC,zbq hh];rfl),⟨by lia,by lia,by decide⟩,?_⟩
   walk_at "r";refine⟨_,_,.inl (su.of (s2 _ _ hS)),ap O,?_⟩
   refine⟨sm,_,(h:Int),h,rfl,rfl,e2,by unfold iR;rw[zj,zbn];simp[hh],_,rfl,s2.upd U _,?_⟩
   rw[ai]
   congr 2
   refine List.ext_getElem? λk=>?_
   rw[zbp,wC,wC,zj,zbn]
   by_cases ek:h=k
   .subst ek
    rw[Kx rfl,Kx hh,zbq hh];show some _=some (iN (hN S h i+_))
    rw[hg,Kx rfl]
    congr 2
    rw[gE];push_cast;lia
   .rw[Kt ek]
    cases hr:(List.range M.length)[k]? with
    | none=>rfl
    | some k'=>
     have:k'=k:=by
      have hk:=(Kq.mp hr).1;rw[zbq (by simpa using hk)]at hr
      exact(Option.some.inj hr).symm
     subst this;show some _=some (iN (hN S k' i+_))
     rw[hg,Kt (λz=>ek (Option.some.inj z)),Nat.add_zero]
 rintro σ H2 ⟨o4,rfl,s2,e2⟩
 walk_at "n";refine⟨_,su.of e2,λx1 a5=>?_⟩
 have ct:∀xs:LB,dH xs none (some 40)=xs.take 40:=λxs=>vT xs 40
 rw[ct];walk_at "g"
 rename_i H3 s3 e3
 have ad:=s2.trans s3;refine⟨_,su.of (ad _ _ hM),λx2 hx2=>?_⟩
 rw[ct];walk_at "g"
 rename_i H4 s4 e4
 have ag:=ad.trans s4;have ac:=s4 _ _ e3;refine⟨⟨_,su.of ac⟩,⟨_,su.of e4⟩,?_⟩
 refine BR (xs:=((List.range M.length).map λh=>iN (hN S h S.length)).take 40) (ys:=(M.map aV).take 40) (λi σ H'=>∃o5 o6:LK,σ=[some (.ref sp),some (.ref rp),some (.ref d),some (.ref sm),o4,o5,o6]/\sj H4 H') (by simp) ⟨_,_,rfl,λ_ _ z=>z⟩ (λi σ H' _ hh=>by obtain⟨_,_,_,z⟩:=hh;exact⟨su.of (z _ _ ac),su.of (z _ _ e4)⟩) ?_ ?_
 .rintro i v v2 t σ H5 hv J ⟨o5,o6,rfl,s5⟩ ht
  have hi:i<M.length:=by have:=(Kq.mp J).1;simp at this;lia
  have ab:i<40:=by have:=(Kq.mp J).1;simp at this;lia
  rw[zbs ab,wC,zbq hi]at hv
  rw[zbs ab,wC,qz hi]at J
  cases hv
  cases J;walk_at "g"
  rename_i H6 st et
  have W:=s5.trans st;walk_at "r";refine⟨t,_,rfl,vr.of et,rfl,?_⟩
  walk_at "r"
  cases hm:M[i] with
  | none=>exact⟨_,_,rfl,W⟩
  | some k=>
   have al:=I.tk i k (by rw[xf,qz hi,hm];rfl)
   rw[Kx (by simp[aV])]
   refine⟨by decide,λy hy=>?_⟩
   obtain⟨kvs,k1,k2⟩:=hK
   have s6:=am hy (.tup [iN (hN S i S.length),aV (some k)]);refine⟨d,y,kvs,[Sum.inl ((hN S i S.length:Nat):Int),Sum.inl (k:Int)],rfl,rfl,s6 _ _ ((ag.trans W) _ _ k1),ai,?_⟩
   rw[k2 (hN S i S.length,k),decide_eq_true al];exact⟨_,rfl,_,_,rfl,W.trans s6⟩
 .rintro σ H5 ⟨o5,o6,rfl,s5⟩
  walk_at "n";exact q H5 (ag.trans s5)
theorem jo(S:List LG)(i:Nat)(x:LG):(S.map aV).set i (aV x)=(S.set i x).map aV:=List.map_set.symm
theorem qM{S:List LG}(h:i<S.length):(S.map aV)[i]?=some (aV (S.getD i none)):=by rw[wC,xf,qz h];rfl
theorem kU(h:i<n):iR n (i:Int)=some i:=by unfold iR;simp[h]
def FE:Sp:=λvs H Q _=>∃(p b sp rp:Addr) (H0:Hp) (rl:Rl) (r:aD) (n0:Nat) (S M:List LG),vs=[.ref p,.ref b,.ref sp,.ref rp]/\sj H0 H/\CT H0 p rl/\eR rl/\b6 H0 b r/\CY n0 r/\S.length=n0/\H0 sp=none/\H0 rp=none/\sp≠rp/\H sp=some (.lst (S.map aV))/\H rp=some (.lst (M.map aV))/\M.length<=100000/\(∀s h,S.getD s none=some h->h<M.length)/\(∀h k,M.getD h none=some k->k<rl.rs.length)/\
 ∀H':Hp,sj H0 H'->H' sp=some (.lst ((mf rl r S M).1.map aV))->H' rp=some (.lst ((mf rl r S M).2.map aV))->Q .non H'
theorem JH(D:xn K mg "_law_done" dg) (a4:wAK mg) (F:aF P w K mg base 1 "_law_next" qAT vg):aF P w K mg base 2 "_law_done" qAI FE:=by
 refine D.cal (k:=1) uO (λf a9 A outer s0 H vs Q E hr h=>?_)
 obtain⟨p,b,sp,rp,H0,rl,r,n0,S,M,rfl,J,hR,ok,ad,hk,hl,as,a6,ab,hS,hM,bc,a8,a7,q⟩:=h
 refine⟨_,(ah (bf (az bn (ak (av K) (pv 1) af) ax (aG _)) (ah (eY (bm (aR K) a4 bG (aa (pv 3) ae)) (fG (pv 2) (ak (av K) (pv 1) af) kW))
   (aj (br (bH K xh mY nu bA (pv 3) (aa (ay F hr (aa (pv 0) (aa af (aa ax ae)))) ae))))) aN)
   (ah (bf (PW.pt' (eI (az bn (ak (av K) (pv 1) af) ax (aG _)) (eI (az jy (ak (av K) (pv 2) (ak (av K) (pv 1) af)) dB (aG _)) (fz (az jy (ak (av K) (pv 3) (ak (av K) (pv 2) (ak (av K) (pv 1) af))) dB (aG _)))))) (aj (eY (ay F hr (aa (pv 0) (aa (ak (av K) (pv 3) (ak (av K) (pv 2) (ak (av K) (pv 1) af))) (aa (ak (av K) (pv 1) af) ae)))) (fG (pv 3) (ak (av K) (pv 2) (ak (av K) (pv 1) af)) kW))) aN)
   (ah (bf (az bn (ak (av K) (pv 1) af) ax (aG _)) (aj (eY (ak (av K) (pv 2) (ak (av K) (pv 1) af)) (fG (pv 2) (ak (av K) (pv 1) af) kW))) aN)
   (aj (bf (az bn (ak (av K) (pv 1) af) ax (aG _)) (aj (eY dB (fG (pv 2) (ak (av K) (pv 1) af) kW))) aN))))),?_⟩
 have hb:=J _ _ ad;have W:=hk.hd;unfold mf at q;walk_at "r";refine⟨_,_,.inr (vr.of hb),ap (j:=0) W,?_⟩
 walk_at "r"
 by_cases d1:bX r = "open"
 .rw[Kx d1]at q |-
  obtain⟨h2,l2⟩:=hk.s2 (by rw[d1];decide)
  refine⟨_,.inl (su.of hM),_,_,.inr (vr.of hb),ap (j:=2) h2,sp,_,_,aY r 2,rfl,rfl,hS,kU (by rw[zj];lia),?_⟩
  rw[zj,show V.int (M.length:Int)=aV (some M.length) from rfl,jo];have s1:=J.upd as (.lst ((S.set (aY r 2) (some M.length)).map aV));have Z:upd H sp (.lst ((S.set (aY r 2) (some M.length)).map aV)) sp=some (.lst ((S.set (aY r 2) (some M.length)).map aV)):=ai
  have e2:upd H sp (.lst ((S.set (aY r 2) (some M.length)).map aV)) rp=some (.lst (M.map aV)):=by rw[au ab.symm];exact hM
  generalize upd H sp (.lst ((S.set (aY r 2) (some M.length)).map aV))=H1 at s1 Z e2 |-;walk_at "n";refine⟨⟨_,su.of e2⟩,p,rl,0,"open",rfl,hR.mono s1,ok,by have:=ok.n0;lia,_,e2,by rw[zj];exact aU (by lia),?_⟩
  rw[show M.map aV++[aV (step rl 0 "open")]=(M++[step rl 0 "open"]).map aV by simp]
  have s2:=s1.upd a6 (.lst ((M++[step rl 0 "open"]).map aV));have e3:upd H1 rp (.lst ((M++[step rl 0 "open"]).map aV)) sp=some (.lst ((S.set (aY r 2) (some M.length)).map aV)):=by rw[au ab];exact Z
  have e4:upd H1 rp (.lst ((M++[step rl 0 "open"]).map aV)) rp=some (.lst ((M++[step rl 0 "open"]).map aV)):=ai
  generalize upd H1 rp (.lst ((M++[step rl 0 "open"]).map aV))=H2 at s2 e3 e4 |-;have a5:=s2 _ _ ad;rw[d1]at W
  walk_at "n";refine⟨_,_,.inr (vr.of a5),ap (j:=0) W,?_⟩
  walk_at "r";rw[Kt (by decide)]
  walk_at "n";refine⟨_,_,.inr (vr.of a5),ap (j:=0) W,?_⟩
  walk_at "r";rw[Kt (by decide)]
  walk_at "n";refine⟨_,_,.inr (vr.of a5),ap (j:=0) W,?_⟩
  walk_at "r";rw[Kt (by decide)]
  exact q H2 s2 e3 e4
 rw[Kt d1]at q |-
 refine kF (λσ' H'=>∃M1:List LG,σ'=[some (.ref p),some (.ref b),some (.ref sp),some (.ref rp)]/\sj H0 H'/\H' sp=some (.lst (S.map aV))/\H' rp=some (.lst (M1.map aV))/\(bX r = "do" -> rO rl r S M=(S,M1))/\(bX r ≠ "do" -> M1=M)) (λk ag=>?_) ?_
 .walk_at "r"
  refine⟨_,_,.inr (vr.of hb),ap (j:=0) W,?_⟩
  walk_at "r";refine bx (λU=>?_) (λU=>ag _ _ ⟨M,rfl,J,hS,hM,λz=>absurd z U,λ_=>rfl⟩)
  obtain⟨h2,l2⟩:=hk.s2 (by rw[U];decide)
  have Y:=qM (S:=S) (i:=aY r 2) (by lia)
  refine⟨_,_,.inr (vr.of hb),ap (j:=2) h2,_,_,.inl (su.of hS),ap Y,?_⟩
  cases Z:S.getD (aY r 2) none with
  | none=>
   rw[Kt (by simp[aV])]
   exact ag _ _ ⟨M,rfl,J,hS,hM,λ_=>by unfold rO;rw[Z],λz=>absurd U z⟩
  | some h=>
   rw[Z]at Y
   have hh:=a8 _ _ Z;have a3:=qM (S:=M) (i:=h) hh;rw[Kx (by simp[aV])]
   refine⟨_,_,.inr (vr.of hb),ap (j:=2) h2,_,_,.inl (su.of hS),ap Y,?_⟩
   walk_at "r";refine⟨_,_,.inl (su.of hM),ap a3,?_⟩
   cases e2:M.getD h none with
   | none=>
    rw[Kt (by simp[aV])]
    exact ag _ _ ⟨M,rfl,J,hS,hM,λ_=>by unfold rO;rw[Z];dsimp only;rw[e2],λz=>absurd U z⟩
   | some k0=>
    rw[e2]at a3
    rw[Kx (by simp[aV])]
    refine⟨_,_,.inr (vr.of hb),ap (j:=2) h2,_,_,.inl (su.of hS),ap Y,?_⟩
    walk_at "r";refine⟨_,_,.inl (su.of hM),ap a3,_,_,.inr (vr.of hb),ap (j:=3) (hk.wd U),?_⟩
    refine⟨p,rl,k0,Aj r,rfl,hR.mono J,ok,a7 _ _ e2,?_⟩
    refine⟨_,_,.inr (vr.of hb),ap (j:=2) h2,_,_,.inl (su.of hS),ap Y,?_⟩
    refine⟨rp,_,_,h,rfl,rfl,hM,kU (by rw[zj];exact hh),?_⟩
    rw[jo];exact ag _ _ ⟨_,rfl,J.upd a6 _,by rw[au ab];exact hS,ai,λ_=>by unfold rO;rw[Z];dsimp only;rw[e2],λz=>absurd U z⟩
 rintro σ' H1 ⟨M1,rfl,s1,ac,al,x1,x2⟩
 have O:=s1 _ _ ad;walk_at "n";refine⟨_,_,.inr (vr.of O),ap (j:=0) W,?_⟩
 walk_at "r"
 by_cases U:bX r = "do"
 .rw[Kx U,x1 U]at q
  rw[U]at W |-
  rw[Kt (by decide)]
  walk_at "n";refine⟨_,_,.inr (vr.of O),ap (j:=0) W,?_⟩
  walk_at "r";rw[Kt (by decide)]
  exact q H1 s1 ac al
 rw[Kt U]at q
 obtain rfl:=x2 U
 refine bx (λd3=>?_) (λd3=>?_)
 .rw[Kx d3]at q
  obtain⟨h2,l2⟩:=hk.s2 (by rw[d3];decide)
  obtain⟨h3,l3⟩:=hk.s3 (by rw[d3];decide)
  refine⟨_,_,.inr (vr.of O),ap (j:=3) h3,_,_,.inl (su.of ac),ap (qM (S:=S) (by lia)),?_⟩
  refine⟨_,_,.inr (vr.of O),ap (j:=2) h2,sp,_,_,aY r 2,rfl,rfl,ac,kU (by rw[zj];lia),?_⟩
  rw[jo];have s2:=s1.upd as (.lst ((S.set (aY r 2) (S.getD (aY r 3) none)).map aV));have Z:upd H1 sp (.lst ((S.set (aY r 2) (S.getD (aY r 3) none)).map aV)) sp=_:=ai
  have e2:upd H1 sp (.lst ((S.set (aY r 2) (S.getD (aY r 3) none)).map aV)) rp=_:=(au ab.symm).trans al
  generalize upd H1 sp (.lst ((S.set (aY r 2) (S.getD (aY r 3) none)).map aV))=H2 at s2 Z e2 |-;rw[d3]at W
  walk_at "n";refine⟨_,_,.inr (vr.of (s2 _ _ ad)),ap (j:=0) W,?_⟩
  walk_at "r";rw[Kt (by decide)]
  exact q H2 s2 Z e2
 rw[Kt d3]at q
 walk_at "n";refine⟨_,_,.inr (vr.of O),ap (j:=0) W,?_⟩
 walk_at "r";refine bx (λd4=>?_) (λd4=>?_)
 .rw[Kx d4]at q
  obtain⟨h2,l2⟩:=hk.s2 (by rw[d4];decide)
  refine⟨_,_,.inr (vr.of O),ap (j:=2) h2,sp,_,_,aY r 2,rfl,rfl,ac,kU (by rw[zj];lia),?_⟩
  rw[show V.non=aV none from rfl,jo];exact q _ (s1.upd as _) ai ((au ab.symm).trans al)
 .rw[Kt d4]at q
  exact q H1 s1 ac al
def Jt:LB->Hp->VK->Prop:=λxs H Q=>∃i j k,xs=[.int i,.int j,.int k]/\Q (.int (if j>i then (if k>j then k else j) else (if k>i then k else i))) H
theorem Ah{X:Cx}(F:X.calm=true:=by rfl):BB X (.builtin "max") Jt:=by
 unfold BB;intro pins s σ H xs O Q I r h
 obtain⟨i,j,k,rfl,q⟩:=h
 cases r with
 | cons r1 r2=>
  obtain⟨u,J,rfl,⟨t',rfl⟩,⟨t2,rfl⟩⟩:=jr r2
  obtain⟨t,rfl⟩:=r1
  refine max_three_ints (I.ok.hd F) λh' tk kk=>⟨_,H,I.kept kk,?_,q⟩
  by_cases hj:j>i
  .rw[Kx hj,Kx hj]
   by_cases h2:k>j
   .rw[Kx h2,Kx h2];exact⟨_,rfl⟩
   .rw[Kt h2,Kt h2];exact⟨_,rfl⟩
  .rw[Kt hj,Kt hj]
   by_cases h2:k>i
   .rw[Kx h2,Kx h2];exact⟨_,rfl⟩
   .rw[Kt h2,Kt h2];exact⟨_,rfl⟩
theorem CY.cut{N M:Nat}{r:aD}(h:CY N r)(h2:bX r∈(qAq:KZ)->aY r 2<M) (F:bX r∈(qAp:KZ)->aY r 3<M):CY M r:=by
 cases h with
 | op l s _=>exact .op l s (h2 (show ("open" : Str)∈_ by decide))
 | dd l s x _=>exact .dd l s x (h2 (show ("do" : Str)∈_ by decide))
 | cp l s t _ _=>exact .cp l s t (h2 (show ("copy" : Str)∈_ by decide)) (F (show ("copy" : Str)∈_ by decide))
 | dr l s _=>exact .dr l s (h2 (show ("drop" : Str)∈_ by decide))
 | ti l s t _ _=>exact .ti l s t (h2 (show ("tie" : Str)∈_ by decide)) (F (show ("tie" : Str)∈_ by decide))
 | ts l n j=>exact .ts l n j
 | jm l j=>exact .jm l j
 | en l=>exact .en l
theorem CY.up{M:Nat}(h:CY N r)(F:N<=M):CY M r:=h.cut (λy=>uo (h.s2 y).2 F) (λy=>uo (h.s3 y).2 F)
def ui:Sp:=λvs H Q _=>∃(c:Addr) (R:List aD) (N:Nat),vs=[.ref c]/\BM H c R/\(∀r∈R,CY N r)/\∀(M:Nat) (H':Hp),sj H H'->M<=N->(∀r∈R,CY M r)->Q (.int (M:Int)) H'
theorem zD(D:xn K mg "_law_slots" cS) (O:mg "max" = none):aF P w K mg base 1 "_law_slots" ["_law_code_here"] ui:=by
 refine D.cal (k:=0) D8 (λf a9 A outer s0 H vs Q E hr h=>?_)
 obtain⟨c,R,N,rfl,hL,hk,q⟩:=h
 refine⟨_,(ah (aw 1 D8.nd af)
   (ah (b4 xH rfl (bL K (pv 0)) (aM 2 D8.nd) (ah (bf (az (j3 K) (ak (av K) (pv 2) af) (aQ (aa ax (aa ax (aa ax ae)))) (by with_unfolding_all rfl)) (aj (aw 1 D8.nd (bm y8 O q_ (aa (pv 1) (aa (ar aB (ak (av K) (pv 2) af) af) ae))))) aN)
   (aj (bf (az (j3 K) (ak (av K) (pv 2) af) (aQ (aa ax (aa ax ae))) (by with_unfolding_all rfl)) (aj (aw 1 D8.nd (bm Ah O q_ (aa (pv 1) (aa (ar aB (ak (av K) (pv 2) af) af) (aa (ar aB (ak (av K) (pv 2) af) af) ae)))))) aN))))
   (aj (aA (pv 1))))),?_⟩
 obtain⟨as,a1,a2⟩:=id hL
 have hl:=aI a2;walk_at "r";walk_at "n";refine⟨⟨_,su.of a1⟩,?_⟩
 refine cB (xs:=as.map V.ref) (λi σ H'=>∃(M:Nat) (o2:LK),σ=[some (.ref c),some (.int (M:Int)),o2]/\sj H H'/\M<=N/\∀r∈R.take i,CY M r) ⟨0,none,rfl,λ_ _ z=>z,xR _,λ_ z=>by simp at z⟩ (λi σ H' _ hh=>by obtain⟨_,_,_,z,_⟩:=hh;exact su.of (z _ _ a1)) ?_ ?_
 .rintro i v σ H' hv ⟨M,o2,rfl,sm,hM,U⟩
  have hi:i<as.length:=by have:=(Kq.mp hv).1;simpa using this
  rw[wC,qz hi]at hv
  cases hv;obtain⟨r,ab,ag⟩:=cg a2 (qz hi)
  have J:=hk r (kg ab);have hb:=sm _ _ ag;have W:H as[i]=some (.tup r):=ag
  generalize as[i]=b at hb W |-;refine kF (λσ' H'=>∃M1:Nat,σ'=[some (.ref c),some (.int (M1:Int)),some (.ref b)]/\sj H H'/\M1<=N/\M<=M1/\(bX r∈(["open","do","drop"]:KZ)->aY r 2<M1)) (λk al=>?_) ?_
  .walk_at "r"
   refine⟨_,_,.inr (vr.of hb),ap (j:=0) J.hd,by decide,λp hp=>?_⟩
   have s1:=am hp (.tup [V.str "open",.str "do",.str "drop"]);refine⟨_,.inr (vr.of ai),rfl,rfl,?_⟩
   have ad:=s1 _ _ hb;generalize upd H' p (.tup [V.str "open",.str "do",.str "drop"])=H1 at s1 ad |-;rw[show [V.str "open",.str "do",.str "drop"]=(["open","do","drop"]:KZ).map V.str from rfl,fP];refine bx (λe=>?_) (λe=>?_)
   .have e:=of_decide_eq_true e
    obtain⟨h2,l2⟩:=J.s2 (by simp only[wQ,yh,or_false]at e |-;rcases e with e | e | e<;>simp[e])
    refine⟨_,_,.inr (vr.of ad),ap (j:=2) h2,?_⟩
    walk_at "r"
    have e:∃F:Nat,(if (aY r 2:Int)+1>(M:Int) then (aY r 2:Int)+1 else (M:Int))=(F:Int)/\F<=N/\M<=F/\aY r 2<F:=by
     split
     .exact⟨aY r 2+1,by push_cast;rfl,l2,by lia,by lia⟩
     .exact⟨M,rfl,hM,by lia,by lia⟩
    obtain⟨F,e,Z,a6,a7⟩:=e
    rw[e];exact al _ _ ⟨F,rfl,sm.trans s1,Z,a6,λ_=>a7⟩
   .exact al _ _ ⟨M,rfl,sm.trans s1,hM,qt _,λz=>absurd (decide_eq_true z) e⟩
  rintro σ' H2 ⟨M1,rfl,s2,a3,g1,g2⟩
  have ac:∀M2,M1<=M2->(bX r∈(qAp:KZ)->aY r 2<M2/\aY r 3<M2)->∀q∈R.take (i+1),CY M2 q:=λM2 a8 h3 q hq=>by
   have a5:i<R.length:=(Kq.mp ab).1
   rw[J6 a5]at hq
   rcases KA.mp hq with z | z
   .exact(U q z).up (by lia)
   .rw[Kw.mp z,(Kq.mp ab).2]
    refine J.cut (λy=>?_) (λy=>(h3 y).2)
    by_cases y1:bX r∈(qAp:KZ)
    .exact(h3 y1).1
    .have:=g2 (by simp only[wQ,yh,or_false,not_or]at y y1 |-;rcases y with y | y | y | y | y<;>simp[y]at y1 |-)
     lia
  have a4:=s2 _ _ W;walk_at "n";refine⟨_,_,.inr (vr.of a4),ap (j:=0) J.hd,by decide,λp hp=>?_⟩
  have s3:=am hp (.tup [V.str "copy",.str "tie"]);refine⟨_,.inr (vr.of ai),rfl,rfl,?_⟩
  have Y:=s3 _ _ a4;generalize upd H2 p (.tup [V.str "copy",.str "tie"])=H3 at s3 Y |-;rw[show [V.str "copy",.str "tie"]=(qAp:KZ).map V.str from rfl,fP];refine bx (λe=>?_) (λe=>?_)
  .have e:=of_decide_eq_true e
   obtain⟨h2,l2⟩:=J.s2 (by simp only[wQ,yh,or_false]at e |-;rcases e with e | e<;>simp[e])
   obtain⟨h3,l3⟩:=J.s3 e
   refine⟨_,_,.inr (vr.of Y),ap (j:=2) h2,?_⟩
   walk_at "r";refine⟨_,_,.inr (vr.of Y),ap (j:=3) h3,?_⟩
   walk_at "r";refine⟨_,_,_,rfl,?_⟩
   have e:∃F:Nat,(if (aY r 2:Int)+1>(M1:Int) then (if (aY r 3:Int)+1>(aY r 2:Int)+1 then (aY r 3:Int)+1 else (aY r 2:Int)+1) else (if (aY r 3:Int)+1>(M1:Int) then (aY r 3:Int)+1 else (M1:Int)))=(F:Int)/\F<=N/\M1<=F/\aY r 2<F/\aY r 3<F:=by
    split
    .split
     .exact⟨aY r 3+1,by push_cast;rfl,l3,by lia,by lia,by lia⟩
     .exact⟨aY r 2+1,by push_cast;rfl,l2,by lia,by lia,by lia⟩
    .split
     .exact⟨aY r 3+1,by push_cast;rfl,l3,by lia,by lia,by lia⟩
     .exact⟨M1,rfl,a3,by lia,by lia,by lia⟩
   obtain⟨F,e,Z,f1,f2⟩:=e
   rw[e];exact⟨F,_,rfl,s2.trans s3,Z,ac F f1 λ_=>f2⟩
  .exact⟨M1,_,rfl,s2.trans s3,a3,ac M1 (qt _) λz=>absurd (decide_eq_true z) e⟩
 .rintro σ H' ⟨M,o2,rfl,sm,hM,U⟩
  rw[zj,hl,Iq]at U
  walk_at "n";exact q M H' sm hM U
noncomputable def im(r:aD):Nat:=if bX r = "jump" then 2 else 1
noncomputable def fC(R:List aD)(a:Nat):Nat:=((R.drop a).map im).sum
theorem qX(e:R[a]?=some r):fC R a=im r+fC R (a+1):=by
 obtain⟨h,rfl⟩:=Kq.mp e
 unfold fC;rw[za7 h,yj,lJ]
theorem yX(R:List aD):∀(n a:Nat),fC R (a+n)<=fC R a
 | 0,a=>qt _
 | n+1,a=>by
  have h:=yX R n a;rw[<-lR]
  cases e:R[a+n]? with
  | some r=>have:=qX e;lia
  | none=>
   have:R.length<=a+n:=KL.mp e
   unfold fC;rw[List.drop_eq_nil_of_le (by lia)]
   exact xR _
theorem jA{b:Nat}(h:a<=b):fC R b<=fC R a:=by
 have:=yX R (b-a) a
 rwa [show a+(b-a)=b by lia]at this
def zR(R:List aD)(a u left:Nat):Prop:=u*fC R 0+fC R a<=left\/∃q,R[a]?=some q/\bX q = "test" /\ ((0<u/\u*fC R 0+1<=left)\/(u=0/\1+fC R (aY q 3)<=left))
def Nx(r:aD)(a u a' u':Nat):Prop:=(bX r = "jump" /\ a'=aY r 2/\u'=u)\/(bX r = "test" /\ ((0<u/\u'=u-1/\(a'=a+1\/a'=aY r 3))\/(u=0/\u'=0/\a'=aY r 3)))\/(bX r ≠ "jump" /\ bX r ≠ "test" /\ a'=a+1/\u'=u)
theorem Nx.bh{u a' u':Nat}(h:Nx r a u a' u')(J:bX r ≠ "end"):a'∈fV a r:=by
 unfold fV;rw[Kt J];rcases h with ⟨z,rfl,_⟩ | ⟨z,y⟩ | ⟨F,O,rfl,_⟩
 .rw[Kx z];simp
 .rw[Kt (by rw[z];decide),Kx z]
  rcases y with ⟨_,_,rfl | rfl⟩ | ⟨_,_,rfl⟩<;>simp
 .rw[Kt F,Kt O];simp
theorem qZ{u w:Nat}(h:0<u):(u-1)*w+w=u*w:=by
 obtain⟨v,rfl⟩ : ∃v,u=v+1:=⟨u-1,by lia⟩
 rw[Nat.add_sub_cancel,IB,Nat.one_mul]
theorem B7(hC:J3 N R){a u a' u' left:Nat}(e:R[a]?=some r)(h:zR R a u left)(n:Nx r a u a' u'):zR R a' u' (left-1):=by
 obtain⟨_,h2,Y⟩:=hC.row a r e
 have w0:=qX e;have m0:∀b,fC R b<=fC R 0:=λb=>jA (xR _)
 rcases h with h | ⟨q,W,J,h⟩
 .rcases n with ⟨z,rfl,rfl⟩ | ⟨z,y⟩ | ⟨z1,U,rfl,rfl⟩
  .have O:im r=2:=by unfold im;rw[Kx z]
   rcases Y z with ⟨y,_⟩ | ⟨y,q,e1,e2,Z⟩
   .have:=jA (R:=R) (show a+1<=aY r 2 from y)
    exact .inl (by lia)
   .refine .inr ⟨q,e1,e2,?_⟩
    rcases Nat.eq_zero_or_pos u' with x | x
    .subst x
     have:=jA (R:=R) (show a+1<=aY q 3 from Z)
     exact .inr ⟨rfl,by lia⟩
    .exact .inl ⟨x,by lia⟩
  .have O:im r=1:=by unfold im;rw[Kt (by rw[z];decide)]
   have ht:=(h2 z).1;have t1:=jA (R:=R) (show a+1<=aY r 3 by lia)
   rcases y with ⟨y,rfl,F⟩ | ⟨rfl,rfl,rfl⟩
   .have:=qZ (w:=fC R 0) y
    refine .inl ?_
    rcases F with rfl | rfl<;>lia
   .exact .inl (by lia)
  .have O:im r=1:=by unfold im;rw[Kt z1]
   exact .inl (by lia)
 .rw[e]at W
  cases W;rcases n with ⟨z,_⟩ | ⟨z,y⟩ | ⟨_,U,_⟩
  .exact absurd (z.symm.trans J) (by decide)
  .rcases h with ⟨x,hx⟩ | ⟨rfl,hx⟩
   .rcases y with ⟨_,rfl,F⟩ | ⟨y,_⟩
    .have:=qZ (w:=fC R 0) x
     have:=m0 a'
     exact .inl (by lia)
    .lia
   .rcases y with ⟨y,_⟩ | ⟨_,rfl,rfl⟩
    .lia
    .exact .inl (by lia)
  .exact absurd J U
theorem EB{a u left:Nat}(F:a<R.length)(h:zR R a u left):0<left:=by
 rcases h with h | ⟨q,_,_,h⟩
 .have:=qX (qz F)
  have:1<=im R[a]:=by unfold im;split<;>lia
  lia
 .rcases h with h | h<;>lia
theorem Iy(F:Rl)(r:aD)(S M:List LG):(mf F r S M).2.length<=M.length+1:=by
 unfold mf;split
 .simp
 split
 .unfold rO
  split
  .split<;>simp
  .simp
 split
 .simp
 split<;>simp
theorem CY.t2(h:CY N r)(g:bX r = "test"):∃n:Int,r[2]?=some (.int n):=by
 cases h<;>first | exact⟨_,rfl⟩ | (simp only[bX,List.getD_cons_zero]at g;exact absurd g (by decide))
def Ec:Sp:=λvs H Q _=>∃(c p pp ip:Addr) (R:List aD) (rl:Rl) (N:Nat) (ds:LC) (Ks:fB) (ns:LJ),vs=[.ref c,.ref p,.ref pp,.ref ip]/\BM H c R/\J3 N R/\N<=9000/\CT H p rl/\eR rl/\H pp=some (.lst (ds.map V.ref))/\ds.length=R.length/\(∀(j:Nat) d,ds[j]?=some d->xV H d (Ks.getD j []))/\mv R rl Ks/\H ip=some (.lst (ns.map V.int))/\ns.length<=1000/\(ns.length+1)*fC R 0<=4000/\∀H':Hp,sj H H'->Q (.bl true) H'
theorem Fg(D:xn K mg "_law_run" bq) (W:wAL mg) (a7:wAK mg) (bt:mg "min" = none) (U:aF P w K mg base 1 "_law_slots" ["_law_code_here"] ui) (O:aF P w K mg base 1 "_law_stands" qAY ue) (Y:aF P w K mg base 2 "_law_done" qAI FE):aF P w K mg base 3 "_law_run" qAO Ec:=by
 refine D.cal (k:=2) BS (λf dm A outer s0 H vs Q E hr h=>?_)
 obtain⟨c,p,pp,ip,R,rl,N,ds,Ks,ns,rfl,hC,a8,hN,hR,ok,c4,d1,c5,cq,a5,dV,hw,q⟩:=h
 refine⟨_,(ah (gg (Cq.to (fsc:=(sg bq)) (N:=qAB) (N0:=qAB) (T:=["_law_k"])) rfl BS.nd (i:=4) rfl QK (dh F_ W (aa (ay U hr (aa (pv 0) ae)) ae)) (λ_ _ _ _=>(aM 10 (show (["_law_code_here","_law_rule_here","_law_paper","_law_inputs_here","_law_slots_here","_law_rooms","_law_at","_law_used","_law_count","_law_row","_law_k"]:KZ).Nodup from by decide +kernel))) (ci (show (qAB:KZ).length<=10 from by decide)) (λ_ _ _ _=>c7) (λ_ _ _ _=>dB))
   (ah (aw 5 BS.nd (aJ ae))
   (ah (aw 6 BS.nd af)
   (ah (aw 7 BS.nd af)
   (ah (b4 xH rfl (dh F_ W (aa af ae)) (aM 8 BS.nd) (ah (bf (jj (dF (ay O hr (aa (pv 4) (aa (pv 5) (aa (ak (av K) (pv 2) (pv 6)) ae)))))) (aj (aA eU)) aN)
   (ah (aw 9 BS.nd (ak (av K) (pv 0) (pv 6)))
   (ah (bf (az bn (ak (av K) (pv 9) af) ax (aG _)) (aj (aA eU)) aN)
   (ah (br (ay Y hr (aa (pv 1) (aa (pv 9) (aa (pv 4) (aa (pv 5) ae))))))
   (ah (aw 6 BS.nd (ar aB (pv 6) af))
   (ah (bf (az bn (ak (av K) (pv 9) af) ax (aG _)) (aj (aw 6 BS.nd (ak (av K) (pv 9) af))) aN)
   (aj (bf (az bn (ak (av K) (pv 9) af) ax (aG _)) (ah (bf (PW.pt' (mw (az bn (pv 7) (bm (aR K) a7 bG (aa (pv 3) ae)) (aG _)) (mJ (az D7 (ak (av K) (pv 3) (pv 7)) (ak (av K) (pv 9) af) (aG _))))) (aj (aw 6 BS.nd (ak (av K) (pv 9) af))) aN)
   (aj (aw 7 BS.nd (bm zA bt IX (aa (ar aB (pv 7) af) (aa (bm (aR K) a7 bG (aa (pv 3) ae)) ae)))))) aN)))))))))
   (aj (aA eU))))))),?_⟩
 have bg:0<R.length:=by
  obtain⟨r,e,_⟩:=a8.en
  have:=(Kq.mp e).1
  lia
 walk_at "r";refine⟨c,R,N,rfl,hC,λr c9=>?_,λM0 H1 s1 dP dc=>?_⟩
 .obtain⟨i,hi,rfl⟩:=KD.mp c9
  exact(a8.row i _ (qz hi)).1
 walk_at "r";refine⟨by lia,by lia,λsp be=>?_⟩
 rw[gE];refine iV (λi ys H'=>sj H H'/\H' sp=some (.lst ys)/\ys=(List.replicate i (none:LG)).map aV) ⟨s1.trans (am be _),ai,rfl⟩ ?_ ?_
 .rintro i ys H' hi ⟨sm,e,rfl⟩
  walk_at "r";refine fM hi (by rw[zj,Kk]) (aU (by lia)) e ⟨sm.upd (s1.free be) _,ai,?_⟩
  rw[List.replicate_succ',yd];rfl
 rintro ys H2 ⟨s2,eS,rfl⟩
 have c1:H sp=none:=s1.free be
 walk_at "n";refine⟨by decide,λrp bp=>?_⟩
 have s3:=am bp (.lst []);have eM:upd H2 rp (.lst []) rp=some (.lst (([]:List LG).map aV)):=ai
 have b2:H rp=none:=s2.free bp
 have bc:sp≠rp:=aP eS bp
 have cc:=s3 _ _ eS;have cb:=s2.trans s3;generalize upd H2 rp (.lst [])=H3 at s3 eM cc cb |-;walk_at "n";walk_at "n";walk_at "n";refine⟨by decide,by decide,?_⟩
 rw[show Int.toNat 4000=4000 from rfl]
 have I0:vH (Ks.getD 0 []) (List.replicate M0 none) []:=by
  refine⟨λs h e=>?_,λh k e=>by simp at e⟩
  rw[xf,za0]at e
  split at e<;>cases e
 refine d_ (λi σ H'=>∃(a J:Nat) (S M:List LG) (o8 o9:LK),σ=[some (.ref c),some (.ref p),some (.ref pp),some (.ref ip),some (.ref sp),some (.ref rp),some (.int (a:Int)),some (.int (J:Int)),o8,o9]/\sj H H'/\H' sp=some (.lst (S.map aV))/\H' rp=some (.lst (M.map aV))/\S.length=M0/\M.length<=i/\a<R.length/\J<=ns.length/\vH (Ks.getD a []) S M/\zR R a (ns.length-J) (4000-i))
  ⟨0,0,_,[],_,_,rfl,cb,cc,eM,Kk,qt _,bg,xR _,I0,.inl (by rw[Nat.sub_zero];rw[IB,Nat.one_mul]at hw;exact hw)⟩ ?_ ?_
 .rintro i σ H4 hi ⟨a,J,S,M,o8,o9,rfl,s4,e1,e2,b1,da,ha,b0,I,B⟩
  have a3:=qz ha;have c3:a<ds.length:=by lia
  have c8:=c5 a _ (qz c3);obtain⟨as,b,a1,al,ab,hb⟩:=mh hC a3
  have hk:=dc _ (nY ha);have ad:=λj hj bc=>BF (j:=j) cq a3 hk b1 bc hj I
  have c2:=λa' u'=>B7 (a':=a') (u':=u') a8 a3 B
  generalize R[a]=r at a3 hb hk ad c2;walk_at "r";refine⟨_,_,.inl (su.of (s4 _ _ c4)),ap (by rw[wC,qz c3];rfl),?_⟩
  refine⟨sp,rp,ds[a],S,M,Ks.getD a [],rfl,e1,e2,?_,I,by lia,by lia,λH5 s5=>?_⟩
  .obtain⟨kvs,k1,k2⟩:=c8
   exact⟨kvs,s4 _ _ k1,k2⟩
  have a9:=s4.trans s5;refine⟨_,rfl,?_⟩
  rw[Kt (by decide)]
  walk_at "n";refine⟨_,_,.inl (su.of (a9 _ _ a1)),ap (by rw[wC,ab];rfl),?_⟩
  walk_at "n";refine⟨_,_,.inr (vr.of (a9 _ _ hb)),ap (j:=0) hk.hd,?_⟩
  walk_at "r";refine bx (λde=>q H5 a9) (λde=>?_)
  walk_at "n";refine⟨p,b,sp,rp,H,rl,r,M0,S,M,rfl,a9,hR,ok,hb,hk,b1,c1,b2,bc,s5 _ _ e1,s5 _ _ e2,by lia,I.lt,λh k e=>cq.2.1 _ _ (I.tk h k e),λH6 s6 e3 e4=>?_⟩
  have Z:=s6 _ _ hb;have dl:=Iy rl r S M
  have ag:∀(a' F:Nat),F<=ns.length->Nx r a (ns.length-J) a' (ns.length-F)->∃(a J:Nat) (S M:List LG) (o8 o9:LK),[some (V.ref c),some (.ref p),some (.ref pp),some (.ref ip),some (.ref sp),some (.ref rp),some (.int (a':Int)),some (.int (F:Int)),some (.int (0+(i:Int))),some (.ref b)]=[some (V.ref c),some (.ref p),some (.ref pp),some (.ref ip),some (.ref sp),some (.ref rp),some (.int (a:Int)),some (.int (J:Int)),o8,o9]/\sj H H6/\H6 sp=some (.lst (S.map aV))/\H6 rp=some (.lst (M.map aV))/\S.length=M0/\M.length<=i+1/\a<R.length/\J<=ns.length/\vH (Ks.getD a []) S M/\zR R a (ns.length-J) (4000-(i+1)):=λa' F hu n=>by
   have ca:=n.bh de;obtain⟨I',l'⟩:=ad a' ca de
   exact⟨a',F,_,_,_,_,rfl,s6,e3,e4,l',by lia,a8.nx a3 a' ca,hu,I',c2 a' _ n⟩
  walk_at "n";walk_at "n";refine⟨_,_,.inr (vr.of Z),ap (j:=0) hk.hd,?_⟩
  walk_at "r";refine bx (λdj=>?_) (λdj=>?_)
  .refine⟨_,_,.inr (vr.of Z),ap (j:=2) (hk.j2 dj),?_⟩
   walk_at "n";refine⟨_,_,.inr (vr.of Z),ap (j:=0) hk.hd,?_⟩
   walk_at "r";rw[Kt (by rw[dj];decide)]
   exact ag _ J b0 (.inl ⟨dj,rfl,rfl⟩)
  walk_at "n";refine⟨_,_,.inr (vr.of Z),ap (j:=0) hk.hd,?_⟩
  walk_at "r";refine bx (λdt=>?_) (λdt=>?_)
  .obtain⟨n,hn⟩:=hk.t2 dt
   have ac:∀a':Nat,(a'=aY r 3\/(a'=a+1/\J<ns.length))->∃F:Nat,(if (ns.length:Int)<(J:Int)+1 then (ns.length:Int) else (J:Int)+1)=(F:Int)/\F<=ns.length/\Nx r a (ns.length-J) a' (ns.length-F):=λa' cd=>by
    rcases iz J ns.length with z | z
    .refine⟨J+1,by rw[Kt (by lia)];push_cast;rfl,z,.inr (.inl ⟨dt,.inl ⟨by lia,by lia,?_⟩⟩)⟩
     rcases cd with y | y
     .exact .inr y
     .exact .inl y.1
    .refine⟨ns.length,by rw[Kx (by lia)],qt _,.inr (.inl ⟨dt,.inr ⟨by lia,by lia,?_⟩⟩)⟩
     rcases cd with y | y
     .exact y
     .lia
   refine⟨_,.inl (su.of (s6 _ _ a5)),?_⟩
   rw[zj];refine bx (λcu=>?_) (λcu=>?_)
   .refine⟨_,_,.inr (vr.of Z),ap (j:=3) (hk.t3 dt),?_⟩
    walk_at "n";refine⟨_,.inl (su.of (s6 _ _ a5)),?_⟩
    rw[zj];obtain⟨F,e,a4,a6⟩:=ac _ (.inl rfl)
    rw[e];exact ag _ F a4 a6
   .have b3:J<ns.length:=by lia
    refine⟨_,_,.inl (su.of (s6 _ _ a5)),ap (j:=J) (v:=.int ns[J]) (by rw[wC,qz b3];rfl),_,_,.inr (vr.of Z),ap (j:=2) hn,?_⟩
    walk_at "r";refine bx (λcv=>?_) (λcv=>?_)
    .refine⟨_,_,.inr (vr.of Z),ap (j:=3) (hk.t3 dt),?_⟩
     walk_at "n";refine⟨_,.inl (su.of (s6 _ _ a5)),?_⟩
     rw[zj];obtain⟨F,e,a4,a6⟩:=ac _ (.inl rfl)
     rw[e];exact ag _ F a4 a6
    .walk_at "n"
     refine⟨_,.inl (su.of (s6 _ _ a5)),?_⟩
     rw[zj];obtain⟨F,e,a4,a6⟩:=ac (a+1) (.inr ⟨rfl,b3⟩)
     rw[e];exact ag _ F a4 a6
  .have:=ag (a+1) J b0 (.inr (.inr ⟨dj,dt,rfl,rfl⟩))
   exact this
 .rintro σ H4 ⟨a,J,S,M,o8,o9,rfl,s4,e1,e2,b1,da,ha,b0,I,B⟩
  exact absurd (EB ha B) (by decide)
def D5:Sp:=λvs H Q _=>∃(cp c:Addr) (cs:LJ) (R:List aD) (N:Nat),vs=[.ref cp,.ref c]/\H cp=some (.lst (cs.map V.int))/\cs.length<=1000/\BM H c R/\(∀r∈R,CY N r)/\R.length<=1000/\∀(L:Addr) (H':Hp) (ns:LJ),sj H H'->H L=none->H' L=some (.lst (ns.map V.int))->ns.length=cs.length->Q (.ref L) H'
theorem GH(D:xn K mg "_law_inputs" ba) (Y:wAK mg) (W:mg "max" = none):aF P w K mg base 1 "_law_inputs" qAf D5:=by
 refine D.cal (k:=0) CG (λf bc A outer s0 H vs Q E hr h=>?_)
 obtain⟨cp,c,cs,R,N,rfl,ab,a8,hC,hk,a9,q⟩:=h
 refine⟨_,(ah (aw 2 CG.nd (ar aB (dz (Cq.to (fsc:=(sg ba)) (N:=qAE) (N0:=qAE) (T:=["_law_row"])) rfl (bL K (pv 1)) (λ_ _ _ _=>(aM 7 (show (["_law_cells","_law_code_here","_law_bounds","_law_found","_law_cell","_law_near","_law_far","_law_row"]:KZ).Nodup from by decide +kernel))) (ci (show (qAE:KZ).length<=7 from by decide)) (λ_ _ _ _=>(iC (az bn (ak (av K) (pv 7) af) ax (aG _)))) (λ_ _ _ _=>(ak (av K) (pv 7) af))) (aJ (aa af ae))))
   (ah (aw 3 CG.nd (aJ ae))
   (ah (b4 xH rfl (bL K (pv 0)) (aM 4 CG.nd) (ah (aw 5 CG.nd (ak (av K) (pv 2) (ar bY (ar eJ (pv 4) af) (bm (aR K) Y bG (aa (pv 2) ae)))))
   (ah (aw 6 CG.nd (ar aB (ar gb (ar bY (ar eQ (pv 4) af) (ar gb (ar eQ af (ar jc af af)) af)) (ar jc af af)) af))
   (aj (br (bH K xh mY nu bA (pv 3) (aa (ak (av K) (aJ (aa (pv 5) (aa (ar aB (pv 5) af) (aa (ar aB (bm (AD K) W q_ (aa (pv 2) ae)) af) (aa (pv 6) ae))))) (ar bY (pv 4) af)) ae)))))))
   (aj (aA (pv 3)))))),?_⟩
 obtain⟨as,a1,a2⟩:=id hC
 have hl:=aI a2;walk_at "r";refine⟨⟨_,su.of a1⟩,λB hB=>?_⟩
 refine jB (xs:=as.map V.ref) (λi ys H'=>sj H H'/\∃bs:LJ,ys=bs.map V.int/\H' B=some (.lst (bs.map V.int))/\bs.length<=i) ⟨am hB _,[],rfl,ai,qt _⟩ (λi ys H' _ hh=>su.of (hh.1 _ _ a1)) ?_ ?_
 .rintro i ys H' v hv hi ⟨sm,bs,rfl,eB,Z⟩
  have a3:i<as.length:=by simpa using hi
  rw[wC,qz a3]at hv
  cases hv;obtain⟨r,a7,a6⟩:=cg a2 (qz a3)
  have a4:=hk r (kg a7);have hb:=sm _ _ a6;generalize as[i]=b at hb |-;walk_at "r";refine⟨_,_,.inr (vr.of hb),ap (j:=0) a4.hd,?_⟩
  walk_at "r";refine bx (λd=>?_) (λd=>xy hi ⟨sm,bs,rfl,eB,by lia⟩)
  obtain⟨n,hn⟩:=a4.t2 d
  refine⟨_,_,.inr (vr.of hb),ap (j:=2) hn,?_⟩
  exact zg hi (by rw[zj];exact Z) (aU (by rw[zj];lia)) eB ⟨sm.upd hB _,bs++[n],by simp,by rw[ai];simp,by simp;lia⟩
 rintro ys H1 ⟨s1,bs,rfl,eB,Z⟩
 rw[zj]at Z
 walk_at "r";refine⟨by decide,λz hz=>?_⟩
 walk_at "g"
 rename_i H2 s2 e2
 have e2:H2 z=some (.lst ([(0:Int)].map V.int)):=e2
 refine⟨_,_,s2 _ _ eB,e2,by rw[zj];exact aU (by simp;lia),λbp be=>?_⟩
 rw[<-yd];walk_at "g"
 rename_i H3 s3 e3
 have J:0<(bs++[0]).length:=by simp
 have ac:(bs++[0]:LJ).length<=1001:=by simp;lia
 generalize bs++[0]=bs at e3 J ac;have ag:=s1.trans (s2.trans s3);walk_at "n";refine⟨by decide,λL hL=>?_⟩
 have s4:=am hL (.lst []);have e4:upd H3 L (.lst []) L=some (.lst (([]:LJ).map V.int)):=ai
 have al:H L=none:=ag.free hL
 have ad:=s4 _ _ e3;have a5:bp≠L:=aP e3 hL
 have U:=ag.trans s4;generalize upd H3 L (.lst [])=H4 at s4 e4 ad U |-;walk_at "n";refine⟨⟨_,su.of (U _ _ ab)⟩,?_⟩
 refine cB (xs:=cs.map V.int) (λi σ H'=>∃(ns:LJ) (o4 o5 o6:LK),σ=[some (.ref cp),some (.ref c),some (.ref bp),some (.ref L),o4,o5,o6]/\sj H H'/\H' bp=some (.lst (bs.map V.int))/\H' L=some (.lst (ns.map V.int))/\ns.length=i) ⟨[],_,_,_,rfl,U,ad,e4,rfl⟩ (λi σ H' _ hh=>by obtain⟨_,_,_,_,_,z,_⟩:=hh;exact su.of (z _ _ ab)) ?_ ?_
 .rintro i v σ H5 hv ⟨ns,o4,o5,o6,rfl,s5,e5,e6,O⟩
  have hi:i<cs.length:=by have:=(Kq.mp hv).1;simpa using this
  rw[wC,qz hi]at hv
  cases hv;generalize cs[i]=cell
  walk_at "r";obtain⟨v,hv,_⟩:=sv (xs:=bs) (i:=cell/4%(bs.length:Int)) (Ic _ (by lia)) (J5 _ (by lia))
  refine⟨⟨by decide,by decide⟩,_,.inl (su.of e5),?_⟩
  rw[zj];refine⟨by lia,_,_,.inl (su.of e5),ji (Ic _ (by lia)) hv,?_⟩
  walk_at "n";refine⟨.inr ⟨by decide,by decide⟩,⟨by decide,by decide,by decide⟩,.inl ⟨by decide,by decide⟩,by decide,⟨by decide,by decide,by decide⟩,?_⟩
  generalize cell*69621%(2*10^Int.toNat 61-1)-10^Int.toNat 61+1=F
  walk_at "n";refine⟨⟨_,su.of e6⟩,bs,su.of e5,λz=>by rw[z]at J;simp at J,λM _ _=>⟨by decide,λy hy=>⟨by decide,?_⟩⟩⟩
  have s6:=am hy (.lst ([v,v+1,M+1,F].map V.int));have e7:upd H5 y (.lst ([v,v+1,M+1,F].map V.int)) y=some (.lst ([v,v+1,M+1,F].map V.int)):=ai
  have e8:=s6 _ _ e6;have e9:=s6 _ _ e5;rw[show [V.int v,V.int (v+1),V.int (M+1),V.int F]=[v,v+1,M+1,F].map V.int from rfl];generalize upd H5 y (.lst ([v,v+1,M+1,F].map V.int))=H6 at s6 e7 e8 e9 |-;obtain⟨u,hu,_⟩:=sv (xs:=[v,v+1,M+1,F]) (i:=cell%4) (Ic _ (by decide)) (J5 _ (by decide))
  refine⟨_,_,.inl (su.of e7),ji (Ic _ (by decide)) hu,_,e8,by rw[zj];exact aU (by lia),ns++[u],_,_,_,rfl,(s5.trans s6).upd al _,?_,by rw[ai];simp,by simp[O]⟩
  rw[au a5];exact e9
 .rintro σ H5 ⟨ns,o4,o5,o6,rfl,s5,e5,e6,O⟩
  walk_at "n";exact q L H5 ns s5 al e6 (by rw[O,zj])
set_option genSizeOf false in
inductive ul where
 | top
 | lend (x y:Str)
 | ite (n:Int)
 | whl (n:Int)
set_option genInjectivity false in
set_option genSizeOf false in
structure rC where
 hd:ul
 a:List ud
 b:List ud
 s:Bool
noncomputable def iy:ul->LB
 | .top=>[.str "top"]
 | .lend x y=>[.str "lend",.str x,.str y]
 | .ite n=>[.str "if",.int n]
 | .whl n=>[.str "while",.int n]
noncomputable def fT(f:rC):ud:=match f.hd with
 | .top=>.plain []
 | .lend x y=>.lend x y f.a
 | .ite n=>.ite n f.a f.b
 | .whl n=>.whl n f.a
noncomputable def bC(f:rC)(s:ud):rC:=if f.s=true then {f with b:=f.b++[s]} else {f with a:=f.a++[s]}
set_option genInjectivity false in
set_option genSizeOf false in
structure CV where
 fa:Addr
 a1:Addr
 a2:Addr
 f:rC
variable{x:CV}{gs:List CV}
noncomputable def fI(fs:List CV):LC:=fs.flatMap λx=>[x.fa,x.a1,x.a2]
noncomputable def mH(b:Bool):V:=.int (if b=true then 1 else 0)
def Hu(S:Addr->Prop)(H:Hp)(d:Nat)(x:CV):Prop:=∃(ha:Addr) (as1 as2:LC),H x.fa=some (.lst [.ref ha,.ref x.a1,.ref x.a2,mH x.f.s])/\H ha=some (.tup (iy x.f.hd))/\H x.a1=some (.lst (as1.map V.ref))/\H x.a2=some (.lst (as2.map V.ref))/\Paired (Cv (Bm S d H) H) as1 x.f.a/\Paired (Cv (Bm S d H) H) as2 x.f.b
structure C6 (H0 H:Hp) (pp:Addr) (fs:List CV) (S:Addr->Prop):Prop where
 sm:sj H0 H
 pile:H pp=some (.lst (fs.map λx=>V.ref x.fa))
 fr:∀k x,fs[k]?=some x->Hu S H (9-k) x
 nd:(pp::fI fs).Nodup
 ns:∀b∈pp::fI fs,¬ S b
 nw:∀b∈pp::fI fs,H0 b=none
 sn:∀b,S b->H0 b=none/\∃xs,H b=some (.lst xs)
theorem vi{b:Addr}(J:S b)(F:¬ S q):b≠q:=λe=>F (e ▸ J)
theorem J_{L:LC}(J:q∈L)(F:p∉L):p≠q:=λe=>F (e ▸ J)
theorem cK{S':Addr->Prop}(F:∀b xs,H b=some (.tup xs)->H' b=some (.tup xs))(hl:∀b xs,S b->H b=some (.lst xs)->H' b=some (.lst xs))(O:∀b,S b->S' b)(h:Paired (Cv (Bm S d H) H) J T):Paired (Cv (Bm S' d H') H') J T:=
 Paired.imp' (λa s z=>Cv.imp F (λq b y=>Bm.imp F hl O d y) z) h
theorem Hu.imp{S':Addr->Prop}(h:Hu S H d x)(F:∀b xs,H b=some (.tup xs)->H' b=some (.tup xs))(hl:∀b xs,S b->H b=some (.lst xs)->H' b=some (.lst xs))(W:∀b,S b->S' b)(O:∀b o,(b=x.fa\/b=x.a1\/b=x.a2)->H b=some o->H' b=some o):Hu S' H' d x:=by
 obtain⟨ha,U,J,h1,h2,Z,h4,Y,h6⟩:=h
 exact⟨ha,U,J,O _ _ (.inl rfl) h1,F _ _ h2,O _ _ (.inr (.inl rfl)) Z,O _ _ (.inr (.inr rfl)) h4,cK F hl W Y,cK F hl W h6⟩
theorem fF{fs:List CV}(h:x∈fs):x.fa∈fI fs/\x.a1∈fI fs/\x.a2∈fI fs:=by
 unfold fI;refine⟨?_,?_,?_⟩<;>exact Kz.mpr ⟨x,h,by simp⟩
theorem fk(fs gs:List CV):fI (fs++gs)=fI fs++fI gs:=List.flatMap_append
theorem C6.alloc{O:Hp}{F:Addr}{fs:List CV}(I:C6 O H F fs S)(s:sj H H'):C6 O H' F fs S:=
 ⟨I.sm.trans s,s _ _ I.pile,λk x e=>(I.fr k x e).imp (λb xs z=>s _ _ z) (λb xs _ z=>s _ _ z) (λ_ z=>z) (λb o _ z=>s _ _ z),I.nd,I.ns,I.nw,λb J=>⟨(I.sn b J).1,by obtain⟨xs,z⟩:=(I.sn b J).2;exact⟨xs,s _ _ z⟩⟩⟩
theorem C6.free{F:Hp}{J:Addr}{fs:List CV}(I:C6 F H J fs S){t:Addr}(h:H t=none):F t=none/\¬ S t:=by
 refine⟨I.sm.free h,λz=>?_⟩
 obtain⟨_,xs,e⟩:=I.sn t z
 rw[h]at e;cases e
theorem C6.notop{U:Hp}{J:Addr}{fs:List CV}(I:C6 U H J fs S){t:Addr}(h:H t=none):t∉J::fI fs:=λz=>by
 rcases KC.mp z with rfl | z
 .rw[I.pile]at h;cases h
 .obtain⟨x,hx,F⟩:=Kz.mp z
  obtain⟨k,Z,rfl⟩:=KD.mp hx
  obtain⟨ha,ab,Y,h1,h2,O,W,_⟩:=I.fr k _ (qz Z)
  simp only[wQ,yh,or_false]at F
  rcases F with e | e | e<;>rw[e]at h
  .rw[h1]at h;cases h
  .rw[O]at h;cases h
  .rw[W]at h;cases h
theorem C6.write{Z:Hp}{pp:Addr}{F:CV}(I:C6 Z H pp (gs++[x]) S){ys:LB}(hq:q=x.fa\/q=x.a1\/q=x.a2)(e1:F.fa=x.fa)(e2:F.a1=x.a1)(e3:F.a2=x.a2)(hx:Hu S (upd H q (.lst ys)) (9-gs.length) F):C6 Z (upd H q (.lst ys)) pp (gs++[F]) S:=by
 have Y:fI (gs++[F])=fI (gs++[x]):=by
  rw[fk,fk];show _++[F.fa,F.a1,F.a2]=_++[x.fa,x.a1,x.a2]
  rw[e1,e2,e3]
 have ad:x∈gs++[x]:=gV _ yb
 have W:q∈fI (gs++[x]):=by
  obtain⟨m1,m2,m3⟩:=fF ad
  rcases hq with rfl | rfl | rfl<;>assumption
 have ag:¬ S q:=I.ns q (yc _ W)
 have ab:Z q=none:=I.nw q (yc _ W)
 obtain⟨ha,a6,a5,h1,h2,h3,h4,_⟩:=I.fr gs.length x (by rw[gT (qt _),J0];rfl)
 have a3:∃zs,H q=some (.lst zs):=by
  rcases hq with rfl | rfl | rfl
  .exact⟨_,h1⟩
  .exact⟨_,h3⟩
  .exact⟨_,h4⟩
 obtain⟨zs,ac⟩:=a3
 have ht:∀b xs,H b=some (.tup xs)->upd H q (.lst ys) b=some (.tup xs):=λb xs z=>by rw[au (cT z ac (λy=>nomatch y))];exact z
 have hl:∀b xs,S b->H b=some (.lst xs)->upd H q (.lst ys) b=some (.lst xs):=λb xs J z=>by rw[au (vi J ag)];exact z
 have O:=I.nd;rw[HY]at O
 refine⟨I.sm.upd ab _,?_,λk y U=>?_,by rw[Y];exact I.nd,by rw[Y];exact I.ns,by rw[Y];exact I.nw,λb J=>⟨(I.sn b J).1,?_⟩⟩
 .rw[au (J_ W O.1),I.pile,yd,yd]
  show some (HO.lst (_++[V.ref x.fa]))=some (HO.lst (_++[V.ref F.fa]))
  rw[e1]
 .by_cases hk:k<gs.length
  .rw[xG hk]at U
   refine(I.fr k y (by rw[xG hk];exact U)).imp ht hl (λ_ z=>z) (λb o J z=>?_)
   have a4:b∈fI gs:=by
    obtain⟨m1,m2,m3⟩:=fF (kg U)
    rcases J with rfl | rfl | rfl<;>assumption
   have as:q∈fI [x]:=by
    obtain⟨m1,m2,m3⟩:=fF (fs:=[x]) (x:=x) yb
    rcases hq with rfl | rfl | rfl<;>assumption
   have:=O.2
   rw[fk,IQ]at this
   rw[au (this.2.2 b a4 q as)];exact z
  .rw[gT (by lia)]at U
   have al:k-gs.length=0:=by have:=(Kq.mp U).1;simp at this;lia
   rw[al]at U
   cases U;rw[show k=gs.length by lia]
   exact hx
 .obtain⟨xs,z⟩:=(I.sn b J).2
  exact⟨xs,hl b xs J z⟩
theorem cM(gs:List α)(x:α):(gs++[x])[gs.length]?=some x:=by rw[gT (qt _),J0];rfl
theorem C6.put{H0 H:Hp}{pp:Addr}{gs:List CV}{x:CV}{S:Addr->Prop}(I:C6 H0 H pp (gs++[x]) S){t:Addr}{st:ud}(ht:Cv (Bm S (9-gs.length) H) H t st) :
  ∃(q:Addr) (as:LC),q=(if x.f.s=true then x.a2 else x.a1)/\H q=some (.lst (as.map V.ref))/\as.length=(if x.f.s=true then x.f.b else x.f.a).length/\C6 H0 (upd H q (.lst (as.map V.ref++[.ref t]))) pp (gs++[{x with f:=bC x.f st}]) S:=by
 obtain⟨Y,J,F,h1,h2,h3,h4,h5,h6⟩:=I.fr gs.length x (cM gs x)
 have ac:x∈gs++[x]:=gV _ yb
 have Z:=I.nd;rw[HY,fk,IQ]at Z
 have ab:[x.fa,x.a1,x.a2].Nodup:=Z.2.2.1
 simp only[HY,wQ,yh,or_false,not_or,not_false_eq_true,IM,and_true]at ab
 obtain⟨⟨n1,n2⟩,n3⟩:=ab
 obtain⟨m1,m2,m3⟩:=fF ac
 cases hs:x.f.s with
 | true=>
  refine⟨x.a2,F,rfl,h4,aI h6,I.write (.inr (.inr rfl)) rfl rfl rfl ?_⟩
  have W:¬ S x.a2:=I.ns _ (yc _ m3)
  have U:∀b xs,H b=some (.tup xs)->upd H x.a2 (.lst (F.map V.ref++[.ref t])) b=some (.tup xs):=λb xs z=>by rw[au (cT z h4 (λy=>nomatch y))];exact z
  have kl:∀b xs,S b->H b=some (.lst xs)->upd H x.a2 (.lst (F.map V.ref++[.ref t])) b=some (.lst xs):=λb xs hb z=>by rw[au (vi hb W)];exact z
  refine⟨Y,J,F++[t],?_,U _ _ ?_,?_,by rw[ai,yd];rfl,?_,?_⟩
  .show upd H x.a2 _ x.fa=some (.lst [.ref Y,.ref x.a1,.ref x.a2,mH (bC x.f st).s])
   rw[au n2,h1];unfold bC;rw[Kx hs]
  .show H Y=some (.tup (iy (bC x.f st).hd))
   rw[h2];unfold bC;rw[Kx hs]
  .show upd H x.a2 _ x.a1=_
   rw[au n3];exact h3
  .show Paired _ J (bC x.f st).a
   unfold bC;rw[Kx hs]
   exact cK U kl (λ_ z=>z) h5
  .show Paired _ (F++[t]) (bC x.f st).b
   unfold bC;rw[Kx hs]
   exact cK U kl (λ_ z=>z) (eP h6 (.cons ht .nil))
 | false=>
  refine⟨x.a1,J,rfl,h3,aI h5,I.write (.inr (.inl rfl)) rfl rfl rfl ?_⟩
  have W:¬ S x.a1:=I.ns _ (yc _ m2)
  have U:∀b xs,H b=some (.tup xs)->upd H x.a1 (.lst (J.map V.ref++[.ref t])) b=some (.tup xs):=λb xs z=>by rw[au (cT z h3 (λy=>nomatch y))];exact z
  have kl:∀b xs,S b->H b=some (.lst xs)->upd H x.a1 (.lst (J.map V.ref++[.ref t])) b=some (.lst xs):=λb xs hb z=>by rw[au (vi hb W)];exact z
  have O:¬ x.f.s=true:=by rw[hs];decide
  refine⟨Y,J++[t],F,?_,U _ _ ?_,by rw[ai,yd];rfl,?_,?_,?_⟩
  .show upd H x.a1 _ x.fa=some (.lst [.ref Y,.ref x.a1,.ref x.a2,mH (bC x.f st).s])
   rw[au n1,h1];unfold bC;rw[Kt O]
  .show H Y=some (.tup (iy (bC x.f st).hd))
   rw[h2];unfold bC;rw[Kt O]
  .show upd H x.a1 _ x.a2=_
   rw[au (mS n3)];exact h4
  .show Paired _ (J++[t]) (bC x.f st).a
   unfold bC;rw[Kt O]
   exact cK U kl (λ_ z=>z) (eP h5 (.cons ht .nil))
  .show Paired _ F (bC x.f st).b
   unfold bC;rw[Kt O]
   exact cK U kl (λ_ z=>z) h6
theorem C6.push{Y:Hp}{J:Addr}{fs:List CV}(I:C6 Y H J fs S)(hx:Hu S H (9-fs.length) x)(n1:[x.fa,x.a1,x.a2].Nodup)(hf:∀b∈[x.fa,x.a1,x.a2],b∉J::fI fs/\¬ S b/\Y b=none):C6 Y (upd H J (.lst (fs.map (λx=>V.ref x.fa)++[.ref x.fa]))) J (fs++[x]) S:=by
 have ab:¬ S J:=I.ns J yb
 have ad:Y J=none:=I.nw J yb
 have O:=I.nd;rw[HY]at O
 have kt:∀b xs,H b=some (.tup xs)->upd H J (.lst (fs.map (λx=>V.ref x.fa)++[.ref x.fa])) b=some (.tup xs):=λb xs z=>by rw[au (cT z I.pile (λy=>nomatch y))];exact z
 have kl:∀b xs,S b->H b=some (.lst xs)->upd H J (.lst (fs.map (λx=>V.ref x.fa)++[.ref x.fa])) b=some (.lst xs):=λb xs F z=>by rw[au (vi F ab)];exact z
 have ko:∀b o,b≠J->H b=some o->upd H J (.lst (fs.map (λx=>V.ref x.fa)++[.ref x.fa])) b=some o:=λb o F z=>by rw[au F];exact z
 have U:fI (fs++[x])=fI fs++[x.fa,x.a1,x.a2]:=by rw[fk];rfl
 refine⟨I.sm.upd ad _,by rw[ai,yd];rfl,λk y W=>?_,?_,λb F=>?_,λb F=>?_,λb F=>⟨(I.sn b F).1,by obtain⟨xs,z⟩:=(I.sn b F).2;exact⟨xs,kl b xs F z⟩⟩⟩
 .by_cases hk:k<fs.length
  .rw[xG hk]at W
   refine(I.fr k y W).imp kt kl (λ_ z=>z) (λb o F z=>ko b o (λe=>?_) z)
   obtain⟨m1,m2,m3⟩:=fF (kg W)
   rcases F with h | h | h
   .exact O.1 (by rw[<-e,h];exact m1)
   .exact O.1 (by rw[<-e,h];exact m2)
   .exact O.1 (by rw[<-e,h];exact m3)
  .rw[gT (by lia)]at W
   have ac:k-fs.length=0:=by have:=(Kq.mp W).1;simp at this;lia
   rw[ac]at W
   cases W;rw[show k=fs.length by lia]
   refine hx.imp kt kl (λ_ z=>z) (λb o F z=>ko b o (λe=>?_) z)
   have Z:b∈[x.fa,x.a1,x.a2]:=by rcases F with h | h | h<;>rw[h]<;>simp
   exact(hf b Z).1 (by rw[e];exact yb)
 .rw[U,<-HJ,IQ]
  exact⟨I.nd,n1,λa ha b F e=>(hf b F).1 (e ▸ ha)⟩
 .rw[U,<-HJ]at F
  rcases KA.mp F with h | h
  .exact I.ns b h
  .exact(hf b h).2.1
 .rw[U,<-HJ]at F
  rcases KA.mp F with h | h
  .exact I.nw b h
  .exact(hf b h).2.2
theorem C6.pop{H0:Hp}{J:Addr}(I:C6 H0 H J (gs++[x]) S)(hg:gs.length<=8) :
  C6 H0 (upd H J (.lst (gs.map λx=>V.ref x.fa))) J gs (λb=>S b\/b=x.a1\/b=x.a2)/\Bm (λb=>S b\/b=x.a1\/b=x.a2) (10-gs.length) (upd H J (.lst (gs.map λx=>V.ref x.fa))) x.a1 x.f.a/\Bm (λb=>S b\/b=x.a1\/b=x.a2) (10-gs.length) (upd H J (.lst (gs.map λx=>V.ref x.fa))) x.a2 x.f.b:=by
 obtain⟨ha,W,O,h1,h2,h3,h4,h5,h6⟩:=I.fr gs.length x (cM gs x)
 have ab:¬ S J:=I.ns J yb
 have ad:H0 J=none:=I.nw J yb
 have U:=I.nd;rw[fk,<-HJ,IQ]at U
 obtain⟨d1,d2,d3⟩:=U
 have dx:∀b∈J::fI gs,b≠x.a1/\b≠x.a2:=λb F=>⟨λe=>d3 b F x.a1 (by show _∈[x.fa,x.a1,x.a2];simp) e,λe=>d3 b F x.a2 (by show _∈[x.fa,x.a1,x.a2];simp) e⟩
 have Z:∀b xs,H b=some (.tup xs)->upd H J (.lst (gs.map λx=>V.ref x.fa)) b=some (.tup xs):=λb xs z=>by rw[au (cT z I.pile (λy=>nomatch y))];exact z
 have Y:∀b xs,S b->H b=some (.lst xs)->upd H J (.lst (gs.map λx=>V.ref x.fa)) b=some (.lst xs):=λb xs F z=>by rw[au (vi F ab)];exact z
 have p1:=(dx J yb).1;have p2:=(dx J yb).2;have k3:upd H J (.lst (gs.map λx=>V.ref x.fa)) x.a1=some (.lst (W.map V.ref)):=by rw[au p1.symm];exact h3
 have k4:upd H J (.lst (gs.map λx=>V.ref x.fa)) x.a2=some (.lst (O.map V.ref)):=by rw[au p2.symm];exact h4
 have ac:x∈gs++[x]:=gV _ yb
 obtain⟨m1,m2,m3⟩:=fF ac
 have e9:10-gs.length=9-gs.length+1:=by lia
 refine⟨⟨I.sm.upd ad _,ai,λk y hy=>?_,d1,λb F z=>?_,λb F=>?_,λb F=>?_⟩,?_,?_⟩
 .have hk:=(Kq.mp hy).1
  refine(I.fr k y (by rw[xG hk];exact hy)).imp Z Y (λ_ z=>.inl z) (λb o F z=>?_)
  have ag:b∈fI gs:=by
   obtain⟨m1,m2,m3⟩:=fF (kg hy)
   rcases F with rfl | rfl | rfl<;>assumption
  rw[HY]at d1
  rw[au (J_ ag d1.1).symm];exact z
 .rcases z with z | z | z
  .exact I.ns b (by rw[fk,<-HJ];exact lW _ F) z
  .exact(dx b F).1 z
  .exact(dx b F).2 z
 .exact I.nw b (by rw[fk,<-HJ];exact lW _ F)
 .rcases F with F | rfl | rfl
  .exact⟨(I.sn b F).1,by obtain⟨xs,z⟩:=(I.sn b F).2;exact⟨xs,Y b xs F z⟩⟩
  .exact⟨I.nw _ (yc _ m2),_,k3⟩
  .exact⟨I.nw _ (yc _ m3),_,k4⟩
 .rw[e9]
  exact⟨.inr (.inl rfl),W,k3,cK Z Y (λ_ z=>.inl z) h5⟩
 .rw[e9]
  exact⟨.inr (.inr rfl),O,k4,cK Z Y (λ_ z=>.inl z) h6⟩
def wW:Sp:=λvs H Q _=>∃(pp t:Addr) (H0:Hp) (gs:List CV) (x:CV) (S:Addr->Prop) (st:ud),vs=[.ref pp,.ref t]/\C6 H0 H pp (gs++[x]) S/\Cv (Bm S (9-gs.length) H) H t st/\x.f.a.length<=1000/\x.f.b.length<=1000/\gs.length<=100/\
 ∀H':Hp,C6 H0 H' pp (gs++[{x with f:=bC x.f st}]) S->Q .non H'
theorem gP:di ((gs++[x]).map λx=>V.ref x.fa) (-1)=some (.ref x.fa):=EG (by rw[zj,wC,qL];simp)
theorem Fw(D:xn K mg "_law_put" gS):aF P w K mg base 1 "_law_put" qAX wW:=by
 refine D.cal (k:=0) xP (λf Z A outer s0 H vs Q E hr h=>?_)
 obtain⟨pp,t,H0,gs,x,S,st,rfl,I,ht,ac,ab,Y,q⟩:=h
 refine⟨_,(aj (br (bH K xh mY nu bA (ak (av K) (ak (av K) (pv 0) (fN eX af)) (ar aB af (ak (av K) (ak (av K) (pv 0) (fN eX af)) af))) (aa (pv 1) ae)))),?_⟩
 obtain⟨ha,ad,W,h1,h2,h3,h4,h5,h6⟩:=I.fr gs.length x (cM gs x)
 obtain⟨q0,as,O,F,J,U⟩:=I.put ht
 walk_at "r";refine⟨_,_,.inl (su.of I.pile),gP,?_⟩
 walk_at "r";refine⟨_,_,.inl (su.of I.pile),gP,?_⟩
 walk_at "r";refine⟨_,_,.inl (su.of h1),ap (j:=3) rfl,?_⟩
 cases hs:x.f.s with
 | true=>
  rw[hs,Kx rfl]at O J
  subst O;rw[show mH true=V.int 1 from rfl];walk_at "r";refine⟨_,_,.inl (su.of h1),ap (j:=2) rfl,?_⟩
  walk_at "r";refine⟨⟨_,su.of F⟩,_,F,by rw[zj,J];exact cJ (by lia),?_⟩
  exact q _ U
 | false=>
  rw[hs,Kt (by decide)]at O J
  subst O;rw[show mH false=V.int 0 from rfl];walk_at "r";refine⟨_,_,.inl (su.of h1),ap (j:=1) rfl,?_⟩
  walk_at "r";refine⟨⟨_,su.of F⟩,_,F,by rw[zj,J];exact cJ (by lia),?_⟩
  exact q _ U
def nJ:Sp:=λvs H Q _=>∃(pp:Addr) (H0:Hp) (gs:List CV) (g x:CV) (S:Addr->Prop),vs=[.ref pp]/\C6 H0 H pp (gs++[g]++[x]) S/\x.f.hd ≠ .top/\g.f.a.length<=1000/\g.f.b.length<=1000/\gs.length<=7/\
 ∀(H':Hp) (S':Addr->Prop),C6 H0 H' pp (gs++[{g with f:=bC g.f (fT x.f)}]) S'->Q .non H'
theorem Bk(D:xn K mg "_law_close" ck) (J:aF P w K mg base 1 "_law_put" qAX wW):aF P w K mg base 2 "_law_close" ["_law_pile"] nJ:=by
 refine D.cal (k:=1) Fs (λf a6 A outer s0 H vs Q E hr h=>?_)
 obtain⟨Y,H0,gs,g,x,S,rfl,I,hx,ab,Z,a5,q⟩:=h
 refine⟨_,(ah (eY (wk K xh F.slot_list_pop F.type_list_pop uU (pv 0)) (Em K (n:=4) (cG (aM 1 Fs.nd) (cG (aM 2 Fs.nd) (cG (aM 3 Fs.nd) (cG (aM 4 Fs.nd) ie))))))
   (aj (bf (az bn (ak (av K) (pv 1) af) ax (aG _)) (aj (br (ay J hr (aa (pv 0) (aa (ar (gD K) (pv 1) (aQ (aa (pv 2) (aa (pv 3) ae)))) ae))))) (aj (br (ay J hr (aa (pv 0) (aa (ar (gD K) (pv 1) (aQ (aa (pv 2) ae))) ae)))))))),?_⟩
 obtain⟨ha,a4,a3,h1,h2,h3,h4,h5,h6⟩:=I.fr (gs++[g]).length x (cM (gs++[g]) x)
 obtain⟨I2,pa,pb⟩:=I.pop (by rw[qL];simp;lia)
 have al:(gs++[g]).length=gs.length+1:=by simp
 rw[al,show 10-(gs.length+1)=9-gs.length by lia]at pa pb
 walk_at "r";refine⟨⟨_,su.of I.pile⟩,_,_,I.pile,(by rw[yd,qL,gT (by simp)];simp:_=some (V.ref x.fa)),?_⟩
 rw[yd,yj,IH,List.dropLast_concat]
 have as:x.fa≠Y:=λe=>by
  have:=I.nd
  rw[HY]at this
  exact this.1 (by rw[<-e];exact(fF (gV _ yb)).1)
 have ad:upd H Y (.lst ((gs++[g]).map λx=>V.ref x.fa)) x.fa=some (.lst [.ref ha,.ref x.a1,.ref x.a2,mH x.f.s]):=by rw[au as];exact h1
 have O:upd H Y (.lst ((gs++[g]).map λx=>V.ref x.fa)) ha=some (.tup (iy x.f.hd)):=by rw[au (cT h2 I.pile (λy=>nomatch y))];exact h2
 generalize upd H Y (.lst ((gs++[g]).map λx=>V.ref x.fa))=H1 at I2 pa pb ad O |-
 rw[Fk];refine⟨x.fa,_,rfl,su.of ad,rfl,?_⟩
 have a7:CV.mk g.fa g.a1 g.a2 (bC g.f (fT x.f))={g with f:=bC g.f (fT x.f)}:=rfl
 cases hh:x.f.hd with
 | top=>exact absurd hh hx
 | ite n=>
  rw[hh]at O
  walk_at "r";walk_at "n";refine⟨_,_,.inr (vr.of O),(show di (iy (.ite n)) 0=some (.str "if") from jO),?_⟩
  walk_at "r";refine⟨by decide,λt1 ag=>?_⟩
  walk_at "g"
  rename_i H2 s2 e2
  refine⟨_,_,vr.of (s2 _ _ O),vr.of e2,by simp[iy],aU (by simp[iy]),λz=>by simp at z,λ_ t2 ac=>?_⟩
  walk_at "g"
  rename_i H3 s3 W
  have W:H3 t2=some (.tup [.str "if",.int n,.ref x.a1,.ref x.a2]):=W
  have U:=s2.trans s3;refine⟨Y,t2,H0,gs,g,_,fT x.f,rfl,I2.alloc U,?_,ab,Z,by lia,λH' I3=>q H' _ I3⟩
  unfold fT;rw[hh];exact⟨x.a1,x.a2,W,pa.mono U,pb.mono U⟩
 | lend u v=>
  rw[hh]at O
  walk_at "r";walk_at "n";refine⟨_,_,.inr (vr.of O),(show di (iy (.lend u v)) 0=some (.str "lend") from jO),?_⟩
  walk_at "r";rw[Kt (by decide +kernel)]
  refine⟨by decide,λt1 ag=>?_⟩
  walk_at "g"
  rename_i H2 s2 e2
  refine⟨_,_,vr.of (s2 _ _ O),vr.of e2,by simp[iy],aU (by simp[iy]),λz=>by simp at z,λ_ t2 ac=>?_⟩
  walk_at "g"
  rename_i H3 s3 W
  have W:H3 t2=some (.tup [.str "lend",.str u,.str v,.ref x.a1]):=W
  have U:=s2.trans s3;refine⟨Y,t2,H0,gs,g,_,fT x.f,rfl,I2.alloc U,?_,ab,Z,by lia,λH' I3=>q H' _ I3⟩
  unfold fT;rw[hh];exact⟨x.a1,W,pa.mono U⟩
 | whl n=>
  rw[hh]at O
  walk_at "r";walk_at "n";refine⟨_,_,.inr (vr.of O),(show di (iy (.whl n)) 0=some (.str "while") from jO),?_⟩
  walk_at "r";rw[Kt (by decide +kernel)]
  refine⟨by decide,λt1 ag=>?_⟩
  walk_at "g"
  rename_i H2 s2 e2
  refine⟨_,_,vr.of (s2 _ _ O),vr.of e2,by simp[iy],aU (by simp[iy]),λz=>by simp at z,λ_ t2 ac=>?_⟩
  walk_at "g"
  rename_i H3 s3 W
  have W:H3 t2=some (.tup [.str "while",.int n,.ref x.a1]):=W
  have U:=s2.trans s3;refine⟨Y,t2,H0,gs,g,_,fT x.f,rfl,I2.alloc U,?_,ab,Z,by lia,λH' I3=>q H' _ I3⟩
  unfold fT;rw[hh];exact⟨x.a1,W,pa.mono U⟩
theorem El{x:Str}(h:∀c∈x.cps.toList,c∈F1.cps.toList):32∉x.cps.toList:=λz=>absurd (h 32 z) (by decide)
def dG(x:Str):Prop:=x.length<=20/\dv x
def nQ:Sp:=λvs H Q _=>∃(c:Int) (n:Nat),vs=[.int c,.int (n:Int)]/\n<=10/\∀(L:Addr) (ss:KZ) (H':Hp),sj H H'->H L=none->H' L=some (.lst (ss.map V.str))->ss.length=n->(∀x∈ss,dG x)->Q (.ref L) H'
theorem BK(D:xn K mg "_law_words" aT) (J:wAL mg) (Y:mg "int" = none):aF P w K mg base 1 "_law_words" qAd nQ:=by
 refine D.cal (k:=0) BI (λf bg A outer s0 H vs Q E hr h=>?_)
 obtain⟨c,n,rfl,hn,q⟩:=h
 refine⟨_,(ah (aw 2 BI.nd ax (hx:=Kl))
   (ah (aw 3 BI.nd (ar aB af (ar bY (pv 0) af)))
   (ah (aw 4 BI.nd (ar bY (ar eJ (pv 0) af) (pv 3)) (hx:=M6))
   (ah (aw 5 BI.nd (ar bY (ar eJ (pv 0) af) (ar jc af af)))
   (ah (aw 6 BI.nd (aJ ae) (hx:=NT))
   (ah (b4 xH rfl (dh B5 J (aa (pv 3) ae)) (aM 7 BI.nd (hx:=IN)) (ah (br (bH K xh mY nu bA (pv 6 (hv:=Ll)) (aa (ar bY (pv 5) af) ae)))
   (aj (aw 5 BI.nd (ar eJ (pv 5) af)))))
   (ah (aw 8 BI.nd (aJ ae))
   (ah (b4 xH rfl (dh B5 J (aa (pv 1) ae)) (aM 7 BI.nd (hx:=IN)) (aj (br (bH K xh mY nu bA (pv 8) (aa (bH K zby F.slot_str_join F.type_str_join (tz K) ax (aa (dz (Cq.to (fsc:=(sg aT)) (N:=qAC) (N0:=qAC) (T:=["_law_j"])) rfl (dh B5 J (aa (pv 3) ae)) (λ_ _ _ _=>(aM 9 (show (["_law_cell","_law_many","_law_letters","_law_size","_law_at","_law_rest","_law_base","_law_k","_law_words_here","_law_j"]:KZ).Nodup from by decide +kernel))) (ci (show (qAC:KZ).length<=9 from by decide)) (λ_ _ _ _=>c7) (λ_ _ _ _=>(ak (av K) (pv 2 (hv:=(cr (sg aT) (by decide +kernel)))) (ar bY (ar aB (ak (av K) (pv 6 (hv:=(cr (sg aT) (by decide +kernel)))) (pv 9)) (ar eQ (pv 7 (hv:=(cr (sg aT) (by decide +kernel)))) (ee oZ Y yY (aa (jk bn (pv 9) (pv 4 (hv:=(cr (sg aT) (by decide +kernel)))) (aG _)) ae)))) af)))) ae)) ae)))))
   (aj (aA (pv 8))))))))))),?_⟩
 walk_at "r";walk_at "n";refine⟨by decide,?_⟩
 have a4:∃z:Nat,1+c%8=(z:Int)/\1<=z/\z<=8:=⟨(1+c%8).toNat,by lia,by lia,by lia⟩
 obtain⟨sz,a6,bt,bp⟩:=a4
 rw[a6];walk_at "n";refine⟨⟨by decide,by decide⟩,by lia,?_⟩
 generalize c/8%(sz:Int)=at'
 walk_at "n";refine⟨⟨by decide,by decide⟩,⟨by decide,by decide,by decide⟩,by decide,?_⟩
 generalize hrest:c/64%26^Int.toNat 8=BG
 walk_at "n";refine⟨by decide,λp hp=>?_⟩
 walk_at "g"
 rename_i H1 s1 e1
 have e1:H1 p=some (.lst (([]:LJ).map V.int)):=e1
 walk_at "n";refine⟨by lia,by lia,?_⟩
 rw[gE]
 refine d_ (λi σ H'=>∃(ns:LJ) (r0:Int) (o7:LK),σ=[some (.int c),some (.int (n:Int)),some (.str "abcdefghijklmnopqrstuvwxyz"),some (.int (sz:Int)),some (.int at'),some (.int r0),some (.ref p),o7,none]/\sj H H'/\H' p=some (.lst (ns.map V.int))/\ns.length=i)
  ⟨[],BG,none,rfl,s1,e1,rfl⟩ ?_ ?_
 .rintro i σ H' hi ⟨ns,r0,o7,rfl,sm,hl,ag⟩
  walk_at "r";refine⟨⟨_,su.of hl⟩,by decide,?_⟩
  walk_at "r";refine⟨_,hl,by rw[zj];exact cJ (by lia),?_⟩
  walk_at "n";exact⟨⟨by decide,by decide⟩,ns++[r0%26],_,_,rfl,sm.upd hp _,by rw[ai,yd];rfl,by simp[ag]⟩
 rintro σ H2 ⟨ns,r0,o7,rfl,s2,e2,ag⟩
 walk_at "n";refine⟨by decide,λL hL=>?_⟩
 have s3:=am hL (.lst []);have e3:upd H2 L (.lst []) L=some (.lst (([]:KZ).map V.str)):=ai
 have as:H L=none:=s2.free hL
 have a5:p≠L:=aP e2 hL
 have al:=s3 _ _ e2;generalize upd H2 L (.lst [])=H3 at s3 e3 al |-;walk_at "n";refine⟨by lia,by lia,?_⟩
 rw[gE]
 refine d_ (λi σ H'=>∃(ss:KZ) (o7:LK),σ=[some (.int c),some (.int (n:Int)),some (.str "abcdefghijklmnopqrstuvwxyz"),some (.int (sz:Int)),some (.int at'),some (.int r0),some (.ref p),o7,some (.ref L)]/\sj H H'/\H' p=some (.lst (ns.map V.int))/\H' L=some (.lst (ss.map V.str))/\ss.length=i/\∀x∈ss,dG x)
  ⟨[],_,rfl,s2.trans s3,al,e3,rfl,by simp⟩ ?_ ?_
 .rintro i σ H' hi ⟨ss,o7,rfl,sm,hl,W,Z,ab⟩
  walk_at "r";refine⟨⟨_,su.of W⟩,by lia,by lia,λC hC=>?_⟩
  rw[gE];refine iV (λj ys H2=>sj H' H2/\H2 C=some (.lst ys)/\∃ds:LN,ys=ds.map (λd=>V.str ⟨#[d]⟩)/\ds.length=j/\∀d∈ds,d∈F1.cps.toList) ⟨am hC _,ai,[],rfl,rfl,by simp⟩ ?_ ?_
  .rintro j ys H4 hj ⟨O,U,ds,rfl,ac,ad⟩
   walk_at "r";have be:j<ns.length:=by lia
   refine⟨_,_,.inl (su.of (O _ _ hl)),(show di (ns.map V.int) (0+(j:Int))=some (.int ns[j]) by rw[Int.zero_add];exact ap (by rw[wC,qz be];rfl)),?_⟩
   walk_at "r";obtain⟨ch,z1,z2,z3⟩:=ze (ns[j]+(0+(i:Int))*if 0+(j:Int)=at' then 1 else 0)
   refine⟨.inl ⟨by lia,by lia⟩,by decide,ch,z1,z2,?_⟩
   refine fM hj (by rw[zj];lia) (aU (by lia)) U ⟨O.upd hC _,ai,ds++[ch],by rw[yd];rfl,by simp[ac],λd hd=>?_⟩
   rcases KA.mp hd with hd | hd
   .exact ad d hd
   .rw[Kw.mp hd];exact z3
  .rintro ys H4 ⟨O,U,ds,rfl,ac,ad⟩
   walk_at "r";have a7:ds.map (λc=>V.str ⟨#[c]⟩)=(ds.map λc=>(⟨#[c]⟩ : Str)).map V.str:=by rw[He];rfl
   rw[a7]at U
   have a8:(Str.ofString "").length=0:=by decide
   refine⟨_,su.of U,?_,?_⟩
   .rw[a8]
    have:=jx 1 (ds.map λc=>(⟨#[c]⟩ : Str)) (λs hs=>by obtain⟨c,_,rfl⟩:=KB.mp hs;exact qt _)
    rw[zj]at this |-
    lia
   have bc:(Txt.join "" (ds.map λc=>(⟨#[c]⟩ : Str))).length=sz:=by rw[CO];exact ac
   have a3:∀c∈(Txt.join "" (ds.map λc=>(⟨#[c]⟩ : Str))).cps.toList,c∈F1.cps.toList:=by rw[sR];exact ad
   generalize Txt.join "" (ds.map λc=>(⟨#[c]⟩ : Str))=bs at bc a3 |-
   have a9:=O _ _ W;walk_at "r";refine⟨_,a9,by rw[zj];exact cJ (by lia),ss++[bs],_,rfl,(sm.trans O).upd as _,?_,by rw[ai,yd];rfl,by simp[Z],λx hx=>?_⟩
   .rw[au a5];exact O _ _ hl
   .rcases KA.mp hx with hx | hx
    .exact ab x hx
    .rw[Kw.mp hx];exact⟨by lia,El a3⟩
 .rintro σ H4 ⟨ss,o7,rfl,sm,hl,W,Z,ab⟩
  walk_at "n";exact q L ss H4 sm as W Z ab
def BP:ul->Prop
 | .top=>False
 | .lend x y=>dG x/\dG y
 | .ite n=>n.natAbs<10^61
 | .whl n=>n.natAbs<10^61
noncomputable def iT(k:Nat)(x:CV):Nat:=ao (10-k) x.f.a+ao (10-k) x.f.b+(if k=0 then 0 else 3)
noncomputable def iX:Nat->List CV->Nat
 | _,[]=>0
 | k,x::r=>iT k x+iX (k+1) r
theorem gC(x:CV):∀(gs:List CV) (k:Nat),iX k (gs++[x])=iX k gs+iT (k+gs.length) x
 | [],k=>by simp[iX]
 | g::gs,k=>by
  show iT k g+iX (k+1) (gs++[x])=iT k g+iX (k+1) gs+_
  rw[gC x gs (k+1),qY,show k+1+gs.length=k+(gs.length+1) by lia];lia
structure q9 (k:Nat) (f:rC):Prop where
 top:k=0->f.hd = .top
 hd:0<k->BP f.hd
 a:b8 (10-k) f.a/\dR (10-k) f.a
 b:b8 (10-k) f.b/\dR (10-k) f.b
 sd:(∃n,f.hd = .ite n)\/(f.s=false/\f.b=[])
structure GN (fs:List CV) (m:Nat):Prop where
 ok:∀k x,fs[k]?=some x->q9 k x.f
 cnt:iX 0 fs<=m
 len:fs.length<=5
 pos:1<=fs.length
theorem dS{gs:List α}{x y:α}{k:Nat}(h:(gs++[x])[k]?=some y):(k<gs.length/\gs[k]?=some y)\/(k=gs.length/\y=x):=by
 by_cases hk:k<gs.length
 .rw[xG hk]at h;exact .inl ⟨hk,h⟩
 .rw[gT (by lia)]at h
  have F:k-gs.length=0:=by have:=(Kq.mp h).1;simp at this;lia
  rw[F]at h
  cases h;exact .inr ⟨by lia,rfl⟩
theorem wf(d:Nat)(T U:List ud):ao (d+1) (T++U)=ao (d+1) T+ao (d+1) U:=by
 show ((T++U).map _).sum=_
 rw[yd,List.sum_append];rfl
theorem yO{U:List ud}(h:dR (d+1) T)(h':dR (d+1) U):dR (d+1) (T++U):=λs F=>(KA.mp F).elim (h s) (h' s)
theorem GN.put{c:Nat}{st:ud}(I:GN (gs++[x]) m)(h1:ft (b8 (9-gs.length)) st)(h2:lh (dR (9-gs.length)) st)(h3:bw (ao (9-gs.length)) st<=c):GN (gs++[{x with f:=bC x.f st}]) (m+c):=by
 have hl:gs.length<=4:=by have:=I.len;simp at this;lia
 have F:10-gs.length=9-gs.length+1:=by lia
 have hx:=I.ok gs.length x (cM gs x);obtain⟨a1,a2⟩:=hx.a
 obtain⟨U,J⟩:=hx.b
 have O:=I.cnt;rw[gC,nV]at O
 refine⟨λk y Y=>?_,?_,by have:=I.len;simpa using this,by simp⟩
 .rcases dS Y with ⟨hk,Y⟩ | ⟨rfl,rfl⟩
  .exact I.ok k y (by rw[xG hk];exact Y)
  .unfold bC
   rw[F]at a1 a2 U J
   have n1:b8 (9-gs.length+1) (x.f.a++[st]):=rL a1 h1
   have Z:dR (9-gs.length+1) (x.f.a++[st]):=yO a2 λu W=>by rw[Kw.mp W];exact h2
   have n3:b8 (9-gs.length+1) (x.f.b++[st]):=rL U h1
   have n4:dR (9-gs.length+1) (x.f.b++[st]):=yO J λu W=>by rw[Kw.mp W];exact h2
   split
   .rename_i hs
    refine⟨hx.top,hx.hd,by rw[F];exact⟨a1,a2⟩,by rw[F];exact⟨n3,n4⟩,?_⟩
    rcases hx.sd with z | ⟨z,_⟩
    .exact .inl z
    .rw[hs]at z;cases z
   .refine⟨hx.top,hx.hd,by rw[F];exact⟨n1,Z⟩,by rw[F];exact⟨U,J⟩,?_⟩
    rcases hx.sd with z | ⟨z,z2⟩
    .exact .inl z
    .exact .inr ⟨z,z2⟩
 .rw[gC,nV]
  unfold iT at O |-
  unfold bC;rw[F]at O |-
  have ab:ao (9-gs.length+1) [st]<=c:=by show bw (ao (9-gs.length)) st+0<=c;lia
  split<;>simp only[wf]<;>lia
theorem GN.drop(I:GN (gs++[x]) m)(hg:1<=gs.length):GN gs (m-(ao (10-gs.length) x.f.a+ao (10-gs.length) x.f.b+3))/\ao (10-gs.length) x.f.a+ao (10-gs.length) x.f.b+3<=m:=by
 have F:=I.cnt;rw[gC,nV]at F
 unfold iT at F;rw[Kt (by lia)]at F
 exact⟨⟨λk y J=>I.ok k y (by rw[xG (Kq.mp J).1];exact J),by lia,by have:=I.len;simp at this;lia,hg⟩,by lia⟩
theorem E8{k:Nat}{f:rC}(O:0<k)(U:k<=5)(h:q9 k f):ft (b8 (10-k)) (fT f)/\lh (dR (10-k)) (fT f)/\bw (ao (10-k)) (fT f)<=ao (10-k) f.a+ao (10-k) f.b+3:=by
 have hh:=h.hd O
 have F:∀n:Int,n.natAbs<10^61->n.natAbs.log2<1920:=λn J=>by
  by_cases z:n.natAbs=0
  .rw[z];decide
  .have:=(Nat.log2_lt z (k:=1920)).mpr (Nat.lt_trans J (by decide))
   exact this
 unfold fT
 cases hhd:f.hd with
 | top=>rw[hhd]at hh;exact hh.elim
 | lend x y=>
  rw[hhd]at hh
  exact⟨⟨hh.1.2,hh.2.2,h.a.1⟩,⟨hh.1.1,hh.2.1,h.a.2⟩,by show ao _ f.a+2<=_;lia⟩
 | ite n=>
  rw[hhd]at hh
  exact⟨⟨hh,h.a.1,h.b.1⟩,⟨F n hh,h.a.2,h.b.2⟩,qt _⟩
 | whl n=>
  rw[hhd]at hh
  exact⟨⟨hh,h.a.1⟩,⟨F n hh,h.a.2⟩,by show ao _ f.a+2<=_;lia⟩
theorem GN.close{g:CV}(I:GN (gs++[g]++[x]) m):GN (gs++[{g with f:=bC g.f (fT x.f)}]) m:=by
 have F:(gs++[g]).length=gs.length+1:=by simp
 have J:=I.len;rw[qL,F]at J
 simp at J
 have hx:=I.ok (gs++[g]).length x (cM _ x);rw[F]at hx
 obtain⟨Y,U,W⟩:=E8 (by lia) (by lia) hx
 obtain⟨O,hle⟩:=I.drop (by rw[F];lia)
 rw[F]at O hle
 rw[show 10-(gs.length+1)=9-gs.length by lia]at Y U W O hle
 have:=O.put Y U W
 rwa [Nat.sub_add_cancel hle]at this
theorem GN.side{n:Int}(I:GN (gs++[x]) m)(h:x.f.hd = .ite n):GN (gs++[{x with f:={x.f with s:=true}}]) m:=by
 have hx:=I.ok gs.length x (cM gs x);refine⟨λk y F=>?_,?_,by have:=I.len;simpa using this,by simp⟩
 .rcases dS F with ⟨O,F⟩ | ⟨rfl,rfl⟩
  .exact I.ok k y (by rw[xG O];exact F)
  .exact⟨hx.top,hx.hd,hx.a,hx.b,.inl ⟨n,h⟩⟩
 .have J:=I.cnt
  rw[gC]at J |-
  exact J
theorem GN.open{fs:List CV}(I:GN fs m)(hl:fs.length<=4){h:ul}(hh:BP h)(fa a1 a2:Addr):GN (fs++[⟨fa,a1,a2,⟨h,[],[],false⟩⟩]) (m+3):=by
 have U:=I.pos;have F:10-fs.length=9-fs.length+1:=by lia
 have nl:b8 (10-fs.length) []/\dR (10-fs.length) []:=by rw[F];exact⟨lC _,λs O=>by cases O⟩
 refine⟨λk y J=>?_,?_,by simp;lia,by simp⟩
 .rcases dS J with ⟨W,J⟩ | ⟨rfl,rfl⟩
  .exact I.ok k y J
  .exact⟨λz=>by lia,λ_=>hh,nl,nl,.inr ⟨rfl,rfl⟩⟩
 .rw[gC,nV]
  unfold iT;rw[Kt (by lia),F]
  have:=I.cnt
  show iX 0 fs+(0+0+3)<=m+3
  lia
theorem GN.small{fs:List CV}{m k:Nat}{x:CV}(I:GN fs m)(e:fs[k]?=some x):x.f.a.length<=m/\x.f.b.length<=m:=by
 have F:=(Kq.mp e).1;have hl:=I.len
 have w:∀(fs:List CV) (j k:Nat) (x:CV),fs[k]?=some x->iT (j+k) x<=iX j fs:=λfs=>by
  induction fs with
  | nil=>intro j k x e;simp at e
  | cons y r ih=>
   intro j k x e
   cases k with
   | zero=>cases e;show iT j _<=iT j _+_;lia
   | succ k=>
    have:=ih (j+1) k x (by simpa using e)
    show _<=iT j y+iX (j+1) r
    rw[show j+(k+1)=j+1+k by lia];lia
 have h:=w fs 0 k x e;have J:=I.cnt;rw[nV]at h
 unfold iT at h
 have ln:∀(d:Nat) (T:List ud),T.length<=ao (d+1) T:=λd T=>by
  show T.length<=(T.map (bw (ao d))).sum
  induction T with
  | nil=>exact qt _
  | cons s T ih=>
   rw[yj,lJ,qY];have:1<=bw (ao d) s:=by cases s<;>simp[bw]
   lia
 rw[show 10-k=9-k+1 by lia]at h
 have:=ln (9-k) x.f.a
 have:=ln (9-k) x.f.b
 lia
noncomputable def ph(p l o:Nat)(f:List ud->Nat):ud->Nat
 | .plain _=>p
 | .lend _ _ b=>f b+l
 | .ite _ b c=>f b+f c+o
 | .whl _ b=>f b+o
noncomputable def bO(p l o:Nat):Nat->List ud->Nat
 | 0,_=>0
 | d+1,T=>(T.map (ph p l o (bO p l o d))).sum
noncomputable def mj(l o:Nat):ul->Nat
 | .top=>0
 | .lend _ _=>l
 | .ite _=>o
 | .whl _=>o
noncomputable def i9(p l o k:Nat)(x:CV):Nat:=bO p l o (10-k) x.f.a+bO p l o (10-k) x.f.b+mj l o x.f.hd
noncomputable def gU(p l o:Nat):Nat->List CV->Nat
 | _,[]=>0
 | k,x::r=>i9 p l o k x+gU p l o (k+1) r
section
variable{p l o:Nat}
theorem dD(x:CV):∀(gs:List CV) (k:Nat),gU p l o k (gs++[x])=gU p l o k gs+i9 p l o (k+gs.length) x
 | [],k=>by simp[gU]
 | g::gs,k=>by
  show i9 p l o k g+gU p l o (k+1) (gs++[x])=i9 p l o k g+gU p l o (k+1) gs+_
  rw[dD x gs (k+1),qY,show k+1+gs.length=k+(gs.length+1) by lia];lia
theorem m_(d:Nat)(T U:List ud):bO p l o (d+1) (T++U)=bO p l o (d+1) T+bO p l o (d+1) U:=by
 show ((T++U).map _).sum=_
 rw[yd,List.sum_append];rfl
theorem lT{st:ud}(hl:gs.length<=9):gU p l o 0 (gs++[{x with f:=bC x.f st}])=gU p l o 0 (gs++[x])+ph p l o (bO p l o (9-gs.length)) st:=by
 rw[dD,dD,nV];have F:bO p l o (9-gs.length+1) [st]=ph p l o (bO p l o (9-gs.length)) st:=by show _+0=_;lia
 unfold i9 bC;rw[show 10-gs.length=9-gs.length+1 by lia]
 split<;>simp only[m_,F]<;>lia
theorem JD{d k:Nat}{f:rC}(h:q9 k f)(J:0<k)(hd:0<d):ph p l o (bO p l o d) (fT f)=bO p l o d f.a+bO p l o d f.b+mj l o f.hd:=by
 obtain⟨d,rfl⟩ : ∃e,d=e+1:=⟨d-1,by lia⟩
 have F:(∀n,f.hd ≠ .ite n)->bO p l o (d+1) f.b=0:=λz=>by
  rcases h.sd with ⟨n,y⟩ | ⟨_,y⟩
  .exact absurd y (z n)
  .rw[y];rfl
 unfold fT
 cases hh:f.hd with
 | top=>have:=h.hd J;rw[hh]at this;exact this.elim
 | lend x y=>rw[F (by rw[hh];simp)];rfl
 | ite n=>rfl
 | whl n=>rw[F (by rw[hh];simp)];rfl
theorem mD{g:CV}(hl:gs.length<=8)(h:q9 (gs.length+1) x.f):gU p l o 0 (gs++[{g with f:=bC g.f (fT x.f)}])=gU p l o 0 (gs++[g]++[x]):=by
 rw[lT (by lia),JD h (by lia) (by lia),dD x,nV,qL]
 show _=_+i9 p l o (gs.length+1) x
 unfold i9;rw[show 10-(gs.length+1)=9-gs.length by lia]
end
structure PX (nm:KZ) (fs:List CV) (n l:Nat):Prop where
 nk:∀k x,fs[k]?=some x->ef (· ∈ nm) (3-k) x.f.a/\ef (· ∈ nm) (3-k) x.f.b/\∀y z,x.f.hd = .lend y z->y∈nm/\z∈nm
 nd:gU 1 1 1 0 fs<=n
 ld:gU 0 1 0 0 fs<=l
 len:fs.length<=3
section
variable{nm:KZ}{fs gs:List CV}{g x:CV}{n l:Nat}
theorem PX.mono{n' F:Nat}(h:PX nm fs n l)(h1:n<=n')(h2:l<=F):PX nm fs n' F:=⟨h.nk,xB h.nd h1,xB h.ld h2,h.len⟩
theorem kR{N:Str->Prop}(h:ef N (d+1) T)(J:la (ef N d) N s):ef N (d+1) (T++[s]):=λu F=>(KA.mp F).elim (h u) (λz=>by rw[Kw.mp z];exact J)
theorem PX.put{st:ud}{c e:Nat}(h:PX nm (gs++[x]) n l)(h1:la (ef (· ∈ nm) (2-gs.length)) (· ∈ nm) st)(h2:ph 1 1 1 (bO 1 1 1 (9-gs.length)) st<=c)(U:ph 0 1 0 (bO 0 1 0 (9-gs.length)) st<=e):PX nm (gs++[{x with f:=bC x.f st}]) (n+c) (l+e):=by
 have hl:=h.len;simp at hl
 have O:=h.nd;have W:=h.ld;refine⟨λk y F=>?_,by rw[lT (by lia)];lia,by rw[lT (by lia)];lia,by simpa using hl⟩
 rcases dS F with ⟨J,F⟩ | ⟨rfl,rfl⟩
 .exact h.nk k y (by rw[xG J];exact F)
 .obtain⟨a,b,c⟩:=h.nk gs.length x (cM gs x)
  rw[show 3-gs.length=2-gs.length+1 by lia]at a b |-
  unfold bC;split
  .exact⟨a,kR b h1,c⟩
  .exact⟨kR a h1,b,c⟩
theorem PX.close(h:PX nm (gs++[g]++[x]) n l)(hf:q9 (gs.length+1) x.f):PX nm (gs++[{g with f:=bC g.f (fT x.f)}]) n l:=by
 have hl:=h.len;simp at hl
 have Z:=h.nd;have g2:=h.ld;have J:=mD (p:=1) (l:=1) (o:=1) (g:=g) (by lia) hf
 have F:=mD (p:=0) (l:=1) (o:=0) (g:=g) (by lia) hf
 refine⟨λk y O=>?_,by rw[J];exact Z,by rw[F];exact g2,by simp;lia⟩
 rcases dS O with ⟨hk,O⟩ | ⟨rfl,rfl⟩
 .exact h.nk k y (by rw[xG (by simp;lia),xG hk];exact O)
 .obtain⟨a,b,c⟩:=h.nk gs.length g (by rw[n6,gT (qt _),J0];rfl)
  obtain⟨a',W,Y⟩:=h.nk (gs.length+1) x (by have:=cM (gs++[g]) x;simpa using this)
  rw[show 3-(gs.length+1)=2-gs.length by lia]at a' W
  rw[show 3-gs.length=2-gs.length+1 by lia]at a b |-
  have U:la (ef (· ∈ nm) (2-gs.length)) (· ∈ nm) (fT x.f):=by
   unfold fT
   cases hh:x.f.hd with
   | top=>have:=hf.hd (by lia);rw[hh]at this;exact this.elim
   | lend y z=>exact⟨(Y y z hh).1,(Y y z hh).2,a'⟩
   | ite n=>exact⟨a',W⟩
   | whl n=>exact a'
  unfold bC;split
  .exact⟨a,kR b U,c⟩
  .exact⟨kR a U,b,c⟩
theorem PX.side(h:PX nm (gs++[x]) n l):PX nm (gs++[{x with f:={x.f with s:=true}}]) n l:=by
 have J:=h.nd;have O:=h.ld;rw[dD]at J O
 refine⟨λk y F=>?_,by rw[dD];exact J,by rw[dD];exact O,by have:=h.len;simpa using this⟩
 rcases dS F with ⟨U,F⟩ | ⟨rfl,rfl⟩
 .exact h.nk k y (by rw[xG U];exact F)
 .exact h.nk gs.length x (cM gs x)
theorem PX.open(h:PX nm fs n l)(hl:fs.length<=2){hd:ul}(hh:∀y z,hd = .lend y z->y∈nm/\z∈nm)(fa a1 a2:Addr):PX nm (fs++[⟨fa,a1,a2,⟨hd,[],[],false⟩⟩]) (n+mj 1 1 hd) (l+mj 1 0 hd):=by
 have U:=h.nd;have W:=h.ld
 have O:∀p q o,i9 p q o (0+fs.length) ⟨fa,a1,a2,⟨hd,[],[],false⟩⟩=mj q o hd:=λp q o=>by
  unfold i9;rw[show 10-(0+fs.length)=9-fs.length+1 by lia]
  exact nV _
 refine⟨λk y J=>?_,by rw[dD,O];lia,by rw[dD,O];lia,by simp;lia⟩
 rcases dS J with ⟨Y,J⟩ | ⟨rfl,rfl⟩
 .exact h.nk k y J
 .rw[show 3-fs.length=2-fs.length+1 by lia]
  exact⟨λs F=>(by cases F),λs F=>(by cases F),hh⟩
end
noncomputable def oO(nm:KZ)(z:Int):Str:=nm.getD (z%(nm.length:Int)).toNat ""
theorem qN(h:1<=nm.length)(z:Int):oO nm z∈nm/\di (nm.map V.str) (z%(nm.length:Int))=some (.str (oO nm z)):=by
 have F:=Ic z (show (nm.length:Int)≠0 by lia)
 have h1:=J5 z (show (0:Int)<nm.length by lia)
 have hl:(z%(nm.length:Int)).toNat<nm.length:=by lia
 have e:oO nm z=nm[(z%(nm.length:Int)).toNat]:=by unfold oO;rw[xf,qz hl];rfl
 refine⟨by rw[e];exact nY hl,?_⟩
 have:=ap (xs:=nm.map V.str) (j:=(z%(nm.length:Int)).toNat) (v:=.str (oO nm z)) (by rw[wC,qz hl,e];rfl)
 rwa [show (((z%(nm.length:Int)).toNat:Nat):Int)=z%(nm.length:Int) by lia]at this
noncomputable def w9(c:Int):Int:=c*40692%(2*10^60-1)-10^60+1
theorem Fa(c:Int):(w9 c).natAbs<10^61:=by
 unfold w9;have F:=Ic (c*40692) (show (2*10^60-1:Int)≠0 by decide)
 have h1:=J5 (c*40692) (show (0:Int)<2*10^60-1 by decide)
 lia
noncomputable def xC(x y wd:Str)(b:Int):List LB:=[[.str "open",.str x],[.str "do",.str wd,.str x],[.str "do",.str wd,.str x],[.str "do",.str wd,.str x],[.str "copy",.str x,.str y],[.str "drop",.str x],[.str "tie",.str x,.str y],[.str "lend",.str x,.str y],[.str "if",.int b],[.str "while",.int b],[.str "while",.int b],[.str "do",.str wd,.str x],[.str "tie",.str x,.str y],[.str "open",.str x],[.str "other"],[.str "close"]]
def Dr(nm ws:KZ):Prop:=(ws.headD "" = "do" -> ws.length=3)/\∀n∈cW ws,n∈nm
inductive gW (nm:KZ):LB->Prop
 | plain (ws:KZ):eZ ws->iD ws->(∀x∈ws,dv x)->Dr nm ws->gW nm (ws.map V.str)
 | lend (x y:Str):dG x->dG y->x∈nm->y∈nm->gW nm [.str "lend",.str x,.str y]
 | ite (n:Int):n.natAbs<10^61->gW nm [.str "if",.int n]
 | whl (n:Int):n.natAbs<10^61->gW nm [.str "while",.int n]
 | other:gW nm [.str "other"]
 | close:gW nm [.str "close"]
theorem nc{h x:Str}(hh:h∈df)(hl:h.length<=20)(hx:x.length<=20):iD [h,x]:=⟨by simp,by simp,hh,λz hz=>by
 simp only[wQ,yh,or_false]at hz
 rcases hz with rfl | rfl<;>assumption⟩
theorem kH{h x:Str}(hh:h∈df)(hl:h.length<=20)(hx:x.length<=20)(F:y.length<=20):iD [h,x,y]:=⟨by simp,by simp,hh,λz hz=>by
 simp only[wQ,yh,or_false]at hz
 rcases hz with rfl | rfl | rfl<;>assumption⟩
theorem yy{x wd:Str}{b:Int}(Y:x∈nm)(yn:y∈nm)(hx:dG x)(W:dG y)(hw:dG wd)(hb:b.natAbs<10^61):∀r∈xC x y wd b,gW nm r:=by
 have kk:∀ {u:Str},u∈(qAs:KZ)->dv u:=λ{u} hu=>by
  simp only[wQ,yh,or_false]at hu
  rcases hu with rfl | rfl | rfl | rfl | rfl<;>(unfold dv;decide)
 have f2:∀ {a c:Str},dv a->dv c->∀z∈[a,c],dv z:=λha hc z hz=>by
  simp only[wQ,yh,or_false]at hz
  rcases hz with rfl | rfl<;>assumption
 have Z:∀ {a c e:Str},dv a->dv c->dv e->∀z∈[a,c,e],dv z:=λha hc he z hz=>by
  simp only[wQ,yh,or_false]at hz
  rcases hz with rfl | rfl | rfl<;>assumption
 have U:∀ {g:Str},¬ g = "do" -> Dr nm [g,x]:=λhg=>⟨λz=>absurd z hg,λn F=>by unfold cW at F;rw[Kt (show ¬ List.headD [_,x] "" = "do" from hg)]at F;rw[Kw.mp F];exact Y⟩
 have J:∀ {g:Str},¬ g = "do" -> Dr nm [g,x,y]:=λhg=>⟨λz=>absurd z hg,λn F=>by
  unfold cW at F;rw[Kt (show ¬ List.headD [_,x,y] "" = "do" from hg)]at F
  have O:n∈[x,y]:=F
  simp only[wQ,yh,or_false]at O
  rcases O with rfl | rfl<;>assumption⟩
 have op:gW nm [.str "open",.str x]:=.plain ["open",x] (.op x) (nc (by decide +kernel) (by decide) hx.1) (f2 (kk (by decide +kernel)) hx.2) (U (by decide +kernel))
 have dr:gW nm [.str "drop",.str x]:=.plain ["drop",x] (.dr x) (nc (by decide +kernel) (by decide) hx.1) (f2 (kk (by decide +kernel)) hx.2) (U (by decide +kernel))
 have dd:gW nm [.str "do",.str wd,.str x]:=.plain ["do",wd,x] (.dd wd x) (kH (by decide +kernel) (by decide) hw.1 hx.1) (Z (kk (by decide +kernel)) hw.2 hx.2) ⟨λ_=>rfl,λn F=>by unfold cW at F;rw[Kx (show List.headD [("do" : Str),wd,x] "" = "do" from rfl)]at F;rw[Kw.mp F];exact Y⟩
 have cp:gW nm [.str "copy",.str x,.str y]:=.plain ["copy",x,y] (.cp x y) (kH (by decide +kernel) (by decide) hx.1 W.1) (Z (kk (by decide +kernel)) hx.2 W.2) (J (by decide +kernel))
 have ti:gW nm [.str "tie",.str x,.str y]:=.plain ["tie",x,y] (.ti x y) (kH (by decide +kernel) (by decide) hx.1 W.1) (Z (kk (by decide +kernel)) hx.2 W.2) (J (by decide +kernel))
 have le:gW nm [.str "lend",.str x,.str y]:=.lend x y hx W Y yn
 have it:gW nm [.str "if",.int b]:=.ite b hb
 have wh:gW nm [.str "while",.int b]:=.whl b hb
 intro r hr
 unfold xC at hr;simp only[wQ,yh,or_false]at hr
 rcases hr with rfl | rfl | rfl | rfl | rfl | rfl | rfl | rfl | rfl | rfl | rfl | rfl | rfl | rfl | rfl | rfl
 .exact op
 .exact dd
 .exact dd
 .exact dd
 .exact cp
 .exact dr
 .exact ti
 .exact le
 .exact it
 .exact wh
 .exact wh
 .exact dd
 .exact ti
 .exact op
 .exact .other
 .exact .close
def yT:Sp:=λvs H Q _=>∃(c:Int) (np wp:Addr) (nm ws:KZ),vs=[.int c,.ref np,.ref wp]/\H np=some (.lst (nm.map V.str))/\H wp=some (.lst (ws.map V.str))/\1<=nm.length/\nm.length<=20/\1<=ws.length/\ws.length<=20/\(∀x∈nm,dG x)/\(∀x∈ws,dG x)/\
 ∀(t:Addr) (H':Hp) (v:LB),sj H H'->H' t=some (.tup v)->gW nm v->Q (.ref t) H'
theorem Fn(D:xn K mg "_law_step" bQ) (J:wAK mg):aF P w K mg base 1 "_law_step" qAZ yT:=by
 refine D.cal (k:=0) Cb (λf d5 A outer s0 H vs Q E hr h=>?_)
 obtain⟨c,np,wp,nm,ws,rfl,al,a6,n1,n2,w1,w2,b3,ca,q⟩:=h
 refine⟨_,(ah (aw 3 Cb.nd (ak (av K) (pv 1) (ar bY (ar bY (ar eQ (pv 0) af) af) (bm (aR K) J bG (aa (pv 1) ae)))))
   (ah (aw 4 Cb.nd (ak (av K) (pv 1) (ar bY (ar bY (ar eQ (pv 0) af) af) (bm (aR K) J bG (aa (pv 1) ae)))))
   (ah (aw 5 Cb.nd (ak (av K) (pv 2) (ar bY (ar bY (ar eQ (pv 0) af) af) (bm (aR K) J bG (aa (pv 2) ae)))))
   (ah (aw 6 Cb.nd (ar aB (ar gb (ar bY (ar eQ (pv 0) af) (ar gb (ar eQ af (ar jc af af)) af)) (ar jc af af)) af))
   (ah (aw 7 Cb.nd (aJ (aa (aQ (aa ax (aa (pv 3) ae))) (aa (aQ (aa ax (aa (pv 5) (aa (pv 3) ae)))) (aa (aQ (aa ax (aa (pv 5) (aa (pv 3) ae)))) (aa (aQ (aa ax (aa (pv 5) (aa (pv 3) ae)))) (aa (aQ (aa ax (aa (pv 3) (aa (pv 4) ae)))) (aa (aQ (aa ax (aa (pv 3) ae))) ae))))))))
   (ah (aw 7 Cb.nd (ar aB (pv 7) (aJ (aa (aQ (aa ax (aa (pv 3) (aa (pv 4) ae)))) (aa (aQ (aa ax (aa (pv 3) (aa (pv 4) ae)))) (aa (aQ (aa ax (aa (pv 6) ae))) (aa (aQ (aa ax (aa (pv 6) ae))) (aa (aQ (aa ax (aa (pv 6) ae))) ae))))))))
   (ah (aw 7 Cb.nd (ar aB (pv 7) (aJ (aa (aQ (aa ax (aa (pv 5) (aa (pv 3) ae)))) (aa (aQ (aa ax (aa (pv 3) (aa (pv 4) ae)))) (aa (aQ (aa ax (aa (pv 3) ae))) (aa (aQ (aa ax ae)) (aa (aQ (aa ax ae)) ae))))))))
   (aj (aA (ak (av K) (pv 7) (ar bY (pv 0) af))))))))))),?_⟩
 obtain⟨x1,x2⟩:=qN n1 (c*48271%99991)
 obtain⟨y1,y2⟩:=qN n1 (c*69621%99989)
 obtain⟨u1,u2⟩:=qN w1 (c*16807%99971)
 walk_at "r";refine⟨.inr ⟨by decide,by decide⟩,by decide,_,.inl (su.of al),?_⟩
 rw[zj];refine⟨by lia,_,_,.inl (su.of al),x2,?_⟩
 generalize oO nm (c*48271%99991)=x at x1 |-;walk_at "n";refine⟨.inr ⟨by decide,by decide⟩,by decide,_,.inl (su.of al),?_⟩
 rw[zj];refine⟨by lia,_,_,.inl (su.of al),y2,?_⟩
 generalize oO nm (c*69621%99989)=y at y1 |-;walk_at "n";refine⟨.inr ⟨by decide,by decide⟩,by decide,_,.inl (su.of a6),?_⟩
 rw[zj];refine⟨by lia,_,_,.inl (su.of a6),u2,?_⟩
 generalize oO ws (c*16807%99971)=wd at u1 |-;walk_at "n";refine⟨.inr ⟨by decide,by decide⟩,⟨by decide,by decide,by decide⟩,.inl ⟨by decide,by decide⟩,by decide,⟨by decide,by decide,by decide⟩,?_⟩
 have hb:=Fa c;rw[show c*40692%(2*10^Int.toNat 60-1)-10^Int.toNat 60+1=w9 c from rfl];generalize w9 c=b at hb |-;walk_at "n";refine⟨by decide,λt1 d8=>?_⟩
 walk_at "g"
 rename_i H1 s1 r1
 refine⟨by decide,λt2 d9=>?_⟩
 walk_at "g"
 rename_i H2 s2 r2
 refine⟨by decide,λt3 d6=>?_⟩
 walk_at "g"
 rename_i H3 s3 r3
 refine⟨by decide,λt4 dP=>?_⟩
 walk_at "g"
 rename_i H4 s4 r4
 refine⟨by decide,λt5 d3=>?_⟩
 walk_at "g"
 rename_i H5 s5 r5
 refine⟨by decide,λt6 d4=>?_⟩
 walk_at "g"
 rename_i H6 s6 r6
 refine⟨by decide,λl0 c5=>?_⟩
 have F:=am c5 (.lst [.ref t1,.ref t2,.ref t3,.ref t4,.ref t5,.ref t6]);have L0:BM (upd H6 l0 (.lst [.ref t1,.ref t2,.ref t3,.ref t4,.ref t5,.ref t6])) l0 [[.str "open",.str x],[.str "do",.str wd,.str x],[.str "do",.str wd,.str x],[.str "do",.str wd,.str x],[.str "copy",.str x,.str y],[.str "drop",.str x]]:=⟨[t1,t2,t3,t4,t5,t6],ai,.cons (F _ _ (s6 _ _ (s5 _ _ (s4 _ _ (s3 _ _ (s2 _ _ (r1))))))) (.cons (F _ _ (s6 _ _ (s5 _ _ (s4 _ _ (s3 _ _ (r2)))))) (.cons (F _ _ (s6 _ _ (s5 _ _ (s4 _ _ (r3))))) (.cons (F _ _ (s6 _ _ (s5 _ _ (r4)))) (.cons (F _ _ (s6 _ _ (r5))) (.cons (F _ _ (r6)) .nil)))))⟩
 have bg:sj H (upd H6 l0 (.lst [.ref t1,.ref t2,.ref t3,.ref t4,.ref t5,.ref t6])):=((((((s1.trans s2).trans s3).trans s4).trans s5).trans s6).trans F)
 generalize upd H6 l0 (.lst [.ref t1,.ref t2,.ref t3,.ref t4,.ref t5,.ref t6])=cb at L0 bg |-;have C0:=L0;have S0:=bg;walk_at "n";refine⟨by decide,λt7 ec=>?_⟩
 walk_at "g"
 rename_i H7 s7 r7
 refine⟨by decide,λt8 d7=>?_⟩
 walk_at "g"
 rename_i H8 s8 r8
 refine⟨by decide,λt9 dV=>?_⟩
 walk_at "g"
 rename_i H9 s9 r9
 refine⟨by decide,λag dc=>?_⟩
 walk_at "g"
 rename_i H10 s10 r10
 refine⟨by decide,λW dt=>?_⟩
 walk_at "g"
 rename_i H11 s11 r11
 refine⟨by decide,λl1 cq=>?_⟩
 have O:=am cq (.lst [.ref t7,.ref t8,.ref t9,.ref ag,.ref W]);have L1:BM (upd H11 l1 (.lst [.ref t7,.ref t8,.ref t9,.ref ag,.ref W])) l1 [[.str "tie",.str x,.str y],[.str "lend",.str x,.str y],[.str "if",.int b],[.str "while",.int b],[.str "while",.int b]]:=⟨[t7,t8,t9,ag,W],ai,.cons (O _ _ (s11 _ _ (s10 _ _ (s9 _ _ (s8 _ _ (r7)))))) (.cons (O _ _ (s11 _ _ (s10 _ _ (s9 _ _ (r8))))) (.cons (O _ _ (s11 _ _ (s10 _ _ (r9)))) (.cons (O _ _ (s11 _ _ (r10))) (.cons (O _ _ (r11)) .nil))))⟩
 have a3:sj cb (upd H11 l1 (.lst [.ref t7,.ref t8,.ref t9,.ref ag,.ref W])):=(((((s7.trans s8).trans s9).trans s10).trans s11).trans O)
 generalize upd H11 l1 (.lst [.ref t7,.ref t8,.ref t9,.ref ag,.ref W])=cv at L1 a3 |-;obtain⟨a7,a1,b1⟩:=C0.mono a3
 obtain⟨bt,c1,d1⟩:=L1
 refine⟨_,_,a1,c1,dw b1 d1 (by simp),λm1 b0=>?_⟩
 have C1:=eC b1 d1 b0;have S1:=(S0.trans a3).trans (am b0 (.lst (a7.map V.ref++bt.map V.ref)));generalize upd cv m1 (.lst (a7.map V.ref++bt.map V.ref))=c4 at C1 S1 |-;walk_at "n";refine⟨by decide,λad da=>?_⟩
 walk_at "g"
 rename_i H12 s12 r12
 refine⟨by decide,λab dm=>?_⟩
 walk_at "g"
 rename_i H13 s13 r13
 refine⟨by decide,λZ de=>?_⟩
 walk_at "g"
 rename_i H14 s14 r14
 refine⟨by decide,λac dj=>?_⟩
 walk_at "g"
 rename_i H15 s15 r15
 refine⟨by decide,λY dl=>?_⟩
 walk_at "g"
 rename_i H16 s16 r16
 refine⟨by decide,λl2 c3=>?_⟩
 have U:=am c3 (.lst [.ref ad,.ref ab,.ref Z,.ref ac,.ref Y]);have L2:BM (upd H16 l2 (.lst [.ref ad,.ref ab,.ref Z,.ref ac,.ref Y])) l2 [[.str "do",.str wd,.str x],[.str "tie",.str x,.str y],[.str "open",.str x],[.str "other"],[.str "close"]]:=⟨[ad,ab,Z,ac,Y],ai,.cons (U _ _ (s16 _ _ (s15 _ _ (s14 _ _ (s13 _ _ (r12)))))) (.cons (U _ _ (s16 _ _ (s15 _ _ (s14 _ _ (r13))))) (.cons (U _ _ (s16 _ _ (s15 _ _ (r14)))) (.cons (U _ _ (s16 _ _ (r15))) (.cons (U _ _ (r16)) .nil))))⟩
 have a4:sj c4 (upd H16 l2 (.lst [.ref ad,.ref ab,.ref Z,.ref ac,.ref Y])):=(((((s12.trans s13).trans s14).trans s15).trans s16).trans U)
 generalize upd H16 l2 (.lst [.ref ad,.ref ab,.ref Z,.ref ac,.ref Y])=cd at L2 a4 |-;obtain⟨bp,a2,b2⟩:=C1.mono a4
 obtain⟨a8,c2,d2⟩:=L2
 refine⟨_,_,a2,c2,dw b2 d2 (by simp),λm2 a5=>?_⟩
 have C2:=eC b2 d2 a5;have S2:=(S1.trans a4).trans (am a5 (.lst (bp.map V.ref++a8.map V.ref)));generalize upd cd m2 (.lst (bp.map V.ref++a8.map V.ref))=a9 at C2 S2 |-;walk_at "n";have cu:BM a9 m2 (xC x y wd b):=C2
 refine⟨by decide,?_⟩
 obtain⟨as,c9,be⟩:=cu
 have cc:=aI be;have ea:=Ic c (show (16:Int)≠0 by decide)
 have eb:=J5 c (show (0:Int)<16 by decide)
 have c8:as.length=16:=cc
 have bc:(c%16).toNat<as.length:=by lia
 obtain⟨r,e1,e2⟩:=cg be (qz bc)
 refine⟨_,_,.inl (su.of c9),(show di (as.map V.ref) (c%16)=some (.ref as[(c%16).toNat]) from ?_),q _ a9 r S2 e2 (yy x1 y1 (b3 x x1) (b3 y y1) (ca wd u1) hb r (kg e1))⟩
 have:=ap (xs:=as.map V.ref) (j:=(c%16).toNat) (v:=.ref as[(c%16).toNat]) (by rw[wC,qz bc];rfl)
 rwa [show (((c%16).toNat:Nat):Int)=c%16 by lia]at this
theorem GN.mono{fs:List CV}(I:GN fs m)(h:m<=n):GN fs n:=⟨I.ok,xB I.cnt h,I.len,I.pos⟩
def GM(a1:Addr)(fs:List CV):Prop:=∃x,fs[0]?=some x/\x.a1=a1
theorem GM.set{a1:Addr}{gs:List CV}{x F:CV}(h:GM a1 (gs++[x]))(e:F.a1=x.a1):GM a1 (gs++[F]):=by
 cases gs with
 | nil=>obtain⟨y,O,J⟩:=h;cases O;exact⟨F,rfl,by rw[e];exact J⟩
 | cons g gs=>obtain⟨y,O,J⟩:=h;exact⟨y,O,J⟩
theorem GM.cut{a1:Addr}{gs:List CV}{x:CV}(h:GM a1 (gs++[x]))(hg:1<=gs.length):GM a1 gs:=by
 cases gs with
 | nil=>simp at hg
 | cons g gs=>obtain⟨y,J,F⟩:=h;exact⟨y,J,F⟩
theorem GM.add{a1:Addr}{fs:List CV}{x:CV}(h:GM a1 fs):GM a1 (fs++[x]):=by
 cases fs with
 | nil=>obtain⟨y,F,_⟩:=h;cases F
 | cons g gs=>obtain⟨y,F,J⟩:=h;exact⟨y,F,J⟩
theorem C6.side{H0:Hp}{pp:Addr}(I:C6 H0 H pp (gs++[x]) S){Z:Addr}{z:V}(h1:H x.fa=some (.lst [.ref Z,.ref x.a1,.ref x.a2,z])):C6 H0 (upd H x.fa (.lst [.ref Z,.ref x.a1,.ref x.a2,.int 1])) pp (gs++[{x with f:={x.f with s:=true}}]) S:=by
 obtain⟨F,ag,Y,J,h2,h3,h4,h5,h6⟩:=I.fr gs.length x (cM gs x)
 have ad:F=Z:=by rw[h1]at J;simp at J;exact J.1.symm
 subst ad;have ab:x∈gs++[x]:=gV _ yb
 have O:=I.nd;rw[HY,fk,IQ]at O
 have U:[x.fa,x.a1,x.a2].Nodup:=O.2.2.1
 simp only[HY,wQ,yh,or_false,not_or,not_false_eq_true,IM,and_true]at U
 obtain⟨⟨n1,n2⟩,n3⟩:=U
 have ac:¬ S x.fa:=I.ns _ (yc _ (fF ab).1)
 have W:∀b xs,H b=some (.tup xs)->upd H x.fa (.lst [.ref F,.ref x.a1,.ref x.a2,.int 1]) b=some (.tup xs):=λb xs y=>by rw[au (cT y h1 (λy=>nomatch y))];exact y
 have kl:∀b xs,S b->H b=some (.lst xs)->upd H x.fa (.lst [.ref F,.ref x.a1,.ref x.a2,.int 1]) b=some (.lst xs):=λb xs hb y=>by rw[au (vi hb ac)];exact y
 refine I.write (.inl rfl) rfl rfl rfl ⟨F,ag,Y,ai,W _ _ h2,?_,?_,cK W kl (λ_ z=>z) h5,cK W kl (λ_ z=>z) h6⟩
 .rw[au (mS n1)];exact h3
 .rw[au (mS n2)];exact h4
def oJ:Sp:=λvs H Q _=>∃(cp np wp:Addr) (cs:LJ) (nm ws:KZ),vs=[.ref cp,.ref np,.ref wp,.int 2,.int 2]/\H cp=some (.lst (cs.map V.int))/\H np=some (.lst (nm.map V.str))/\H wp=some (.lst (ws.map V.str))/\cs.length<=20/\1<=nm.length/\nm.length<=20/\1<=ws.length/\ws.length<=20/\(∀x∈nm,dG x)/\(∀x∈ws,dG x)/\
 ∀(root:Addr) (H':Hp) (S:Addr->Prop) (T:List ud),sj H H'->H root=none->Bm S 10 H' root T->b8 10 T->dR 10 T->ao 10 T<=60->ef (· ∈ nm) 3 T->bO 1 1 1 10 T<=cs.length->bO 0 1 0 10 T<=2->Q (.ref root) H'
def Dm(H:Hp)(cp np wp pp a1:Addr)(nm:KZ)(n:Nat)(σ : L2.St)(H':Hp):Prop:=∃(le:Nat) (o6 o7:LK) (fs:List CV) (S:Addr->Prop),σ=[some (.ref cp),some (.ref np),some (.ref wp),some (.int (le:Int)),some (.int 2),some (.ref pp),o6,o7]/\C6 H H' pp fs S/\GN fs (3*n)/\GM a1 fs/\le<=2/\PX nm fs n (2-le)
theorem K7{p q:Prop}[Decidable p][Decidable q]{A B:Prop}(h1:p\/q->A)(h2:¬ (p\/q)->B):if p then A else if q then A else B:=by
 by_cases hp:p
 .rw[Kx hp]
  exact h1 (.inl hp)
 .rw[Kt hp]
  exact bx (λc=>h1 (.inr c)) (λc=>h2 (λz=>z.elim hp c))
theorem rh{l:List α}(h:l≠[]):∃a x,l=a++[x]:=⟨l.dropLast,l.getLast h,(za9 h).symm⟩
theorem LX{a b c:Addr}(h1:a≠b)(h2:a≠c)(F:b≠c):[a,b,c].Nodup:=by simp[h1,h2,F]
theorem wX(D:xn K mg "_law_program" bj) (Y:wAK mg) (bt:mg "int" = none) (ab:aF P w K mg base 1 "_law_step" qAZ yT) (ad:aF P w K mg base 1 "_law_put" qAX wW) (J:aF P w K mg base 2 "_law_close" ["_law_pile"] nJ):aF P w K mg base 3 "_law_program" qAN oJ:=by
 refine D.cal (k:=2) CJ (λf ea A outer s0 H vs Q E hr h=>?_)
 obtain⟨cp,np,wp,cs,nm,ws,rfl,cu,da,dm,eg,n1,n2,w1,w2,d8,dc,q⟩:=h
 refine⟨_,(ah (aw 5 CJ.nd (aJ (aa (aJ (aa (aQ (aa ax ae)) (aa (aJ ae) (aa (aJ ae) (aa af ae))))) ae)))
   (ah (b4 xH rfl (bL K (pv 0)) (aM 6 CJ.nd) (ah (aw 7 CJ.nd (ay ab hr (aa (pv 6) (aa (pv 1) (aa (pv 2) ae)))))
   (aj (bf (az (j3 K) (ak (av K) (pv 7) af) (aQ (aa ax (aa ax ae))) (by with_unfolding_all rfl)) (aj (bf (PW.pt' (eI (az kO (bm (aR K) Y bG (aa (pv 5) ae)) af (aG _)) (eI (az bn (ak (av K) (pv 7) af) ax (aG _)) (eI (az bn (ak (av K) (ak (av K) (ak (av K) (pv 5) (fN eX af)) af) af) ax (aG _)) (fz (az bn (ak (av K) (ak (av K) (pv 5) (fN eX af)) af) af (aG _))))))) (aj (eY af (fG (ak (av K) (pv 5) (fN eX af)) af kW))) (aj (bf (az kO (bm (aR K) Y bG (aa (pv 5) ae)) af (aG _)) (aj (br (ay J hr (aa (pv 5) ae)))) aN)))) (aj (bf (az (kh K) (ak (av K) (pv 7) af) (aQ (aa ax (aa ax (aa ax ae)))) (by with_unfolding_all rfl)) (aj (br (ay ad hr (aa (pv 5) (aa (pv 7) ae))))) (aj (bf (PW.pt' (eI (az D7 (bm (aR K) Y bG (aa (pv 5) ae)) (pv 4) (aG _)) (fz (PW.pt' (mw (az qF (ak (av K) (pv 7) af) ax (aG _)) (mJ (az kO (pv 3) af (aG _)))))))) (ah (aw 3 CJ.nd (ar gb (pv 3) (ee oZ bt yY (aa (jk bn (ak (av K) (pv 7) af) ax (aG _)) ae))))
   (aj (br (bH K xh mY nu bA (pv 5) (aa (aJ (aa (pv 7) (aa (aJ ae) (aa (aJ ae) (aa af ae))))) ae))))) aN))))))))
   (ah (sK xH (az kO (bm (aR K) Y bG (aa (pv 5) ae)) af (aG _)) (aj (br (ay J hr (aa (pv 5) ae)))))
   (aj (aA (ak (av K) (ak (av K) (pv 5) af) af)))))),?_⟩
 walk_at "r";refine⟨by decide,λth ek=>?_⟩
 walk_at "g"
 rename_i H1 s1 e1
 refine⟨by decide,λa1 dV=>?_⟩
 walk_at "g"
 rename_i H2 s2 e2
 have e2:H2 a1=some (.lst (([]:LC).map V.ref)):=e2
 refine⟨by decide,λa2 c8=>?_⟩
 walk_at "g"
 rename_i H3 s3 e3
 have e3:H3 a2=some (.lst (([]:LC).map V.ref)):=e3
 refine⟨by decide,λfa b3=>?_⟩
 walk_at "g"
 rename_i H4 s4 e4
 have e4:H4 fa=some (.lst [.ref th,.ref a1,.ref a2,mH false]):=e4
 refine⟨by decide,λU a5=>?_⟩
 walk_at "g"
 rename_i H5 s5 e5
 have ag:=s1.trans s2;have cv:=ag.trans s3;have cd:=cv.trans s4;have cc:=cd.trans s5;have i1:a1≠a2:=aP e2 c8
 have i2:a1≠fa:=aP (s3 _ _ e2) b3
 have i3:a2≠fa:=aP e3 b3
 have i4:a1≠U:=aP (s4 _ _ (s3 _ _ e2)) a5
 have i5:a2≠U:=aP (s4 _ _ e3) a5
 have i6:fa≠U:=aP e4 a5
 have I0:C6 H H5 U [⟨fa,a1,a2,⟨.top,[],[],false⟩⟩] (λ_=>False):=by
  refine⟨cc,e5,λk x hx=>?_,?_,λb _ z=>z,λb hb=>?_,λb z=>z.elim⟩
  .have hk:k=0:=by have:=(Kq.mp hx).1;simp at this;lia
   subst hk
   cases hx;exact⟨th,[],[],s5 _ _ e4,s5 _ _ (s4 _ _ (s3 _ _ (s2 _ _ e1))),s5 _ _ (s4 _ _ (s3 _ _ e2)),s5 _ _ (s4 _ _ e3),.nil,.nil⟩
  .show [U,fa,a1,a2].Nodup
   simp only[HY,wQ,yh,or_false,not_or,not_false_eq_true,IM,and_true]
   exact⟨⟨λe=>i6 e.symm,λe=>i4 e.symm,λe=>i5 e.symm⟩,⟨λe=>i2 e.symm,λe=>i3 e.symm⟩,i1⟩
  .have a3:b∈[U,fa,a1,a2]:=hb
   simp only[wQ,yh,or_false]at a3
   rcases a3 with rfl | rfl | rfl | rfl
   .exact cd.free a5
   .exact cv.free b3
   .exact s1.free dV
   .exact ag.free c8
 have O0:GN [⟨fa,a1,a2,⟨.top,[],[],false⟩⟩] (3*0):=by
  refine⟨λk x hx=>?_,qt _,by simp,by simp⟩
  have hk:k=0:=by have:=(Kq.mp hx).1;simp at this;lia
  subst hk
  cases hx;exact⟨λ_=>rfl,λz=>absurd z (by decide),⟨lC 9,λs hs=>by cases hs⟩,⟨lC 9,λs hs=>by cases hs⟩,.inr ⟨rfl,rfl⟩⟩
 have X0:PX nm [⟨fa,a1,a2,⟨.top,[],[],false⟩⟩] 0 (2-2):=by
  refine⟨λk x hx=>?_,qt _,qt _,by simp⟩
  have hk:k=0:=by have:=(Kq.mp hx).1;simp at this;lia
  subst hk
  cases hx;exact⟨λs hs=>(by cases hs),λs hs=>(by cases hs),λy z e=>(by cases e)⟩
 walk_at "n";refine⟨⟨_,su.of (cc _ _ cu)⟩,?_⟩
 refine cB (xs:=cs.map V.int) (Dm H cp np wp U a1 nm)
  ⟨2,none,none,_,_,rfl,I0,O0,⟨_,rfl,rfl⟩,qt _,X0⟩ (λi σ H' _ hh=>by obtain⟨_,_,_,_,_,_,I,_⟩:=hh;exact su.of (I.sm _ _ cu)) ?_ ?_
 .rintro i v σ H6 hv ⟨le,o6,o7,fs,S,rfl,I,O,F,hle,X⟩
  have hi:i<cs.length:=by have:=(Kq.mp hv).1;simpa using this
  rw[wC,qz hi]at hv
  cases hv;walk_at "r";refine⟨cs[i],np,wp,nm,ws,rfl,I.sm _ _ da,I.sm _ _ dm,n1,n2,w1,w2,d8,dc,λt H7 v s7 et hk=>?_⟩
  have I7:=I.alloc s7;walk_at "n";obtain⟨gs,x,rfl⟩:=rh (λz=>by have:=O.pos;rw[z]at this;simp at this:fs≠[])
  have ac:=O.ok gs.length x (cM gs x);have dl:=O.small (cM gs x);have bp:=O.len;rw[qL,qY,yi]at bp
  have d6:∃(g:Str) (u:LB),v = .str g::u:=by cases hk<;>first | exact⟨_,_,rfl⟩ | (rename_i px _ _ _;cases px<;>exact⟨_,_,rfl⟩)
  obtain⟨gh,u,hv⟩:=d6
  have a4:di v 0=some (.str gh):=by rw[hv];exact jO
  refine⟨_,_,.inr (vr.of et),a4,by decide,λp1 ei=>?_⟩
  walk_at "g"
  rename_i H8 s8 e8
  have e8:H8 p1=some (.tup ((["other","close"]:KZ).map V.str)):=e8
  have I8:=I7.alloc s8;have ca:=s8 _ _ et;refine⟨_,.inr (vr.of e8),rfl,rfl,?_⟩
  rw[fP];have Z:(((gs++[x]).map λx=>V.ref x.fa).length:Int)=(gs.length:Int)+1:=by simp
  have stay:∀ {H'},C6 H H' U (gs++[x]) S->Dm H cp np wp U a1 nm (i+1) [some (.ref cp),some (.ref np),some (.ref wp),some (.int (le:Int)),some (.int 2),some (.ref U),some (.int cs[i]),some (.ref t)] H':=λI'=>⟨_,_,_,_,_,rfl,I',O.mono (by lia),F,hle,X.mono (by lia) (qt _)⟩
  refine bx (λc1=>?_) (λc1=>?_)
  .have cls:∃xs,(su K H8 U xs\/vr K H8 U xs)/\if (1:Int)<(xs.length:Int) then nJ [.ref U] H8 (λ_ H'=>Dm H cp np wp U a1 nm (i+1) [some (.ref cp),some (.ref np),some (.ref wp),some (.int (le:Int)),some (.int 2),some (.ref U),some (.int cs[i]),some (.ref t)] H') E0 else Dm H cp np wp U a1 nm (i+1) [some (.ref cp),some (.ref np),some (.ref wp),some (.int (le:Int)),some (.int 2),some (.ref U),some (.int cs[i]),some (.ref t)] H8:=by
    refine⟨_,.inl (su.of I8.pile),?_⟩
    rw[Z];refine bx (λc2=>?_) (λ_=>stay I8)
    obtain⟨W,g,rfl⟩:=rh (λz=>by rw[z]at c2;simp at c2:gs≠[])
    have dt:=O.small (k:=W.length) (x:=g) (by rw[n6,gT (qt _),J0];rfl)
    have bg:=O.len;simp at bg
    exact⟨U,H,W,g,x,S,rfl,I8,λz=>by
     have:=ac.hd (by simp)
     rw[z]at this;exact this,by lia,by lia,by lia,λH9 S9 I9=>⟨_,_,_,_,_,rfl,I9,O.close.mono (by lia),(F.cut (by simp)).set rfl,hle,(X.close (by simpa using ac)).mono (by lia) (qt _)⟩⟩
   refine⟨_,.inl (su.of I8.pile),?_⟩
   rw[Z];refine bx (λc2=>?_) (λ_=>cls)
   refine⟨_,_,.inr (vr.of ca),a4,?_⟩
   walk_at "r";refine bx (λ_=>?_) (λ_=>cls)
   obtain⟨ha,cb,d4,h1,h2,h3,h4,h5,h6⟩:=I8.fr gs.length x (cM gs x)
   refine⟨_,_,.inl (su.of I8.pile),gP,?_⟩
   walk_at "r";refine⟨_,_,.inl (su.of h1),jO,?_⟩
   walk_at "r"
   cases hhd:x.f.hd with
   | ite n=>
    rw[hhd]at h2
    refine⟨_,_,.inr (vr.of h2),(show di (iy (.ite n)) 0=some (.str "if") from jO),?_⟩
    walk_at "r";refine⟨_,_,.inl (su.of I8.pile),gP,?_⟩
    walk_at "r";refine⟨_,_,.inl (su.of h1),ap (j:=3) rfl,?_⟩
    cases hs:x.f.s with
    | true=>
     rw[show mH true=V.int 1 from rfl];walk_at "r";rw[Kt (by decide)]
     exact cls
    | false=>
     rw[show mH false=V.int 0 from rfl];walk_at "r";refine⟨_,_,.inl (su.of I8.pile),gP,?_⟩
     walk_at "r";exact⟨_,3,h1,rfl,_,_,_,_,_,rfl,I8.side h1,(O.side hhd).mono (by lia),F.set rfl,hle,X.side.mono (by lia) (qt _)⟩
   | _=>
    rw[hhd]at h2
    refine⟨_,_,.inr (vr.of h2),jO,?_⟩
    walk_at "r";rw[Kt (by decide +kernel)]
    exact cls
  .have c5:gh∉(["other","close"]:KZ):=λz=>c1 (decide_eq_true z)
   walk_at "r";refine⟨_,_,.inr (vr.of ca),a4,by decide,λp2 eb=>?_⟩
   walk_at "g"
   rename_i H9 s9 e9
   have e9:H9 p2=some (.tup ((qAj:KZ).map V.str)):=e9
   have I9:=I8.alloc s9;have a8:=s9 _ _ ca;refine⟨_,.inr (vr.of e9),rfl,rfl,?_⟩
   rw[fP]
   have c9:(∃us,v=us.map V.str/\eZ us/\iD us/\(∀x∈us,dv x)/\Dr nm us)\/∃h:ul,v=iy h/\gh∈(qAj:KZ)/\BP h/\(∀y z,h = .lend y z->y∈nm/\z∈nm)/\mj 1 1 h<=1/\mj 1 0 h=if gh = "lend" then 1 else 0:=by
    cases hk with
    | plain us a b c d=>exact .inl ⟨us,rfl,a,b,c,d⟩
    | lend y z k1 k2 m1 m2=>cases hv;exact .inr ⟨.lend y z,rfl,by simp,⟨k1,k2⟩,λ_ _ e=>by cases e;exact⟨m1,m2⟩,qt _,(Kx rfl).symm⟩
    | ite n k1=>cases hv;exact .inr ⟨.ite n,rfl,by simp,k1,λ_ _ e=>(by cases e),qt _,(Kt (by decide +kernel)).symm⟩
    | whl n k1=>cases hv;exact .inr ⟨.whl n,rfl,by simp,k1,λ_ _ e=>(by cases e),qt _,(Kt (by decide +kernel)).symm⟩
    | other=>cases hv;exact absurd (by decide +kernel) c5
    | close=>cases hv;exact absurd (by decide +kernel) c5
   rcases c9 with ⟨us,rfl,px,pw,dP,nw⟩ | ⟨h,rfl,d7,hok,d5,ec,de⟩
   .have d2:us.headD "" = gh:=by cases px<;>(cases hv;rfl)
    have d1:gh∉(qAj:KZ):=by
     rw[<-d2];rcases iW px with h | h | h | h | h<;>rw[h]<;>decide +kernel
    rw[decide_eq_false d1,Kx (by decide)]
    exact⟨U,t,H,gs,x,S,.plain us,rfl,I9,a8,by lia,by lia,by lia,λdj al=>⟨_,_,_,_,_,rfl,al,(O.put (st:=.plain us) (c:=1) ⟨px,dP⟩ pw (qt _)).mono (by lia),F.set rfl,hle,X.put (st:=.plain us) (c:=1) (e:=0) nw (qt _) (qt _)⟩⟩
   .rw[decide_eq_true d7,Kt (by decide)]
    refine⟨_,.inl (su.of I9.pile),?_⟩
    rw[Z];refine bx (λc3=>?_) (λ_=>stay I9)
    refine⟨_,_,.inr (vr.of a8),a4,?_⟩
    walk_at "r";refine K7 (λc4=>?_) (λ_=>stay I9)
    refine⟨_,_,.inr (vr.of a8),a4,?_⟩
    walk_at "r";walk_at "n";refine⟨⟨_,su.of I9.pile⟩,by decide,λb1 b0=>?_⟩
    walk_at "g"
    rename_i dj s10 f1
    refine⟨by decide,λb2 a6=>?_⟩
    walk_at "g"
    rename_i H11 s11 f2
    refine⟨by decide,λfb as=>?_⟩
    walk_at "g"
    rename_i H12 ag f3
    have al:=I9.alloc s10;have a7:=al.alloc s11;have cq:=a7.alloc ag;refine⟨_,cq.pile,by rw[zj,qL];exact cJ (by simp;lia),?_⟩
    have hX:=X.open (hd:=h) (by simp;lia) d5 fb b1 b2
    have bc:(le:Int)-(if gh = "lend" then 1 else 0)=((le-mj 1 0 h:Nat):Int)/\mj 1 0 h<=le:=by
     rw[de]
     by_cases hl:gh = "lend"
     .have:(0:Int)<le:=c4.resolve_left (λz=>by simp[hl]at z)
      rw[Kx hl,Kx hl];lia
     .rw[Kt hl,Kt hl]
      lia
    rw[bc.1];have d9:=bc.2;refine⟨_,_,_,_,_,rfl,cq.push (x:=⟨fb,b1,b2,⟨h,[],[],false⟩⟩) ⟨t,[],[],f3,(s10.trans (s11.trans ag)) _ _ a8,(s11.trans ag) _ _ f1,ag _ _ f2,.nil,.nil⟩ (LX (aP (s11 _ _ f1) as).symm (aP f2 as).symm (aP f1 a6)) (λb hb=>?_),O.open (h:=h) (by simp;lia) hok fb b1 b2,F.add,by lia,hX.mono (by lia) (by lia)⟩
    have a3:b∈[fb,b1,b2]:=hb
    simp only[wQ,yh,or_false]at a3
    rcases a3 with rfl | rfl | rfl
    .exact⟨a7.notop as,(a7.free as).2,(a7.free as).1⟩
    .exact⟨I9.notop b0,(I9.free b0).2,(I9.free b0).1⟩
    .exact⟨al.notop a6,(al.free a6).2,(al.free a6).1⟩
 .rintro σ H6 ⟨le,o6,o7,fs,S,rfl,I,O,F,hle,X⟩
  rw[zj]at O X
  walk_at "n";refine⟨λm σ H'=>∃(fs:List CV) (S:Addr->Prop),σ=[some (.ref cp),some (.ref np),some (.ref wp),some (.int (le:Int)),some (.int 2),some (.ref U),o6,o7]/\C6 H H' U fs S/\GN fs (3*cs.length)/\GM a1 fs/\fs.length=m/\PX nm fs cs.length 2,⟨_,fs,S,rfl,I,O,F,rfl,X.mono (qt _) (by lia)⟩,?_⟩
  clear I O F X;rintro m σ H7 ⟨fs,S,rfl,I,O,F,hm,X⟩
  have a9:fs≠[]:=λz=>by have:=O.pos;rw[z]at this;simp at this
  obtain⟨gs,x,rfl⟩ : ∃gs x,fs=gs++[x]:=⟨fs.dropLast,fs.getLast a9,(za9 a9).symm⟩
  have ac:=O.ok gs.length x (cM gs x);have dl:=O.small (cM gs x);have Z:(((gs++[x]).map λx=>V.ref x.fa).length:Int)=(gs.length:Int)+1:=by simp
  walk_at "r";refine⟨_,.inl (su.of I.pile),?_⟩
  rw[Z];refine bx (λc2=>?_) (λc2=>?_)
  .have be:gs≠[]:=λz=>by rw[z]at c2;simp at c2
   obtain⟨W,g,rfl⟩ : ∃W g,gs=W++[g]:=⟨gs.dropLast,gs.getLast be,(za9 be).symm⟩
   have dt:=O.small (k:=W.length) (x:=g) (by rw[n6,gT (qt _),J0];rfl)
   have bg:=O.len;simp at bg hm
   refine⟨λσ' H'=>∃(fs:List CV) (S:Addr->Prop),σ'=[some (.ref cp),some (.ref np),some (.ref wp),some (.int (le:Int)),some (.int 2),some (.ref U),o6,o7]/\C6 H H' U fs S/\GN fs (3*cs.length)/\GM a1 fs/\fs.length=W.length+1/\PX nm fs cs.length 2,λσ' H' z=>⟨W.length+1,by lia,z⟩,?_⟩
   refine⟨U,H,W,g,x,S,rfl,I,λz=>by
    have:=ac.hd (by simp)
    rw[z]at this;exact this,by lia,by lia,by lia,λH9 S9 I9=>?_⟩
   exact⟨_,S9,rfl,I9,O.close,(F.cut (by simp)).set rfl,by simp,X.close (by simpa using ac)⟩
  .have d3:gs=[]:=JR (by lia)
   subst d3;obtain⟨ha,cb,d4,h1,h2,h3,h4,h5,h6⟩:=I.fr 0 x rfl
   obtain⟨y,hy,ed⟩:=F
   cases hy;walk_at "n";refine⟨_,_,.inl (su.of I.pile),jO,?_⟩
   walk_at "r";refine⟨_,_,.inl (su.of h1),ap (j:=1) rfl,?_⟩
   have hc:=O.cnt;have hw:iT 0 x+0<=3*cs.length:=hc
   unfold iT at hw;refine q x.a1 H7 (λb=>S b\/b=x.a1) x.f.a I.sm (I.nw _ (yc _ (fF (fs:=[]++[x]) (x:=x) (by simp)).2.1)) ⟨.inr rfl,cb,h3,cK (λ_ _ z=>z) (λ_ _ _ z=>z) (λ_ z=>.inl z) h5⟩ ac.a.1 ac.a.2 (by simp at hw;lia) (X.nk 0 x rfl).1 (by have:i9 1 1 1 0 x+0<=cs.length:=X.nd;unfold i9 at this;simp at this;lia) (by have:i9 0 1 0 0 x+0<=2:=X.ld;unfold i9 at this;simp at this;lia)
noncomputable def gQ(W:List KZ):Nat:=(W.filter λ(ws:KZ)=>decide (ws.headD "" = "lend")).length
theorem fm(X Y:List KZ):gQ (X++Y)=gQ X+gQ Y:=by unfold gQ;rw[List.filter_append,qL]
theorem ik{x:Str}{r:KZ}(h:¬ x = "lend"):gQ [x::r]=0:=by
 unfold gQ;rw[List.filter_cons,Kt (by simpa using h)];rfl
theorem Fd{f:List ud->List KZ}{g:List ud->Nat}{p:List ud->Prop}(h:∀b,p b->gQ (f b)<=g b):∀s:ud,ft p s->gQ (gv f s)<=ph 0 1 0 g s
 | .plain ws,hs=>by
  have F:=hs.1;show gQ [ws]<=0
  cases F<;>exact Nat.le_of_eq (ik (by decide))
 | .lend x y b,hs=>by
  have:=h b hs.2.2
  show gQ ([[("lend" : Str),x,y]]++(f b++[[("back" : Str)]]))<=g b+1
  rw[fm,fm,ik (x := "back") (by decide)]
  have:gQ [[("lend" : Str),x,y]]<=1:=List.length_filter_le _ _
  lia
 | .ite n b c,hs=>by
  have:=h b hs.2.1
  have:=h c hs.2.2
  show gQ ([[("if" : Str),fQ n]]++(f b++[[("else" : Str)]]++(f c++[[("fi" : Str)]])))<=g b+g c+0
  rw[fm,fm,fm,fm,ik (x := "if") (by decide),ik (x := "else") (by decide),ik (x := "fi") (by decide)]
  lia
 | .whl n b,hs=>by
  have:=h b hs.2
  show gQ ([[("while" : Str),fQ n]]++(f b++[[("done" : Str)]]))<=g b+0
  rw[fm,fm,ik (x := "while") (by decide),ik (x := "done") (by decide)]
  lia
theorem Ad:∀(d:Nat) (T:List ud),b8 d T->gQ (qx d T)<=bO 0 1 0 d T
 | 0,_,h=>h.elim
 | d+1,T,h=>by
  show gQ (T.flatMap (gv (qx d)))<=(T.map (ph 0 1 0 (bO 0 1 0 d))).sum
  induction T with
  | nil=>exact qt _
  | cons s T ih=>
   rw[za8,fm,yj,lJ];have h1:=Fd (Ad d) s (h s yb);have h2:=ih λu F=>h u (yc _ F)
   lia
theorem yF(W:List KZ):(mL W).length=gQ W:=by
 unfold mL gQ
 have e:W=(List.range W.length).map λi=>W.getD i []:=by
  refine List.ext_getElem (by simp) λi h1 h2=>?_
  rw[List.getElem_map,List.getElem_range,xf,qz h1];rfl
 conv=>rhs;rw[e,List.filter_map,zj]
 rfl
theorem oz:∀ {l m:KZ},l.Nodup->(∀x∈l,x∈m)->l.length<=m.length
 | [],_,_,_=>xR _
 | x::l,m,hn,h=>by
  rw[HY]at hn
  have hx:=h x yb;have h1:=oz (m:=m.erase x) hn.2 λy F=>(List.mem_erase_of_ne (λz=>hn.1 (by rw[<-z];exact F))).mpr (h y (yc _ F))
  have h2:=List.length_erase_of_mem hx;have J:=List.length_pos_of_mem hx;rw[qY];lia
theorem zt{N:Str->Prop}:∀(e d:Nat) (T:List ud),ef N e T->i0 d T->∀n∈(cj d T).flatMap b7,N n
 | 0,_,_,h,_=>h.elim
 | _+1,0,_,_,h=>h.elim
 | e+1,d+1,T,hn,ho=>λn F=>by
  obtain⟨s,J,F⟩:=Kz.mp F
  obtain⟨t,W,J⟩:=Kz.mp J
  have h1:=hn t W;have h2:=ho t W;have sub:∀b,ef N e b->i0 d b->s∈cj d b->N n:=λb a1 a2 Y=>zt e d b a1 a2 n (Kz.mpr ⟨s,Y,F⟩)
  rcases KC.mp J with rfl | J
  .cases s with
   | plain ws=>rw[<- (j_ h2).2]at F;exact h1.2 n F
   | lend x y b=>
    have O:n∈[x,y]:=F
    simp only[wQ,yh,or_false]at O
    rcases O with rfl | rfl
    .exact h1.1
    .exact h1.2.1
   | ite _ _ _=>exact absurd F yh
   | whl _ _=>exact absurd F yh
  .cases t with
   | plain ws=>exact absurd J yh
   | lend x y b=>exact sub b h1.2.2 h2 (by simpa [dC] using J)
   | ite m b c=>
    have U:s∈cj d b\/s∈cj d c:=by simpa [dC] using J
    exact U.elim (sub b h1.1 h2.1) (sub c h1.2 h2.2)
   | whl m b=>exact sub b h1 h2 (by simpa [dC] using J)
theorem EX{l:KZ}{n:Str}(h:n∈fD l):n∈l:=by
 have go:∀(l acc:KZ),n∈l.foldl fO acc->n∈acc\/n∈l:=λl=>by
  induction l with
  | nil=>exact λacc h=>.inl h
  | cons x l ih=>
   intro acc h
   rcases ih _ h with z | z
   .unfold fO at z
    split at z
    .exact .inl z
    .exact(KA.mp z).imp id λy=>by rw[Kw.mp y];exact yb
   .exact .inr (yc _ z)
 exact(go l [] h).elim (λz=>(yh z).elim) id
theorem C8{e:Nat}(hf:b8 d T)(F:ef (· ∈ nm) e T):(bN (fD ((cj d T).flatMap b7)) (cO d T)).length<=nm.length+bO 0 1 0 d T:=by
 unfold bN;rw[qL,zj,zj,Dn,Ba (DF hf) (y7 hf),yF];have h1:=Ad d T hf;have h2:=oz (zc ((cj d T).flatMap b7)) λx hx=>zt e d T F (lG hf) x (EX hx)
 lia
theorem Ff{NM:KZ}{t:Bool}(hf:b8 d T)(O:ef (λn=>n∈NM) d T):J3 (bN NM (cO d T)).length (dX NM d t T):=by
 have Z:∀k,iH (eV (bN NM (cO d T))) k->∃n,cn (eV (bN NM (cO d T))) k=iN n/\n<(bN NM (cO d T)).length:=λk h=>by
  obtain⟨n,Y,W⟩:=va _ _ k _ h
  exact⟨n,Y,W⟩
 have J:CK (dX NM d t T) (aE (eV (bN NM (cO d T))) d t 0 0 T) 0:=λi r e=>by
  rw[nV];unfold dX
  rw[xG (Kq.mp e).1];exact e
 have F:(dX NM d t T).length=(aE (eV (bN NM (cO d T))) d t 0 0 T).length+1:=by unfold dX;rw[qL];rfl
 have el:(dX NM d t T)[(aE (eV (bN NM (cO d T))) d t 0 0 T).length]?=some [.str "end",iN (ao d T)]:=by
  unfold dX;rw[gT (qt _),J0];rfl
 have U:=vG (E:=(dX NM d t T).length-1) Z d t 0 0 T hf (mR d 0 T (λi s e=>by rw[nV];exact e) O) J (by lia)
 refine⟨λi r e=>?_,⟨_,by rw[F,Nat.add_sub_cancel];exact el,rfl⟩⟩
 have hi:=(Kq.mp e).1
 by_cases c:i<(aE (eV (bN NM (cO d T))) d t 0 0 T).length
 .exact U i r (xR _) (by lia) e
 .rw[show i=(aE (eV (bN NM (cO d T))) d t 0 0 T).length by lia,el]at e
  cases e;exact⟨.en _,λz=>absurd (show ("end" : Str) = "test" from z) (by decide),λz=>absurd (show ("end" : Str) = "jump" from z) (by decide)⟩
noncomputable def wS(X:List aD):Nat:=(X.map im).sum
theorem c_(X Y:List aD):wS (X++Y)=wS X+wS Y:=by unfold wS;rw[yd,List.sum_append]
theorem nM{kv:List (aL×V)}(F:eZ ws):wS [cZ kv l ws]=1:=by
 have h2:bX (cZ kv l ws)=ws.headD "" := by
  unfold cZ;split
  .rename_i z;rw[z];rfl
  .rfl
 show im (cZ kv l ws)+0=1
 unfold im;rw[h2,Kt (by rcases iW F with z | z | z | z | z<;>rw[z]<;>decide)]
theorem qj{g:Nat->Nat->ud->List aD}{c:ud->Nat}{F J:ud->Nat}{A B:Nat}:∀(T:List ud) (a l:Nat),(∀s∈T,∀a l,wS (g a l s)<=A*F s+B*J s)->wS (cy g c a l T)<=A*(T.map F).sum+B*(T.map J).sum
 | [],_,_,_=>xR _
 | s::T,a,l,h=>by
  show wS (g a l s++cy g c _ _ T)<=_
  rw[c_,yj,yj,lJ,lJ,rH,rH];have h1:=h s yb a l;have h2:=qj (c:=c) T (a+(g a l s).length) (l+c s) λu O=>h u (yc _ O)
  lia
theorem vU{f:Bool->Nat->Nat->List ud->List aD}{cnt:List ud->Nat}{n:Int}{b:List ud}:wS (dJ f cnt a l n b)=wS (f false (a+1) (l+1) b)+3:=by
 unfold dJ;rw[c_,c_];show 1+_+2=_
 lia
theorem mV(kv:List (aL×V)):∀(d a l:Nat) (T:List ud),b8 d T->wS (aE kv d false a l T)<=3*bO 1 1 1 d T+3*bO 0 1 0 d T
 | 0,_,_,_,h=>h.elim
 | d+1,a,l,T,h=>by
  refine qj T a l λs J a l=>?_
  have F:=h s J;have ih:=mV kv d
  cases s with
  | plain ws=>rw[show dE kv (aE kv d) (ao d) false a l (.plain ws)=[cZ kv l ws] from rfl,nM F.1];show 1<=3*1+3*0;lia
  | lend x y b=>
   have:=ih (a+3) (l+1) b F.2.2
   show wS (dI kv (aE kv d) (ao d) false a l x y b)<=3*(bO 1 1 1 d b+1)+3*(bO 0 1 0 d b+1)
   unfold dI;rw[c_,c_];show 3+_+3<=_
   lia
  | ite n b c=>
   have h1:=ih (a+1) (l+1) b F.2.1;show wS (gX (aE kv d) (ao d) false a l n b c)<=3*(bO 1 1 1 d b+bO 1 1 1 d c+1)+3*(bO 0 1 0 d b+bO 0 1 0 d c+0)
   unfold gX;rw[c_,c_,c_];have h2:=ih (a+1+(aE kv d false (a+1) (l+1) b).length+1) (l+1+ao d b+1) c F.2.2;show 1+_+2+_<=_
   lia
  | whl n b=>
   have h1:=ih (a+1) (l+1) b F.2;show wS (dJ (aE kv d) (ao d) a l n b)<=3*(bO 1 1 1 d b+1)+3*(bO 0 1 0 d b+0)
   rw[vU];lia
theorem zC{kv:List (aL×V)}{N:Str->Prop}{d e A B:Nat}(W:1<=A)(ih:∀a l b,b8 d b->ef N e b->wS (aE kv d true a l b)<=A*bO 1 1 1 d b+B*bO 0 1 0 d b)(a l:Nat)(T:List ud)(h:b8 (d+1) T)(U:ef N (e+1) T):wS (aE kv (d+1) true a l T)<=(A+3)*bO 1 1 1 (d+1) T+(B+3)*bO 0 1 0 (d+1) T:=by
 refine qj T a l λs O a l=>?_
 have F:=h s O;have J:=U s O
 cases s with
 | plain ws=>rw[show dE kv (aE kv d) (ao d) true a l (.plain ws)=[cZ kv l ws] from rfl,nM F.1];show 1<=(A+3)*1+(B+3)*0;lia
 | lend x y b=>
  have:=ih (a+3) (l+1) b F.2.2 J.2.2
  show wS (dI kv (aE kv d) (ao d) true a l x y b)<=(A+3)*(bO 1 1 1 d b+1)+(B+3)*(bO 0 1 0 d b+1)
  unfold dI;rw[c_,c_];show 3+_+3<=_
  simp only[rH,IB]at this |-
  lia
 | ite n b c=>
  have h1:=ih (a+1) (l+1) b F.2.1 J.1;show wS (gX (aE kv d) (ao d) true a l n b c)<=(A+3)*(bO 1 1 1 d b+bO 1 1 1 d c+1)+(B+3)*(bO 0 1 0 d b+bO 0 1 0 d c+0)
  unfold gX;rw[c_,c_,c_];have h2:=ih (a+1+(aE kv d true (a+1) (l+1) b).length+1) (l+1+ao d b+1) c F.2.2 J.2;show 1+_+2+_<=_
  simp only[rH,IB]at h1 h2 |-
  lia
 | whl n b=>
  have h1:=ih (a+1) (l+1) b F.2 J;have h2:=mV kv d (a+1+(aE kv d true (a+1) (l+1) b).length+1) (l+1) b F.2;show wS (du (aE kv d) (ao d) true a l n b)<=(A+3)*(bO 1 1 1 d b+1)+(B+3)*(bO 0 1 0 d b+0)
  unfold du;rw[Kx rfl,c_,c_,vU];show 1+_+_<=_
  simp only[rH,IB]at h1 h2 |-
  lia
theorem IU{NM:KZ}{N:Str->Prop}{t:Bool}{T:List ud}(hf:b8 10 T)(O:ef N 3 T):fC (dX NM 10 t T) 0<=7*bO 1 1 1 10 T+6*bO 0 1 0 10 T+1:=by
 have e:fC (dX NM 10 t T) 0=wS (aE (eV (bN NM (cO 10 T))) 10 t 0 0 T)+1:=c_ _ _
 rw[e]
 cases t with
 | false=>
  have:=mV (eV (bN NM (cO 10 T))) 10 0 0 T hf
  lia
 | true=>
  have W:∀a l b,b8 8 b->ef N 1 b->wS (aE (eV (bN NM (cO 10 T))) 8 true a l b)<=1*bO 1 1 1 8 b+0*bO 0 1 0 8 b:=λa l b h1 h2=>qj b a l λs J a l=>by
   have U:=h1 s J;have F:=h2 s J
   cases s with
   | plain ws=>rw[show dE (eV (bN NM (cO 10 T))) (aE (eV (bN NM (cO 10 T))) 7) (ao 7) true a l (.plain ws)=[cZ (eV (bN NM (cO 10 T))) l ws] from rfl,nM U.1];exact qt _
   | lend x y b=>exact F.2.2.elim
   | ite n b c=>exact F.1.elim
   | whl n b=>exact F.elim
  have:wS (aE (eV (bN NM (cO 10 T))) 10 true 0 0 T)<=7*bO 1 1 1 10 T+6*bO 0 1 0 10 T:=zC (by decide) (zC (by decide) W) 0 0 T hf O
  lia
theorem JJ(R:List aD):R.length<=fC R 0:=by
 unfold fC;rw[List.drop_zero]
 induction R with
 | nil=>exact qt _
 | cons r R ih=>
  rw[qY,yj,lJ];have:1<=im r:=by unfold im;split<;>lia
  lia
def Gs(H:Hp)(rp:Addr)(n z i:Nat)(as:LC)(rows:List (List LG)):Prop:=H rp=some (.lst (as.map V.ref))/\as.length=i/\rows.length=i/\(∀(j:Nat) b x,as[j]?=some b->rows[j]?=some x->H b=some (.lst (x.map aV))/\b≠rp)/\∀x∈rows,x.length=n/\∀k,some k∈x->k<z
theorem Gs.push{L:Addr}{z:Nat}{U:LC}{rows:List (List LG)}{x:List LG}(h:Gs H O n z i U rows)(sm:sj H H')(hL:H L=none)(hx:H' L=some (.lst (x.map aV)))(hn:x.length=n)(hk:∀k,some k∈x->k<z) :
  Gs (upd H' O (.lst (U.map V.ref++[.ref L]))) O n z (i+1) (U++[L]) (rows++[x]):=by
 obtain⟨hl,h1,h2,h3,h4⟩:=h
 have nL:L≠O:=mS (aP hl hL)
 refine⟨by rw[ai,yd];rfl,by simp[h1],by simp[h2],λj b y F J=>?_,sY h4 ⟨hn,hk⟩⟩
 rcases iz j i with z' | z'
 .rw[xG (by lia)]at F J
  obtain⟨q1,q2⟩:=h3 j b y F J
  exact⟨by rw[au q2];exact sm _ _ q1,q2⟩
 .rw[gT (by lia)]at F J
  have ab:j-U.length=0:=by
   have:=(Kq.mp F).1
   simp at this;lia
  have Y:j-rows.length=0:=by lia
  rw[ab]at F
  rw[Y]at J
  have W:L=b:=by simpa using F
  have Z:x=y:=by simpa using J
  subst W Z;exact⟨by rw[au nL];exact hx,nL⟩
theorem Gs.rule{U Y:Addr}{z:Nat}{W:LC}{rows:List (List LG)}{sd:Int}(h:Gs H U n z z W rows)(sm:sj H H')(hw:H O=some (.lst (ws.map V.str)))(ht:H' Y=some (.tup [.int sd,.ref O,.ref U]))(J:sd=1\/sd=2)(hn:ws.length=n)(ab:n<=16)(z0:1<=z)(z1:z<=60)(F:∀x∈ws,x.length<=20) :
  CT H' Y ⟨sd,ws,rows⟩/\eR ⟨sd,ws,rows⟩:=by
 obtain⟨hl,h1,h2,h3,h4⟩:=h
 refine⟨⟨O,U,W,ht,sm _ _ hw,sm _ _ hl,by show W.length=rows.length;lia,λj b x Z e2=>sm _ _ (h3 j b x Z e2).1⟩,J,by show ws.length<=16;lia,by show 1<=rows.length;lia,by show rows.length<=60;lia,λx hx=>?_,F⟩
 obtain⟨x1,x2⟩:=h4 x hx
 exact⟨by show x.length=ws.length;lia,λk hk=>by have:=x2 k hk;show k<rows.length;lia⟩
theorem Cp(l:LJ)(c:Int)(n:Nat)(h:l.length=n)(J:0<n)(F:∀x∈l,0<x/\x<100):∃v,di (l.map V.int) (c%(n:Int))=some (.int v)/\0<v/\v<100:=by
 have a1:=Ic c (show (n:Int)≠0 by lia)
 have a2:=J5 c (show (0:Int)<n by lia)
 obtain⟨v,hv,_⟩:=sv (xs:=l) (i:=c%(n:Int)) a1 (by lia)
 exact⟨v,ji a1 hv,F v (kg hv)⟩
theorem Ey(F:Int){z:Nat}(hz:1<=z):∃k:Nat,F%(z:Int)=(k:Int)/\k<z:=by
 have a1:=Ic F (show (z:Int)≠0 by lia)
 have a2:=J5 F (show (0:Int)<z by lia)
 exact⟨(F%(z:Int)).toNat,by lia,by lia⟩
theorem qE{x:List LG}{z:Nat}{o:LG}(h:∀k,some k∈x->k<z)(F:∀k,o=some k->k<z):∀k,some k∈x++[o]->k<z:=λk J=>by
 rcases KA.mp J with g | g
 .exact h k g
 .exact F k (Kw.mp g).symm
def sx:Sp:=λvs H Q _=>∃(cp wp:Addr) (cs:LJ) (ss:KZ) (m:Nat),vs=[.ref cp,.int 1,.ref wp,.int (m:Int)]/\H cp=some (.lst (cs.map V.int))/\cs.length=6/\H wp=some (.lst (ss.map V.str))/\ss.length<=16/\(∀x∈ss,x.length<=20)/\1<=m/\m<=60/\∀(p:Addr) (H':Hp) (r:Rl),sj H H'->H p=none->CT H' p r->eR r->r.s=1->r.rs.length<=m->Q (.ref p) H'
theorem zh(D:xn K mg "_law_rule" aS) (F:wAL mg) (a7:wAK mg) (W:mg "sorted" = none) (a5:mg "set" = none):aF P w K mg base 1 "_law_rule" qAR sx:=by
 refine D.cal (k:=0) Bc (λf c8 A outer s H vs Q E hr h=>?_)
 obtain⟨cp,wp,cs,ss,m,rfl,hc,dl,hS,c9,bp,m0,m1,q⟩:=h
 refine⟨_,(ah (aw 4 Bc.nd (aJ ae))
   (ah (b4 xH rfl (dh Im F (aa (bm (aR K) a7 bG (aa (pv 2) ae)) ae)) (aM 5 Bc.nd) (ah (aw 6 Bc.nd (ar uf (ar bY (ak (av K) (pv 0) af) af) (pv 5)))
   (ah (bf (PW.pt' (eI (az bn (pv 1) af (aG _)) (fz (az bn (ar j6 (pv 6) af) af (aG _))))) (aj (br (bH K xh mY nu bA (pv 4) (aa (ak (av K) (pv 2) (pv 5)) ae)))) aN)
   (ah (bf (PW.pt' (eI (az bn (pv 1) af (aG _)) (fz (az bn (ar j6 (pv 6) af) af (aG _))))) (aj (br (bH K xh mY nu bA (pv 4) (aa (ar aB ax (ak (av K) (pv 2) (pv 5))) ae)))) aN)
   (aj (bf (PW.pt' (eI (az bn (pv 1) af (aG _)) (fz (az bn (ar j6 (ar uf (pv 6) af) af) af (aG _))))) (aj (br (bH K xh mY nu bA (pv 4) (aa (ar aB ax (ak (av K) (pv 2) (pv 5))) ae)))) aN))))))
   (ah (aw 4 Bc.nd (bm (nE w hr) W iQ (aa (ee (uJ K w hr) a5 tu (aa (pv 4) ae)) ae)))
   (ah (aw 7 Bc.nd (ar aB af (ar bY (ak (av K) (pv 0) af) (pv 3))))
   (ah (aw 8 Bc.nd (ak (av K) (aJ (aa af (aa af (aa af (aa af ae))))) (ar bY (ar eJ (ak (av K) (pv 0) af) af) af)))
   (ah (aw 9 Bc.nd (aJ ae))
   (ah (b4 xH rfl (dh Im F (aa (pv 7) ae)) (aM 5 Bc.nd) (ah (aw 10 Bc.nd (ar bY (ar eQ (ak (av K) (pv 0) (ar aB af (ar bY (pv 5) af))) (ar aB af (ar eQ af (pv 5)))) (ar jc af af)))
   (ah (aw 11 Bc.nd (aJ ae))
   (ah (b4 xH rfl (bL K (pv 4)) (aM 12 Bc.nd) (ah (aw 13 Bc.nd (ar bY (pv 10) af))
   (ah (aw 10 Bc.nd (ar eJ (pv 10) af))
   (aj (bf (az bn (ar bY (pv 13) (pv 8)) af (aG _)) (aj (br (bH K xh mY nu bA (pv 11) (aa dB ae)))) (aj (br (bH K xh mY nu bA (pv 11) (aa (ar bY (ar eJ (pv 13) (pv 8)) (pv 7)) ae)))))))))
   (aj (br (bH K xh mY nu bA (pv 9) (aa (pv 11) ae))))))))
   (aj (aA (aQ (aa (pv 1) (aa (pv 4) (aa (pv 9) ae))))))))))))),?_⟩
 have Y:∀j:Nat,j<6->∃v:Int,(cs.map V.int)[j]?=some (.int v):=λj hj=>⟨cs[j],by rw[wC,qz (by lia)];rfl⟩
 obtain⟨c0,c4⟩:=Y 0 (by decide)
 obtain⟨c1,a9⟩:=Y 1 (by decide)
 walk_at "r";refine⟨by decide,λtp b0=>?_⟩
 walk_at "g"
 rename_i H1 s1 e1
 have e1:H1 tp=some (.lst (([]:KZ).map V.str)):=e1
 walk_at "n";refine⟨_,.inl (su.of (s1 _ _ hS)),?_⟩
 rw[zj];refine⟨by lia,by lia,?_⟩
 rw[gE]
 refine d_ (λi σ H'=>∃(ts:KZ) (o4 Z:LK),σ=[some (.ref cp),some (.int 1),some (.ref wp),some (.int (m:Int)),some (.ref tp),o4,Z,none,none,none,none,none,none,none]/\sj H H'/\H' tp=some (.lst (ts.map V.str))/\ts.length<=i/\∀x∈ts,x∈ss)
  ⟨[],none,none,rfl,s1,e1,qt _,by simp⟩ ?_ ?_
 .rintro i σ H' hi ⟨ts,o4,Z,rfl,sm,hl,ad,U⟩
  walk_at "r";refine⟨_,_,.inl (su.of (sm _ _ hc)),ap (j:=0) c4,?_⟩
  walk_at "r";refine⟨by decide,by lia,?_⟩
  generalize c0%65536/2^(0+(i:Int)).toNat=bt
  refine kF (λσ' H'=>∃(ts:KZ),σ'=[some (.ref cp),some (.int 1),some (.ref wp),some (.int (m:Int)),some (.ref tp),some (.int (0+(i:Int))),some (.int bt),none,none,none,none,none,none,none]/\sj H H'/\H' tp=some (.lst (ts.map V.str))/\ts.length<=i+1/\∀x∈ts,x∈ss) (λk hk=>?_) ?_
  .walk_at "r"
   refine bx (λc=>?_) (λc=>?_)
   .refine⟨⟨_,su.of hl⟩,_,_,.inl (su.of (sm _ _ hS)),by rw[Int.zero_add];exact ap (v:=.str ss[i]) (by rw[wC,qz hi];rfl),?_⟩
    refine⟨_,hl,by rw[zj];exact cJ (by lia),?_⟩
    exact hk _ _ ⟨ts++[ss[i]],rfl,sm.upd b0 _,by rw[ai,yd];rfl,by simp;lia,sY U (nY hi)⟩
   .exact hk _ _ ⟨ts,rfl,sm,hl,by lia,U⟩
  rintro σ' H' ⟨ts,rfl,sm,hl,ad,U⟩
  walk_at "n";rw[Kt (by decide)]
  walk_at "n";rw[Kt (by decide)]
  exact⟨ts,_,_,rfl,sm,hl,ad,U⟩
 rintro σ H2 ⟨ca,o4,Z,rfl,s2,e2,ad,U⟩
 walk_at "n";refine⟨tp,ca,rfl,su.of e2,by lia,λsl ds dm de al c5=>?_⟩
 walk_at "g"
 rename_i H3 s3 e3
 refine⟨sl,ds,rfl,e3,by lia,λxp ts da O _=>?_⟩
 have c3:ts.length<=16:=by rw[O.length_eq];lia
 have b3:∀x∈ts,x.length<=20:=λx hx=>bp x (U x ((al x).mp (O.mem_iff.mp hx)))
 walk_at "g"
 rename_i H4 s4 e4
 have a3:=s2.trans (s3.trans s4);clear O al c5 U ad e3 e2;walk_at "n";refine⟨_,_,.inl (su.of (a3 _ _ hc)),ap (j:=1) a9,?_⟩
 walk_at "r"
 have c2:∃z:Nat,1+c1%(m:Int)=(z:Int)/\1<=z/\z<=m:=by
  have a1:=Ic c1 (show (m:Int)≠0 by lia)
  have a2:=J5 c1 (show (0:Int)<m by lia)
  exact⟨(1+c1%(m:Int)).toNat,by lia,by lia,by lia⟩
 obtain⟨z,ez,z0,z1⟩:=c2
 refine⟨by lia,?_⟩
 rw[ez];walk_at "n";refine⟨by decide,λlp dc=>?_⟩
 walk_at "g"
 rename_i H5 s5 e5
 refine⟨_,_,.inl (su.of (s5 _ _ (a3 _ _ hc))),ap (j:=1) a9,?_⟩
 walk_at "r";obtain⟨sh,cd,dt,dj⟩:=Cp [2,3,5,11] (c1/64) 4 rfl (by decide) (by decide)
 refine⟨⟨by decide,by decide⟩,by decide,_,_,.inl (su.of e5),cd,?_⟩
 have a4:=a3.trans s5;have a8:=s5 _ _ e4;walk_at "n";refine⟨by decide,λrp cq=>?_⟩
 walk_at "g"
 rename_i H6 s6 e6
 have e6:H6 rp=some (.lst (([]:LC).map V.ref)):=e6
 walk_at "n";refine⟨by lia,by lia,?_⟩
 rw[gE]
 refine d_ (λi σ H'=>∃(as:LC) (rows:List (List LG)) (o1 o2 o3 o4 Z o6:LK),σ=[some (.ref cp),some (.int 1),some (.ref wp),some (.int (m:Int)),some (.ref xp),o1,o2,some (.int (z:Int)),some (.int sh),some (.ref rp),o3,o4,Z,o6]/\sj H5 H'/\Gs H' rp ts.length z i as rows)
  ⟨[],[],_,_,none,none,none,none,rfl,s6,⟨e6,rfl,rfl,by simp,by simp⟩⟩ ?_ ?_
 .rintro i σ H' hi ⟨as,rows,o1,o2,o3,o4,Z,o6,rfl,sm,J⟩
  have cc:∃j:Nat,2+(0+(i:Int))%4=(j:Int)/\j<6:=⟨(2+(0+(i:Int))%4).toNat,by lia,by lia⟩
  obtain⟨j0,cu,b1⟩:=cc
  obtain⟨cv,b2⟩:=Y j0 b1
  walk_at "r";rw[cu];refine⟨by decide,_,_,.inl (su.of (sm _ _ (a4 _ _ hc))),ap b2,?_⟩
  walk_at "r";refine⟨.inl ⟨by decide,by decide⟩,.inr ⟨by lia,by lia⟩,⟨by decide,by decide,by decide⟩,by decide,?_⟩
  generalize cv*(48271+10*(0+(i:Int)))%10^Int.toNat 36=BG
  walk_at "n";refine⟨by decide,λL' a6=>?_⟩
  walk_at "g"
  rename_i H7 s7 e7
  have e7:H7 L'=some (.lst (([]:List LG).map aV)):=e7
  walk_at "n";have cb:=(sm.trans s7) _ _ a8;refine⟨⟨_,su.of cb⟩,?_⟩
  refine cB (xs:=ts.map V.str) (λj σ H5=>∃(x:List LG) (r1:Int) (Z o6:LK),σ=[some (.ref cp),some (.int 1),some (.ref wp),some (.int (m:Int)),some (.ref xp),some (.int (0+(i:Int))),o2,some (.int (z:Int)),some (.int sh),some (.ref rp),some (.int r1),some (.ref L'),Z,o6]/\sj H' H5/\H5 L'=some (.lst (x.map aV))/\x.length=j/\∀k,some k∈x->k<z)
   ⟨[],BG,_,_,rfl,s7,e7,rfl,by simp⟩ (λj σ H5 _ hh=>by obtain⟨_,_,_,_,_,z,_⟩:=hh;exact su.of (z _ _ (sm _ _ a8))) ?_ ?_
  .rintro j v σ H5 hv ⟨x,r1,Z,o6,rfl,bg,hx,ab,ac⟩
   have hj:j<ts.length:=by have:=(Kq.mp hv).1;simpa using this
   walk_at "r";refine⟨by decide,?_⟩
   walk_at "n";refine⟨⟨by decide,by decide⟩,?_⟩
   walk_at "n";refine⟨by lia,bx (λ_=>?_) (λ_=>?_)⟩
   .refine⟨⟨_,su.of hx⟩,_,hx,by rw[zj];exact cJ (by lia),?_⟩
    exact⟨x++[none],_,_,_,rfl,bg.upd a6 _,by rw[ai,yd];rfl,lL ab,qE ac λk e=>by cases e⟩
   .obtain⟨k,ek,hk⟩:=Ey (r1%1000/sh) z0
    refine⟨⟨_,su.of hx⟩,⟨by lia,by lia⟩,by lia,?_⟩
    rw[ek];refine⟨_,hx,by rw[zj];exact cJ (by lia),?_⟩
    exact⟨x++[some k],_,_,_,rfl,bg.upd a6 _,by rw[ai,yd];rfl,lL ab,qE ac λk' e=>by cases e;exact hk⟩
  .rintro σ H8 ⟨x,r1,Z,o6,rfl,ag,hx,ab,ac⟩
   rw[zj]at ab
   walk_at "n";refine⟨⟨_,su.of (ag _ _ J.1)⟩,_,ag _ _ J.1,by rw[zj,J.2.1];exact cJ (by lia),?_⟩
   exact⟨_,_,_,_,_,_,_,_,rfl,(sm.trans ag).upd cq _,J.push ag a6 hx ab ac⟩
 rintro σ H' ⟨as,rows,o1,o2,o3,o4,Z,o6,rfl,sm,J⟩
 walk_at "n";refine⟨by decide,λtq be=>?_⟩
 have bc:=am be (.tup [.int 1,.ref xp,.ref rp]);obtain⟨hR,ok⟩:=J.rule bc (sm _ _ a8) ai (.inl rfl) rfl c3 z0 (by lia) b3
 exact q tq _ ⟨1,ts,rows⟩ ((a4.trans sm).trans bc) ((a4.trans sm).free be) hR ok rfl (by have h1:=J.2.1;have h2:=J.2.2.1;show rows.length<=m;lia)
theorem IY(F:∀x∈ws,dG x):∀x∈ws++(qAH:KZ),dG x:=λx hx=>by
 rcases KA.mp hx with hx | hx
 .exact F x hx
 .simp only[wQ,yh,or_false]at hx
  rcases hx with rfl | rfl | rfl | rfl<;>exact⟨by decide,by unfold dv;decide⟩
theorem Ay{k:Nat}{x:Str}{ps:KZ}{sp:Sp}(c:aF P w K mg base j x ps sp)(h:j<=k):aF P w K mg base k x ps sp:=by
 obtain⟨f,fd,F,r⟩:=c.ex
 exact⟨f,fd,F.mono h,r⟩
theorem Et{k:Nat}{x:Str}{ps:KZ}{sp J:Sp}(c:aF P w K mg base k x ps sp)(h:∀vs H Q E,J vs H Q E->sp vs H Q E):aF P w K mg base k x ps J:=by
 obtain⟨f,fd,F,r⟩:=c.ex
 exact⟨f,fd,F.imp h,r⟩
def Ia(H:Hp)(p:Addr)(NM:KZ):Prop:=∃(T:List ud) (S:Addr->Prop),Bm S 10 H p T/\i0 10 T/\(cj 10 T).length<=1000/\((cj 10 T).flatMap b7).length<=5000/\NM=fD ((cj 10 T).flatMap b7)
theorem Ia.mono{NM:KZ}(h:Ia H p NM)(s:sj H H'):Ia H' p NM:=by
 obtain⟨T,S,h1,h2⟩:=h
 exact⟨T,S,h1.mono s,h2⟩
theorem CI{k:Nat}(c:aF P w K mg base k "names_of" ["program"] pB):aF P w K mg base k "names_of" ["program"] (F6 Ia):=Et c λvs H Q E h=>by
 obtain⟨p,NM,rfl,⟨T,S,h1,h2,J,F,rfl⟩,q⟩:=h
 exact⟨p,T,S,rfl,h1,h2,J,F,q⟩
theorem A7{f:List ud->List ud}{g:List ud->Nat}(h:∀b,(f b).length<=g b):∀s:ud,(ga f s).length<=bw g s
 | .plain _=>by simp[ga,dC,bw]
 | .lend _ _ b=>by have:=h b;simp[ga,dC,bw];lia
 | .ite _ b c=>by have:=h b;have:=h c;simp[ga,dC,bw];lia
 | .whl _ b=>by have:=h b;simp[ga,dC,bw];lia
theorem nC:∀(d:Nat) (T:List ud),(cj d T).length<=ao d T
 | 0,_=>qt _
 | d+1,T=>by
  show (T.flatMap (ga (cj d))).length<=(T.map (bw (ao d))).sum
  induction T with
  | nil=>exact qt _
  | cons s T ih=>
   have:=A7 (nC d) s
   rw[za8,qL,yj,lJ];lia
theorem FZ{g:List ud->Prop}:∀ {s:ud},gi g s->(b7 s).length<=2
 | .plain ws,h=>by cases (show f7 ws from h)<;>simp[b7]<;>split<;>simp
 | .lend _ _ _,_=>by simp[b7]
 | .ite _ _ _,_=>by simp[b7]
 | .whl _ _,_=>by simp[b7]
theorem AC{d:Nat}{T:List ud}(h:i0 d T):((cj d T).flatMap b7).length<=2*ao d T:=by
 have h1:=nC d T;have h2:=qU d h
 have go:∀X:List ud,(∀s∈X,∃g:List ud->Prop,gi g s)->(X.flatMap b7).length<=2*X.length:=λX=>by
  induction X with
  | nil=>intro _;exact qt _
  | cons s X ih=>
   intro hx
   obtain⟨g,hg⟩:=hx s yb
   have:=FZ hg
   have:=ih λu F=>hx u (yc _ F)
   rw[za8,qL,qY];lia
 have:=go _ h2
 lia
theorem BJ{U:List ud}{bs:LC}(h:Bm S (d+1) H p T)(O:Paired (Cv (Bm S d H) H) bs U)(F:H p=some (.lst xs))(J:H q=some (.lst (bs.map V.ref++xs))):Bm (λb=>S b\/b=q) (d+1) H q (U++T):=by
 obtain⟨Y,W,h1,h2⟩:=h
 rw[h1]at F
 cases F;refine⟨.inr rfl,bs++W,by rw[J,yd],?_⟩
 exact Paired.imp' (λa s z=>z.imp (λ_ _ e=>e) λr b y=>y.imp (λ_ _ e=>e) (λ_ _ _ e=>e) (λ_ z=>.inl z) d) (jw O h2)
theorem oC(d:Nat):∀U:List KZ,ao (d+1) (U.map ud.plain)=U.length
 | []=>rfl
 | ws::U=>by
  show bw (ao d) (.plain ws)+ao (d+1) (U.map ud.plain)=_
  rw[oC d U,qY];show 1+_=_;lia
theorem lV(p l o d:Nat):∀U:List KZ,bO p l o (d+1) (U.map ud.plain)=p*U.length
 | []=>rfl
 | ws::U=>by
  show p+bO p l o (d+1) (U.map ud.plain)=_
  rw[lV p l o d U,qY,rH,Nat.mul_one];lia
theorem EK{x:Str}{e:Nat}(hx:dG x)(J:x∈nm):ft (b8 d) (.plain ["open",x])/\lh (dR d) (.plain ["open",x])/\la (ef (· ∈ nm) e) (· ∈ nm) (.plain ["open",x]):=by
 refine⟨⟨.op x,λz hz=>?_⟩,nc (by decide +kernel) (by decide) hx.1,λz=>absurd z (by show ¬ (("open" : Str) = "do");decide),λn F=>?_⟩
 .simp only[wQ,yh,or_false]at hz
  rcases hz with rfl | rfl
  .unfold dv;decide
  .exact hx.2
 .unfold cW at F
  rw[Kt (show ¬ List.headD [("open" : Str),x] "" = "do" from (by decide:¬ ("open" : Str) = "do"))]at F
  rw[Kw.mp F];exact J
theorem FQ{x:Str}{e:Nat}(hx:dG x)(O:dG y)(U:x∈nm)(W:y∈nm):ft (b8 d) (.plain ["tie",x,y])/\lh (dR d) (.plain ["tie",x,y])/\la (ef (· ∈ nm) e) (· ∈ nm) (.plain ["tie",x,y]):=by
 refine⟨⟨.ti x y,λz hz=>?_⟩,kH (by decide +kernel) (by decide) hx.1 O.1,λz=>absurd z (by show ¬ (("tie" : Str) = "do");decide),λn J=>?_⟩
 .simp only[wQ,yh,or_false]at hz
  rcases hz with rfl | rfl | rfl
  .unfold dv;decide
  .exact hx.2
  .exact O.2
 .unfold cW at J
  rw[Kt (show ¬ List.headD [("tie" : Str),x,y] "" = "do" from (by decide:¬ ("tie" : Str) = "do"))]at J
  have F:n∈[x,y]:=J
  simp only[wQ,yh,or_false]at F
  rcases F with rfl | rfl<;>assumption
structure Jp (nm:KZ) (T:List ud):Prop where
 fi:b8 10 T
 ok:dR 10 T
 cnt:ao 10 T<=64
 nm:ef (· ∈ nm) 3 T
 nd:bO 1 1 1 10 T<=22
 ld:bO 0 1 0 10 T<=2
def o0:Sp:=λvs H Q _=>∃(cp wq:Addr) (cs:LJ) (ws:KZ) (c0 c1:Int),vs=[.ref cp,.int c0,.int c1,.int 1,.ref wq]/\H cp=some (.lst (cs.map V.int))/\cs.length<=18/\H wq=some (.lst (ws.map V.str))/\1<=ws.length/\ws.length<=20/\(∀x∈ws,dG x)/\∀(cq:Addr) (H':Hp) (R:List aD) (N:Nat),sj H H'->H cq=none->BM H' cq R->J3 N R->N<=5->fC R 0<=167->Q (.ref cq) H'
theorem Cs(D:xn K mg "_law_code" bI) (W:aF P w K mg base 1 "_law_words" qAd nQ) (J:aF P w K mg base 3 "_law_program" qAN oJ) (Y:aF P w K mg base 35 "code_of" ["program"] (zH Ia 10)) (O:aF P w K mg base 35 "turned_code" ["program"] (tU Ia 10)):aF P w K mg base 36 "_law_code" qAM o0:=by
 refine D.cal (k:=35) FU (λf d6 A outer s H vs Q E hr h=>?_)
 obtain⟨cp,wq,cs,ws,c0,c1,rfl,de,ec,d2,w1,w2,da,q⟩:=h
 refine⟨_,(ah (aw 5 FU.nd (ay W hr (aa (ar eJ (pv 1) af) (aa (ak (av K) (aJ (aa (ar aB af (ar bY (pv 1) af)) (aa af ae))) (ar gb (pv 3) af)) ae))))
   (ah (aw 6 FU.nd (ay J hr (aa (pv 0) (aa (pv 5) (aa (pv 4) (aa (ar gb af (pv 3)) (aa af ae)))))))
   (ah (bf (az bn (ar bY (ar eJ (pv 2) af) af) af (aG _)) (aj (aw 6 FU.nd (ar aB (ar aB (dz (Cq.to (fsc:=(sg bI)) (N:=qAD) (N0:=qAD) (T:=["_law_name"])) rfl (bL K (pv 5)) (λ_ _ _ _=>(aM 7 (show (["_law_cells","_law_first","_law_second","_law_sides","_law_words_here","_law_names","_law_program_here","_law_name"]:KZ).Nodup from by decide +kernel))) (ci (show (qAD:KZ).length<=7 from by decide)) (λ_ _ _ _=>c7) (λ_ _ _ _=>(aQ (aa ax (aa (pv 7) ae))))) (aJ (aa (aQ (aa ax (aa (ak (av K) (pv 5) af) (aa (ak (av K) (pv 5) af) ae)))) ae))) (pv 6)))) aN)
   (ah (bf (az bn (ar bY (pv 2) af) af (aG _)) (aj (aA (ay O hr (aa (pv 6) ae)))) aN)
   (aj (aA (ay Y hr (aa (pv 6) ae)))))))),?_⟩
 walk_at "r";refine⟨⟨by decide,by decide⟩,by decide,by decide,λx hx=>?_⟩
 walk_at "g"
 rename_i H1 s1 e1
 have dj:∃z:Nat,2+c0%2=(z:Int)/\2<=z/\z<=3:=⟨(2+c0%2).toNat,by lia,by lia,by lia⟩
 obtain⟨mz,dt,JZ,Qa⟩:=dj
 rw[dt]at e1
 refine⟨_,_,.inl (su.of e1),rfl,?_⟩
 refine⟨c0/8,mz,rfl,by lia,λnp nm H2 s2 d4 e2 ed al=>?_⟩
 have a6:=s1.trans s2;walk_at "n";refine⟨cp,np,wq,cs,nm,ws,rfl,a6 _ _ de,e2,a6 _ _ d2,by lia,by lia,by lia,w1,w2,al,da,λc2 H3 S T s3 d1 hP bc hok b1 bp dl c3=>?_⟩
 have cd:=a6.trans s3;refine kF (λσ' H'=>∃(rt:Addr) (S':Addr->Prop) (T':List ud),σ'=[some (.ref cp),some (.int c0),some (.int c1),some (.int 1),some (.ref wq),some (.ref np),some (.ref rt)]/\sj H H'/\Bm S' 10 H' rt T'/\Jp nm T') (λk a3=>?_) ?_
 .walk_at "r"
  refine⟨⟨by decide,by decide⟩,by decide,bx (λc=>?_) (λc=>a3 _ _ ⟨c2,S,T,rfl,cd,hP,bc,hok,by lia,bp,by lia,c3⟩)⟩
  refine⟨⟨_,su.of (s3 _ _ e2)⟩,λD1 c4=>?_⟩
  have a8:0<nm.length:=by lia
  have a4:1<nm.length:=by lia
  refine fu (xs:=nm.map V.str) (λi ys H'=>sj H3 H'/\H' D1=some (.lst ys)/\∃bs:LC,ys=bs.map V.ref/\bs.length=i/\Paired (λb (x:Str)=>H' b=some (.tup [V.str "open",V.str x])) bs (nm.take i)) ⟨am c4 _,ai,[],rfl,rfl,.nil⟩ (λi ys H' _ hh=>su.of (hh.1 _ _ (s3 _ _ e2))) ?_ ?_
  .rintro i ys H' v hv hi ⟨sm,eD,bs,rfl,ac,ab⟩
   have ca:i<nm.length:=by simpa using hi
   rw[wC,qz ca]at hv
   cases hv;walk_at "r";refine⟨by decide,λt ht=>?_⟩
   have s4:=am ht (.tup [V.str "open",V.str nm[i]]);have e4:upd H' t (.tup [V.str "open",V.str nm[i]]) t=some (.tup [V.str "open",V.str nm[i]]):=ai
   have be:=s4 _ _ eD;generalize upd H' t (.tup [V.str "open",V.str nm[i]])=H4 at s4 e4 be |-;have kt:∀b xs,H4 b=some (.tup xs)->upd H4 D1 (.lst (bs.map V.ref++[V.ref t])) b=some (.tup xs):=λb xs e=>by rw[au (λz=>by rw[z,be]at e;cases e)];exact e
   refine fM hi (by rw[zj];exact ac) (by rw[zj];exact aU (by lia)) be ⟨(sm.trans s4).upd c4 _,ai,bs++[t],by simp,by simp[ac],?_⟩
   rw[J6 ca];exact eO (R:=λb (x:Str)=>upd H4 D1 (.lst (bs.map V.ref++[V.ref t])) b=some (.tup [V.str "open",V.str x])) (kt _ _ e4) (Paired.imp' (λb x z=>kt _ _ (s4 _ _ z)) ab)
  rintro ys H4 ⟨s4,eD,bs,rfl,ac,ab⟩
  rw[zj]at ac ab
  rw[Iq]at ab
  have cb:=s4 _ _ (s3 _ _ e2);walk_at "r";refine⟨_,_,.inl (su.of cb),ap (j:=0) (v:=.str nm[0]) (by rw[wC,qz a8];rfl),_,_,.inl (su.of cb),ap (j:=1) (v:=.str nm[1]) (by rw[wC,qz a4];rfl),by decide,λtt eg=>?_⟩
  walk_at "g"
  rename_i H5 s5 e5
  refine⟨by decide,λlt eb=>?_⟩
  walk_at "g"
  rename_i H6 s6 e6
  have e6:H6 lt=some (.lst ([tt].map V.ref)):=e6
  have a9:=s5.trans s6;refine⟨_,_,a9 _ _ eD,e6,by rw[zj];exact aU (by simp;lia),λl1 d8=>?_⟩
  rw[<-yd];walk_at "g"
  rename_i H7 s7 e7
  have cv:=s4.trans (a9.trans s7);have a5:=hP.mono cv;obtain⟨_,as,b0,b2⟩:=id a5
  have d7:as.length<=60:=by
   have h1:=aI b2
   have:T.length<=ao 10 T:=by
    show T.length<=(T.map (bw (ao 9))).sum
    clear b2 h1 a5 c3 dl bp b1 hok bc hP a3
    induction T with
    | nil=>exact qt _
    | cons s T ih=>
     rw[yj,lJ,qY];have:1<=bw (ao 9) s:=by cases s<;>simp[bw]
     lia
   lia
  refine⟨_,_,e7,b0,by rw[zj,zj];exact aU (by simp;lia),λl2 ea=>?_⟩
  walk_at "g"
  rename_i H8 s8 e8
  have c8:Paired (Cv (Bm S 9 H8) H8) (bs++[tt]) (((nm.map λn=>[("open" : Str),n])++[[("tie" : Str),nm[0],nm[1]]]).map ud.plain):=by
   rw[yd,He];refine eO (show Cv (Bm S 9 H8) H8 tt (.plain ["tie",nm[0],nm[1]]) from (s6.trans (s7.trans s8)) _ _ e5) ?_
   have:∀ {bs:LC} {l:KZ},Paired (λb (x:Str)=>H4 b=some (.tup [V.str "open",V.str x])) bs l->Paired (Cv (Bm S 9 H8) H8) bs (l.map (ud.plain ∘ λn=>[("open" : Str),n])):=λh=>by
    induction h with
    | nil=>exact .nil
    | cons a _ ih=>exact .cons ((a9.trans (s7.trans s8)) _ _ a) ih
   exact this ab
  have cu:=BJ (q:=l2) (a5.mono s8) c8 (s8 _ _ b0) e8;have ad:∀i (h:i<nm.length),dG nm[i]/\nm[i]∈nm:=λi h=>⟨al _ (nY h),nY h⟩
  have Z:∀s∈((nm.map λn=>[("open" : Str),n])++[[("tie" : Str),nm[0],nm[1]]]).map ud.plain,ft (b8 9) s/\lh (dR 9) s/\la (ef (· ∈ nm) 2) (· ∈ nm) s:=λs hs=>by
   obtain⟨ws,c5,rfl⟩:=KB.mp hs
   rcases KA.mp c5 with z | z
   .obtain⟨n,hn,rfl⟩:=KB.mp z
    exact EK (al n hn) hn
   .rw[Kw.mp z]
    exact FQ (ad 0 a8).1 (ad 1 a4).1 (ad 0 a8).2 (ad 1 a4).2
  have c9:((nm.map λn=>[("open" : Str),n])++[[("tie" : Str),nm[0],nm[1]]]).length<=4:=by simp;lia
  have dP:ao 10 _=_:=oC 9 ((nm.map λn=>[("open" : Str),n])++[[("tie" : Str),nm[0],nm[1]]])
  have dm:bO 1 1 1 10 _=_:=lV 1 1 1 9 ((nm.map λn=>[("open" : Str),n])++[[("tie" : Str),nm[0],nm[1]]])
  have d3:bO 0 1 0 10 _=_:=lV 0 1 0 9 ((nm.map λn=>[("open" : Str),n])++[[("tie" : Str),nm[0],nm[1]]])
  generalize (nm.map λn=>[("open" : Str),n])++[[("tie" : Str),nm[0],nm[1]]]=U at cu Z c9 dP dm d3
  refine a3 _ _ ⟨l2,_,_,rfl,cd.trans (cv.trans s8),cu,λs hs=>?_,λs hs=>?_,?_,λs hs=>?_,?_,?_⟩
  .exact(KA.mp hs).elim (λz=>(Z s z).1) (bc s)
  .exact(KA.mp hs).elim (λz=>(Z s z).2.1) (hok s)
  .have:ao 10 (U.map ud.plain++T)=ao 10 (U.map ud.plain)+ao 10 T:=wf 9 (U.map ud.plain) T
   lia
  .exact(KA.mp hs).elim (λz=>(Z s z).2.2) (bp s)
  .have:bO 1 1 1 10 (U.map ud.plain++T)=bO 1 1 1 10 (U.map ud.plain)+bO 1 1 1 10 T:=m_ (p:=1) (l:=1) (o:=1) 9 (U.map ud.plain) T
   lia
  .have:bO 0 1 0 10 (U.map ud.plain++T)=bO 0 1 0 10 (U.map ud.plain)+bO 0 1 0 10 T:=m_ (p:=0) (l:=1) (o:=0) 9 (U.map ud.plain) T
   lia
 rintro σ' H4 ⟨rt,S',T',rfl,s4,a7,F⟩
 have bg:=lG F.fi;have d9:=nC 10 T';have d5:=AC bg;have dc:=F.cnt
 have b3:(fD ((cj 10 T').flatMap b7)).length<=1000:=by
  have:=jg ((cj 10 T').flatMap b7) []
  rw[yi]at this
  unfold fD;lia
 have ag:mG Ia H4 rt 10 T' (fD ((cj 10 T').flatMap b7)):=
  ⟨⟨_,a7⟩,F.ok,⟨_,_,a7,bg,by lia,by lia,rfl⟩,me 10 a7 F.ok,zn 10 _ bg (λn hn=>Fp hn),by lia,b3,by decide⟩
 have bt:∀(t:Bool) (cq:Addr) (H7:Hp),sj H4 H7->H4 cq=none->BM H7 cq (dX (fD ((cj 10 T').flatMap b7)) 10 t T')->Q (.ref cq) H7:=λt cq H7 s7 dV hC=>by
  have hn:=F.nd;have hl:=F.ld;refine q cq H7 _ _ (s4.trans s7) (s4.free dV) hC (Ff F.fi ag.nm) ?_ ?_
  .have:=C8 F.fi F.nm
   lia
  .have:=IU (NM:=fD ((cj 10 T').flatMap b7)) (t:=t) F.fi F.nm
   lia
 walk_at "n";refine⟨by decide,bx (λcc=>?_) (λcc=>?_)⟩
 .exact⟨rt,T',_,rfl,ag,bt true⟩
 .walk_at "n"
  exact⟨rt,T',_,rfl,ag,bt false⟩
theorem CY.flat(h:CY N r):∀v∈r,bU v=true:=λv hv=>by
 cases h<;>simp only[wQ,yh,or_false]at hv
 .rcases hv with rfl | rfl | rfl<;>rfl
 .rcases hv with rfl | rfl | rfl | rfl<;>rfl
 .rcases hv with rfl | rfl | rfl | rfl<;>rfl
 .rcases hv with rfl | rfl | rfl<;>rfl
 .rcases hv with rfl | rfl | rfl | rfl<;>rfl
 .rcases hv with rfl | rfl | rfl | rfl<;>rfl
 .rcases hv with rfl | rfl | rfl<;>rfl
 .rcases hv with rfl | rfl<;>rfl
theorem sO:∀ {l:LB},(∀v∈l,∃z:Int,v = .int z)->∃cs:LJ,l=cs.map V.int
 | [],_=>⟨[],rfl⟩
 | v::l,h=>by
  obtain⟨z,hz⟩:=h v yb
  obtain⟨cs,F⟩:=sO λx hx=>h x (yc _ hx)
  exact⟨z::cs,by rw[hz,F,yj]⟩
theorem pC(ns:LJ)(lo hi st:LI):∃cs:LJ,gJ (ns.map V.int) lo hi st=cs.map V.int:=sO λv hv=>by
 obtain⟨z,_,e⟩:=KB.mp (Ci hv)
 exact⟨z,e.symm⟩
theorem FK{f:Addr}{fd:FuncData}(F:JQ K "law" "law" bo f fd) (a8:wAK mg) (a7:wAL mg) (W:mg "list" = none) (Y:mg "isinstance" = none) (J:aF P w K mg base 1 "_law_cell_at" qAe (AL K)) (ab:aF P w K mg base 1 "_law_words" qAd nQ) (ag:aF P w K mg base 1 "_law_rule" qAR sx) (al:aF P w K mg base 36 "_law_code" qAM o0) (Z:aF P w K mg base 1 "_law_inputs" qAf D5) (ad:aF P w K mg base 7 "paper_of" ["code","rule"] vk) (ac:aF P w K mg base 1 "_law_known" ["_law_tokens"] vK) (a3:aF P w K mg base 3 "_law_run" qAO Ec):Gk P w K mg base j5 37 f fd ["_law_script"] (qi K):=by
 refine F.ok Ge (by walk_at "v") (λe0 A outer s H vs Q E hr h=>?_)
 obtain⟨a,ns,rfl,hS,hn,q⟩:=h
 refine⟨_,(ah (aw 1 Ge.nd (ay J hr (aa (pv 0 (hv:=xX)) (aa af ae))))
   (ah (aw 2 Ge.nd (ar aB (ay ab hr (aa (ar eJ (pv 1) af) (aa af ae))) (aJ (aa ax (aa ax (aa ax (aa ax ae)))))))
   (ah (gg (Cq.to (fsc:=(sg bo)) (N:=qAA) (N0:=qAA) (T:=["_law_k"])) rfl Ge.nd (i:=3) rfl O8 (dh LH a7 (aa af ae)) (λ_ _ _ _=>(aM 9 (show (["_law_script","_law_second","_law_words_here","_law_cells","_law_rule_here","_law_code_here","_law_inputs_here","_law_kept","_law_paper","_law_k"]:KZ).Nodup from by decide +kernel))) (ci (show (qAA:KZ).length<=9 from by decide)) (λ_ _ _ _=>c7) (λ_ _ _ _=>(ay J hr (aa (pv 0 (hv:=(cr (sg bo) (by decide +kernel)))) (aa (ar aB af (pv 9)) ae)))))
   (ah (aw 4 Ge.nd (ay ag hr (aa (pv 3) (aa af (aa (pv 2) (aa af ae))))))
   (ah (aw 5 Ge.nd (ay al hr (aa (pK K (pv 0 (hv:=xX)) (cP af) (cP af) (cP af)) (aa (ay J hr (aa (pv 0 (hv:=xX)) (aa af ae))) (aa (pv 1) (aa af (aa (pv 2) ae)))))))
   (ah (aw 6 Ge.nd (ay Z hr (aa (pK K (pv 0 (hv:=xX)) (cP af) (cP af) (cP af)) (aa (pv 5) ae))))
   (ah (aw 7 Ge.nd (aJ (aa (ee (jF K) W i8 (aa (pv 5) ae)) (aa (ee (jF K) W i8 (aa (ak (av K) (pv 4) af) ae)) (aa (dz (Cq.to (fsc:=(sg bo)) (N:=qAA) (N0:=qAA) (T:=["_law_room"])) rfl (bL K (ak (av K) (pv 4) af)) (λ_ _ _ _=>(aM 9 (show (["_law_script","_law_second","_law_words_here","_law_cells","_law_rule_here","_law_code_here","_law_inputs_here","_law_kept","_law_paper","_law_room"]:KZ).Nodup from by decide +kernel))) (ci (show (qAA:KZ).length<=9 from by decide)) (λ_ _ _ _=>c7) (λ_ _ _ _=>(ee (jF K) W i8 (aa (pv 9) ae)))) ae)))))
   (ah (aw 8 Ge.nd (ay ad hr (aa (pv 5) (aa (pv 4) ae))))
   (ah (bf (PW.pt' (mw (jj (dF (bm sU Y jM (aa (pv 8) (aa (Ai W i8) ae))))) (mJ (az qF (bm (aR K) a8 bG (aa (pv 8) ae)) (bm (aR K) a8 bG (aa (pv 5) ae)) (aG _))))) (aj (aA eU)) aN)
   (ah (bf (PW.pt' (mw (az (nA K hr) (pv 5) (ak (av K) (pv 7) af) (aG _)) (mw (az (nA K hr) (ak (av K) (pv 4) af) (ak (av K) (pv 7) af) (aG _)) (mJ (az (nA K hr) (ak (av K) (pv 4) af) (ak (av K) (pv 7) af) (aG _)))))) (aj (aA eU)) aN)
   (aj (aA (ay a3 hr (aa (pv 5) (aa (pv 4) (aa (dz (Cq.to (fsc:=(sg bo)) (N:=qAA) (N0:=qAA) (T:=["_law_tokens"])) rfl (bL K (pv 8)) (λ_ _ _ _=>(aM 9 (show (["_law_script","_law_second","_law_words_here","_law_cells","_law_rule_here","_law_code_here","_law_inputs_here","_law_kept","_law_paper","_law_tokens"]:KZ).Nodup from by decide +kernel))) (ci (show (qAA:KZ).length<=9 from by decide)) (λ_ _ _ _=>c7) (λ_ _ _ _=>(ay ac hr (aa (pv 9) ae)))) (aa (pv 6) ae))))))))))))))))),?_⟩
 walk_at "r";refine⟨a,ns,1,rfl,hS,by decide,?_⟩
 generalize ns.getD (Int.toNat 1) 0=c1
 walk_at "n";refine⟨⟨by decide,by decide⟩,?_⟩
 refine⟨c1/4,2,rfl,by decide,λwp ws H2 s2 e6 e2 b1 dV=>?_⟩
 walk_at "r";refine⟨by decide,λx4 fb=>?_⟩
 walk_at "g"
 rename_i H3 s3 e3
 have e3:H3 x4=some (.lst ((qAH:KZ).map V.str)):=e3
 refine⟨_,_,s3 _ _ e2,e3,by rw[zj,zj,b1];exact aU (by simp),λwq eF=>?_⟩
 have s4:=am eF (.lst (ws.map V.str++(qAH:KZ).map V.str));have e4:upd H3 wq (.lst (ws.map V.str++(qAH:KZ).map V.str)) wq=some (.lst ((ws++(qAH:KZ)).map V.str)):=by rw[ai,yd]
 generalize upd H3 wq (.lst (ws.map V.str++(qAH:KZ).map V.str))=H4 at s4 e4 |-;have a5:∀x∈ws++(qAH:KZ),dG x:=IY dV
 have bg:(ws++(qAH:KZ)).length=6:=by rw[qL,b1];rfl
 generalize ws++(qAH:KZ)=d4 at e4 a5 bg;have U:=(s2.trans s3).trans s4;clear s2 s3 s4 e3 e2 b1 dV;have dm:=U.seq hS;walk_at "n";refine⟨by decide,by decide,λL hL=>?_⟩
 rw[show Int.toNat 6=6 from rfl];refine iV (λj ys H'=>sj H4 H'/\H' L=some (.lst ys)/\∃cs:LJ,ys=cs.map V.int/\cs.length=j) ⟨am hL _,ai,[],rfl,rfl⟩ ?_ ?_
 .rintro j ys H' hj ⟨sm,hl,cs,rfl,a4⟩
  walk_at "r";refine⟨a,ns,2+(0+(j:Int)),rfl,sm.seq dm,by lia,?_⟩
  refine fM hj (by rw[zj];exact a4) (aU (by lia)) hl ⟨sm.upd hL _,ai,cs++[ns.getD (2+(0+(j:Int))).toNat 0],rf _ _,lL a4⟩
 rintro ys H5 ⟨s5,e5,cs,rfl,a4⟩
 have e7:H L=none:=U.free hL
 have dt:=U.trans s5;walk_at "n";refine⟨L,wq,cs,d4,4,rfl,e5,a4,s5 _ _ e4,by lia,λx hx=>(a5 x hx).1,by decide,by decide,λp H7 rl s7 hp hR ok dj et=>?_⟩
 have dP:=s5.trans s7;have cc:=dt.trans s7;walk_at "n";rw[v1];walk_at "r";refine⟨a,_,rfl,cc.seq hS,by decide,xB (iP _).1 (by decide),λcp fo=>?_⟩
 obtain⟨c8,cu⟩:=pC ns (some 8) (some 44) (some 2)
 have d8:c8.length<=18:=by have:=(iP (ns.map V.int)).1;rw[cu,zj]at this;exact this
 rw[cu];walk_at "g"
 rename_i H8 s8 e8
 have d3:=dP.trans s8;have b3:=cc.trans s8;refine⟨a,ns,0,rfl,b3.seq hS,by decide,?_⟩
 refine⟨cp,wq,c8,d4,_,c1,rfl,e8,d8,d3 _ _ e4,by lia,by lia,a5,λcq H9 R N s9 fy hC b0 hN da=>?_⟩
 have ec:=hR.mono (s8.trans s9);have d7:=b3.trans s9;clear hR hp s7 dP d3 s8 e8 cu d8 e5 a4 e4 a5 bg s5 U dt cc b3 dm;walk_at "n";rw[v1];walk_at "r";refine⟨a,_,rfl,d7.seq hS,by decide,xB (iP _).2 (by decide),λip fl=>?_⟩
 obtain⟨c9,cv⟩:=pC ns (some 9) (some 45) (some 2)
 have ff:c9.length<=18:=by have:=(iP (ns.map V.int)).2;rw[cv,zj]at this;exact this
 rw[cv];walk_at "g"
 rename_i HA sA eA
 have eq:=JJ R
 have ed:∀r∈R,CY N r:=λr hr=>by
  obtain⟨i,hi⟩:=List.getElem?_of_mem hr
  exact(b0.row i r hi).1
 refine⟨ip,cq,c9,R,N,rfl,eA,by lia,hC.mono sA,ed,by lia,λiq H8 is sB eL eB fx=>?_⟩
 have bp:=sA.trans sB;have c3:=hC.mono bp;have cb:=ec.mono bp;clear hC ec bp d7 sA sB eA cv;obtain⟨as,ea,eb⟩:=id c3
 have hl:=aI eb;obtain⟨pw,pr,bs,r1,r2,r3⟩:=id cb
 walk_at "n";refine⟨_,.inl (su.of ea),λk0 eu=>?_⟩
 walk_at "g"
 rename_i H9 s9 e9
 refine⟨_,_,.inr (vr.of (s9 _ _ r1)),rfl,?_⟩
 walk_at "r";refine⟨_,.inl (su.of (s9 _ _ r2)),λeN eH=>?_⟩
 walk_at "g"
 rename_i H10 s10 e10
 have bc:=s9.trans s10;have b2:=r3.mono bc;refine⟨_,_,.inr (vr.of (bc _ _ r1)),rfl,?_⟩
 walk_at "r";refine⟨⟨_,su.of b2.1⟩,λM hM=>?_⟩
 refine xZ b2 ok.n1 hM (λa xs H' C z1 z2=>?_) (λeS ds d2 hB _ _=>?_)
 .walk_at "r"
  exact⟨_,.inl (su.of z1),z2⟩
 walk_at "r";refine⟨by decide,λkp eg=>?_⟩
 walk_at "g"
 rename_i H12 s12 e12
 have ei:=hB.mono s12;have sb:=d2.trans s12;have ev:=(s10.trans sb) _ _ e9;have dl:=sb _ _ e10;have a6:=bc.trans sb;have c4:=c3.mono a6;have ca:=cb.mono a6;have eE:=a6 _ _ eB;have ez:=a6 _ _ ea;have ew:Paired (b6 H12) as R:=Paired.imp' (λ_ _ z=>a6 _ _ z) eb
 clear hB b2 cb s9 s10 d2 s12 e9 e10 c3 ea eb a6 bc sb eB r3 r2 r1 hM eH eu eg;obtain⟨pw,pr,bs,r1,r2,r3⟩:=id ca
 walk_at "n";have d5:2^N*rl.rs.length<=128:=xB (Nat.mul_le_mul (Nat.pow_le_pow_right (by decide) hN) et) (by decide)
 refine⟨cq,p,R,rl,N,rfl,c4,b0,by lia,ca,ok,dj,by lia,xB (Nat.mul_le_mul (xB eq da) d5) (by decide),λpp c2 ls Ks O eM be c5 a4 eG=>?_⟩
 have ek:=c4.mono O;have ey:=ca.mono O;have d6:=O _ _ ez;have em:Paired (b6 c2) as R:=Paired.imp' (λ_ _ z=>O _ _ z) ew
 walk_at "n";refine⟨"list",by simp[cY,show c2 pp=_ from be],by decide,?_⟩
 rw[Kt (by decide)]
 refine⟨_,.inl (su.of be),_,.inl (su.of d6),?_⟩
 rw[Kt (by rw[zj,zj,c5,hl];simp)]
 walk_at "n";refine⟨_,_,.inl (su.of (O _ _ e12)),rfl,?_⟩
 walk_at "r";refine⟨1,true,by decide,Gr.seq (.inl ⟨su.of d6,su.of (O _ _ ev)⟩) rfl (λi x y e1 e2=>?_),?_⟩
 .rw[e1]at e2
  cases e2;have hi:i<as.length:=by have:=(Kq.mp e1).1;simpa using this
  rw[wC,qz hi]at e1
  cases e1;obtain⟨r,eo,dc⟩:=cg em (qz hi)
  exact Gr.seqFlat (.inr ⟨vr.of dc,vr.of dc⟩) (ed r (kg eo)).flat
 rw[Kt (by decide)]
 refine⟨_,_,.inr (vr.of (O _ _ r1)),rfl,_,_,.inl (su.of (O _ _ e12)),rfl,?_⟩
 walk_at "r";refine⟨0,true,by decide,Gr.seqFlat (.inl ⟨su.of (O _ _ r2),su.of (O _ _ dl)⟩) (AF _),?_⟩
 rw[Kt (by decide)]
 refine⟨_,_,.inr (vr.of (O _ _ r1)),rfl,_,_,.inl (su.of (O _ _ e12)),rfl,?_⟩
 walk_at "r";refine⟨1,true,by decide,A5 (r3.mono O) (ei.mono O),?_⟩
 rw[Kt (by decide)]
 walk_at "n";refine⟨⟨_,su.of be⟩,λD hD=>?_⟩
 refine fu (xs:=ls.map V.ref) (λi ys H'=>sj c2 H'/\H' D=some (.lst ys)/\∃ds:LC,ys=ds.map V.ref/\ds.length=i/\∀(j:Nat) d,ds[j]?=some d->xV H' d (Ks.getD j [])) ⟨am hD _,ai,[],rfl,rfl,λ_ _ h=>nomatch h⟩ (λi ys H' _ hh=>su.of (hh.1 _ _ be)) ?_ ?_
 .rintro i ys H' v hv hi ⟨sm,eD,ds,rfl,a9,cd⟩
  have d1:i<ls.length:=by simpa using hi
  rw[wC,qz d1]at hv
  cases hv;walk_at "r";have de:=eG i _ (qz d1);refine⟨_,_,rfl,de.keep (λa xs h=>sm _ _ h) ?_,λd bt U hd hk=>?_⟩
  .obtain⟨cs,ks,h1,_⟩:=de
   rw[h1];exact sm _ _ h1
  have d9:=U _ _ eD;have kt:∀b kvs,bt b=some (.dT kvs)->upd bt D (.lst (ds.map V.ref++[V.ref d])) b=some (.dT kvs):=λb kvs e=>by rw[au (λz=>by rw[z,d9]at e;cases e)];exact e
  refine fM hi (by rw[zj];exact a9) (by rw[zj];exact aU (by lia)) d9 ⟨(sm.trans U).upd hD _,ai,ds++[d],by simp,by simp[a9],λj e he=>?_⟩
  rcases iz j ds.length with z | z
  .rw[xG z]at he
   obtain⟨kvs,h1,h2⟩:=cd j e he
   exact⟨kvs,kt _ _ (U _ _ h1),h2⟩
  .rw[gT z]at he
   cases hj:j-ds.length with
   | succ n=>rw[hj]at he;cases he
   | zero=>
    rw[hj]at he
    cases he;obtain⟨kvs,h1,h2⟩:=hk
    rw[show j=i by lia]
    exact⟨kvs,kt _ _ h1,h2⟩
 rintro ys bt ⟨U,eD,ds,rfl,a9,cd⟩
 rw[zj]at a9
 exact⟨cq,p,D,iq,R,rl,N,ds,Ks,is,rfl,ek.mono U,b0,by lia,ey.mono U,ok,eD,by rw[a9];exact c5,cd,a4,(O.trans U) _ _ eE,by lia,xB (Nat.mul_le_mul (show is.length+1<=19 by lia) da) (by decide),λH' s'=>q H'⟩
theorem Cw{a0 a1 a2 Y F U J:Addr}(q0:∀H:Hp,vr K H a0 [.str "name"]) (q1:∀H:Hp,vr K H a1 [.str "word",.str "name"]) (q2:∀H:Hp,vr K H a2 [.str "name",.str "name"]) (q3:∀H:Hp,vr K H Y [.str "name"]) (Z:∀H:Hp,vr K H O [.str "name",.str "name"]) (q5:∀H:Hp,vr K H F [.str "name",.str "name",.str "steps"]) (q6:∀H:Hp,vr K H U [.str "bound",.str "steps",.str "steps"]) (q7:∀H:Hp,vr K H J [.str "bound",.str "steps"]) :
  ∀kind ks,(kind,ks)∈eh->∃a,bT [(("open" : Str),V.ref a0),(("do" : Str),V.ref a1),(("copy" : Str),V.ref a2),(("drop" : Str),V.ref Y),(("tie" : Str),V.ref O),(("lend" : Str),V.ref F),(("if" : Str),V.ref U),(("while" : Str),V.ref J)] kind=some (.ref a)/\∀H:Hp,vr K H a (ks.map V.str):=by
 intro kind ks h
 simp only[eh,wQ,Prod.mk.injEq,tK,or_false]at h
 rcases h with ⟨rfl,rfl⟩ | ⟨rfl,rfl⟩ | ⟨rfl,rfl⟩ | ⟨rfl,rfl⟩ | ⟨rfl,rfl⟩ | ⟨rfl,rfl⟩ | ⟨rfl,rfl⟩ | ⟨rfl,rfl⟩
 .exact⟨a0,rfl,q0⟩
 .exact⟨a1,rfl,q1⟩
 .exact⟨a2,rfl,q2⟩
 .exact⟨Y,rfl,q3⟩
 .exact⟨O,rfl,Z⟩
 .exact⟨F,rfl,q5⟩
 .exact⟨U,rfl,q6⟩
 .exact⟨J,rfl,q7⟩
def bV(K:W.Frag)(x:Str)(st:Stmt):Prop:=∃(f:Addr) (od an:LO) (sl:Array LF) (oc kV dc pm cd ct:Value),W.nsIn K mainGlobals x=some (some (.ref f))/\K.lookup f=some ⟨oc,od,.func (W.fnOf x x (C5 st) (Cm st) (sg st) .none kV dc pm an cd ct),sl⟩/\W.codeIn K cd x=true/\W.keepIn K (.ref f)=true
theorem dfe_mk{x:Str}{st:Stmt}{f:Addr}{U an:LO}{O:Array LF}{Y kV Z J F ct:Value}(a:W.nsIn K mainGlobals x=some (some (.ref f)))(l:K.lookup f=some ⟨Y,U,.func (W.fnOf x x (C5 st) (Cm st) (sg st) .none kV Z J an F ct),O⟩)(c:W.codeIn K F x=true)(k:W.keepIn K (.ref f)=true):bV K x st:=⟨f,U,an,O,Y,kV,Z,J,F,ct,a,l,c,k⟩
theorem aK{h:Heap}{mg:Str->LF}{x:Str}{st:Stmt}(X:K.In h)(G:h.Ns mainGlobals mg)(e:bV K x st):xn K mg x st:=by
 obtain⟨f,O,an,J,U,kV,Z,F,Y,ct,a,l,c,k⟩:=e
 exact⟨f,_,sX (st:=st) l c k,za3 X G a⟩
theorem all_mk{l:W.OpenLaw}{w:World}{h:Heap}{mg:Str->LF}{fa:Addr}(X:K.In h)(G:h.Ns mainGlobals mg)(q2:mg "law" = some (.ref fa))
 {J dc be bt ag b1 as b2 bp al bc ac ad ab:Addr}{cu cd hS i3 ja h0 hP hy ip hA ff f3 f0:LO}{cc hQ hI hY hM hD hH i5 io e9 fy fb:Array LF}{cq b3 cv ca Z cb:Value}{h8 ky l3 ls ll j0 l0 ko lq eL he g9 ha:Nat}{eD hn e2 ho gx e6 hj gz eM g3 eE g2 hu eG gr gt g4 eA gp gO hp e7 hb gI dm e0 dl eB ey dP eF:Tok}
  (a0:bV K "next_room" dk) (a1:bV K "room_from" cE) (a2:bV K "is_in" je) (a3:bV K "without" gN) (a4:bV K "held_behind" c6) (a5:bV K "is_of_two" fH) (a6:bV K "has_room" gj) (a7:bV K "texts_done" bu) (a8:bV K "texts_at" d0) (a9:bV K "room_behind" cN) (p0:bV K "begun_by_open" aW) (pw:bV K "begun_by_tie" aO) (qy:bV K "begins_at" bS) (o3:bV K "behind_at" aZ) (pr:bV K "rows_behind" cz) (pd:bV K "made_of" cA) (qa:bV K "put" fL) (o7:bV K "paper_of" a_) (q6:bV K "closers_of" fj) (oi:bV K "head_of" fX) (o1:bV K "blocks_of" eK) (ol:bV K "steps_within" bP) (p8:bV K "names_in" b9) (q1:bV K "lines_of" bB) (oc:bV K "names_of" fq) (oL:bV K "line_behind" dy) (q3:bV K "numbered_step" aX) (qk:bV K "numbered_steps" bK) (ov:bV K "lend_lines" b5) (o4:bV K "slots_of" cm) (pf:bV K "simple_row" bR) (o5:bV K "lend_rows" bi) (p3:bV K "if_rows" bM) (oe:bV K "loop_rows" cf) (qb:bV K "while_rows" bD) (p1:bV K "rows_of" bW) (q5:bV K "rows_and_end" bZ) (pi:bV K "code_of" gM) (o2:bV K "turned_code" er) (pb:bV K "_law_cell_at" dA) (p5:bV K "_law_words" aT) (ot:bV K "_law_step" bQ) (pa:bV K "_law_put" gS) (py:bV K "_law_close" ck) (pk:bV K "_law_program" bj) (p4:bV K "_law_rule" aS) (o9:bV K "_law_slots" cS) (o6:bV K "_law_next" fv) (ob:bV K "_law_code" bI) (o8:bV K "_law_inputs" ba) (od:bV K "_law_stands" bv) (q0:bV K "_law_done" dg) (oD:bV K "_law_known" cD) (ow:bV K "_law_run" bq) (q7:bV K "law" bo) (f2:W.nsIn K mainGlobals "isinstance" = some none) (n3:W.nsIn K mainGlobals "str" = some none) (n4:W.nsIn K mainGlobals "int" = some none) (m8:W.nsIn K mainGlobals "bool" = some none) (m2:W.nsIn K mainGlobals "tuple" = some none) (n7:W.nsIn K mainGlobals "len" = some none) (m1:W.nsIn K mainGlobals "range" = some none) (nf:W.nsIn K mainGlobals "list" = some none) (nq:W.nsIn K mainGlobals "zip" = some none) (g5:W.nsIn K mainGlobals "enumerate" = some none) (mm:W.nsIn K mainGlobals "sorted" = some none) (n2:W.nsIn K mainGlobals "set" = some none) (np:W.nsIn K mainGlobals "max" = some none) (nL:W.nsIn K mainGlobals "min" = some none) (et:W.nsIn K mainGlobals "NumberedStep" = some (some (.ref J))) (ea:W.plainGet K J Str.empty=true) (ek:W.hasDictIn K J=true) (em:W.plainOver K J=true) (ei:W.findIn K (.ref J) "__setattr__" = some (some (.builtin "object.__setattr__"))) (eg:W.makesIn K J=true) (eb:W.keepIn K (.ref J)=true) (mx:W.findIn K (.ref J) "kind" = some none) (mr:W.findIn K (.ref J) "parts" = some none) (mp:W.findIn K (.ref J) "lines" = some none) (lk:W.findIn K (.ref J) "blocks" = some none) (c4:W.findIn K (.ref J) "__init__" = some (some (.ref O))) (c8:W.isFn K (.ref O)=true) (c2:K.lookup O=some ⟨cq,cu,.func (W.fnOf "__init__" "NumberedStep.__init__" (C5 bb) (Cm bb) (sg bb) .none b3 cv ca cd Z cb),cc⟩) (c5:W.codeIn K Z "NumberedStep.__init__" = true) (da:W.keepIn K (.ref O)=true) (mz:W.nsIn K mainGlobals "PARTS" = some (some (.ref dc))) (mt:K.lookup dc=some ⟨.type "dict",none,.dict #[⟨PyData.keyHash w.params "open",.str "open" eD,.ref be⟩,⟨PyData.keyHash w.params "do",.str "do" e2,.ref bt⟩,⟨PyData.keyHash w.params "copy",.str "copy" e6,.ref ag⟩,⟨PyData.keyHash w.params "drop",.str "drop" eM,.ref b1⟩,⟨PyData.keyHash w.params "tie",.str "tie" eE,.ref as⟩,⟨PyData.keyHash w.params "lend",.str "lend" eG,.ref b2⟩,⟨PyData.keyHash w.params "if",.str "if" eA,.ref bp⟩,⟨PyData.keyHash w.params "while",.str "while" e7,.ref al⟩] h8,#[]⟩) (hW:K.lookup be=some ⟨.type "tuple",hS,.seq #[.str "name" hn] ky,hQ⟩) (iq:K.lookup bt=some ⟨.type "tuple",i3,.seq #[.str "word" ho,.str "name" gx] l3,hI⟩) (h7:K.lookup ag=some ⟨.type "tuple",ja,.seq #[.str "name" hj,.str "name" gz] ls,hY⟩) (hX:K.lookup b1=some ⟨.type "tuple",h0,.seq #[.str "name" g3] ll,hM⟩) (i4:K.lookup as=some ⟨.type "tuple",hP,.seq #[.str "name" g2,.str "name" hu] j0,hD⟩) (hO:K.lookup b2=some ⟨.type "tuple",hy,.seq #[.str "name" gr,.str "name" gt,.str "steps" g4] l0,hH⟩) (il:K.lookup bp=some ⟨.type "tuple",ip,.seq #[.str "bound" gp,.str "steps" gO,.str "steps" hp] ko,i5⟩) (h9:K.lookup al=some ⟨.type "tuple",hA,.seq #[.str "bound" hb,.str "steps" gI] lq,io⟩) (mu:(dc==sysModules)=false) (kx:W.nsIn K mainGlobals "CLOSERS" = some (some (.ref bc))) (i6:K.lookup bc=some ⟨.type "dict",none,.dict #[⟨PyData.keyHash w.params "lend",.str "lend" dm,.ref ac⟩,⟨PyData.keyHash w.params "if",.str "if" dl,.ref ad⟩,⟨PyData.keyHash w.params "while",.str "while" dP,.ref ab⟩] eL,#[]⟩) (gd:K.lookup ac=some ⟨.type "tuple",ff,.seq #[.str "back" e0] he,e9⟩) (e8:K.lookup ad=some ⟨.type "tuple",f3,.seq #[.str "else" eB,.str "fi" ey] g9,fy⟩) (f5:K.lookup ab=some ⟨.type "tuple",f0,.seq #[.str "done" eF] ha,fb⟩) (h4:(bc==sysModules)=false) :
  ∃fd:FuncData,(∀(s:Shared) (v:Value),BindsTo s fd ⟨[v],[]⟩ [("_law_script",v)])/\∀base:Heap,K.In base->base.Ns mainGlobals mg->Gk l.prog w K mg base j5 37 fa fd ["_law_script"] (qi K):=by
 obtain⟨f9,re,q4,rd,q8,pm,px,qs,qn,pc,on,l9,c9,k9⟩:=q7
 have e:=q2.symm.trans (za3 X G on)
 cases e;have g6:=aK X G a0;have hr:=aK X G a1;have m3:=aK X G a2;have k4:=aK X G a3;have ew:=aK X G a4;have g8:=aK X G a5;have hF:=aK X G a6;have f8:=aK X G a7;have h6:=aK X G a8;have ez:=aK X G a9;have ed:=aK X G p0;have ev:=aK X G pw;have gh:=aK X G qy;have ht:=aK X G o3;have e1:=aK X G pr;have l6:=aK X G pd;have nt:=aK X G qa;have hL:=aK X G o7;have gc:=aK X G q6;have kc:=aK X G oi;have hk:=aK X G o1;have eo:=aK X G ol;have hC:=aK X G p8;have hB:=aK X G q1;have hG:=aK X G oc;have eS:=aK X G oL;have ec:=aK X G q3;have dV:=aK X G qk;have fx:=aK X G ov;have hR:=aK X G o4;have fo:=aK X G pf;have hc:=aK X G o5;have kl:=aK X G p3;have hq:=aK X G oe;have f1:=aK X G qb;have ka:=aK X G p1;have eu:=aK X G q5;have l1:=aK X G pi;have e3:=aK X G o2;have e5:=aK X G pb;have hm:=aK X G p5;have hK:=aK X G ot;have kb:=aK X G pa;have hw:=aK X G py;have e4:=aK X G pk;have hT:=aK X G p4;have gy:=aK X G o9;have h5:=aK X G o6;have iv:=aK X G ob;have f4:=aK X G o8;have fl:=aK X G od;have h3:=aK X G q0;have g7:=aK X G oD;have kj:=aK X G ow;have dj:=G9 X G f2
 have nz:=G9 X G n3
 have m5:=G9 X G n4
 have oa:=G9 X G m8
 have eN:=G9 X G m2
 have U:=G9 X G n7
 have c3:=G9 X G m1
 have mb:=G9 X G nf
 have jb:=G9 X G nq
 have dt:=G9 X G g5
 have de:=G9 X G mm
 have l2:=G9 X G n2
 have m4:=G9 X G np
 have n5:=G9 X G nL
 have Y:Kc K J:=⟨ea,ek,em,ei⟩
 have mc:Fl K J "kind" := ⟨Y,mx⟩
 have hE:Fl K J "parts" := ⟨Y,mr⟩
 have eH:Fl K J "lines" := ⟨Y,mp⟩
 have ge:Fl K J "blocks" := ⟨Y,lk⟩
 have eq:GY K mg "NumberedStep" J "NumberedStep.__init__" bb:=⟨O,_,sX (st:=bb) c2 c5 da,⟨eg,c4,c8,eb⟩,za3 X G et⟩
 have m7:mg "PARTS" = some (.ref dc):=za3 X G mz
 have m0:GX w K dc [("open",.ref be),("do",.ref bt),("copy",.ref ag),("drop",.ref b1),("tie",.ref as),("lend",.ref b2),("if",.ref bp),("while",.ref al)]:=⟨mu,(show (["open","do","copy","drop","tie","lend","if","while"]:KZ).Nodup from by decide),_,[⟨PyData.keyHash w.params "open",.str "open" eD,.ref be⟩,⟨PyData.keyHash w.params "do",.str "do" e2,.ref bt⟩,⟨PyData.keyHash w.params "copy",.str "copy" e6,.ref ag⟩,⟨PyData.keyHash w.params "drop",.str "drop" eM,.ref b1⟩,⟨PyData.keyHash w.params "tie",.str "tie" eE,.ref as⟩,⟨PyData.keyHash w.params "lend",.str "lend" eG,.ref b2⟩,⟨PyData.keyHash w.params "if",.str "if" eA,.ref bp⟩,⟨PyData.keyHash w.params "while",.str "while" e7,.ref al⟩],h8,mt,⟨rfl,rfl,rfl⟩,rfl,.cons rfl (.cons rfl (.cons rfl (.cons rfl (.cons rfl (.cons rfl (.cons rfl (.cons rfl (.nil))))))))⟩
 have ki:∀H:Hp,vr K H be [.str "name"]:=λH=>.inr ⟨_,_,_,hW,rfl,rfl,aU (show 1<=1000000 from by decide),.cons ⟨_,rfl⟩ (.nil)⟩
 have l4:∀H:Hp,vr K H bt [.str "word",.str "name"]:=λH=>.inr ⟨_,_,_,iq,rfl,rfl,aU (show 2<=1000000 from by decide),.cons ⟨_,rfl⟩ (.cons ⟨_,rfl⟩ (.nil))⟩
 have k3:∀H:Hp,vr K H ag [.str "name",.str "name"]:=λH=>.inr ⟨_,_,_,h7,rfl,rfl,aU (show 2<=1000000 from by decide),.cons ⟨_,rfl⟩ (.cons ⟨_,rfl⟩ (.nil))⟩
 have kt:∀H:Hp,vr K H b1 [.str "name"]:=λH=>.inr ⟨_,_,_,hX,rfl,rfl,aU (show 1<=1000000 from by decide),.cons ⟨_,rfl⟩ (.nil)⟩
 have kw:∀H:Hp,vr K H as [.str "name",.str "name"]:=λH=>.inr ⟨_,_,_,i4,rfl,rfl,aU (show 2<=1000000 from by decide),.cons ⟨_,rfl⟩ (.cons ⟨_,rfl⟩ (.nil))⟩
 have kN:∀H:Hp,vr K H b2 [.str "name",.str "name",.str "steps"]:=λH=>.inr ⟨_,_,_,hO,rfl,rfl,aU (show 3<=1000000 from by decide),.cons ⟨_,rfl⟩ (.cons ⟨_,rfl⟩ (.cons ⟨_,rfl⟩ (.nil)))⟩
 have k6:∀H:Hp,vr K H bp [.str "bound",.str "steps",.str "steps"]:=λH=>.inr ⟨_,_,_,il,rfl,rfl,aU (show 3<=1000000 from by decide),.cons ⟨_,rfl⟩ (.cons ⟨_,rfl⟩ (.cons ⟨_,rfl⟩ (.nil)))⟩
 have kX:∀H:Hp,vr K H al [.str "bound",.str "steps"]:=λH=>.inr ⟨_,_,_,h9,rfl,rfl,aU (show 2<=1000000 from by decide),.cons ⟨_,rfl⟩ (.cons ⟨_,rfl⟩ (.nil))⟩
 have lE:mg "CLOSERS" = some (.ref bc):=za3 X G kx
 have lp:GX w K bc [("lend",.ref ac),("if",.ref ad),("while",.ref ab)]:=⟨h4,(show (qAj:KZ).Nodup from by decide),_,[⟨PyData.keyHash w.params "lend",.str "lend" dm,.ref ac⟩,⟨PyData.keyHash w.params "if",.str "if" dl,.ref ad⟩,⟨PyData.keyHash w.params "while",.str "while" dP,.ref ab⟩],eL,i6,⟨rfl,rfl,rfl⟩,rfl,.cons rfl (.cons rfl (.cons rfl (.nil)))⟩
 have g1:∀H:Hp,vr K H ac [.str "back"]:=λH=>.inr ⟨_,_,_,gd,rfl,rfl,aU (show 1<=1000000 from by decide),.cons ⟨_,rfl⟩ (.nil)⟩
 have gl:∀H:Hp,vr K H ad [.str "else",.str "fi"]:=λH=>.inr ⟨_,_,_,e8,rfl,rfl,aU (show 2<=1000000 from by decide),.cons ⟨_,rfl⟩ (.cons ⟨_,rfl⟩ (.nil))⟩
 have hs:∀H:Hp,vr K H ab [.str "done"]:=λH=>.inr ⟨_,_,_,f5,rfl,rfl,aU (show 1<=1000000 from by decide),.cons ⟨_,rfl⟩ (.nil)⟩
 have F:=sX (st:=bo) l9 c9 k9;refine⟨W.fnOf "law" "law" (C5 bo) (Cm bo) (sg bo) .none pm px qs q4 qn pc,λs v=>.of_eq rfl,λbase _ _=>?_⟩
 have c1:=Eu (P:=l.prog) (w:=w) (base:=base) e5 U;have d1:=xE (P:=l.prog) (w:=w) (base:=base) gc lE lp g1 gl hs;have d2:=Eg kc U d1;have d3:=zU hk U d2;have d4:=oo eo d3 10;have d5:=xr (P:=l.prog) (w:=w) (base:=base) hC jb mb m7 m0 (Cw ki l4 k3 kt kw kN k6 kX);have d6:=CI (wZ hG d5 d4);have d7:=tD hB nz jb d1 d2 d3 10;have d8:=qJ fx dt d7;have d9:=BW (NO:=Ia) Ia.mono hR dt (Ay d6 (k:=15) (by decide)) d8
 have k0:=AZ (P:=l.prog) (w:=w) (base:=base) eq mc hE eH ge;have b0:=zq (P:=l.prog) (w:=w) (base:=base) eS U eH;have n0:=v4 ec dV d2 d3 b0 k0 10;have r0:=u5 (P:=l.prog) (w:=w) (base:=base) ka hc kl hq f1 fo U eN mc hE eH ge 10;have r1:=yB (NO:=Ia) (d:=10) (k:=33) Ia.mono eu (by decide) n0 r0 (Ay d9 (by decide)) b0 (by decide) (by decide)
 have r2:=Ag e3 r1;have r3:=Ez l1 r1;have pu:=Fw (P:=l.prog) (w:=w) (base:=base) kb;have pg:=wX e4 U m5 (Fn hK U) pu (Bk hw pu);have ii:=EJ (P:=l.prog) (w:=w) (base:=base) m3;have wo:=xm (P:=l.prog) (w:=w) (base:=base) k4;have nr:=Ex (P:=l.prog) (w:=w) (base:=base) g6;have tw:=FO (P:=l.prog) (w:=w) (base:=base) g8 U;have tx:=B9 h6 (E5 f8 ii tw) tw;have rb:=Bd ez (ut hr nr) tx;have bh:=Iv ht eN tw (FN hF U) (Fh ew ii wo) rb;have bg:=E3 gh l2 de (Es ed U nr wo) (EM ev U ii);have pp:=Cf hL c3 U de (Eo nt) (uM e1 de l2) bg (EQ l6 bg bh);have ln:=Dd (P:=l.prog) (w:=w) (base:=base) h5;have wd:=BK (P:=l.prog) (w:=w) (base:=base) hm c3 m5;have rn:=Fg kj c3 U n5 (zD gy m4) (zB fl c3 U jb) (JH h3 U ln);exact FK F U c3 mb dj c1 wd (zh hT c3 U de l2) (Cs iv wd pg r3 r2) (GH f4 U m4) pp (Ca g7 dj eN) rn
theorem walk{l:W.OpenLaw}{q:Program}{loose:KZ}{XP:(Str->LF)->Heap->Prop}{YP:World->Heap->Prop}{d:DefRec}{K:Params->W.Frag}(O:l.most=some 63)(J:d.params.defaults=[])
  (U:∀(w:World) (h:Heap),YP w h->(K w.params).In h)
  (F:∀(w:World) (mg:Str->LF) (fa:Addr) (h:Heap),(K w.params).In h->h.Ns mainGlobals mg->mg d.name=some (.ref fa)->
   ∃fd:FuncData,(∀(s:Shared) (u:Value),BindsTo s fd ⟨[u],[]⟩ [("_law_script",u)])/\∀base:Heap,(K w.params).In base->base.Ns mainGlobals mg->Gk l.prog w (K w.params) mg base j5 37 fa fd ["_law_script"] (qi (K w.params))) :
  W.WalkO q loose XP YP l.row.toRowW d [] (λf vs=>PySem.call f vs):=
 L2.Hk (n:=63) (k:=37) (x := "_law_script") (CX:=λ_=>j5) (sp:=λw=>qi (K w.params)) O (by decide) J ⟨rfl,by decide,by decide⟩ U F (λ_ _ a ns hl _ Y=>⟨a,ns,rfl,Y,hl,λ_=>rfl⟩) λ_ _ _ _ _ z=>z
end K57
end
open PySem PySem.W PyProof.Rows
set_option maxRecDepth 100000 in
set_option maxHeartbeats 0 in
theorem PySem.Challenge.cw_usewarden_k57_whole_handles_stand_in_pap_holds : PySem.Challenge.rw_usewarden_k57_whole_handles_stand_in_pap.Holds := by
 w_on
 refine holds_law (by decide +kernel) λsaid=>?_
 refine holds_open (q:=K57.qq) (loose:=K57.loo) (Xt:=K57.xt) (XP:=XL K57.qq []) (Yf:=Hook.obs (kHook K57.KK K57.kk K57.kk_eq)) (Ya:=Hook.val (kHook K57.KK K57.kk K57.kk_eq)) (YP:=Hook.says (kHook K57.KK K57.kk K57.kk_eq)) (N:=2308) K57.hl (Hook.of (kHook K57.KK K57.kk K57.kk_eq)) (Hook.keeps (kHook K57.KK K57.kk K57.kk_eq)) (λs e=>xl_of s (Bool.and_eq_true_iff.mp e).1) XL.keeps (by rfl) (by rfl) (by rfl) (λs e=>recFacts_of (Bool.and_eq_true_iff.mp e).2) (by rfl) said (by decide +kernel) ⟨rfl,rfl,rfl,rfl,rfl,by decide +kernel⟩ ?hw ?hc
 (case hw=>w_witness2)
 k_fill
 refine K57.walk (l:=PySem.Challenge.rw_usewarden_k57_whole_handles_stand_in_pap) rfl rfl (λw h Y=>PySem.W.kIn_of Y) ?F
 case F=>
  intro w mg fa h KX G hmg
  refine' K57.all_mk KX G hmg ..
  all_goals first | (refine' K57.dfe_mk ?a ?l ?c ?k;(case a=>k_is);(case l=>k_is);(case c=>k_is);(case k=>k_is)) | k_is | exact⟨_,by k_is⟩ | kernel_rfl | skip
