import PyProof.Rows.All
import Wide.All
import OpenK.AllK
import PySem.Challenge.RW_usewarden_k65_columns
set_option Elab.async false
set_option linter.all false
noncomputable section
set_option compiler.extract_closed false
set_option bootstrap.genMatcherCode false
set_option maxRecDepth 100000
set_option maxHeartbeats 4000000
open Option renaming some→Sm,none→Nn
open PySem renaming Addr→o_,Shared→so,Value→B_,wpAny→I_,World→K_,Heap→LY,Program→L_,Paired→L8,sizeLine→L9,Stmt→Ma,Around→Me,SetTable→Mf,intKind→Mh,starEach→Mj,mainGlobals→Mp,compareOp→Mr,Builtin→Mv,wpAny_holding→My,IsPair→MR,IsTupleKey→MT,wpAny_bind→MU,wpAny_call_entry→MW,bootBuiltins→MX,wpAny_newObj_type→MZ,wpAny_rule→M_,wpAny_pure→M0,tupleKeyHash→M1,NameKind→M6,IsZip→M9,wpAny_mono→Nb,wpAny_field→Nd,FuncData→Nf,wpAny_seqItems→Ni,sizeLine_eq→Np,wpAny_callSpecial?_slot→Nu,Result→Nw,wpAny_setState_of→Ny,codeAny_builtin→NB,wpAny_setField→NC,DictEntry→NE,wpAny_attempt→NK,GenState→NN,wpAny_typeOf→NQ,wpAny_specialOf→NR,wpAny_passesOwn→N2,wpAny_isInstance→N4,plainId_quiet→N7,wpAny_truthy_bool→Oa,codeAny_mono→Od,wpAny_forIn_list→Og,wpAny_ite_split→Oj,wpAny_fieldsOf→Ol,wpAny_setField_rec→Oo,wpAny_of_eq→Ov,wpAny_askSetting→Ow,wpAny_setEntries_of→Ox,wpAny_execs_nil→Oy,wpAny_pyIter_list→Oz,wpAny_Call_Name_kw→OB,fits_of_scanBound→OJ,isSubtype_stop→OK,wpAny_typeNameOfWhole_keyiter→ON,wpAny_updateSeq_pair→OY,wpAny_callSpecialIfBoundUnlessNone?_slot→O1
open PySem.W renaming Frag→KE,nsIn→M4,findIn→Nh,fnOf→Nr,boot_heap→ND,emptyDict→NH,keepIn→NJ,instObj→NL
open PyProof.Rows renaming wpS_bind→L6,wpS_pure→Mb,SortSt→Mg,Keyed→Mi,arrOf→Mm,wpS_mono→Mq,pendingOf→Ms,wpS_forRange→M3,wpS_modify→Nk,IntsAre→Nx,wpS_get→NA,AllBare→NG,SortKind→NX,failedOf→NZ,wpS_lift→N8,subscriptTail_builtinR→OG
open PySem.Value renaming ref→Md,none→MQ,str→Nl,isStrOf→NF,int→N_,type→N1,bool→N9,isInt→Ot,isStrOf_shape→OS
open PySem.Txt renaming join→Ml
open PySem.PyData renaming keyHash→Mz
open PySem.Heap renaming SameBut→M5,ExtBut→NU
open PySem.SetTable renaming below→M7,insertAt→M8,grown→NS,Probe→Oh,bits→OO,advance→OW
open PySem.NameKind renaming free→Na
open PySem.Builtin renaming bitNot→Nc,bitAnd→Ou,bitOr→OA
open PySem.Obj renaming mapSeq→Ng,mapFields→On
open PySem.Str renaming empty→NP
open PySem.Builtin.SmallTypes renaming nextOf→NW,ownedTupleIsFree→OM,ownedTupleHandOut→O3
open PySem.Builtin.Str renaming occurrences→Oc,subAt→OP
open PySem.Builtin.Tuple renaming tupleHashOf→Oe,tupleExact→OE,tupleItemsOf→OU
open PySem.SetTable.probe renaming go→Oi
open PySem.Builtin.Slice renaming slicePlaces→OC,sliceAdjust→OT,sliceApplied→O_
open PySem.SetTable.below renaming go→OI
open PySem.Builtin.List renaming listExtendWith→OL,listTooLong→OV,listItems→OZ,listLengthHint→O2
open PySem.Heap.SameBut renaming refl→OX
open PySem.Builtin.Dict_items renaming ownsTuple→O4
theorem Gn{G:Prop}(h:∀X:Prop,(G->X)->X):G:=h G id
theorem Ws:PySem.Challenge.rw_usewarden_k65_columns.wellSaid=true:=by decide +kernel
local macro_rules|`(())=>`(by lia)
local macro_rules|`(∅)=>`(by decide)
local macro_rules|`(⋯)=>`(by decide +kernel)
local macro_rules|`($c:char)=>if c.getChar='~' then `(by simp) else throw .unsupportedSyntax
local macro_rules|`(!$n:num)=>`(nat_lit $n)
local macro_rules|`(#v[$xs,*])=>`(List.toArray [$xs,*])
local macro_rules|`(#[$xs,*])=>if xs.getElems.isEmpty then throw .unsupportedSyntax else `(⟨$xs,*⟩)
def xPat:Nat->Lean.Term->Lean.MacroM (Nat×Lean.TSyntax `rcasesPat)
 | 0,_=>Lean.Macro.throwUnsupported
 | n+1,e=>match e with
  |`($x:ident)=>do pure (1,<-`(rcasesPat| $x:ident))
  |`(_)=>do pure (1,<-`(rcasesPat| _))
  |`(#[$xs,*])=>do
   let l<-xs.getElems.mapM (xPat n)
   pure (l.foldl (·+·.1) 0,<-`(rcasesPat| ⟨$(<-l.mapM λx=>do `(Lean.Parser.Tactic.rcasesPatLo| $(x.2):rcasesPat)),*⟩))
  |_=>Lean.Macro.throwUnsupported
local macro_rules|`(tactic| let #[$xs,*]:=$e)=>do
 let p<-xPat 9 (<-`(#[$xs,*]));let q:=p.2;let t<-`(tactic| obtain $q:rcasesPat:=$e)
 if p.1<4 then pure t else `(tactic| (refine Gn λX k=>?_;$t:tactic;refine k ?_;clear k X))
def xCnt:Nat->Lean.Syntax->Nat
 | 0,_=>0
 | n+1,s=>match s with
  | .ident ..=>1
  | .node _ k a=>if k==`Lean.Parser.Tactic.rcasesPat.ignore || k==`Lean.Parser.Tactic.rcasesPat.clear then 1 else a.foldl (λm x=>m+xCnt n x) 0
  | _=>0
local macro_rules|`(tactic| rintro $ps*)=>do
 let f:=λp:Lean.TSyntax `rintroPat=>match p with
  |`(rintroPat| $q:rcasesPat)=>if q.raw.isOfKind `Lean.Parser.Tactic.rcasesPat.tuple && 3<xCnt 30 q.raw then Sm q else Nn
  | _=>Nn
 if !ps.any λp=>(f p).isSome then Lean.Macro.throwUnsupported
 let ts<-ps.mapM λp=>match f p with
  | Sm q=>`(tactic| (intro z;refine Gn λX k=>?_;(obtain $q:rcasesPat:=z)<;>(refine k ?_;clear k X)))
  | Nn=>`(tactic| rintro $p)
 `(tactic| ($[$ts:tactic];*))
local macro_rules|`(tactic| cbv)=>`(tactic| walk_at "r")
local macro_rules|`(tactic| rw?)=>`(tactic| walk_at "n")
local macro_rules|`(tactic| ∎)=>`(tactic| walk_at "g")
theorem yE1{T0:Type}{p:T0->Prop}{X:Prop}(h:∃a0,p a0)(k:∀a0,p a0->X):X:=by rcases h with ⟨a0,z⟩;exact k a0 z
theorem yI2{T0 T1:Type}{p:T0->T1->Prop}(a0:T0)(a1:T1)(h:p a0 a1):∃a0 a1,p a0 a1:=#[a0,a1,h]
theorem yE2{T0 T1:Type}{p:T0->T1->Prop}{X:Prop}(h:∃a0 a1,p a0 a1)(k:∀a0 a1,p a0 a1->X):X:=by rcases h with ⟨a0,a1,z⟩;exact k a0 a1 z
theorem yI3{T0 T1 T2:Type}{p:T0->T1->T2->Prop}(a0:T0)(a1:T1)(a2:T2)(h:p a0 a1 a2):∃a0 a1 a2,p a0 a1 a2:=#[a0,a1,a2,h]
theorem yE3{T0 T1 T2:Type}{p:T0->T1->T2->Prop}{X:Prop}(h:∃a0 a1 a2,p a0 a1 a2)(k:∀a0 a1 a2,p a0 a1 a2->X):X:=by rcases h with ⟨a0,a1,a2,z⟩;exact k a0 a1 a2 z
theorem yI4{T0 T1 T2 T3:Type}{p:T0->T1->T2->T3->Prop}(a0:T0)(a1:T1)(a2:T2)(a3:T3)(h:p a0 a1 a2 a3):∃a0 a1 a2 a3,p a0 a1 a2 a3:=#[a0,a1,a2,a3,h]
theorem yE4{T0 T1 T2 T3:Type}{p:T0->T1->T2->T3->Prop}{X:Prop}(h:∃a0 a1 a2 a3,p a0 a1 a2 a3)(k:∀a0 a1 a2 a3,p a0 a1 a2 a3->X):X:=by rcases h with ⟨a0,a1,a2,a3,z⟩;exact k a0 a1 a2 a3 z
theorem yI5{T0 T1 T2 T3 T4:Type}{p:T0->T1->T2->T3->T4->Prop}(a0:T0)(a1:T1)(a2:T2)(a3:T3)(a4:T4)(h:p a0 a1 a2 a3 a4):∃a0 a1 a2 a3 a4,p a0 a1 a2 a3 a4:=#[a0,a1,a2,a3,a4,h]
theorem yE5{T0 T1 T2 T3 T4:Type}{p:T0->T1->T2->T3->T4->Prop}{X:Prop}(h:∃a0 a1 a2 a3 a4,p a0 a1 a2 a3 a4)(k:∀a0 a1 a2 a3 a4,p a0 a1 a2 a3 a4->X):X:=by rcases h with ⟨a0,a1,a2,a3,a4,z⟩;exact k a0 a1 a2 a3 a4 z
theorem yI6{T0 T1 T2 T3 T4 T5:Type}{p:T0->T1->T2->T3->T4->T5->Prop}(a0:T0)(a1:T1)(a2:T2)(a3:T3)(a4:T4)(a5:T5)(h:p a0 a1 a2 a3 a4 a5):∃a0 a1 a2 a3 a4 a5,p a0 a1 a2 a3 a4 a5:=#[a0,a1,a2,a3,a4,a5,h]
theorem yE6{T0 T1 T2 T3 T4 T5:Type}{p:T0->T1->T2->T3->T4->T5->Prop}{X:Prop}(h:∃a0 a1 a2 a3 a4 a5,p a0 a1 a2 a3 a4 a5)(k:∀a0 a1 a2 a3 a4 a5,p a0 a1 a2 a3 a4 a5->X):X:=by rcases h with ⟨a0,a1,a2,a3,a4,a5,z⟩;exact k a0 a1 a2 a3 a4 a5 z
theorem yI7{T0 T1 T2 T3 T4 T5 T6:Type}{p:T0->T1->T2->T3->T4->T5->T6->Prop}(a0:T0)(a1:T1)(a2:T2)(a3:T3)(a4:T4)(a5:T5)(a6:T6)(h:p a0 a1 a2 a3 a4 a5 a6):∃a0 a1 a2 a3 a4 a5 a6,p a0 a1 a2 a3 a4 a5 a6:=#[a0,a1,a2,a3,a4,a5,a6,h]
theorem yE7{T0 T1 T2 T3 T4 T5 T6:Type}{p:T0->T1->T2->T3->T4->T5->T6->Prop}{X:Prop}(h:∃a0 a1 a2 a3 a4 a5 a6,p a0 a1 a2 a3 a4 a5 a6)(k:∀a0 a1 a2 a3 a4 a5 a6,p a0 a1 a2 a3 a4 a5 a6->X):X:=by rcases h with ⟨a0,a1,a2,a3,a4,a5,a6,z⟩;exact k a0 a1 a2 a3 a4 a5 a6 z
theorem yI8{T0 T1 T2 T3 T4 T5 T6 T7:Type}{p:T0->T1->T2->T3->T4->T5->T6->T7->Prop}(a0:T0)(a1:T1)(a2:T2)(a3:T3)(a4:T4)(a5:T5)(a6:T6)(a7:T7)(h:p a0 a1 a2 a3 a4 a5 a6 a7):∃a0 a1 a2 a3 a4 a5 a6 a7,p a0 a1 a2 a3 a4 a5 a6 a7:=#[a0,a1,a2,a3,a4,a5,a6,a7,h]
theorem yE8{T0 T1 T2 T3 T4 T5 T6 T7:Type}{p:T0->T1->T2->T3->T4->T5->T6->T7->Prop}{X:Prop}(h:∃a0 a1 a2 a3 a4 a5 a6 a7,p a0 a1 a2 a3 a4 a5 a6 a7)(k:∀a0 a1 a2 a3 a4 a5 a6 a7,p a0 a1 a2 a3 a4 a5 a6 a7->X):X:=by rcases h with ⟨a0,a1,a2,a3,a4,a5,a6,a7,z⟩;exact k a0 a1 a2 a3 a4 a5 a6 a7 z
theorem yI9{T0 T1 T2 T3 T4 T5 T6 T7 T8:Type}{p:T0->T1->T2->T3->T4->T5->T6->T7->T8->Prop}(a0:T0)(a1:T1)(a2:T2)(a3:T3)(a4:T4)(a5:T5)(a6:T6)(a7:T7)(a8:T8)(h:p a0 a1 a2 a3 a4 a5 a6 a7 a8):∃a0 a1 a2 a3 a4 a5 a6 a7 a8,p a0 a1 a2 a3 a4 a5 a6 a7 a8:=#[a0,a1,a2,a3,a4,a5,a6,a7,a8,h]
theorem yE9{T0 T1 T2 T3 T4 T5 T6 T7 T8:Type}{p:T0->T1->T2->T3->T4->T5->T6->T7->T8->Prop}{X:Prop}(h:∃a0 a1 a2 a3 a4 a5 a6 a7 a8,p a0 a1 a2 a3 a4 a5 a6 a7 a8)(k:∀a0 a1 a2 a3 a4 a5 a6 a7 a8,p a0 a1 a2 a3 a4 a5 a6 a7 a8->X):X:=by rcases h with ⟨a0,a1,a2,a3,a4,a5,a6,a7,a8,z⟩;exact k a0 a1 a2 a3 a4 a5 a6 a7 a8 z
theorem yI10{T0 T1 T2 T3 T4 T5 T6 T7 T8 T9:Type}{p:T0->T1->T2->T3->T4->T5->T6->T7->T8->T9->Prop}(a0:T0)(a1:T1)(a2:T2)(a3:T3)(a4:T4)(a5:T5)(a6:T6)(a7:T7)(a8:T8)(a9:T9)(h:p a0 a1 a2 a3 a4 a5 a6 a7 a8 a9):∃a0 a1 a2 a3 a4 a5 a6 a7 a8 a9,p a0 a1 a2 a3 a4 a5 a6 a7 a8 a9:=#[a0,a1,a2,a3,a4,a5,a6,a7,a8,a9,h]
theorem yE10{T0 T1 T2 T3 T4 T5 T6 T7 T8 T9:Type}{p:T0->T1->T2->T3->T4->T5->T6->T7->T8->T9->Prop}{X:Prop}(h:∃a0 a1 a2 a3 a4 a5 a6 a7 a8 a9,p a0 a1 a2 a3 a4 a5 a6 a7 a8 a9)(k:∀a0 a1 a2 a3 a4 a5 a6 a7 a8 a9,p a0 a1 a2 a3 a4 a5 a6 a7 a8 a9->X):X:=by rcases h with ⟨a0,a1,a2,a3,a4,a5,a6,a7,a8,a9,z⟩;exact k a0 a1 a2 a3 a4 a5 a6 a7 a8 a9 z
theorem yA2{A0 A1 X:Prop}(h:A0/\A1)(k:A0->A1->X):X:=by rcases h with ⟨h0,h1⟩;exact k h0 h1
theorem yA3{A0 A1 A2 X:Prop}(h:A0/\A1/\A2)(k:A0->A1->A2->X):X:=by rcases h with ⟨h0,h1,h2⟩;exact k h0 h1 h2
theorem yA4{A0 A1 A2 A3 X:Prop}(h:A0/\A1/\A2/\A3)(k:A0->A1->A2->A3->X):X:=by rcases h with ⟨h0,h1,h2,h3⟩;exact k h0 h1 h2 h3
theorem yA5{A0 A1 A2 A3 A4 X:Prop}(h:A0/\A1/\A2/\A3/\A4)(k:A0->A1->A2->A3->A4->X):X:=by rcases h with ⟨h0,h1,h2,h3,h4⟩;exact k h0 h1 h2 h3 h4
theorem yA6{A0 A1 A2 A3 A4 A5 X:Prop}(h:A0/\A1/\A2/\A3/\A4/\A5)(k:A0->A1->A2->A3->A4->A5->X):X:=by rcases h with ⟨h0,h1,h2,h3,h4,h5⟩;exact k h0 h1 h2 h3 h4 h5
theorem yA7{A0 A1 A2 A3 A4 A5 A6 X:Prop}(h:A0/\A1/\A2/\A3/\A4/\A5/\A6)(k:A0->A1->A2->A3->A4->A5->A6->X):X:=by rcases h with ⟨h0,h1,h2,h3,h4,h5,h6⟩;exact k h0 h1 h2 h3 h4 h5 h6
theorem yA8{A0 A1 A2 A3 A4 A5 A6 A7 X:Prop}(h:A0/\A1/\A2/\A3/\A4/\A5/\A6/\A7)(k:A0->A1->A2->A3->A4->A5->A6->A7->X):X:=by rcases h with ⟨h0,h1,h2,h3,h4,h5,h6,h7⟩;exact k h0 h1 h2 h3 h4 h5 h6 h7
theorem yA9{A0 A1 A2 A3 A4 A5 A6 A7 A8 X:Prop}(h:A0/\A1/\A2/\A3/\A4/\A5/\A6/\A7/\A8)(k:A0->A1->A2->A3->A4->A5->A6->A7->A8->X):X:=by rcases h with ⟨h0,h1,h2,h3,h4,h5,h6,h7,h8⟩;exact k h0 h1 h2 h3 h4 h5 h6 h7 h8
theorem yA10{A0 A1 A2 A3 A4 A5 A6 A7 A8 A9 X:Prop}(h:A0/\A1/\A2/\A3/\A4/\A5/\A6/\A7/\A8/\A9)(k:A0->A1->A2->A3->A4->A5->A6->A7->A8->A9->X):X:=by rcases h with ⟨h0,h1,h2,h3,h4,h5,h6,h7,h8,h9⟩;exact k h0 h1 h2 h3 h4 h5 h6 h7 h8 h9
theorem yA11{A0 A1 A2 A3 A4 A5 A6 A7 A8 A9 A10 X:Prop}(h:A0/\A1/\A2/\A3/\A4/\A5/\A6/\A7/\A8/\A9/\A10)(k:A0->A1->A2->A3->A4->A5->A6->A7->A8->A9->A10->X):X:=by rcases h with ⟨h0,h1,h2,h3,h4,h5,h6,h7,h8,h9,h10⟩;exact k h0 h1 h2 h3 h4 h5 h6 h7 h8 h9 h10
theorem yA12{A0 A1 A2 A3 A4 A5 A6 A7 A8 A9 A10 A11 X:Prop}(h:A0/\A1/\A2/\A3/\A4/\A5/\A6/\A7/\A8/\A9/\A10/\A11)(k:A0->A1->A2->A3->A4->A5->A6->A7->A8->A9->A10->A11->X):X:=by rcases h with ⟨h0,h1,h2,h3,h4,h5,h6,h7,h8,h9,h10,h11⟩;exact k h0 h1 h2 h3 h4 h5 h6 h7 h8 h9 h10 h11
theorem yF1{T0:Type}{p:T0->Prop}{X:Prop}(k:∀a0,p a0->X)(h:∃a0,p a0):X:=yE1 h k
theorem yF2{T0 T1:Type}{p:T0->T1->Prop}{X:Prop}(k:∀a0 a1,p a0 a1->X)(h:∃a0 a1,p a0 a1):X:=yE2 h k
theorem yF3{T0 T1 T2:Type}{p:T0->T1->T2->Prop}{X:Prop}(k:∀a0 a1 a2,p a0 a1 a2->X)(h:∃a0 a1 a2,p a0 a1 a2):X:=yE3 h k
theorem yF4{T0 T1 T2 T3:Type}{p:T0->T1->T2->T3->Prop}{X:Prop}(k:∀a0 a1 a2 a3,p a0 a1 a2 a3->X)(h:∃a0 a1 a2 a3,p a0 a1 a2 a3):X:=yE4 h k
theorem yF5{T0 T1 T2 T3 T4:Type}{p:T0->T1->T2->T3->T4->Prop}{X:Prop}(k:∀a0 a1 a2 a3 a4,p a0 a1 a2 a3 a4->X)(h:∃a0 a1 a2 a3 a4,p a0 a1 a2 a3 a4):X:=yE5 h k
theorem yF6{T0 T1 T2 T3 T4 T5:Type}{p:T0->T1->T2->T3->T4->T5->Prop}{X:Prop}(k:∀a0 a1 a2 a3 a4 a5,p a0 a1 a2 a3 a4 a5->X)(h:∃a0 a1 a2 a3 a4 a5,p a0 a1 a2 a3 a4 a5):X:=yE6 h k
theorem yF7{T0 T1 T2 T3 T4 T5 T6:Type}{p:T0->T1->T2->T3->T4->T5->T6->Prop}{X:Prop}(k:∀a0 a1 a2 a3 a4 a5 a6,p a0 a1 a2 a3 a4 a5 a6->X)(h:∃a0 a1 a2 a3 a4 a5 a6,p a0 a1 a2 a3 a4 a5 a6):X:=yE7 h k
theorem yF8{T0 T1 T2 T3 T4 T5 T6 T7:Type}{p:T0->T1->T2->T3->T4->T5->T6->T7->Prop}{X:Prop}(k:∀a0 a1 a2 a3 a4 a5 a6 a7,p a0 a1 a2 a3 a4 a5 a6 a7->X)(h:∃a0 a1 a2 a3 a4 a5 a6 a7,p a0 a1 a2 a3 a4 a5 a6 a7):X:=yE8 h k
theorem yF9{T0 T1 T2 T3 T4 T5 T6 T7 T8:Type}{p:T0->T1->T2->T3->T4->T5->T6->T7->T8->Prop}{X:Prop}(k:∀a0 a1 a2 a3 a4 a5 a6 a7 a8,p a0 a1 a2 a3 a4 a5 a6 a7 a8->X)(h:∃a0 a1 a2 a3 a4 a5 a6 a7 a8,p a0 a1 a2 a3 a4 a5 a6 a7 a8):X:=yE9 h k
theorem yF10{T0 T1 T2 T3 T4 T5 T6 T7 T8 T9:Type}{p:T0->T1->T2->T3->T4->T5->T6->T7->T8->T9->Prop}{X:Prop}(k:∀a0 a1 a2 a3 a4 a5 a6 a7 a8 a9,p a0 a1 a2 a3 a4 a5 a6 a7 a8 a9->X)(h:∃a0 a1 a2 a3 a4 a5 a6 a7 a8 a9,p a0 a1 a2 a3 a4 a5 a6 a7 a8 a9):X:=yE10 h k
theorem yB2{A0 A1 X:Prop}(k:A0->A1->X)(h:A0/\A1):X:=yA2 h k
theorem yB3{A0 A1 A2 X:Prop}(k:A0->A1->A2->X)(h:A0/\A1/\A2):X:=yA3 h k
theorem yB4{A0 A1 A2 A3 X:Prop}(k:A0->A1->A2->A3->X)(h:A0/\A1/\A2/\A3):X:=yA4 h k
theorem yB5{A0 A1 A2 A3 A4 X:Prop}(k:A0->A1->A2->A3->A4->X)(h:A0/\A1/\A2/\A3/\A4):X:=yA5 h k
theorem yB6{A0 A1 A2 A3 A4 A5 X:Prop}(k:A0->A1->A2->A3->A4->A5->X)(h:A0/\A1/\A2/\A3/\A4/\A5):X:=yA6 h k
theorem yB7{A0 A1 A2 A3 A4 A5 A6 X:Prop}(k:A0->A1->A2->A3->A4->A5->A6->X)(h:A0/\A1/\A2/\A3/\A4/\A5/\A6):X:=yA7 h k
theorem yB8{A0 A1 A2 A3 A4 A5 A6 A7 X:Prop}(k:A0->A1->A2->A3->A4->A5->A6->A7->X)(h:A0/\A1/\A2/\A3/\A4/\A5/\A6/\A7):X:=yA8 h k
theorem yB9{A0 A1 A2 A3 A4 A5 A6 A7 A8 X:Prop}(k:A0->A1->A2->A3->A4->A5->A6->A7->A8->X)(h:A0/\A1/\A2/\A3/\A4/\A5/\A6/\A7/\A8):X:=yA9 h k
theorem yB10{A0 A1 A2 A3 A4 A5 A6 A7 A8 A9 X:Prop}(k:A0->A1->A2->A3->A4->A5->A6->A7->A8->A9->X)(h:A0/\A1/\A2/\A3/\A4/\A5/\A6/\A7/\A8/\A9):X:=yA10 h k
theorem yB11{A0 A1 A2 A3 A4 A5 A6 A7 A8 A9 A10 X:Prop}(k:A0->A1->A2->A3->A4->A5->A6->A7->A8->A9->A10->X)(h:A0/\A1/\A2/\A3/\A4/\A5/\A6/\A7/\A8/\A9/\A10):X:=yA11 h k
theorem yB12{A0 A1 A2 A3 A4 A5 A6 A7 A8 A9 A10 A11 X:Prop}(k:A0->A1->A2->A3->A4->A5->A6->A7->A8->A9->A10->A11->X)(h:A0/\A1/\A2/\A3/\A4/\A5/\A6/\A7/\A8/\A9/\A10/\A11):X:=yA12 h k
section
open PySem
abbrev LZ:=B_→so→Prop
abbrev MA:=List Str
abbrev MB:=List Nat
abbrev MD:=List o_
abbrev MF:=List B_
abbrev MG:=Option B_
abbrev MH:=Option Nat
abbrev MI:=Option Int
abbrev MJ:=List Int
abbrev ML:=List Expr
abbrev MM:=Array B_
abbrev MN:=Option o_
abbrev MP:=Array Nat
end
namespace L2
open PySem PySem.W
variable{α:Type}
theorem zu1(us:List α)(hl:us.length=1):∃ a,us=[a]:=match us,hl with | [a],_=>⟨a,rfl⟩
theorem zu2(us:List α)(hl:us.length=2):∃ a b,us=[a,b]:=match us,hl with | [a,b],_=>yI2 a b rfl
theorem zu3(us:List α)(hl:us.length=3):∃ a b c,us=[a,b,c]:=match us,hl with | [a,b,c],_=>yI3 a b c rfl
theorem zu4(us:List α)(hl:us.length=4):∃ a b c d,us=[a,b,c,d]:=match us,hl with | [a,b,c,d],_=>yI4 a b c d rfl
theorem zu5(us:List α)(hl:us.length=5):∃ a b c d e,us=[a,b,c,d,e]:=match us,hl with | [a,b,c,d,e],_=>yI5 a b c d e rfl
abbrev Lo:=@PySem.wpAny_bind
abbrev Lp:=@PySem.wpAny_pure
abbrev Lq:=@List.getElem?_eq_some_iff
abbrev Lu:=@_root_.if_neg
abbrev Lv:=@List.mem_singleton
abbrev Lz:=@_root_.if_pos
abbrev LB:=@List.mem_flatMap
abbrev LD:=@List.mem_map
abbrev LG:=@List.mem_append
abbrev LH:=@List.mem_cons
abbrev LI:=@Option.map_eq_some_iff
abbrev LJ:=@List.mem_iff_getElem
abbrev LK:=@List.mem_range
abbrev LL:=@Array.mem_toList_iff
abbrev LM:=@Array.perm_iff_toList_perm
abbrev LN:=@List.mem_filter
abbrev LO:=@List.idxOf_lt_length_iff
abbrev LR:=@List.nodup_cons
abbrev LU:=@Bool.eq_false_iff
abbrev zb:=@List.length_map
abbrev zd:=@List.getElem?_eq_getElem
abbrev zg:=@Nat.le_refl
abbrev zq:=@List.length_append
abbrev zy:=@List.length_cons
abbrev zz:=@List.getElem?_map
abbrev vg:=@LY.lt_size
abbrev yb:=@List.map_append
abbrev yc:=@LY.get?_push_of_some
abbrev yd:=@List.mem_cons_self
abbrev yg:=@List.mem_cons
abbrev yh:=@List.mem_cons_of_mem
abbrev yu:=@List.not_mem_nil
abbrev yz:=@List.length_nil
abbrev yG:=@Nat.ne_of_lt
abbrev yQ:=@LY.get?_push_size
abbrev yR:=@List.map_cons
abbrev yY:=@F.plainAttrs_list
abbrev xq:=@List.size_toArray
abbrev xr:=@List.getElem?_append_left
abbrev xx:=@Nat.le_of_lt
abbrev xO:=@List.mem_of_getElem?
abbrev xV:=@Bool.false_ne_true
abbrev xW:=@List.getD_eq_getElem?_getD
abbrev gV:=@List.getElem_mem
abbrev pD:=@PassesOwn.never
abbrev mn:=@Nat.le_trans
abbrev mw:=@Nat.zero_le
abbrev uu:=@List.getElem?_append_right
abbrev uv:=@Int.toNat_natCast
abbrev ux:=@F.slot_list_append
abbrev uC:=@F.type_list_append
abbrev u6:=@Ne.symm
abbrev og:=@Array.length_toList
abbrev oo:=@List.mem_append_right
abbrev oU:=@List.append_assoc
abbrev td:=@List.map_map
abbrev tL:=@Array.getElem_mem_toList
abbrev tN:=@Nat.zero_add
abbrev rN:=@Nat.lt_of_lt_of_le
abbrev rW:=@Array.toList_append
abbrev sJ:=@Bool.false_eq_true
abbrev sK:=@LY.size_push
abbrev sR:=@List.take_add_one
abbrev lj:=@List.length_take
abbrev ir:=@List.take_length
abbrev iu:=@Nat.lt_or_ge
abbrev i9:=@Nat.add_assoc
abbrev IC:=@Array.getElem?_eq_getElem
abbrev IJ:=@LY.SameBut.update
abbrev IH:=@List.take_of_length_le
abbrev IV:=@List.mem_append_left
abbrev Jg:=@List.append_nil
abbrev IW:=@List.cons_append
abbrev Je:=@List.mem_nil_iff
abbrev IX:=@List.sum_cons
abbrev Jh:=@Nat.mul_add
abbrev Jn:=@W.mg_none_of
abbrev JA:=@W.kia_one
abbrev JC:=@LY.get?_update_self
abbrev JB:=@Array.getElem?_toList
abbrev JG:=@List.nodup_cons
abbrev JF:=@List.take_append_drop
abbrev JX:=@Nat.ne_of_gt
abbrev JO:=@List.map_nil
abbrev JW:=@List.nodup_nil
abbrev JN:=@Me.under_plainId
abbrev JT:=@List.nodup_append
abbrev KR:=@List.mem_append
abbrev KJ:=@Bool.eq_iff_iff
abbrev JZ:=@List.length_singleton
abbrev KP:=@Nat.not_lt_zero
abbrev KZ:=@Array.size_extract
abbrev KS:=@Array.toList_push
abbrev K0:=@Nat.lt_succ_of_lt
abbrev J1:=@Obj.data_mapFields
abbrev La:=@B_.isInt_shape
abbrev Lc:=@Nat.lt_irrefl
abbrev Lm:=@List.length_drop
abbrev Ld:=@Bool.and_eq_true
abbrev K3:=@List.lookup_cons
abbrev K5:=@List.getElem?_eq_none
abbrev Lk:=@Nat.sub_self
abbrev Ll:=@List.take_succ_cons
abbrev Lb:=@List.take_succ_eq_append_getElem
abbrev Lg:=@F.slot_list_extend
abbrev K6:=@F.type_list_extend
abbrev Le:=@List.flatMap_cons
abbrev K8:=@Str.length_append
abbrev zaP:=@L8.length
abbrev zaQ:=@List.find?_cons
abbrev zaR:=@Bool.not_true
abbrev zaS:=@PyProof.Rows.F.plain_set_update_loop
abbrev zaT:=@List.eq_nil_of_length_eq_zero
abbrev zaU:=@Obj.isFreed_of_fields
abbrev zaV:=@List.getElem?_cons_succ
abbrev zaW:=@List.length_range
abbrev zaX:=@List.foldl_cons
abbrev zaY:=@List.filter_append
abbrev zaZ:=@Int.zero_add
abbrev za0:=@Int.emod_nonneg
abbrev za1:=@Int.emod_lt_of_pos
abbrev za2:=@Nat.lt_succ_self
abbrev za3:=@PySem.mem_of_lookup
abbrev za4:=@LY.get?_update_other
abbrev za5:=@List.any_cons
abbrev za6:=@W.mg_of
abbrev za7:=@Obj.cls_mapFields
abbrev za8:=@Nat.testBit_two_pow
abbrev za9:=@List.dropLast_concat_getLast
abbrev zba:=@List.getElem?_set_ne
abbrev zbb:=@PyProof.Rows.callWith_type1
abbrev zbc:=@List.getElem?_replicate
abbrev zbd:=@List.length_replicate
abbrev zbe:=@List.any_eq_true
abbrev zbf:=@Nat.le_add_right
abbrev zbg:=@Array.forIn_toList
abbrev zbh:=@List.zip_cons_cons
abbrev zbi:=@PyProof.Rows.F.entry_set_update_loop
abbrev zbj:=@Array.getElem?_eq_none
abbrev zbk:=@F.plain_list_iadd
abbrev zbl:=@F.slot_tuple_iterator_next
abbrev zbm:=@List.zipIdx_cons
abbrev zbn:=@F.slot_zip_next
abbrev zbo:=@List.drop_eq_getElem_cons
abbrev zbp:=@F.slot_dict_keyiterator_next
abbrev zbq:=@Array.toList_extract
abbrev zbr:=@Classical.choose_spec
abbrev zbs:=@Nat.add_sub_cancel_left
abbrev zbt:=@List.foldl_append
abbrev zbu:=@List.getElem?_set_self
abbrev zbv:=@Int.fdiv_eq_ediv_of_nonneg
abbrev zbw:=@Calls.callWith_builtin
abbrev zbx:=@List.all_eq_true
abbrev zby:=@F.slot_list_index
abbrev zbz:=@List.mem_singleton
abbrev zbA:=@Classical.byContradiction
abbrev zbB:=@Calls.call_function_entry
abbrev zbC:=@F.plainAttrs_str
abbrev zbD:=@PyProof.Rows.slot_tuple_getitem
section
variable(tb:String->Option Mv)(p:L_)(w:K_)(n0:Nat)(an:MG)
noncomputable def yw:Nat->SharedT->Thread->Option SharedT
 | 0,_,_=>Nn
 | k+1,s,u=>match through u with
  | true=>Sm s
  | false=>match stepOk n0 an u,stepT (denote tb) p w s u with
   | true,Sm x=>yw k x.1 x.2
   | _,_=>Nn
theorem sW:∀(n:Nat) (s r:SharedT) (t:Thread),yw tb p w n0 an n s t=Sm r->topRun tb p w n0 an n s.abs t=Sm r.abs
 | 0,_,_,_,h=>by cases h
 | n+1,s,r,t,h=>by
  rw[topRun];rw[yw]at h;cases h1:through t with
  | true=>
   rw[h1]at h;cases h
   rfl
  | false=>
   rw[h1]at h;cases h2:stepOk n0 an t with
   | false=>
    rw[h2]at h;cases h
   | true=>
    cases h3:stepT (denote tb) p w s t with
    | none=>
     rw[h2,h3]at h;cases h
    | some x=>
     rw[h2,h3]at h;rw[stepT_spec (s':=x.1) (t':=x.2) h3];exact sW n _ _ _ h
end
noncomputable def Kl(P:Params):BT:=((ND P).objs.toList.foldl (λ(x:BT×Nat) o=>(x.1.ins x.2 o,x.2+1)) (.nil,0)).1
noncomputable def EM(w:K_)(os:OsState):SharedT:=#[Kl w.params,11,(ND w.params).life,#[],boot_drawn,boot_toks,os]
theorem zE(w:K_)(os:OsState):(EM w os).abs=#[ND w.params,#[],boot_drawn,boot_toks,os]:=by kernel_rfl
noncomputable def tEnd(p:L_)(w:K_)(N:Nat)(os:OsState):Option SharedT:=yw treeTable p w 11 (Sm (.ref 6)) N (EM w os) (topStub p)
noncomputable def tOk(p:L_)(w:K_)(s:so):Bool:=staticsOk (importedModules p.main.body) (ND w.params) s.heap&&namesBound p s.heap&&gensDone s&&laidKept (ND w.params) s.heap
theorem tLeft{p:L_}{w:K_}{N:Nat}{F:so->α}{a:α}(e:opening p=plainProg p.main.scope.names)(Y:Nat.ble 600 N=true)(f:∀s,fenceModules? p s=Sm s)
  (hz:((ND w.params).isNs Mp,(ND w.params).objs.size,(ND w.params).nsMap Mp "__annotations__")=(true,11,Sm (.ref 6)))
  (h:∀os,∃s,tEnd p w N os=Sm s/\tOk p w s.abs=true/\F s.abs=a):(openEnds treeTable p w N).map F=Sm a:=by
 let#[#[h1,gs,d,k,os],Z,O]:=LI.mp (boot_open e Y f w);obtain⟨rfl,rfl,rfl,rfl⟩ : h1=ND w.params/\gs = #[]/\d=boot_drawn/\k=boot_toks:=by simpa using O
 obtain⟨z1,S,z3⟩ : _/\_/\_:=by simpa only[Prod.mk.injEq] using hz
 refine yE1 (h os) λr=>yB3 λJ W U=>?_;have t1:=sW _ _ _ _ _ _ _ _ _ J;rw[zE]at t1;unfold openEnds;rw[Z];show (topFrom treeTable p w N _).map F=_;unfold topFrom;dsimp only;rw[z1,S,z3];show ((topRun treeTable p w 11 (Sm (.ref 6)) N _ _).bind _).map F=_;rw[t1];show (match tOk p w r.abs with | true=>Sm r.abs | false=>Nn).map F=_;rw[W];exact congrArg Sm U
end L2
namespace L2
open PySem
noncomputable def inClass(s:Ma)(j:Nat):Ma:=match s with
 | .ClassDef _ _ _ body _ _ _ _ _ _ _=>body.getD j (.Pass #[0,0,0,0])
 | _=>.Pass #[0,0,0,0]
noncomputable def Dt(s:Ma):Arguments:=match s with
 | .FunctionDef _ a _ _ _ _ _ _ _ _=>a
 | _=>{posonlyargs:=[],args:=[],vararg:=Nn,kwonlyargs:=[],kw_defaults:=[],kwarg:=Nn,defaults:=[]}
noncomputable def CZ(s:Ma):List Ma:=match s with
 | .FunctionDef _ _ b _ _ _ _ _ _ _=>b
 | _=>[]
noncomputable def sg(s:Ma):Scope:=match s with
 | .FunctionDef _ _ _ _ _ _ sc _ _ _=>sc
 | _=>{kind:=.function,names:=[],isGenerator:=false,isCoroutine:=false}
end L2
namespace K65
open PySem PySem.W
noncomputable def top (i:Nat):Ma:=PySem.Challenge.pw_usewarden_k65_columns.main.body.getD i (.Pass #[0,0,0,0])
noncomputable abbrev yl(x:MM):Obj:=#[.type "tuple",Nn,.seq x 0,#[]]
noncomputable abbrev GA(n:Str)(a b c:Nat)(l g:Int)(p q r s u:o_)(i:Int)(d:Nat):Obj:=#[.type "code",Nn,.fields #v[.str n a,.str n b,.str "/claim/cut.py" c,.int l 0,.int g 0,.int 0 0,.int 0 0,.int 3 0,.ref p,.bool true,.int 181 0,.ref q,.none,.ref r,.ref s,.ref u,.int i 0,.int l 0,.str "/claim/cut.py" d],#[]]
noncomputable abbrev DK(n:Str)(i:Nat)(m:Str)(a:Nat)(c:o_):Obj:=#[.type "function",Nn,.func #[n,n,L2.Dt (top i),.stmts (L2.CZ (top i)),L2.sg (top i),3,[],.none,.none,.none,.str m a,Nn,.ref c,.none,0],#[]]
noncomputable abbrev LV(P:Params)(n:Str)(a:Nat)(v:B_):NE:=#[Mz P n,.str n a,v]
noncomputable abbrev LW(n q:Str)(i j:Nat)(d:B_)(m:Str)(a:Nat)(c:o_):Obj:=#[.type "function",Nn,.func #[n,q,L2.Dt (L2.inClass (top i) j),.stmts (L2.CZ (L2.inClass (top i) j)),L2.sg (L2.inClass (top i) j),3,[],d,.none,.none,.str m a,Nn,.ref c,.none,0],#[]]
noncomputable abbrev LX(n:Str)(a:Nat)(q:Str)(b c:Nat)(l g:Int)(p u r s v:o_)(i:Int)(d:Nat):Obj:=#[.type "code",Nn,.fields #v[.str n a,.str q b,.str "/claim/cut.py" c,.int l 0,.int g 0,.int 0 0,.int 0 0,.int 3 0,.ref p,.bool true,.int 181 0,.ref u,.none,.ref r,.ref s,.ref v,.int i 0,.int l 0,.str "/claim/cut.py" d],#[]]
noncomputable abbrev wAA(l:List Str)(n:Nat):Obj:=yl ((l.zipIdx n).map λp=>.str p.1 p.2).toArray
noncomputable abbrev wAB:Obj:=yl #[]
noncomputable abbrev wAC(n:Str)(a:Nat)(l g:Int)(p i:Nat):Obj:=GA n a (a+1) (a+2) l g p (p+1) (p+2) (p+3) (p+4) i (i+1)
noncomputable abbrev wAD(n:Str)(a:Nat)(l g:Int)(p:Nat):Obj:=#[.type "code",Nn,.fields #v[.str n a,.str n (a+1),.str "/claim/cut.py" (a+2),.int l 0,.int g 0,.int 0 0,.int 0 0,.int 3 0,.ref p,.bool true,.int 181 0,.ref (p+1),.none,.none,.none,.ref (p+2),.int (a+3:Nat) 0,.int l 0,.str "/claim/cut.py" (a+4)],#[]]
noncomputable abbrev wAE:Str:="law_usewarden_k65_columns"
abbrev wAF:Str:="usewarden.tokens"
abbrev wAG:Str:="usewarden.papers"
abbrev wAH:Str:="usewarden.programs"
abbrev wAI:Str:="usewarden.numbered"
abbrev wAJ:Str:="usewarden.codes"
noncomputable def KK(P:Params):Frag:=
 (!2,#[.none,Nn,.dict #[] 0,#[]])::(!3,#[.type "dict",Nn,.dict #v[LV P "__name__" 165 (.str wAE 696),LV P "__doc__" 166 .none,LV P "__package__" 167 .none,LV P "__loader__" 168 (.builtin "__main__.__loader__#opaque"),LV P "__spec__" 169 .none,LV P "__annotations__" 170 (.ref 6),LV P "__builtins__" 171 (.ref 4),LV P "__file__" 173 (.str "/claim/cut.py" 172),LV P "__cached__" 174 .none,LV P "next_room" 198 (.ref 21),LV P "room_from" 208 (.ref 28),LV P "is_in" 218 (.ref 35),LV P "without" 226 (.ref 42),LV P "held_behind" 234 (.ref 49),LV P "is_of_two" 241 (.ref 56),LV P "has_room" 248 (.ref 63),LV P "texts_done" 254 (.ref 68),LV P "texts_at" 262 (.ref 75),LV P "room_behind" 271 (.ref 82),LV P "begun_by_open" 285 (.ref 89),LV P "begun_by_tie" 291 (.ref 94),LV P "begins_at" 303 (.ref 101),LV P "behind_at" 309 (.ref 106),LV P "rooms_at" 320 (.ref 113),LV P "breaks_at" 330 (.ref 120),LV P "moves_at" 341 (.ref 127),LV P "any_breaks" 347 (.ref 132),LV P "any_moves" 353 (.ref 137),LV P "rows_behind" 362 (.ref 144),LV P "made_of" 376 (.ref 151),LV P "put" 388 (.ref 158),LV P "paper_of" 394 (.ref 163),LV P "mark_of" 406 (.ref 170),LV P "column_of" 412 (.ref 175),LV P "PARTS" 447 (.ref 176),LV P "CLOSERS" 458 (.ref 185),LV P "closers_of" 465 (.ref 195),LV P "head_of" 472 (.ref 202),LV P "blocks_of" 479 (.ref 209),LV P "steps_within" 489 (.ref 216),LV P "names_in" 500 (.ref 223),LV P "lines_of" 506 (.ref 228),LV P "names_of" 513 (.ref 235),LV P "NumberedStep" 549 (.ref 252),LV P "line_behind" 557 (.ref 263),LV P "numbered_step" 569 (.ref 270),LV P "numbered_steps" 579 (.ref 277),LV P "lend_lines" 587 (.ref 282),LV P "slots_of" 597 (.ref 289),LV P "simple_row" 603 (.ref 294),LV P "lend_rows" 620 (.ref 301),LV P "if_rows" 635 (.ref 308),LV P "loop_rows" 646 (.ref 315),LV P "while_rows" 659 (.ref 322),LV P "rows_of" 672 (.ref 329),LV P "rows_and_end" 681 (.ref 336),LV P "code_of" 688 (.ref 343),LV P "turned_code" 695 (.ref 350),LV P "_law_cell_at" 705 (.ref 357),LV P "_law_words" 711 (.ref 362),LV P "_law_step" 725 (.ref 369),LV P "_law_put" 733 (.ref 376),LV P "_law_close" 744 (.ref 383),LV P "_law_program" 758 (.ref 390),LV P "_law_rule" 778 (.ref 397),LV P "_law_has" 786 (.ref 404),LV P "_law_next" 795 (.ref 411),LV P "_law_texts" 804 (.ref 418),LV P "_law_room" 815 (.ref 425),LV P "_law_code" 821 (.ref 430),LV P "_law_breaks" 832 (.ref 437),LV P "_law_moves" 843 (.ref 444),LV P "_law_due" 849 (.ref 449),LV P "law" 855 (.ref 454)] 74,#[]])::(!15,wAB)::(!17,wAA ["rule","room","text","words"] 192)::(!18,wAB)::(!20,wAC "next_room" 189 2 3 15 196)::(!21,DK "next_room" 1 "usewarden.rules" 187 20)::(!22,wAB)::(!24,wAA ["rule","room","row","text"] 202)::(!25,wAB)::(!27,wAC "room_from" 199 7 3 22 206)::(!28,DK "room_from" 2 "usewarden.rules" 187 27)::(!29,wAB)::(!31,wAA ["slot","held"] 214)::(!32,wAB)::(!34,wAC "is_in" 211 14 2 29 216)::(!35,DK "is_in" 4 wAF 209 34)::(!36,wAB)::(!38,wAA ["slot","held"] 222)::(!39,wAB)::(!41,wAC "without" 219 16 2 36 224)::(!42,DK "without" 5 wAF 209 41)::(!43,wAB)::(!45,wAA ["row","held"] 230)::(!46,wAB)::(!48,wAC "held_behind" 227 18 2 43 232)::(!49,DK "held_behind" 6 wAF 209 48)::(!50,wAB)::(!52,wAA ["token"] 238)::(!53,wAB)::(!55,wAC "is_of_two" 235 24 1 50 239)::(!56,DK "is_of_two" 7 wAF 209 55)::(!57,wAB)::(!59,wAA ["token"] 245)::(!60,wAB)::(!62,wAC "has_room" 242 26 1 57 246)::(!63,DK "has_room" 8 wAF 209 62)::(!64,wAB)::(!67,wAD "texts_done" 249 28 2 64)::(!68,DK "texts_done" 9 wAF 209 67)::(!69,wAB)::(!71,wAA ["row","token"] 258)::(!72,wAB)::(!74,wAC "texts_at" 255 34 2 69 260)::(!75,DK "texts_at" 10 wAF 209 74)::(!76,wAB)::(!78,wAA ["rule","row","token"] 266)::(!79,wAB)::(!81,wAC "room_behind" 263 42 3 76 269)::(!82,DK "room_behind" 11 wAF 209 81)::(!83,wAB)::(!85,wAA ["rule","slot","tokens","new","room","begun","token","held"] 275)::(!86,wAB)::(!88,wAC "begun_by_open" 272 44 3 83 283)::(!89,DK "begun_by_open" 12 wAF 209 88)::(!90,wAB)::(!93,wAD "begun_by_tie" 286 56 3 90)::(!94,DK "begun_by_tie" 13 wAF 209 93)::(!95,wAB)::(!97,wAA ["code","rule","at","tokens","row","begun"] 295)::(!98,wAB)::(!100,wAC "begins_at" 292 59 4 95 301)::(!101,DK "begins_at" 14 wAF 209 100)::(!102,wAB)::(!105,wAD "behind_at" 304 67 4 102)::(!106,DK "behind_at" 15 wAF 209 105)::(!107,wAB)::(!109,wAA ["code","rule","at","token","row"] 313)::(!110,wAB)::(!112,wAC "rooms_at" 310 77 4 107 318)::(!113,DK "rooms_at" 16 wAF 209 112)::(!114,wAB)::(!116,wAA ["code","rule","at","token"] 324)::(!117,wAB)::(!119,wAC "breaks_at" 321 84 4 114 328)::(!120,DK "breaks_at" 17 wAF 209 119)::(!121,wAB)::(!123,wAA ["code","rule","at","token","rooms"] 334)::(!124,wAB)::(!126,wAC "moves_at" 331 86 4 121 339)::(!127,DK "moves_at" 18 wAF 209 126)::(!128,wAB)::(!131,wAD "any_breaks" 342 89 4 128)::(!132,DK "any_breaks" 19 wAF 209 131)::(!133,wAB)::(!136,wAD "any_moves" 348 91 4 133)::(!137,DK "any_moves" 20 wAF 209 136)::(!138,wAB)::(!140,wAA ["code","at","row"] 357)::(!141,wAB)::(!143,wAC "rows_behind" 354 93 2 138 360)::(!144,DK "rows_behind" 21 wAF 209 143)::(!145,wAB)::(!147,wAA ["code","rule","at","token","begun","behind"] 368)::(!148,wAB)::(!150,wAC "made_of" 365 103 4 145 374)::(!151,DK "made_of" 23 wAG 363 150)::(!152,wAB)::(!154,wAA ["found","rows","tokens","new","at","token"] 380)::(!155,wAB)::(!157,wAC "put" 377 107 3 152 386)::(!158,DK "put" 24 wAG 363 157)::(!159,wAB)::(!162,wAD "paper_of" 389 115 2 159)::(!163,DK "paper_of" 25 wAG 363 162)::(!164,wAB)::(!166,wAA ["code","rule","at","tokens"] 400)::(!167,wAB)::(!169,wAC "mark_of" 397 126 4 164 404)::(!170,DK "mark_of" 27 "usewarden.columns" 395 169)::(!171,wAB)::(!174,wAD "column_of" 407 132 2 171)::(!175,DK "column_of" 28 "usewarden.columns" 395 174)::(!176,#[.type "dict",Nn,.dict #v[LV P "open" 415 (.ref 177),LV P "do" 417 (.ref 178),LV P "copy" 420 (.ref 179),LV P "drop" 423 (.ref 180),LV P "tie" 425 (.ref 181),LV P "lend" 428 (.ref 182),LV P "if" 432 (.ref 183),LV P "while" 436 (.ref 184)] 8,#[]])::(!177,wAA ["name"] 416)::(!178,wAA ["word","name"] 418)::(!179,wAA ["name","name"] 421)::(!180,wAA ["name"] 424)::(!181,wAA ["name","name"] 426)::(!182,wAA ["name","name","steps"] 429)::(!183,wAA ["bound","steps","steps"] 433)::(!184,wAA ["bound","steps"] 437)::(!185,#[.type "dict",Nn,.dict #v[LV P "lend" 448 (.ref 186),LV P "if" 450 (.ref 187),LV P "while" 453 (.ref 188)] 3,#[]])::(!186,wAA ["back"] 449)::(!187,wAA ["else","fi"] 451)::(!188,wAA ["done"] 454)::(!189,wAB)::(!191,wAA ["kind"] 462)::(!192,wAB)::(!194,wAC "closers_of" 459 139 1 189 463)::(!195,DK "closers_of" 32 wAH 413 194)::(!196,wAB)::(!198,wAA ["step"] 469)::(!199,wAB)::(!201,wAC "head_of" 466 141 1 196 470)::(!202,DK "head_of" 33 wAH 413 201)::(!203,wAB)::(!205,wAA ["step"] 476)::(!206,wAB)::(!208,wAC "blocks_of" 473 143 1 203 477)::(!209,DK "blocks_of" 34 wAH 413 208)::(!210,wAB)::(!212,wAA ["program","steps","step","block"] 483)::(!213,wAB)::(!215,wAC "steps_within" 480 145 1 210 487)::(!216,DK "steps_within" 35 wAH 413 215)::(!217,wAB)::(!219,wAA ["steps","names","step","part","kind"] 493)::(!220,wAB)::(!222,wAC "names_in" 490 152 1 217 498)::(!223,DK "names_in" 36 wAH 413 222)::(!224,wAB)::(!227,wAD "lines_of" 501 159 1 224)::(!228,DK "lines_of" 37 wAH 413 227)::(!229,wAB)::(!231,wAA ["program"] 510)::(!232,wAB)::(!234,wAC "names_of" 507 167 1 229 511)::(!235,DK "names_of" 38 wAH 413 234)::(!243,wAB)::(!245,wAA ["self","head","lines","blocks"] 531)::(!246,wAB)::(!248,LX "__init__" 528 "NumberedStep.__init__" 529 530 172 4 243 244 245 246 247 535 536)::(!249,LW "__init__" "NumberedStep.__init__" 40 0 .none wAI 514 248)::(!250,wAA ["blocks","kind","lines","parts"] 538)::(!251,#[.type "dict",Nn,.dict #v[LV P "__module__" 523 (.str wAI 514),LV P "__firstlineno__" 527 (.int 170 526),LV P "__init__" 537 (.ref 249),LV P "__static_attributes__" 542 (.ref 250),LV P "__dict__" 544 (.ref 253),LV P "__weakref__" 546 (.ref 254),LV P "__doc__" 547 .none] 4,#[]])::(!252,#[.type "type",Nn,.cls #["NumberedStep",[.type "object"],[.ref 252,.type "object"],251,"NumberedStep",true,[],[],false,Nn,false],#v[Nn,Nn,Sm (.str "NumberedStep" 516),Sm (.str "NumberedStep" 524),Sm (.builtin "object.__new__"),Sm (.bool true)]])::(!253,#[.type "getset_descriptor",Nn,.fields #v[.str "__dict__" 543,.ref 252,.builtin "function.__dict__",.builtin "function.__dict__#set"],#[]])::(!254,#[.type "getset_descriptor",Nn,.fields #v[.str "__weakref__" 545,.ref 252,.builtin "ExceptionGroup.__weakref__",.none],#[]])::(!257,wAB)::(!259,wAA ["steps","line"] 553)::(!260,wAB)::(!262,wAC "line_behind" 550 177 2 257 555)::(!263,DK "line_behind" 41 wAI 514 262)::(!264,wAB)::(!266,wAA ["step","line","lines","blocks","block","steps"] 561)::(!267,wAB)::(!269,wAC "numbered_step" 558 179 2 264 567)::(!270,DK "numbered_step" 42 wAI 514 269)::(!271,wAB)::(!273,wAA ["steps","line","numbered","step"] 573)::(!274,wAB)::(!276,wAC "numbered_steps" 570 187 2 271 577)::(!277,DK "numbered_steps" 43 wAI 514 276)::(!278,wAB)::(!281,wAD "lend_lines" 582 193 1 278)::(!282,DK "lend_lines" 45 wAJ 580 281)::(!283,wAB)::(!285,wAA ["program","slots","slot","holder"] 591)::(!286,wAB)::(!288,wAC "slots_of" 588 195 1 283 595)::(!289,DK "slots_of" 46 wAJ 580 288)::(!290,wAB)::(!293,wAD "simple_row" 598 200 2 290)::(!294,DK "simple_row" 47 wAJ 580 293)::(!295,wAB)::(!297,wAA ["step","at","slots","turned","line","back","giver","taker","lent","ahead","within"] 607)::(!298,wAB)::(!300,wAC "lend_rows" 604 205 4 295 618)::(!301,DK "lend_rows" 48 wAJ 580 300)::(!302,wAB)::(!304,wAA ["step","at","slots","turned","more","jump","rest","behind","test"] 624)::(!305,wAB)::(!307,wAC "if_rows" 621 214 4 302 633)::(!308,DK "if_rows" 49 wAJ 580 307)::(!309,wAB)::(!311,wAA ["step","at","slots","within","behind"] 639)::(!312,wAB)::(!314,wAC "loop_rows" 636 221 3 309 644)::(!315,DK "loop_rows" 50 wAJ 580 314)::(!316,wAB)::(!318,wAA ["step","at","slots","turned","first","loop","behind"] 650)::(!319,wAB)::(!321,wAC "while_rows" 647 225 4 316 657)::(!322,DK "while_rows" 51 wAJ 580 321)::(!323,wAB)::(!325,wAA ["steps","at","slots","turned","rows","step","place"] 663)::(!326,wAB)::(!328,wAC "rows_of" 660 232 4 323 670)::(!329,DK "rows_of" 52 wAJ 580 328)::(!330,wAB)::(!332,wAA ["program","turned","steps"] 676)::(!333,wAB)::(!335,wAC "rows_and_end" 673 245 2 330 679)::(!336,DK "rows_and_end" 53 wAJ 580 335)::(!337,wAB)::(!339,wAA ["program"] 685)::(!340,wAB)::(!342,wAC "code_of" 682 248 1 337 686)::(!343,DK "code_of" 54 wAJ 580 342)::(!344,wAB)::(!346,wAA ["program"] 692)::(!347,wAB)::(!349,wAC "turned_code" 689 250 1 344 693)::(!350,DK "turned_code" 55 wAJ 580 349)::(!351,wAB)::(!353,wAA ["_law_script","_law_k"] 701)::(!354,wAB)::(!356,wAC "_law_cell_at" 698 253 2 351 703)::(!357,DK "_law_cell_at" 57 wAE 696 356)::(!358,wAB)::(!361,wAD "_law_words" 706 257 2 358)::(!362,DK "_law_words" 58 wAE 696 361)::(!363,wAB)::(!365,wAA ["_law_cell","_law_names","_law_words_here","_law_x","_law_y","_law_word","_law_bound","_law_some"] 715)::(!366,wAB)::(!368,wAC "_law_step" 712 270 3 363 723)::(!369,DK "_law_step" 59 wAE 696 368)::(!370,wAB)::(!372,wAA ["_law_pile","_law_step_here"] 729)::(!373,wAB)::(!375,wAC "_law_put" 726 279 2 370 731)::(!376,DK "_law_put" 60 wAE 696 375)::(!377,wAB)::(!379,wAA ["_law_pile","_law_head","_law_first","_law_second","_law_side"] 737)::(!380,wAB)::(!382,wAC "_law_close" 734 281 1 377 742)::(!383,DK "_law_close" 61 wAE 696 382)::(!384,wAB)::(!386,wAA ["_law_cells","_law_names","_law_words_here","_law_lends","_law_deep","_law_pile","_law_cell","_law_step_here"] 748)::(!387,wAB)::(!389,wAC "_law_program" 745 287 5 384 756)::(!390,DK "_law_program" 62 wAE 696 389)::(!391,wAB)::(!393,wAA ["_law_cells","_law_sides","_law_words_here","_law_most","_law_texts_here","_law_k","_law_bits","_law_many","_law_share","_law_rooms","_law_rest","_law_room_here","_law_text","_law_digit"] 762)::(!394,wAB)::(!396,wAC "_law_rule" 759 304 4 391 776)::(!397,DK "_law_rule" 63 wAE 696 396)::(!398,wAB)::(!400,wAA ["_law_held","_law_slot"] 782)::(!401,wAB)::(!403,wAC "_law_has" 779 330 2 398 784)::(!404,DK "_law_has" 64 wAE 696 403)::(!405,wAB)::(!407,wAA ["_law_rule_here","_law_room_here","_law_text"] 790)::(!408,wAB)::(!410,wAC "_law_next" 787 332 3 405 793)::(!411,DK "_law_next" 65 wAE 696 410)::(!412,wAB)::(!414,wAA ["_law_row","_law_token","_law_sides"] 799)::(!415,wAB)::(!417,wAC "_law_texts" 796 336 3 412 802)::(!418,DK "_law_texts" 66 wAE 696 417)::(!419,wAB)::(!421,wAA ["_law_rule_here","_law_row","_law_token","_law_room_here","_law_text"] 808)::(!422,wAB)::(!424,wAC "_law_room" 805 350 3 419 813)::(!425,DK "_law_room" 67 wAE 696 424)::(!426,wAB)::(!429,wAD "_law_code" 816 356 4 426)::(!430,DK "_law_code" 68 wAE 696 429)::(!431,wAB)::(!433,wAA ["_law_code_here","_law_rule_here","_law_at","_law_tokens","_law_token"] 825)::(!434,wAB)::(!436,wAC "_law_breaks" 822 366 4 431 830)::(!437,DK "_law_breaks" 69 wAE 696 436)::(!438,wAB)::(!440,wAA ["_law_code_here","_law_rule_here","_law_at","_law_tokens","_law_token"] 836)::(!441,wAB)::(!443,wAC "_law_moves" 833 373 4 438 841)::(!444,DK "_law_moves" 70 wAE 696 443)::(!445,wAB)::(!448,wAD "_law_due" 844 380 3 445)::(!449,DK "_law_due" 71 wAE 696 448)::(!450,wAB)::(!453,wAD "law" 850 392 1 450)::(!454,DK "law" 72 wAE 696 453)::[]
def kk:MD:=[2,3,15,17,18,20,21,22,24,25,27,28,29,31,32,34,35,36,38,39,41,42,43,45,46,48,49,50,52,53,55,56,57,59,60,62,63,64,67,68,69,71,72,74,75,76,78,79,81,82,83,85,86,88,89,90,93,94,95,97,98,100,101,102,105,106,107,109,110,112,113,114,116,117,119,120,121,123,124,126,127,128,131,132,133,136,137,138,140,141,143,144,145,147,148,150,151,152,154,155,157,158,159,162,163,164,166,167,169,170,171,174,175,176,177,178,179,180,181,182,183,184,185,186,187,188,189,191,192,194,195,196,198,199,201,202,203,205,206,208,209,210,212,213,215,216,217,219,220,222,223,224,227,228,229,231,232,234,235,243,245,246,248,249,250,251,252,253,254,257,259,260,262,263,264,266,267,269,270,271,273,274,276,277,278,281,282,283,285,286,288,289,290,293,294,295,297,298,300,301,302,304,305,307,308,309,311,312,314,315,316,318,319,321,322,323,325,326,328,329,330,332,333,335,336,337,339,340,342,343,344,346,347,349,350,351,353,354,356,357,358,361,362,363,365,366,368,369,370,372,373,375,376,377,379,380,382,383,384,386,387,389,390,391,393,394,396,397,398,400,401,403,404,405,407,408,410,411,412,414,415,417,418,419,421,422,424,425,426,429,430,431,433,434,436,437,438,440,441,443,444,445,448,449,450,453,454]
theorem kk_eq:∀P,kk=(KK P).map (·.1):=λ_=>by kernel_rfl
noncomputable abbrev HH:Hook:=kHook KK kk kk_eq
def qq:L_:=view PySem.Challenge.pw_usewarden_k65_columns [1,2,4,5,6,7,8,9,10,11,12,13,14,15,16,17,18,19,20,21,23,24,25,27,28,30,31,32,33,34,35,36,37,38,40,41,42,43,45,46,47,48,49,50,51,52,53,54,55,57,58,59,60,61,62,63,64,65,66,67,68,69,70,71,72]
noncomputable def loo:MA:=["PARTS","CLOSERS"]
noncomputable def xt(s:so):Bool:=xlAt qq [] s&&recOk (RowW.records (OpenRow.toRowW (OpenLaw.row PySem.Challenge.rw_usewarden_k65_columns))) s
noncomputable def Ds(s:so):=openSeen qq loo (importedModules (L_.main PySem.Challenge.pw_usewarden_k65_columns).body) xt true s
noncomputable def tE(w:K_)(os:OsState):Option so:=(L2.tEnd PySem.Challenge.pw_usewarden_k65_columns w 2539 os).map SharedT.abs
noncomputable def v_(w:K_):Prop:=∀os,(tE w os).map (λs=>(L2.tOk PySem.Challenge.pw_usewarden_k65_columns w s,Hook.obs HH s))=Sm (true,Hook.val HH w)
set_option maxRecDepth 1000000 in
theorem Lx(w:K_):v_ (w.withFollow "special-get-raises" false):=by unfold v_;intro os;kernel_rfl
set_option maxRecDepth 1000000 in
theorem Pu(w:K_):v_ (w.withFollow "special-get-raises" true):=by unfold v_;intro os;kernel_rfl
theorem N5(w:K_):v_ w:=byRow2 "special-get-raises" (P:=v_) Lx Pu w
noncomputable def xi(w:K_):Prop:=∀os,(tE w os).map (λs=>(Ds s).1)=Sm (openGood qq loo).1
set_option maxRecDepth 1000000 in
theorem Nj(w:K_):xi (w.withFollow "special-get-raises" false):=by unfold xi;intro os;kernel_rfl
set_option maxRecDepth 1000000 in
theorem NV(w:K_):xi (w.withFollow "special-get-raises" true):=by unfold xi;intro os;kernel_rfl
theorem NT(w:K_):xi w:=byRow2 "special-get-raises" (P:=xi) Nj NV w
noncomputable def vR(w:K_):Prop:=∀os,(tE w os).map (λs=>(Ds s).2)=Sm (openGood qq loo).2
set_option maxRecDepth 1000000 in
theorem Lw(w:K_):vR (w.withFollow "special-get-raises" false):=by unfold vR;intro os;kernel_rfl
set_option maxRecDepth 1000000 in
theorem Ob(w:K_):vR (w.withFollow "special-get-raises" true):=by unfold vR;intro os;kernel_rfl
theorem N3(w:K_):vR w:=byRow2 "special-get-raises" (P:=vR) Lw Ob w
theorem hl(w:K_):(openEnds treeTable PySem.Challenge.pw_usewarden_k65_columns w 2539).map (λs=>(Ds s,Hook.obs HH s))=Sm (openGood qq loo,Hook.val HH w):=by
 refine L2.tLeft (by kernel_rfl) ∅ (λ_=>by kernel_rfl) (by kernel_rfl) λos=>?_;let#[s,e,h]:=L2.LI.mp (N5 w os);have h2:=NT w os;have F:=N3 w os;rw[e]at h2 F;let#[r,J,rfl]:=L2.LI.mp e;exact#[r,J,(Prod.mk.inj h).1,congr (congrArg Prod.mk (Prod.ext (Option.some.inj h2) (Option.some.inj F))) (Prod.mk.inj h).2]
end K65
namespace L2
open PySem PySem.Spec PyProof.Rows
variable{a b C:o_}{h:LY}{w:K_}{t' i:Nat}{x:Str}{A:Me}{E Q:LZ}{u:B_}{e tg:Expr}{s:so}{pos:Pos}{K:KE}
abbrev aP:=Sum Int Str
noncomputable def lL:aP->B_->Bool
 | .inl k,v=>Ot k v
 | .inr x,v=>NF x v
noncomputable def ga(w:K_):aP->Int
 | .inl k=>hashInt k
 | .inr x=>hashStr w x
theorem df:∀ {k:aP} {v:B_},lL k v=true->(∃i t,k=Sum.inl i/\v=N_ i t)\/(∃x t,k=Sum.inr x/\v=Nl x t)
 | .inl i,v,h=>by
  let#[t,e]:=La (k:=i) (v:=v) h;exact .inl (yI2 i t #[rfl,e])
 | .inr x,v,h=>by
  let#[t,e]:=OS (x:=x) (v:=v) h;exact .inr (yI2 x t #[rfl,e])
theorem AZ(i:Int)(t:Tok):lL (.inl i) (.int i t)=true:=by simp[lL,Ot]
theorem zC(x:Str)(t:Tok):lL (.inr x) (.str x t)=true:=by simp[lL,NF]
theorem Hh(a b:Int):decide ((Sum.inl a:aP)=Sum.inl b)=(a==b):=by
 by_cases e:a=b
 .subst e;simp
 .have h:¬ (Sum.inl a:aP)=Sum.inl b:=λq=>e (Sum.inl.inj q);rw[decide_eq_false h];exact(beq_eq_false_iff_ne.mpr e).symm
theorem Hu(a b:Str):decide ((Sum.inr a:aP)=Sum.inr b)=decide (a=b):=by
 by_cases e:a=b
 .subst e;simp
 .have h:¬ (Sum.inr a:aP)=Sum.inr b:=λq=>e (Sum.inr.inj q);rw[decide_eq_false h,decide_eq_false e]
theorem II(a:Int)(b:Str):decide ((Sum.inl a:aP)=Sum.inr b)=false:=decide_eq_false (λq=>nomatch q)
theorem JH(a:Str)(b:Int):decide ((Sum.inr a:aP)=Sum.inl b)=false:=decide_eq_false (λq=>nomatch q)
noncomputable def de(prog:L_)(w:K_):PySem.KeyKind prog w aP where
 is:=lL
 hash:=ga w
 inj:=λv a b ha hb=>by
  rcases df ha with ⟨i,t,rfl,rfl⟩ | ⟨x,t,rfl,rfl⟩
  .rcases df hb with ⟨j,u,rfl,e⟩ | ⟨y,u,rfl,e⟩
   .injection e with e1 _;rw[e1]
   .exact nomatch e
  .rcases df hb with ⟨j,u,rfl,e⟩ | ⟨y,u,rfl,e⟩
   .exact nomatch e
   .injection e with e1 _;rw[e1]
 byValue:=λk v h=>by
  rcases df h with ⟨i,t,rfl,rfl⟩ | ⟨x,t,rfl,rfl⟩<;>rfl
 pyHash:=λhv h=>by
  rcases df hv with ⟨i,t,rfl,rfl⟩ | ⟨x,t,rfl,rfl⟩
  .exact wpAny_pyHash_int h
  .exact wpAny_pyHash_str h
 eqBool:=λhu hv h=>by
  rcases df hu with ⟨i,t,rfl,rfl⟩ | ⟨x,t,rfl,rfl⟩
  .rcases df hv with ⟨j,u,rfl,rfl⟩ | ⟨y,u,rfl,rfl⟩
   .rw[Hh]at h;exact wpAny_eqBool_int h
   .rw[II]at h;exact SeqAt.EqAt.int_str i t y u _ _ _ _ h
  .rcases df hv with ⟨j,u,rfl,rfl⟩ | ⟨y,u,rfl,rfl⟩
   .rw[JH]at h;exact SeqAt.EqAt.str_int x t j u _ _ _ _ h
   .rw[Hu]at h;exact wpAny_eqBool_str h
 «strs»:=λk x t v h=>by
  rcases df h with ⟨i,u,rfl,e⟩ | ⟨y,u,rfl,e⟩
  .exact nomatch e
  .injection e with e1 _
   subst e1;cases v<;>rfl
theorem vy(prog:L_)(w:K_)(i:Int)(t:Tok):(de prog w).is (.inl i) (.int i t)=true:=AZ i t
theorem vz(prog:L_)(w:K_)(x:Str)(t:Tok):(de prog w).is (.inr x) (.str x t)=true:=zC x t
set_option genSizeOf false in
inductive V where
 | non | bl (b:Bool) | int (i:Int) | str (x:Str) | byt (b:Array UInt8) | flt (b:UInt64) | ref (a:o_) | ty (n:String)
 deriving DecidableEq
variable{v:V}
abbrev MC:=List V
abbrev MK:=Option V
def RelV:V->B_->Prop
 | .non,u=>u=MQ
 | .bl b,u=>u=N9 b
 | .int i,u=>∃t,u=N_ i t
 | .str x,u=>∃t,u=Nl x t
 | .byt b,u=>∃t,u=B_.bytes b t
 | .flt b,u=>∃t,u=B_.float b t
 | .ref a,u=>u=Md a
 | .ty n,u=>u=N1 n
abbrev A1:MC->MF->Prop:=L8 RelV
theorem A1.length{xs:MC}{F:MF}(r:A1 xs F):xs.length=F.length:=zaP r
theorem A1.get:∀ {xs:MC} {F:MF} {i:Nat} {x:V},A1 xs F->xs[i]?=Sm x->∃u,F[i]?=Sm u/\RelV x u
 | _,_,_,_,.nil,e=>by simp at e
 | _,_,0,_,.cons r _,e=>by simp at e;subst e;exact#[_,rfl,r]
 | _,_,i+1,x,.cons _ t,e=>by
  let#[u,h1,h2]:=A1.get (i:=i) (x:=x) t (by simpa using e);exact#[u,by simpa using h1,h2]
theorem A1.set{x:V}{u:B_}(r:RelV x u):∀ {xs:MC} {F:MF} (i:Nat),A1 xs F->A1 (xs.set i x) (F.set i u)
 | _,_,_,.nil=>.nil
 | _,_,0,.cons _ t=>.cons r t
 | _,_,i+1,.cons q t=>.cons q (A1.set r i t)
theorem A1.append:∀ {xs ys:MC} {F ws:MF},A1 xs F->A1 ys ws->A1 (xs++ys) (F++ws)
 | _,_,_,_,.nil,s=>s
 | _,_,_,_,.cons r t,s=>.cons r (A1.append t s)
theorem A1.take:∀ {xs:MC} {F:MF} (n:Nat),A1 xs F->A1 (xs.take n) (F.take n)
 | _,_,0,_=>.nil
 | _,_,_+1,.nil=>.nil
 | _,_,n+1,.cons r t=>.cons r (A1.take n t)
theorem A1.drop:∀ {xs:MC} {F:MF} (n:Nat),A1 xs F->A1 (xs.drop n) (F.drop n)
 | _,_,0,r=>r
 | _,_,_+1,.nil=>.nil
 | _,_,n+1,.cons _ t=>A1.drop n t
def Hd:MK->MG->Prop
 | some v,Sm u=>RelV v u
 | none,Nn=>True
 | _,_=>False
def KV{κ:Type}:List (κ×V)->List (κ×B_)->Prop:=L8 λ(p:κ×V) (q:κ×B_)=>p.1=q.1/\RelV p.2 q.2
noncomputable def kV:aP->V
 | .inl i=>.int i
 | .inr x=>.str x
set_option genSizeOf false in
inductive HO where
 | lst (xs:MC)
 | tup (xs:MC)
 | dK (kvs:List (aP×V)) | dT (kvs:List (List aP×V))
 | set (S:Int->Bool) (n:Nat)
 | ins (C dx:o_) (fs:List (Str×V))
 | own (x:o_)
 | xd (fs:List (Str×V))
 | met (f x:o_)
 | rng (lo hi:Int)
 | frz (o:Obj) (u:HO)
 | tbl (ps:MM)
 | ext (φ : LY->Prop)
variable{o:HO}
abbrev Hp:=o_->Option HO
variable{H:Hp}
noncomputable def upd(H:Hp)(a:o_)(o:HO):Hp:=λb=>if b=a then Sm o else H b
theorem ai:upd H a o a=Sm o:=by unfold upd;rw[Lz rfl]
theorem au(h:b≠a):upd H a o b=H b:=by unfold upd;rw[Lu h]
theorem dh{u:HO}(h:H a=Sm o)(h':H b=Sm u)(d:o≠u):a≠b:=by
 intro e;subst e;rw[h]at h';exact d (Option.some.inj h')
theorem aQ(h:H a=Sm o)(h':H b=Nn):a≠b:=by
 intro e;subst e;rw[h]at h';cases h'
def GO(h:LY)(a:o_)(items:MM):Prop:=∃o,h.get? a=Sm o/\o.cls = .type "tuple" /\ o.dict=Nn/\∃n,o.data = .seq items n
theorem GO.tup{items:MM}(x:GO h a items):IsTup h a items:=let ⟨o,e,c,_,d⟩:=x;#[o,e,c,d]
theorem GO.lt{items:MM}(x:GO h a items):a<h.objs.size:=let ⟨_,e,_⟩:=x;vg e
theorem GO.new(h:LY)(items:MM):GO (h.push {cls:=.type "tuple",data:=.seq items}) h.objs.size items:=#[_,yQ _ rfl,rfl,rfl,_,rfl]
section
variable(P:L_)(w:K_)
def B3(H:Hp)(h:LY)(a:o_):HO->Prop
 | .lst xs=>xs.length<=L9/\∃(its:MF) (n:Nat),A1 xs its/\h.get? a=Sm {cls:=.type "list",data:=.seq its.toArray n}
 | .tup xs=>xs.length<=L9/\∃its:MF,A1 xs its/\GO h a its.toArray
 | .dK kvs=>kvs.length<=L9/\(a==sysModules)=false/\∃vs,KV kvs vs/\h.DictOf (de P w) a vs
 | .dT kvs=>kvs.length<=L9/\(a==sysModules)=false/\∃xs:List (List aP×o_×B_),
   L8 (λ(p:List aP×V) (q:List aP×o_×B_)=>p.1=q.1/\H q.2.1=Sm (.tup (p.1.map kV))/\RelV p.2 q.2.2) kvs xs/\
   ∃o es ep,h.get? a=Sm o/\o.ExactDict/\o.data = .dict es ep/\es.toList=xs.map (entryOfKey (tupleKind (de P w)))/\(xs.map (·.1)).Nodup
 | .set S n=>h.SetOf (Mh P w) a S n
 | .ins C dx fs=>H dx=Sm (.own a)/\fs.length<=1000/\dx≠a/\h.get? a=Sm (NL C dx)/\
   ∃mA,h.Ns1 dx mA/\(∀f,Hd (fs.lookup f) (mA f))/\PySem.Within mA (fs.map (·.1))
 | .own _=>∃o,h.get? a=Sm o
 | .xd fs=>∃mA,h.Ns1 a mA/\∀f,Hd (fs.lookup f) (mA f)
 | .rng lo hi=>∃t u v,h.get? a=Sm {cls:=.type "range",data:=.fields #v[.int lo t,.int hi u,.int 1 v]}
 | .frz o u=>h.get? a=Sm o/\B3 H h a u
 | .tbl ps=>h.get? a=Sm {cls:=.none,data:=.fields ps}
 | .met f x=>h.get? a=Sm (W.methodObj (.ref f) (.ref x))
 | .ext φ=>φ h/\(∃o,h.get? a=Sm o)/\∀h1 h2:LY,φ h1->(∀o,h1.get? a=Sm o->h2.get? a=Sm o)->φ h2
def G3(H:Hp)(h:LY):Prop:=∀a o,H a=Sm o->B3 P w H h a o
end
section
variable{P:L_}{w:K_}{H H':Hp}{h h':LY}{a:o_}{o:HO}
theorem B3.lt(x:B3 P w H h a o):a<h.objs.size:=by
 cases o with
 | lst xs=>revert x;refine yB2 λ_=>yF2 λ_ _=>yB2 λ_ e=>?_;exact vg e
 | tup xs=>revert x;refine yB2 λ_=>yF1 λ_=>yB2 λ_ p=>?_;exact p.lt
 | dK kvs=>revert x;refine yB3 λ_ _=>yF1 λ_=>yB2 λ_=>yF3 λo _ _=>yB2 λe _=>?_;exact vg e
 | dT kvs=>revert x;refine yB3 λ_ _=>yF1 λ_=>yB2 λ_=>yF3 λo _ _=>yB2 λe _=>?_;exact vg e
 | set S n=>revert x;refine yF4 λo _ _ _=>yB2 λe _=>?_;exact vg e
 | ins C dx fs=>revert x;refine yB5 λ_ _ _ e _=>?_;exact vg e
 | own y=>let#[_,e]:=x;exact vg e
 | xd fs=>let#[_,#[_,_,_,e,_],_]:=x;exact vg e
 | rng lo hi=>revert x;refine yF3 λ_ _ _ e=>?_;exact vg e
 | frz ob u=>let#[e,_]:=x;exact vg e
 | tbl ps=>exact vg (show h.get? a=Sm _ from x)
 | met f y=>exact vg (show h.get? a=Sm _ from x)
 | ext φ=>let#[_,#[_,e],_]:=x;exact vg e
theorem L8.mapP{α β : Type}{F G:α->β->Prop}:∀ {J:List α} {l₂:List β},L8 F J l₂->(∀a b,F a b->G a b)->L8 G J l₂
 | _,_,.nil,_=>.nil
 | _,_,.cons r t,f=>.cons (f _ _ r) (L8.mapP t f)
theorem L8.imp'{α β : Type}{F G:α->β->Prop}(f:∀a b,F a b->G a b){J:List α}{l₂:List β}(r:L8 F J l₂):L8 G J l₂:=L8.mapP r f
theorem B3.stay(x:B3 P w H h a o)(k:∀b u,(b=a\/H b=Sm (.own a))->h.get? b=Sm u->h'.get? b=Sm u)
  (Y:∀b,H b=Sm (.own a)->H' b=Sm (.own a)) (Z:∀b xs,H b=Sm (.tup xs)->H' b=Sm (.tup xs)):B3 P w H' h' a o:=by
 induction o with
 | lst xs=>revert x;refine yB2 λz=>yF2 λJ n=>yB2 λr e=>?_;exact#[z,yI2 J n #[r,k _ _ (.inl rfl) e]]
 | tup xs=>revert x;refine yB2 λz=>yF1 λJ=>yB2 λr=>yF1 λF=>yB2 λe c=>?_;exact#[z,J,r,F,k _ _ (.inl rfl) e,c]
 | dK kvs=>revert x;refine yB3 λz y=>yF1 λvs=>yB2 λr=>yF3 λF es ep=>yB2 λe c=>?_;exact#[z,y,vs,r,yI3 F es ep #[k _ _ (.inl rfl) e,c]]
 | dT kvs=>
  revert x;refine yB3 λz y=>yF1 λxs=>yB2 λr=>yF3 λF es ep=>yB2 λe c=>?_;exact#[z,y,xs,L8.mapP r λp q z=>#[z.1,Z _ _ z.2.1,z.2.2],yI3 F es ep #[k _ _ (.inl rfl) e,c]]
 | set S n=>revert x;refine yF4 λF es ep t=>yB2 λe c=>?_;exact yI4 F es ep t #[k _ _ (.inl rfl) e,c]
 | ins C dx fs=>
  revert x;refine yB5 λd z ne e=>yF1 λmA=>yB2 ?_;rintro ⟨O,es,ep,U,c⟩ r;exact#[Y _ d,z,ne,k _ _ (.inl rfl) e,mA,yI3 O es ep #[k _ _ (.inr d) U,c],r]
 | own y=>let#[F,e]:=x;exact#[F,k _ _ (.inl rfl) e]
 | xd fs=>let#[mA,#[O,es,ep,e,c],r]:=x;exact#[mA,yI3 O es ep #[k _ _ (.inl rfl) e,c],r]
 | rng lo hi=>revert x;refine yF3 λt u v e=>?_;exact yI3 t u v (k _ _ (.inl rfl) e)
 | frz F u ih=>let#[e,q]:=x;exact#[k _ _ (.inl rfl) e,ih q]
 | tbl ps=>
  have e:h.get? a=Sm {cls:=.none,data:=.fields ps}:=x;show h'.get? a=Sm {cls:=.none,data:=.fields ps};exact k a _ (.inl rfl) e
 | met f y=>
  have e:h.get? a=Sm (W.methodObj (.ref f) (.ref y)):=x;show h'.get? a=Sm (W.methodObj (.ref f) (.ref y));exact k a _ (.inl rfl) e
 | ext φ=>let#[p,#[o,e],st]:=x;exact#[st _ _ p λo q=>k _ _ (.inl rfl) q,#[o,k _ _ (.inl rfl) e],st]
theorem G3.lt(x:G3 P w H h)(e:H a=Sm o):a<h.objs.size:=(x a o e).lt
theorem G3.fresh(x:G3 P w H h)(e:h.objs.size<=a):H a=Nn:=by
 cases q:H a with
 | none=>rfl
 | some u=>exact absurd (rN (x.lt q) e) (Lc _)
theorem G3.kept(x:G3 P w H h)(k:∀b u,h.get? b=Sm u->h'.get? b=Sm u):G3 P w H h':=λa o e=>
 (x a o e).stay (λb u _ q=>k b u q) (λ_ q=>q) λ_ _ q=>q
theorem G3.laid(x:G3 P w H h)(k:∀b u,h.get? b=Sm u->h'.get? b=Sm u)(J:h.objs.size<=a)(new:B3 P w (upd H a o) h' a o):G3 P w (upd H a o) h':=λb u e=>by
 have F:=x.fresh J;by_cases hb:b=a
 .subst hb;rw[ai]at e;cases e;exact new
 .rw[au hb]at e;exact(x b u e).stay (λc v _ q=>k c v q) (λc q=>by rw[au (aQ q F)];exact q) λc xs q=>by rw[au (aQ q F)];exact q
end
def Rd(H:Hp)(a:o_)(u:HO):Prop:=H a=Sm u\/∃o,H a=Sm (.frz o u)
theorem Rd.ok{P:L_}{u:HO}(r:Rd H a u)(x:G3 P w H h):B3 P w H h a u:=by
 rcases r with r | ⟨o,r⟩
 .exact x a u r
 .let#[_,q]:=x a _ r;exact q
def Az:Option HO->Prop
 | some (.lst _)=>True
 | some (.dK _)=>True
 | some (.dT _)=>True
 | some (.set _ _)=>True
 | some (.ins _ _ _)=>True
 | some (.ext _)=>True
 | _=>False
section
variable{P:L_}{w:K_}{H:Hp}{h h':LY}{x e:o_}{o':HO}
theorem G3.write(ok:G3 P w H h)(O:Az (H x))(W:e=x\/H e=Sm (.own x))(k:∀b u,b≠e->h.get? b=Sm u->h'.get? b=Sm u)(U:∃u,h'.get? e=Sm u)
  (new:B3 P w (upd H x o') h' x o'):G3 P w (upd H x o') h':=λb u q=>by
 have F:∀c y,H c=Sm (.own y)->c≠x:=λc y r z=>by subst z;rw[r]at O;exact O
 have J:∀c xs,H c=Sm (.tup xs)->c≠x:=λc xs r z=>by subst z;rw[r]at O;exact O
 by_cases hb:b=x
 .subst hb;rw[ai]at q;cases q;exact new
 .rw[au hb]at q;by_cases hbe:b=e
  .have Y:H b=Sm (.own x):=by
    rcases W with z | z
    .exact absurd (hbe.trans z) hb
    .rw[hbe];exact z
   rw[q]at Y;cases Y;let#[v,hv]:=U;exact#[v,by rw[hbe];exact hv]
  .refine(ok b u q).stay (λc v S r=>k c v ?_ r) (λc r=>by rw[au (F c b r)];exact r) λc xs r=>by rw[au (J c xs r)];exact r
   rcases S with rfl | S
   .exact hbe
   .rintro rfl;rcases W with z | z
    .exact F c b S z
    .rw[S]at z;cases z;exact hb rfl
end
structure Un (fs ex:MD) (H H':Hp) (h h':LY):Prop where
 keep:∀b o,h.get? b=Sm o->H b=Nn->b∉fs->b∉ex->h'.get? b=Sm o
 slot:∀b o,h.get? b=Sm o->H b=Nn->b∈fs->b∉ex->∃sl,h'.get? b=Sm {o with slots:=sl}
 free:∀b o,h.get? b=Sm o->H b=Nn->b∉ex->H' b=Nn
 there:∀b o,h.get? b=Sm o->b∉ex->∃o',h'.get? b=Sm o'
 tups:∀b xs,H b=Sm (.tup xs)->H' b=Sm (.tup xs)
 frzs:∀b o u,H b=Sm (.frz o u)->H' b=Sm (.frz o u)
 tbls:∀b ps,H b=Sm (.tbl ps)->∃more,H' b=Sm (.tbl (ps++more))
section
variable{fs fs' ex ex':MD}{H H1 H2:Hp}{h h1 h2 h':LY}{a x e:o_}{o:HO}
theorem Un.any(u:Un fs ex H H1 h h1){F:Obj}(q:h.get? b=Sm F)(n:H b=Nn)(hx:b∉ex):∃sl,h1.get? b=Sm {F with slots:=sl}:=by
 by_cases hb:b∈fs
 .exact u.slot b F q n hb hx
 .exact#[F.slots,u.keep b F q n hb hx]
theorem Un.kept(k:∀b u,h.get? b=Sm u->h'.get? b=Sm u):Un fs ex H H h h':=
 #[λb F q _ _ _=>k b F q,λb F q _ _ _=>#[F.slots,k b F q],λ_ _ _ n _=>n,λb F q _=>#[F,k b F q],λ_ _ q=>q,λ_ _ _ q=>q,λ_ ps q=>#[#[],by rw[q];simp]]
theorem Un.refl:Un fs ex H H h h:=Un.kept λ_ _ q=>q
theorem Un.laid(k:∀b u,h.get? b=Sm u->h'.get? b=Sm u)(J:h.objs.size<=a)(F:H a=Nn):Un fs ex H (upd H a o) h h' where
 keep:=λb u q _ _ _=>k b u q
 slot:=λb u q _ _ _=>#[u.slots,k b u q]
 free:=λb u q n _=>by rw[au (yG (rN (vg q) J))];exact n
 there:=λb u q _=>#[u,k b u q]
 tups:=λb xs q=>by rw[au (aQ q F)];exact q
 frzs:=λb u xs q=>by rw[au (aQ q F)];exact q
 tbls:=λb ps q=>#[#[],by rw[au (aQ q F),q];simp]
theorem Un.write(F:Az (H x))(U:e=x\/H e=Sm (.own x))(k:∀b u,b≠e->h.get? b=Sm u->h'.get? b=Sm u)(O:∃u,h'.get? e=Sm u):Un fs ex H (upd H x o) h h':=by
 have hx:∀b,H b=Nn->b≠x:=λb n z=>by subst z;rw[n]at F;exact F
 have S:∀b,H b=Nn->b≠e:=λb n z=>by
  subst z;rcases U with r | r
  .exact hx b n r
  .rw[n]at r;cases r
 have J:∀b u,H b=Sm u->¬ Az (Sm u)->b≠x:=λb u q nm z=>by subst z;rw[q]at F;exact nm F
 refine⟨λb u q n _ _=>k b u (S b n) q,λb u q n _ _=>⟨u.slots,k b u (S b n) q⟩,λb u q n _=>by rw[au (hx b n)];exact n,λb u q _=>?_,
  λb xs q=>by rw[au (J b _ q λz=>z)];exact q,λb u xs q=>by rw[au (J b _ q λz=>z)];exact q,λb ps q=>⟨#[],by rw[au (J b _ q λz=>z),q];simp⟩⟩
 by_cases hbe:b=e
 .subst hbe;exact O
 .exact#[u,k b u hbe q]
end
noncomputable def Ew(h:LY)(H:Hp):MD:=(List.range h.objs.size).filter λa=>(H a).isSome
noncomputable def jY(h:LY)(H:Hp):LY:=W.hideAll h (Ew h H)
theorem Bz(h:LY)(H:Hp):(jY h H).objs.size=h.objs.size:=W.hideAll_size _ _
theorem CI{o:Obj}(e:h.get? b=Sm o)(n:H b=Nn):(jY h H).get? b=Sm o:=
 W.hideAll_get _ e λF=>by
  have q:(H b).isSome=true:=(LN.mp F).2;rw[n]at q;simp at q
theorem Fe{h:LY}{H:Hp}{b:o_}{o:Obj}(e:(jY h H).get? b=Sm o):h.get? b=Sm o/\H b=Nn:=by
 have F:h.get? b=Sm o:=W.of_hideAll (Ew h H) e;refine#[F,?_];cases q:H b with
 | none=>rfl
 | some x=>
  have J:b∈Ew h H:=LN.mpr #[LK.mpr (vg F),by simp[q]];have z:(jY h H).get? b=Nn:=W.hideAll_none (Ew h H) J;rw[z]at e;cases e
noncomputable def FL(g h:LY)(L:o_):List (o_×Obj):=(List.range h.objs.size).filterMap λa=>if a=L\/(g.get? a).isSome=true then Nn else (h.get? a).map λo=>(a,o)
noncomputable def BY(g h:LY)(L d:o_):List (o_×Obj):=(FL g h L).filter λp=>decide (p.1≠d)
structure Mod (K:KE) (mg:Str->MG) (base:LY):Prop where
 kin:K.In base
 glob:base.Ns Mp mg
 blt:∃mb,base.Ns builtinsNs mb/\∀x:Str,x ≠ "__name__" -> mb x=MX x
 nolimit:base.NoLimit
set_option genInjectivity false in
set_option genSizeOf false in
structure Cx where
 prog:L_
 w:K_
 K:KE
 mg:Str->MG
 base:LY
 A:Me
 N:MA
 s₀ : so
 H₀ : Hp
 env:Env
 outer:List Env
 stack:List Env
 ex:MD
 fn:Str->Bool
 calm:Bool
 pn:List (o_×Obj)
 xe:B_->so->Prop
noncomputable def kq(l:List Env):MD:=l.filterMap (·.frame)
noncomputable abbrev Cx.fs (X:Cx):MD:=kq X.outer
def ao(sc:Scope)(x:Str):Prop:=sc.names.lookup x=Sm .local\/sc.names.lookup x=Sm .cell\/sc.names.lookup x=Sm .free
def aI(sc:Scope)(x:Str):Prop:=sc.names.lookup x=Sm .local\/sc.names.lookup x=Sm .cell
def Of(env:Env)(h:LY)(m:Str->MG)(x:Str)(u:B_):Prop:=
 (env.kindOf x=Sm .local/\m x=Sm u)\/((env.kindOf x=Sm .cell\/env.kindOf x=Sm .free)/\∃c,env.cells.lookup x=Sm c/\h.IsCell c (Sm u))
structure Cx.Ok (X:Cx):Prop where
 mod:Mod X.K X.mg X.base
 kind:X.env.scope.kind = .function
 glob:X.env.globals=Mp
 blt:X.env.builtins=builtinsNs
 above:X.s₀.heap.objs.size<=X.env.locals
 inj:∀x y c,X.env.cells.lookup x=Sm c->X.env.cells.lookup y=Sm c->x=y
 has:∀x,(X.env.kindOf x=Sm .cell\/X.env.kindOf x=Sm .free)->∃c,X.env.cells.lookup x=Sm c
 cab:∀x c,X.fn x=true->X.env.cells.lookup x=Sm c->X.s₀.heap.objs.size<=c
 hd:X.calm=true->X.A.handled=Nn
 frames:X.A.frames=Sm X.stack
 stk:X.stack=X.outer\/(X.stack=X.env::X.outer/\X.env.frame=Sm X.env.locals)
 exf:∀b∈X.ex,b≠X.env.locals/\∀x c,X.env.cells.lookup x=Sm c->c≠b
 bs:∀b o,X.base.get? b=Sm o->X.s₀.heap.get? b=Sm o/\X.H₀ b=Nn
 bsz:X.base.objs.size<=X.s₀.heap.objs.size
 noex:∀b o,X.base.get? b=Sm o->b∉X.ex
 exfs:∀b∈X.ex,b∉X.fs
 funs:X.s₀.heap.FunFrames X.base X.outer
 frf:∀b∈X.fs,X.H₀ b=Nn
structure Inv (X:Cx) (pins:List (o_×Obj)) (σ : List MK) (H:Hp) (s:so):Prop where
 ok:X.Ok
 os:s.os=X.s₀.os
 bare:NG s.gens
 base:Un X.fs X.ex X.H₀ H X.s₀.heap s.heap
 loc:∃m,s.heap.Ns X.env.locals m/\∀(i:Nat) (x:Str) (v:V),X.N[i]?=Sm x->σ[i]?=Sm (Sm v)->ao X.env.scope x->∃u,RelV v u/\Of X.env s.heap m x u
 cell:∀x c,X.env.cells.lookup x=Sm c->∃v,s.heap.IsCell c v
 free:H X.env.locals=Nn
 freeC:∀x c,X.env.cells.lookup x=Sm c->H c=Nn
 pin:∀p∈X.pn++pins,s.heap.get? p.1=Sm p.2/\H p.1=Nn/\p.1≠X.env.locals/\p.1∉X.fs/\∀v,p.2.data ≠ .cell v
 hok:G3 X.prog X.w H s.heap
 len:σ.length=X.N.length
section
variable{X:Cx}{pins:List (o_×Obj)}{σ:List MK}{H H':Hp}{s:so}{h':LY}
theorem Cx.Ok.nofr(ok:X.Ok){o:Obj}(e:X.base.get? b=Sm o):b∉X.fs:=λF=>by
 have:=(ok.funs.mem F).1;rw[e]at this;cases this
theorem Inv.bs(I:Inv X pins σ H s):∀b o,X.base.get? b=Sm o->s.heap.get? b=Sm o/\H b=Nn:=λb o e=>
 #[I.base.keep b o (I.ok.bs b o e).1 (I.ok.bs b o e).2 (I.ok.nofr e) (I.ok.noex b o e),I.base.free b o (I.ok.bs b o e).1 (I.ok.bs b o e).2 (I.ok.noex b o e)]
theorem Inv.bk(I:Inv X pins σ H s):∀b o,X.base.get? b=Sm o->s.heap.get? b=Sm o:=λb o e=>(I.bs b o e).1
theorem Inv.mod(I:Inv X pins σ H s):Mod X.K X.mg X.base:=I.ok.mod
theorem Inv.kIn(I:Inv X pins σ H s):X.K.In s.heap:=I.ok.mod.kin.keeps I.bk
theorem Inv.lt(I:Inv X pins σ H s):X.env.locals<s.heap.objs.size:=let ⟨_,hn,_⟩:=I.loc;hn.lt
theorem Inv.sz(I:Inv X pins σ H s):X.s₀.heap.objs.size<=s.heap.objs.size:=mn I.ok.above (xx I.lt)
theorem Inv.nofs(I:Inv X pins σ H s)(h:s.heap.objs.size<=a):a∉X.fs:=λF=>by
 refine yA2 (I.ok.funs.mem F) λ_=>yF1 λo=>yB2 λJ _=>?_;exact absurd (rN (vg J) (mn I.sz h)) (Lc _)
theorem Inv.cne(I:Inv X pins σ H s):∀x c,X.env.cells.lookup x=Sm c->c≠X.env.locals:=λx c e z=>by
 refine yE2 (I.cell x c e) λv o=>yB2 λO hd=>?_;let#[m,#[o',es,ep,F,J,_],_]:=I.loc;rw[z,F]at O;cases O;rw[J]at hd;cases hd
theorem Inv.funs(I:Inv X pins σ H s):s.heap.FunFrames X.base X.outer:=by
 have all:∀(l:List Env),(∀b∈kq l,b∈X.fs)->X.s₀.heap.FunFrames X.base l->s.heap.FunFrames X.base l:=by
  intro l
  induction l with
  | nil=>intro _ _;trivial
  | cons env r ih=>
   intro O hl;let#[Y,#[L,o,hf,U,W,hd],S]:=hl;have F:L∈X.fs:=O L (by unfold kq;rw[List.filterMap_cons,hf];exact yd);let#[Z,e]:=I.base.slot L o W (I.ok.frf L F) F λz=>I.ok.exfs L z F;exact#[Y,yI2 L _ #[hf,U,e,hd],ih (λb J=>O b (by unfold kq;rw[List.filterMap_cons,hf];exact yh _ J)) S]
 exact all X.outer (λ_ J=>J) I.ok.funs
theorem Inv.stack(I:Inv X pins σ H s):s.heap.FunFrames X.base X.stack:=by
 rcases I.ok.stk with e | ⟨e,hf⟩
 .rw[e];exact I.funs
 .rw[e];let#[m,F,_]:=I.loc;refine .cons (by rw[I.ok.kind];decide) hf F ?_ I.funs;exact LY.get?_none_of_le (mn I.ok.bsz I.ok.above)
theorem Inv.stkSub(I:Inv X pins σ H s):∀b∈kq X.stack,b∈X.env.locals::X.fs:=λb F=>by
 rcases I.ok.stk with e | ⟨e,hf⟩
 .rw[e]at F;exact yh _ F
 .rw[e]at F;unfold kq at F;rw[List.filterMap_cons,hf]at F;exact F
theorem Inv.stkFree(I:Inv X pins σ H s):∀b∈kq X.stack,H b=Nn:=λb F=>by
 rcases LH.mp (I.stkSub b F) with e | F
 .rw[e];exact I.free
 .refine yA2 (I.ok.funs.mem F) λ_=>yF1 λo=>yB2 λJ _=>?_;exact I.base.free b o J (I.ok.frf b F) λz=>I.ok.exfs b z F
theorem Inv.step{g':Array NN}{d':Drawn}{ch:MD}(I:Inv X pins σ H s)
  (J:∀b∈ch,(b∈X.ex\/X.s₀.heap.objs.size<=b)/\b≠X.env.locals/\(∀x c,X.env.cells.lookup x=Sm c->c≠b)/\∀p∈X.pn++pins,p.1≠b)
  (keep:∀b o,b≠X.env.locals->b∉X.fs->b∉ch->s.heap.get? b=Sm o->H b=Nn->h'.get? b=Sm o)
  (slot:∀b o,b≠X.env.locals->b∈X.fs->b∉ch->s.heap.get? b=Sm o->H b=Nn->∃sl,h'.get? b=Sm {o with slots:=sl}) (free:∀b o,b∉ch->s.heap.get? b=Sm o->H b=Nn->H' b=Nn)
  (there:∀b o,b∉ch->s.heap.get? b=Sm o->∃o',h'.get? b=Sm o')
  (tups:∀b xs,H b=Sm (.tup xs)->H' b=Sm (.tup xs)) (frzs:∀b o u,H b=Sm (.frz o u)->H' b=Sm (.frz o u)) (tbls:∀b ps,H b=Sm (.tbl ps)->∃more,H' b=Sm (.tbl (ps++more)))
  (ns:∀m,s.heap.Ns X.env.locals m->h'.Ns X.env.locals m) (hok:G3 X.prog X.w H' h') (hg:NG g') :
  Inv X pins σ H' {s with heap:=h',gens:=g',drawn:=d',toks:=t'}:=by
 have ab:∀b o,X.s₀.heap.get? b=Sm o->b≠X.env.locals:=λb o e=>yG (rN (vg e) I.ok.above);have S:∀b o,X.s₀.heap.get? b=Sm o->b∉X.ex->b∉ch:=λb o e hx W=>by
  rcases(J b W).1 with z | z
  .exact hx z
  .exact absurd (rN (vg e) z) (Lc _)
 have F:∀x c,X.env.cells.lookup x=Sm c->∀v,s.heap.IsCell c v->h'.IsCell c v:=λx c e v ⟨o,Y,hd⟩=>by
  have O:c∉ch:=λz=>(J c z).2.2.1 x c e rfl;by_cases hc:c∈X.fs
  .let#[sl,q]:=slot c o (I.cne x c e) hc O Y (I.freeC x c e);exact#[_,q,hd]
  .exact#[o,keep c o (I.cne x c e) hc O Y (I.freeC x c e),hd]
 refine#[I.ok,I.os,hg,#[λb o e n W hx=>?_,λb o e n W hx=>?_,λb o e n hx=>?_,λb o e hx=>?_,λb xs e=>tups b xs (I.base.tups b xs e),λb o xs e=>frzs b o xs (I.base.frzs b o xs e),λb ps e=>?_],?_,λx c e=>?_,?_,λx c e=>?_,λp hp=>?_,hok,I.len]
 .exact keep b o (ab b o e) W (S b o e hx) (I.base.keep b o e n W hx) (I.base.free b o e n hx)
 .let#[sl,U]:=I.base.slot b o e n W hx;let#[ac,Z]:=slot b _ (ab b o e) W (S b o e hx) U (I.base.free b o e n hx);exact#[ac,Z]
 .let#[o',U]:=I.base.there b o e hx;exact free b o' (S b o e hx) U (I.base.free b o e n hx)
 .let#[o',U]:=I.base.there b o e hx;exact there b o' (S b o e hx) U
 .let#[m1,U]:=I.base.tbls b ps e;let#[m2,Z]:=tbls b _ U;exact#[m1++m2,by rw[Z,Array.append_assoc]]
 .let#[m,hn,hl]:=I.loc;refine#[m,ns m hn,λi x v U Z e3=>?_];let#[u,r,l]:=hl i x v U Z e3;refine#[u,r,?_];rcases l with l | ⟨k,c,e,z⟩
  .exact .inl l
  .exact .inr #[k,c,e,F x c e _ z]
 .let#[v,z]:=I.cell x c e;exact#[v,F x c e v z]
 .let#[m,#[o,_,_,Y,_],_]:=I.loc;exact free _ o (λz=>(J _ z).2.1 rfl) Y I.free
 .refine yE2 (I.cell x c e) λv o=>yB2 λY hd=>?_;exact free c o (λz=>(J c z).2.2.1 x c e rfl) Y (I.freeC x c e)
 .refine yA5 (I.pin p hp) λe n ne nf d=>?_;have O:p.1∉ch:=λz=>(J p.1 z).2.2.2 p hp rfl;exact#[keep p.1 p.2 ne nf O e n,free p.1 p.2 O e n,ne,nf,d]
theorem Inv.un(I:Inv X pins σ H s)(u:Un X.fs [] H H' s.heap h')(hok:G3 X.prog X.w H' h'):Inv X pins σ H' {s with heap:=h',toks:=t'}:=by
 let#[m,#[o,es,ep,S,r],_]:=id I.loc;let#[Z,Y]:=u.any S I.free '~';exact I.step (g':=s.gens) (d':=s.drawn) (ch:=[]) (λ_ z=>nomatch z) (λb o _ O _ e n=>u.keep b o e n O '~') (λb o _ O _ e n=>u.slot b o e n O '~') (λb o _ e n=>u.free b o e n '~') (λb o _ e=>u.there b o e '~') u.tups u.frzs u.tbls (λm' W=>by
  revert W;refine yF3 λo' es' J=>yB2 λF U=>?_;rw[S]at F;cases F;exact yI3 _ es' J ⟨Y,U⟩) hok I.bare
theorem Inv.call{g':Array NN}{d':Drawn}{ch:MD}(I:Inv X pins σ H s)(u:Un (kq X.stack) ch H H' s.heap h')(hok:G3 X.prog X.w H' h')(hg:NG g')
  (O:∀b∈ch,(b∈X.ex\/X.s₀.heap.objs.size<=b)/\b≠X.env.locals/\(∀x c,X.env.cells.lookup x=Sm c->c≠b)/\∀p∈X.pn++pins,p.1≠b) :
  Inv X pins σ H' {s with heap:=h',gens:=g',drawn:=d',toks:=t'}:=by
 let#[m,#[o,es,ep,W,r],_]:=id I.loc;let#[sl,U]:=u.any W I.free λz=>(O _ z).2.1 rfl;exact I.step (ch:=ch) O (λb o U hb F e n=>u.keep b o e n (λz=>(LH.mp (I.stkSub b z)).elim U hb) F) (λb o _ _ F e n=>u.any e n F) (λb o F e n=>u.free b o e n F) (λb o F e=>u.there b o e F) u.tups u.frzs u.tbls (λm' Z=>by
  revert Z;refine yF3 λo' es' S=>yB2 λJ Y=>?_;rw[W]at J;cases J;exact yI3 _ es' S ⟨U,Y⟩) hok hg
theorem Inv.turned{it:o_}(I:Inv X pins σ H s)(k:∀b o,b≠it->s.heap.get? b=Sm o->h'.get? b=Sm o)(S:H it=Nn)(O:it≠X.env.locals)
  (h1:it∈X.ex\/X.s₀.heap.objs.size<=it) (h2:∀x c,X.env.cells.lookup x=Sm c->c≠it) (U:∀p∈X.pn++pins,p.1≠it):Inv X pins σ H {s with heap:=h',toks:=t'}:=by
 have J:∀b u,H b=Sm u->b≠it:=λb u e z=>by rw[z,S]at e;cases e
 refine I.step (g':=s.gens) (d':=s.drawn) (ch:=[it]) (λb Z=>?_) (λb o _ _ F e _=>k b o (λz=>F (by simp[z])) e) (λb o _ _ F e _=>#[o.slots,k b o (λz=>F (by simp[z])) e]) (λ_ _ _ _ n=>n)
  (λb o F e=>#[o,k b o (λz=>F (by simp[z])) e]) (λ_ _ e=>e) (λ_ _ _ e=>e) (λb ps e=>#[#[],by rw[e];simp]) (λm W=>?_) (λb u e=>?_) I.bare
 .have e:b=it:=by simpa using Z
  subst e;exact#[h1,O,h2,U]
 .revert W;refine yF3 λo es ep=>yB2 λY r=>?_;exact yI3 o es ep #[k _ o (u6 O) Y,r]
 .refine(I.hok b u e).stay (λc v F q=>k c v ?_ q) (λ_ q=>q) λ_ _ q=>q;rcases F with z | z
  .rw[z];exact J b u e
  .exact J c _ z
theorem Inv.tok(I:Inv X pins σ H s)(t:Nat):Inv X pins σ H {s with toks:=t}:=I.un (h':=s.heap) (t':=t) Un.refl I.hok
theorem Inv.kept(I:Inv X pins σ H s)(k:∀b u,s.heap.get? b=Sm u->h'.get? b=Sm u):Inv X pins σ H {s with heap:=h',toks:=t'}:=I.un (Un.kept k) (I.hok.kept k)
theorem Inv.laid(I:Inv X pins σ H s)(k:∀b u,s.heap.get? b=Sm u->h'.get? b=Sm u)(F:s.heap.objs.size<=a)(new:B3 X.prog X.w (upd H a o) h' a o) :
  Inv X pins σ (upd H a o) {s with heap:=h',toks:=t'}:=I.un (Un.laid k F (I.hok.fresh F)) (I.hok.laid k F new)
theorem Inv.write{x e:o_}(I:Inv X pins σ H s)(J:Az (H x))(O:e=x\/H e=Sm (.own x))(k:∀b u,b≠e->s.heap.get? b=Sm u->h'.get? b=Sm u)(F:∃u,h'.get? e=Sm u)
  (new:B3 X.prog X.w (upd H x o) h' x o):Inv X pins σ (upd H x o) {s with heap:=h',toks:=t'}:=I.un (Un.write J O k F) (I.hok.write J O k F new)
theorem Inv.weak{σ':List MK}(I:Inv X pins σ H s)(hl:σ'.length=σ.length)(w:∀(i:Nat) v,σ'[i]?=Sm (Sm v)->σ[i]?=Sm (Sm v)):Inv X pins σ' H s:=
 #[I.ok,I.os,I.bare,I.base,let ⟨m,hn,hl'⟩:=I.loc;#[m,hn,λi x v F J O=>hl' i x v F (w i v J) O],I.cell,I.free,I.freeC,I.pin,I.hok,hl.trans I.len]
theorem Inv.pins_of{F:List (o_×Obj)}(I:Inv X pins σ H s)(h:∀p∈F,s.heap.get? p.1=Sm p.2/\H p.1=Nn/\p.1≠X.env.locals/\p.1∉X.fs/\∀v,p.2.data ≠ .cell v):Inv X F σ H s:=
 #[I.ok,I.os,I.bare,I.base,I.loc,I.cell,I.free,I.freeC,λp J=>(LG.mp J).elim (λz=>I.pin p (IV _ z)) (h p),I.hok,I.len]
theorem uT{N:MA}(F:N.Nodup){j:Nat}(a:N[i]?=Sm x)(b:N[j]?=Sm x):i=j:=by
 let#[h1,J]:=Lq.mp a;let#[h2,O]:=Lq.mp b;exact(List.getElem_inj F).mp (J.trans O.symm)
theorem qw{M:Model}{Q:Unit->so->Prop}(I:Inv X pins σ H s)(hN:X.N.Nodup)(hi:X.N[i]?=Sm x)(hx:aI X.env.scope x)(r:RelV v u)
  (h:∀s',Inv X pins (σ.set i (Sm v)) H s'->(∃a,M5 a s.heap s'.heap/\(a=X.env.locals\/X.env.cells.lookup x=Sm a))->Q Unit.unit s') (hf:X.fn x=true\/X.env.scope.names.lookup x=Sm .local:=by first | exact .inl rfl | exact .inr rfl | assumption):I_ M A (storeName X.env x u) Q E s:=by
 let#[m,hn,hl]:=id I.loc;have ad:(X.env.scope.kind == .class||(X.env.scope.kind == .module&&X.env.locals != X.env.globals))=false:=by rw[I.ok.kind];rfl
 have ab : i<σ.length:=by rw[I.len];exact(Lq.mp hi).1
 have cne:=I.cne;have J:∀ {a:o_} {h':LY},(∃o,s.heap.get? a=Sm o/\H a=Nn)->M5 a s.heap h'->G3 X.prog X.w H h':=λ{a h'} ha F b ob e=>by
  let#[_,_,U]:=ha;refine(I.hok b ob e).stay (λc w' S q=>(F.2 c ?_).trans q) (λ_ q=>q) λ_ _ q=>q;rintro rfl;rcases S with rfl | S
  .rw[U]at e;cases e
  .rw[U]at S;cases S
 rcases hx with Y | Y
 .refine wpAny_storeName_local Y hn (λh' a3 F=>?_) ad;refine yE3 (id hn) λoL _ _=>yB2 λas _=>?_;refine h _ #[I.ok,I.os,I.bare,#[λb o e n hb hx=>?_,λb o e n hb hx=>?_,I.base.free,λb o e hx=>?_,I.base.tups,I.base.frzs,I.base.tbls],#[_,a3,λj y v' O W e3=>?_],λy c e=>?_,I.free,I.freeC,λp hp=>?_,J #[oL,as,I.free] F,by simpa using I.len] #[_,F,.inl rfl]
  .exact(F.2 b (yG (rN (vg e) I.ok.above))).trans (I.base.keep b o e n hb hx)
  .let#[sl,O]:=I.base.slot b o e n hb hx;exact#[sl,(F.2 b (yG (rN (vg e) I.ok.above))).trans O]
  .let#[o',O]:=I.base.there b o e hx;exact#[o',(F.2 b (yG (rN (vg e) I.ok.above))).trans O]
  .by_cases hj:j=i
   .subst hj;rw[hi]at O;cases O;rw[zbu ab]at W;cases W;exact#[u,r,.inl #[Y,'~']]
   .rw[zba (u6 hj)]at W;let#[u',r',q]:=hl j y v' O W e3;refine#[u',r',?_];rcases q with ⟨k,e⟩ | ⟨k,c,e,z⟩
    .refine .inl #[k,?_];have:y≠x:=λe=>hj (uT hN O (e ▸ hi));simp[this,e]
    .exact .inr #[k,c,e,z.sameBut F (cne y c e)]
  .let#[w',z]:=I.cell y c e;exact#[w',z.sameBut F (cne y c e)]
  .refine yA5 (I.pin p hp) λe n ne nf d=>?_;exact#[(F.2 p.1 ne).trans e,n,ne,nf,d]
 .have Z:X.fn x=true:=by
   rcases hf with z | z
   .exact z
   .rw[z]at Y;cases Y
  let#[c,S]:=I.ok.has x (.inl Y);let#[w',z]:=I.cell x c S;refine wpAny_storeName_cell I.ok.kind Y S z (λh' ac F=>?_);let#[oc,al,ag]:=id z;refine h {s with heap:=h'} #[I.ok,I.os,I.bare,#[λb o e n hb hx=>?_,λb o e n hb hx=>?_,I.base.free,λb o e hx=>?_,I.base.tups,I.base.frzs,I.base.tbls],#[m,hn.sameBut F (u6 (cne x c S)),λj y v' O W e3=>?_],λy c' e=>?_,I.free,I.freeC,λp hp=>?_,J #[oc,al,I.freeC x c S] F,by simpa using I.len] #[c,F,.inr S]
  .exact(F.2 b (yG (rN (vg e) (I.ok.cab x c Z S)))).trans (I.base.keep b o e n hb hx)
  .let#[sl,O]:=I.base.slot b o e n hb hx;exact#[sl,(F.2 b (yG (rN (vg e) (I.ok.cab x c Z S)))).trans O]
  .let#[o',O]:=I.base.there b o e hx;exact#[o',(F.2 b (yG (rN (vg e) (I.ok.cab x c Z S)))).trans O]
  .by_cases hj:j=i
   .subst hj;rw[hi]at O;cases O;rw[zbu ab]at W;cases W;exact#[u,r,.inr #[.inl Y,c,S,ac]]
   .rw[zba (u6 hj)]at W;let#[u',r',q]:=hl j y v' O W e3;refine#[u',r',?_];rcases q with q | ⟨k,c',e,z'⟩
    .exact .inl q
    .refine .inr #[k,c',e,z'.sameBut F ?_];rintro rfl;exact hj (uT hN O (I.ok.inj _ _ _ e S ▸ hi))
  .by_cases hcc:c'=c
   .subst hcc;exact#[_,ac]
   .let#[w2,z2]:=I.cell y c' e;exact#[w2,z2.sameBut F hcc]
  .refine yA5 (I.pin p hp) λe n ne nf d=>?_;refine#[(F.2 p.1 ?_).trans e,n,ne,nf,d];intro q;rw[q,al]at e;have q':oc=p.2:=Option.some.inj e;exact d w' (by rw[<-q'];exact ag)
theorem uo{M:Model}{Q:Unit->so->Prop}(I:Inv X pins σ H s)(J:X.N.Nodup)(hi:X.N[i]?=Sm x)(hx:aI X.env.scope x)(r:RelV v u)
  (h:∀s',Inv X pins (σ.set i (Sm v)) H s'->Q Unit.unit s') (hf:X.fn x=true\/X.env.scope.names.lookup x=Sm .local:=by first | exact .inl rfl | exact .inr rfl | assumption):I_ M A (storeName X.env x u) Q E s:=
 qw I J hi hx r (λs' F _=>h s' F) hf
theorem Inv.call'{s':so}{ch:MD}(I:Inv X pins σ H s)(J:s'.os=s.os)(u:Un (kq X.stack) ch H H' s.heap s'.heap)(hok:G3 X.prog X.w H' s'.heap)(hg:NG s'.gens)
  (F:∀b∈ch,(b∈X.ex\/X.s₀.heap.objs.size<=b)/\b≠X.env.locals/\(∀x c,X.env.cells.lookup x=Sm c->c≠b)/\∀p∈X.pn++pins,p.1≠b):Inv X pins σ H' s':=by
 let#[h',g',d',t',o']:=s';have e:o'=s.os:=J;subst e;exact I.call (g':=g') (t':=t') (d':=d') u hok hg F
end
abbrev XK:=B_->MN->Hp->Prop
abbrev St:=List MK
variable{σ:St}
abbrev VK:=V->Hp->Prop
abbrev TE:=St->Hp->VK->Prop
abbrev TT:=St->Hp->(Bool->Hp->Prop)->Prop
abbrev TA:=St->Hp->(MC->Hp->Prop)->Prop
set_option genInjectivity false in
set_option genSizeOf false in
structure eI where
 nx:St->Hp->Prop
 rt:VK
 bk:St->Hp->Prop:=λ_ _=>False
 ct:St->Hp->Prop:=λ_ _=>False
abbrev TS:=eI->St->Hp->Prop
def EP(X:Cx)(pins:List (o_×Obj))(σ : St)(Q:VK)(u:B_)(s':so):Prop:=∃v H',Inv X pins σ H' s'/\RelV v u/\Q v H'
def TP(X:Cx)(pins:List (o_×Obj))(σ : St)(Q:Bool->Hp->Prop)(b:Bool)(s':so):Prop:=∃H',Inv X pins σ H' s'/\Q b H'
def AP(X:Cx)(pins:List (o_×Obj))(σ : St)(Q:MC->Hp->Prop)(us:MF)(s':so):Prop:=∃vs H',Inv X pins σ H' s'/\A1 vs us/\Q vs H'
def SP(X:Cx)(pins:List (o_×Obj))(D:eI)(f:Flow)(s':so):Prop:=
 match f with
 | .next=>∃σ' H',Inv X pins σ' H' s'/\D.nx σ' H'
 | .brk=>∃σ' H',Inv X pins σ' H' s'/\D.bk σ' H'
 | .cont=>∃σ' H',Inv X pins σ' H' s'/\D.ct σ' H'
 | .ret u=>∃v σ' H',Inv X pins σ' H' s'/\RelV v u/\D.rt v H'
def PE(X:Cx)(e:Expr)(t:TE):Prop:=
 ∀(pins:List (o_×Obj)) (s:so) (σ : St) (H:Hp) (Q:VK),Inv X pins σ H s->t σ H Q->I_ (model X.prog X.w) X.A (eval e X.env) (EP X pins σ Q) X.xe s
def PT(X:Cx)(e:Expr)(t:TT):Prop:=
 ∀(pins:List (o_×Obj)) (s:so) (σ : St) (H:Hp) (Q:Bool->Hp->Prop),Inv X pins σ H s->t σ H Q->I_ (model X.prog X.w) X.A (isTrue e X.env (eval e X.env)) (TP X pins σ Q) X.xe s
def PW(X:Cx)(e:Expr)(t:TT):Prop:=
 ∀(whole:Sem B_) (pins:List (o_×Obj)) (s:so) (σ : St) (H:Hp) (Q:Bool->Hp->Prop),Inv X pins σ H s->t σ H Q->I_ (model X.prog X.w) X.A (isTrue e X.env whole) (TP X pins σ Q) X.xe s
theorem PW.pt{X:Cx}{t:TT}(h:PW X e t):PT X e t:=h _
def PA(X:Cx)(es:ML)(t:TA):Prop:=
 ∀(pos:Pos) (pins:List (o_×Obj)) (s:so) (σ : St) (H:Hp) (Q:MC->Hp->Prop),Inv X pins σ H s->t σ H Q->I_ (model X.prog X.w) X.A (spliced (backTo pos (Mj es X.env))) (AP X pins σ Q) X.xe s
def PS(X:Cx)(st:Ma)(t:TS):Prop:=
 ∀(pins:List (o_×Obj)) (s:so) (σ : St) (H:Hp) (D:eI),Inv X pins σ H s->t D σ H->I_ (model X.prog X.w) X.A (exec st X.env) (SP X pins D) X.xe s
def Iz(X:Cx)(st:List Ma)(t:TS):Prop:=
 ∀(pins:List (o_×Obj)) (s:so) (σ : St) (H:Hp) (D:eI),Inv X pins σ H s->t D σ H->I_ (model X.prog X.w) X.A (execs st X.env) (SP X pins D) X.xe s
theorem bA{α:Type}{t:Sem α}{Q F:α->so->Prop}{M:Model}(h:I_ M A t Q E s)(J:∀a s,Q a s->F a s):I_ M A t F E s:=Nb h J λ_ _ x=>x
section
variable{X:Cx}
def cZ(i:Nat):TE:=λσ H Q=>∃v,σ[i]?=Sm (Sm v)/\Q v H
def tC(v:V):TE:=λ_ H Q=>Q v H
theorem IT(Y:X.N[i]?=Sm x)(hv:ao X.env.scope x)(hd:(x==("__debug__" : Str))=false:=by decide) (hcd:(x==("__classdict__" : Str))=false:=by decide):PE X (.Name x pos) (cZ i):=by
 intro pins s σ H Q I h;let#[v,e,h]:=h;let#[m,U,hl]:=I.loc;let#[u,r,l]:=hl i x v Y e hv;have J:EP X pins σ Q u s:=yI2 v H #[I,r,h];rcases l with ⟨O,W⟩ | ⟨O,c,S,F⟩
 .exact wpAny_Name (wpAny_loadName_local I.ok.kind O U W J) hd
 .rcases O with O | O
  .exact wpAny_Name (wpAny_loadName_cell I.ok.kind O S F J) hd
  .exact wpAny_Name (wpAny_loadName_free I.ok.kind O S F J hcd) hd
theorem af{i j pos}:PE X (.Constant (.int i) j pos) (tC (.int i)):=λ_ _ _ H _ I h=>wpAny_Constant_int (yI2 (.int i) H #[I.tok _,#[_,rfl],h])
theorem fZ{b j pos}:PE X (.Constant (.bool b) j pos) (tC (.bl b)):=λ_ _ _ H _ I h=>Constant_bool (yI2 (.bl b) H #[I,rfl,h])
theorem dw{j pos}:PE X (.Constant .none j pos) (tC .non):=λ_ _ _ H _ I h=>Constant_none (yI2 .non H #[I,rfl,h])
theorem av{x j pos}:PE X (.Constant (.str x) j pos) (tC (.str x)):=λ_ _ _ H _ I h=>Calls.Constant_str (yI2 (.str x) H #[I.tok _,#[_,rfl],h])
def Gl(X:Cx)(x:Str):Prop:=X.env.kindOf x=Sm .globalImplicit
theorem vSs{s:Ma}(h:(L2.sg s).names.lookup x=Sm .local):ao (L2.sg s) x:=Or.inl h
theorem vLl{s:Ma}(h:(L2.sg s).names.lookup x=Sm .local):aI (L2.sg s) x:=Or.inl h
theorem vGg{s:Ma}(h:(L2.sg s).names.lookup x=Sm .globalImplicit):(L2.sg s).names.lookup x=Sm .globalImplicit:=h
theorem pe{pins:List (o_×Obj)}(I:Inv X pins σ H s)(hg:Gl X x)(F:X.mg x=Sm u)(h:Q u s)
  (hd:(x==("__debug__" : Str))=false:=by decide):I_ (model X.prog X.w) X.A (eval (.Name x pos) X.env) Q E s:=
 Calls.Name_function_global I.ok.kind hg (Calls.loadGlobal_global (by rw[I.ok.glob];exact I.mod.glob.keeps I.bk) F h) hd
theorem jI{pins:List (o_×Obj)}(I:Inv X pins σ H s)(hg:Gl X x)(J:X.mg x=Nn)(hv:MX x=Sm u)(h:Q u s)
  (F:x ≠ "__name__" := by decide) (hd:(x==("__debug__" : Str))=false:=by decide):I_ (model X.prog X.w) X.A (eval (.Name x pos) X.env) Q E s:=by
 let#[O,h1,h2]:=I.mod.blt;exact Calls.Name_function_global I.ok.kind hg (Calls.loadGlobal_builtin (by rw[I.ok.glob];exact I.mod.glob.keeps I.bk) J (by rw[I.ok.blt];exact h1.keeps I.bk) ((h2 x F).trans hv) h) hd
theorem F6(hg:Gl X x)(F:X.mg x=Sm u)(r:RelV v u)(hd:(x==("__debug__" : Str))=false:=by decide):PE X (.Name x pos) (tC v):=
 λ_ _ _ H _ I h=>pe I hg F (yI2 v H #[I,r,h]) hd
theorem Fz(hg:Gl X x)(J:X.mg x=Nn)(hv:MX x=Sm u)(r:RelV v u)(F:x ≠ "__name__" := by decide) (hd:(x==("__debug__" : Str))=false:=by decide):PE X (.Name x pos) (tC v):=
 λ_ _ _ H _ I h=>jI I hg J hv (yI2 v H #[I,r,h]) F hd
variable{a b:Expr}{ta tb:TE}{pos:Pos}
def tB(t:TE):TT:=λσ H Q=>t σ H λx H1=>∃c,x = .bl c/\Q c H1
theorem cN{t:TE}(h:PE X e t)(U:∀whole,isTrue e X.env whole=(do let v <-whole;standAt e.pos;holding [v] (truthy v)):=by intro _;rfl):PT X e (tB t):=by
 intro pins s σ H Q I S;refine isTrue_plain (bA (h pins s σ H _ I S) λv W ⟨x,H1,O,F,J⟩=>?_) (U _);let#[d,rfl,q]:=J;cases F;exact Oa #[H1,O,q]
variable{tA tB':TT}{BY:ML}
def CB(t u:TT):TT:=λσ H Q=>t σ H λc H1=>if c=true then u σ H1 Q else Q false H1
def G5(t u:TT):TT:=λσ H Q=>t σ H λc H1=>if c=true then Q true H1 else u σ H1 Q
def Jo(t:TT):TT:=λσ H Q=>t σ H λc H1=>Q (!c) H1
theorem cM(F:PT X a tA):PW X (.BoolOp .And [a] pos) tA:=by
 intro J pins s σ H Q I h;refine isTrue_and (bA (F pins s σ H Q I h) λc O e=>?_);cases c with
 | true=>exact isTrue_and_nil e
 | false=>exact e
theorem kT(F:PT X a tA):PW X (.BoolOp .Or [a] pos) tA:=by
 intro J pins s σ H Q I h;refine isTrue_or (bA (F pins s σ H Q I h) λc O e=>?_);cases c with
 | false=>exact isTrue_or_nil e
 | true=>exact e
theorem cr(U:PT X a tA)(W:PW X (.BoolOp .And (b::BY) pos) tB'):PW X (.BoolOp .And (a::b::BY) pos) (CB tA tB'):=by
 intro S pins s σ H Q I h;refine isTrue_and (bA (U pins s σ H _ I h) λc O ⟨H1,J,F⟩=>?_);cases c with
 | true=>exact W S pins O σ H1 Q J F
 | false=>exact#[H1,J,F]
theorem nD(U:PT X a tA)(W:PW X (.BoolOp .Or (b::BY) pos) tB'):PW X (.BoolOp .Or (a::b::BY) pos) (G5 tA tB'):=by
 intro S pins s σ H Q I h;refine isTrue_or (bA (U pins s σ H _ I h) λc O ⟨H1,J,F⟩=>?_);cases c with
 | true=>exact#[H1,J,F]
 | false=>exact W S pins O σ H1 Q J F
theorem jC(F:PT X a tA):PT X (.UnaryOp .Not a pos) (Jo tA):=by
 intro pins s σ H Q I h;exact isTrue_not (F pins s σ H (λc H1=>Q (!c) H1) I h)
def yL(ta tb:TE):TE:=λσ H Q=>ta σ H λx H1=>∃c,x = .bl c/\if c=true then tb σ H1 Q else Q (.bl false) H1
theorem vb{op}{t:TE}(h:PE X a t):PE X (.BoolOp op [a] pos) t:=λpins s σ H Q I F=>BoolOp_one (h pins s σ H Q I F)
theorem mW(U:PE X a ta)(W:PE X (.BoolOp .And (b::BY) pos) tb):PE X (.BoolOp .And (a::b::BY) pos) (yL ta tb):=by
 intro pins s σ H Q I h;refine BoolOp_and (bA (U pins s σ H _ I h) λv S ⟨x,H1,J,O,F⟩=>?_);let#[c,rfl,F]:=F;cases O;refine Oa ?_;cases c with
 | true=>exact W pins S σ H1 Q J F
 | false=>exact yI2 (.bl false) H1 #[J,rfl,F]
def Ij(t:TT)(ta tb:TE):TE:=λσ H Q=>t σ H λc H1=>if c=true then ta σ H1 Q else tb σ H1 Q
theorem fk{c:Expr}(S:PT X c tA)(U:PE X a ta)(W:PE X b tb):PE X (.IfExp c a b pos) (Ij tA ta tb):=by
 intro pins s σ H Q I h;refine wpAny_IfExp (bA (S pins s σ H _ I h) λd O ⟨H1,J,F⟩=>?_);cases d with
 | true=>exact U pins O σ H1 Q J F
 | false=>exact W pins O σ H1 Q J F
end
def ud(K:KE)(H:Hp)(a:o_)(xs:MC):Prop:=
 Rd H a (.lst xs)\/
  ∃(o:Obj) (its:MM) (n:Nat),K.lookup a=Sm o/\o.cls = .type "list" /\ o.dict=Nn/\o.data = .seq its n/\its.size<=L9/\A1 xs its.toList
def uc(K:KE)(H:Hp)(a:o_)(xs:MC):Prop:=
 Rd H a (.tup xs)\/
  ∃(o:Obj) (its:MM) (n:Nat),K.lookup a=Sm o/\o.cls = .type "tuple" /\ o.data = .seq its n/\its.size<=L9/\A1 xs its.toList
noncomputable def Nt:B_->MK
 | .none=>Sm .non
 | .bool b=>Sm (.bl b)
 | .int i _=>Sm (.int i)
 | .str x _=>Sm (.str x)
 | .bytes b _=>Sm (.byt b)
 | .float b _=>Sm (.flt b)
 | .ref a=>Sm (.ref a)
 | .type n=>Sm (.ty n)
 | _=>Nn
theorem RelV.abs{x:V}{u:B_}(r:RelV x u):Nt u=Sm x:=by
 cases x with
 | non=>cases r;rfl
 | bl _=>cases r;rfl
 | int _=>let#[t,rfl]:=r;rfl
 | str _=>let#[t,rfl]:=r;rfl
 | byt _=>let#[t,rfl]:=r;rfl
 | flt _=>let#[t,rfl]:=r;rfl
 | ref _=>cases r;rfl
 | ty _=>cases r;rfl
theorem RelV.inj{x y:V}(r:RelV x u)(q:RelV y u):x=y:=Option.some.inj (r.abs.symm.trans q.abs)
theorem A1.inj{xs ys:MC}{F:MF}(h:A1 xs F)(h':A1 ys F):xs=ys:=by
 induction h generalizing ys with
 | nil=>cases h';rfl
 | cons r t ih=>
  cases h' with
  | cons r' t'=>rw[r.inj r',ih t']
section
variable{X:Cx}{pins:List (o_×Obj)}{σ:St}{H:Hp}{s:so}{a:o_}{xs ys:MC}
theorem ud.of(h:H a=Sm (.lst xs)):ud K H a xs:=.inl (.inl h)
theorem uc.of(h:H a=Sm (.tup xs)):uc K H a xs:=.inl (.inl h)
theorem Inv.list(I:Inv X pins σ H s)(h:ud X.K H a xs):∃F:MF,A1 xs F/\PlainL s.heap a F.toArray/\xs.length<=L9:=by
 rcases h with h | ⟨o,F,n,J,O,hd,S,hz,r⟩
 .refine yA2 (h.ok I.hok) λz=>yF2 λF n=>yB2 λr e=>?_;exact#[F,r,yI2 _ n #[e,rfl,rfl,rfl],z]
 .refine#[F.toList,r,yI2 o n #[I.kIn a o J,O,hd,by simpa using S],?_];have e:=r.length;simp only[og]at e;lia
theorem Inv.tuple(I:Inv X pins σ H s)(h:uc X.K H a xs):∃F:MF,A1 xs F/\IsTup s.heap a F.toArray/\xs.length<=L9:=by
 rcases h with h | ⟨o,F,n,J,S,O,hz,r⟩
 .refine yA2 (h.ok I.hok) λz=>yF1 λF=>yB2 λr p=>?_;exact#[F,r,p.tup,z]
 .refine#[F.toList,r,#[o,I.kIn a o J,S,n,by simpa using O],?_];have e:=r.length;simp only[og]at e;lia
theorem Inv.list_inj(I:Inv X pins σ H s)(h:ud X.K H a xs)(h':ud X.K H a ys):xs=ys:=by
 refine yE1 (I.list h) λF=>yB3 ?_;rintro r ⟨o,n,e,_,_,d⟩ _;refine yE1 (I.list h') λits'=>yB3 ?_;rintro O ⟨o',n',J,_,_,d'⟩ _;rw[e]at J;cases J;rw[d]at d';injection d' with d1 _
 have:F=its':=by simpa using congrArg Array.toList d1
 subst this;exact r.inj O
theorem Inv.tuple_inj(I:Inv X pins σ H s)(h:uc X.K H a xs)(h':uc X.K H a ys):xs=ys:=by
 refine yE1 (I.tuple h) λF=>yB3 ?_;rintro r ⟨o,e,_,n,d⟩ _;refine yE1 (I.tuple h') λits'=>yB3 ?_;rintro O ⟨o',J,_,n',d'⟩ _;rw[e]at J;cases J;rw[d]at d';injection d' with d1 _
 have:F=its':=by simpa using congrArg Array.toList d1
 subst this;exact r.inj O
end
noncomputable abbrev Cx.wish (X:Cx) (E:LZ):Cx:={X with xe:=E}
noncomputable abbrev Cx.nox (X:Cx):Cx:=X.wish λ_ _=>False
theorem Cx.Ok.wish{X:Cx}(ok:X.Ok)(E:LZ):(X.wish E).Ok:=
 #[ok.mod,ok.kind,ok.glob,ok.blt,ok.above,ok.inj,ok.has,ok.cab,ok.hd,ok.frames,ok.stk,ok.exf,ok.bs,ok.bsz,ok.noex,ok.exfs,ok.funs,ok.frf]
theorem Cx.Ok.unwish{X:Cx}(ok:(X.wish E).Ok):X.Ok:=
 #[ok.mod,ok.kind,ok.glob,ok.blt,ok.above,ok.inj,ok.has,ok.cab,ok.hd,ok.frames,ok.stk,ok.exf,ok.bs,ok.bsz,ok.noex,ok.exfs,ok.funs,ok.frf]
section
variable{X:Cx}{pins:List (o_×Obj)}{σ:St}{H:Hp}{s:so}{E:LZ}
theorem Inv.wish(I:Inv X pins σ H s)(E:LZ):Inv (X.wish E) pins σ H s:=#[I.ok.wish E,I.os,I.bare,I.base,I.loc,I.cell,I.free,I.freeC,I.pin,I.hok,I.len]
theorem Inv.unwish(I:Inv (X.wish E) pins σ H s):Inv X pins σ H s:=#[I.ok.unwish,I.os,I.bare,I.base,I.loc,I.cell,I.free,I.freeC,I.pin,I.hok,I.len]
theorem SP.unwish{D:eI}{f:Flow}{s':so}(h:SP (X.wish E) pins D f s'):SP X pins D f s':=by
 cases f with
 | next=>revert h;refine yF2 λF H'=>yB2 λI q=>?_;exact yI2 F H' #[I.unwish,q]
 | brk=>revert h;refine yF2 λF H'=>yB2 λI q=>?_;exact yI2 F H' #[I.unwish,q]
 | cont=>revert h;refine yF2 λF H'=>yB2 λI q=>?_;exact yI2 F H' #[I.unwish,q]
 | ret u=>revert h;refine yF3 λv F H'=>yB3 λI r q=>?_;exact yI3 v F H' #[I.unwish,r,q]
theorem Iz.nox{st:List Ma}{t:TS}(h:Iz X.nox st t):Iz X st t:=λpins s σ H D I F=>
 Nb (h pins s σ H D (I.wish _) F) (λ_ _ q=>q.unwish) λ_ _ z=>False.elim z
end
section
variable{X:Cx}{st:Ma}{BY:List Ma}{t u:TS}{e:Expr}{te:TE}{pos:Pos}
def qW:TS:=λD σ H=>D.nx σ H
def oF(t u:TS):TS:=λD σ H=>t {D with nx:=u D} σ H
theorem aN:Iz X [] qW:=λ_ _ σ H _ I h=>Oy (yI2 σ H #[I,h])
theorem ah(h1:PS X st t)(h2:Iz X BY u):Iz X (st::BY) (oF t u):=by
 intro pins s σ H D I h;refine wpAny_execs_cons (bA (h1 pins s σ H {D with nx:=u D} I h) λf O q=>?_);cases f with
 | next=>
  revert q;refine yF2 λF H'=>yB2 λJ q=>?_;exact h2 pins O F H' D J q
 | ret v=>exact q
 | brk=>exact q
 | cont=>exact q
theorem aj(h1:PS X st t):Iz X [st] t:=by
 intro pins s σ H D I h;refine wpAny_execs_cons (bA (h1 pins s σ H D I h) λf F q=>?_);cases f with
 | next=>exact Oy q
 | ret v=>exact q
 | brk=>exact q
 | cont=>exact q
theorem Inv.quiet{pins:List (o_×Obj)}(I:Inv X pins σ H s):interactive X.env=false:=by simp[interactive,I.ok.kind]
def EN(te:TE):TS:=λD σ H=>te σ H λ_ H1=>D.nx σ H1
theorem bm(O:PE X e te)(S:swapsWith e Nn pos.line X.env=pure false:=by rfl):PS X (.Expr e pos) (EN te):=by
 intro pins s σ H D I h;exact wpAny_Expr_any (bA (O pins s σ H _ I h) λv W ⟨x,H1,J,U,F⟩=>yI2 σ H1 #[J,F]) I.quiet S
def lf(te:TE):TS:=λD σ H=>te σ H D.rt
theorem az(S:PE X e te):PS X (.Return (Sm e) pos) (lf te):=by
 intro pins s σ H D I h;exact wpAny_Return_some (bA (S pins s σ H _ I h) λv U ⟨x,H1,O,F,J⟩=>yI3 x σ H1 #[O,F,J])
def yt(c:TT)(t u:TS):TS:=λD σ H=>c σ H λb H1=>if b=true then t D σ H1 else u D σ H1
theorem aY{c:Expr}{a b:List Ma}{tc:TT}(S:PT X c tc)(U:Iz X a t)(W:Iz X b u):PS X (.If c a b pos) (yt tc t u):=by
 intro pins s σ H D I h;refine wpAny_If (bA (S pins s σ H _ I h) λd O ⟨H1,J,F⟩=>?_);cases d with
 | true=>exact U pins O σ H1 D J F
 | false=>exact W pins O σ H1 D J F
end
abbrev TG:=V->St->Hp->(St->Hp->Prop)->Prop
abbrev gP:=MC->St->Hp->(St->Hp->Prop)->Prop
def PG(X:Cx)(target:Expr)(t:TG):Prop:=
 ∀(pins:List (o_×Obj)) (s:so) (σ : St) (H:Hp) (v:V) (u:B_) (Q:St->Hp->Prop),Inv X pins σ H s->RelV v u->t v σ H Q->
  I_ (model X.prog X.w) X.A (assign target X.env u) (λ_ s'=>∃σ' H',Inv X pins σ' H' s'/\Q σ' H') X.xe s
def Lj(X:Cx)(ts:ML)(t:gP):Prop:=
 ∀(pins:List (o_×Obj)) (s:so) (σ : St) (H:Hp) (vs:MC) (us:MF) (Q:St->Hp->Prop),Inv X pins σ H s->A1 vs us->t vs σ H Q->
  I_ (model X.prog X.w) X.A (assignInOrder ((assignEach ts X.env).map (·.2)) us) (λ_ s'=>∃σ' H',Inv X pins σ' H' s'/\Q σ' H') X.xe s
abbrev oP:=V->V->V->Hp->(Hp->Prop)->Prop
def IP(X:Cx)(t:oP):Prop:=
 ∀(pins:List (o_×Obj)) (s:so) (σ : St) (H:Hp) (o i v:V) (ov iv u:B_) (Q:Hp->Prop),Inv X pins σ H s->RelV o ov->RelV i iv->RelV v u->t o i v H Q->
  I_ (model X.prog X.w) X.A (setItem ov iv u) (λ_ s'=>∃H',Inv X pins σ H' s'/\Q H') X.xe s
section
variable{X:Cx}{pos:Pos}
def gK(i:Nat):TG:=λv σ H Q=>Q (σ.set i (Sm v)) H
theorem E1(J:X.N.Nodup)(hi:X.N[i]?=Sm x)(hx:aI X.env.scope x)(hf:X.fn x=true\/X.env.scope.names.lookup x=Sm .local:=by first | exact .inl rfl | exact .inr rfl | assumption):PG X (.Name x pos) (gK i):=by
 intro pins s σ H v u Q I r h;exact wpAny_assign_Name (uo I J hi hx r (λs' F=>yI2 _ H #[F,h]) hf)
def yi:gP:=λvs σ H Q=>vs=[]/\Q σ H
def qX(t:TG)(u:gP):gP:=λvs σ H Q=>∃v r,vs=v::r/\t v σ H λσ' H'=>u r σ' H' Q
theorem iJ:Lj X [] yi:=by
 intro pins s σ H vs F Q I r h;let#[e,h]:=h;subst e;cases r;exact assignInOrder_nil (yI2 σ H #[I,h])
theorem cW{e:Expr}{es:ML}{t:TG}{u:gP}(h1:PG X e t)(h2:Lj X es u)
  (W:(assignEach (e::es) X.env).map (·.2)=assign e X.env::(assignEach es X.env).map (·.2):=by rfl):Lj X (e::es) (qX t u):=by
 intro pins s σ H vs Z Q I r h;revert h;refine yF2 λv Y=>yB2 λS h=>?_;subst S;cases r with
 | cons r rr=>
  rw[W];refine assignInOrder_cons (bA (h1 pins s σ H _ _ _ I r h) λ_ U ⟨O,H1,J,F⟩=>?_);exact h2 pins U O H1 _ _ Q J rr F
def yk(K:KE)(n:Nat)(t:gP):TG:=λv σ H Q=>∃a xs,v = .ref a/\uc K H a xs/\xs.length=n/\t xs σ H Q
theorem JU{es:ML}{k:Nat}{t:gP}{n:Nat}(U:X.calm=true)(h:Lj X es t)
  (S:(assignEach es X.env).length=n:=by rfl) (hst:(assignEach es X.env).findIdx? (·.1)=Nn:=by rfl):PG X (.Tuple es k pos) (yk X.K n t):=by
 intro pins s σ H v u Q I r F;revert F;refine yF2 λa xs=>yB4 λZ O hl F=>?_;subst Z;cases r;refine yE1 (I.tuple O) λW=>yB3 λJ ht hz=>?_;refine assign_Tuple_tuple (I.ok.hd U) ht (by simp[S,<-hl,J.length]) hst λh' hx=>?_;have Y:Inv X pins σ H {s with heap:=h'}:=I.kept (t':=s.toks) λb o e=>hx b o (yG (vg e)) e;exact h pins _ σ H xs _ Q Y (by simpa using J) F
def Iw(to ti:TE)(t:oP):TG:=λv σ H Q=>to σ H λo H1=>ti σ H1 λi H2=>t o i v H2 λH3=>Q σ H3
theorem nV{o i:Expr}{to ti:TE}{t:oP}(ho:PE X o to)(hi:PE X i ti)(hs:IP X t)
  (ha:∀v,assign (.Subscript o i pos) X.env v=(do
   let F <-holding [v] (eval o X.env);let J <-holding [v,F] (eval i X.env)
   standAt pos
   holding [v,F,J] (setItem F J v)
   release [v,F,J] []):=by intro _;rfl):PG X (.Subscript o i pos) (Iw to ti t):=by
 intro pins s σ H v u Q I r h;rw[ha];refine Lo (My (bA (ho pins s σ H _ I h) λF s1 ⟨x,H1,W,O,U⟩=>?_));refine Lo (My (bA (hi pins s1 σ H1 _ W U) λJ s2 ⟨y,H2,Z,r2,S⟩=>?_));refine Lo (wpAny_standAt (Lo (My (bA (hs pins s2 σ H2 x y v F J u _ Z O r2 r S) λ_ s3 ⟨H3,Y,q3⟩=>?_))));exact wpAny_release (yI2 σ H3 #[Y,q3])
def oC(te:TE)(g:TG):TS:=λD σ H=>te σ H λx H1=>g x σ H1 D.nx
theorem k7{te:TE}{g:TG}(S:PE X e te)(hg:PG X tg g)(W:swapsWithSole [tg] e pos.line X.env=pure false:=by rfl)(hw:swappedStores [tg] e X.env=pure Nn:=by rfl)
  (h1:(assignEach [tg] X.env).map (·.2)=[assign tg X.env]:=by rfl):PS X (.Assign [tg] e pos) (oC te g):=by
 intro pins s σ H D I h;refine wpAny_Assign_stores (bA (S pins s σ H _ I h) λv U ⟨x,H1,O,F,J⟩=>?_) W hw;rw[h1];exact bA (hg pins U σ H1 x v _ O F J) λ_ s2 q=>q
theorem GM{te:TE}{pos':Pos}(W:X.N.Nodup)(hi:X.N[i]?=Sm x)(hx:aI X.env.scope x)(U:PE X e te)(Y:swapsWith e (Sm (.Name x pos')) pos.line X.env=pure false:=by rfl)(hf:X.fn x=true\/X.env.scope.names.lookup x=Sm .local:=by first | exact .inl rfl | exact .inr rfl | assumption) :
  PS X (.Assign [.Name x pos'] e pos) (oC te (gK i)):=by
 intro pins s σ H D I h;refine wpAny_Assign_Name (bA (U pins s σ H _ I h) λv Z ⟨y,H1,O,F,J⟩=>?_) Y;exact uo O W hi hx F (λs2 S=>yI2 _ H1 #[S,J]) hf
end
section
variable{X:Cx}{pos:Pos}
def Hf(c:TT)(tb:TS):TS:=λD σ H=>∃W:Nat->St->Hp->Prop,(∃m,W m σ H)/\∀m σ H,W m σ H->
 c σ H λb H1=>if b=true then ∃N:St->Hp->Prop,(∀σ' H',N σ' H'->∃m',m'<m/\W m' σ' H')/\tb {D with nx:=N,ct:=N,bk:=D.nx} σ H1 else D.nx σ H1
theorem uB{c:Expr}{F:List Ma}{tc:TT}{tb:TS}(hp:PassesOwn (model X.prog X.w) X.A X.env X.xe)(hc:PT X c tc)(hb:Iz X F tb):PS X (.While c F [] pos) (Hf tc tb):=by
 intro pins s σ H D I h;let#[W,#[m0,w0],J]:=h;refine wpAny_While (codeAny_whileLoop (λn s'=>∃σ' H',Inv X pins σ' H' s'/\W n σ' H') ?_ m0 (yI2 σ H #[I,w0]));intro n s1;refine yF2 λY H1=>yB2 λI1 w1=>?_;refine N2 hp (bA (hc pins s1 Y H1 _ I1 (J n Y H1 w1)) λb s2 ⟨H2,I2,Z⟩=>?_);cases b with
 | true=>
  let#[N,hN,Z]:=Z;rw[Lz rfl];refine N2 hp (bA (hb pins s2 Y H2 _ I2 Z) λf s3 U=>?_);cases f with
  | next=>
   revert U;refine yF2 λO S=>yB2 λI3 n3=>?_;let#[m',hm,w3]:=hN O S n3;exact#[m',hm,yI2 O S #[I3,w3]]
  | cont=>
   revert U;refine yF2 λO S=>yB2 λI3 n3=>?_;let#[m',hm,w3]:=hN O S n3;exact#[m',hm,yI2 O S #[I3,w3]]
  | brk=>exact U
  | ret v=>exact U
 | false=>
  rw[Lu xV];exact Oy (yI2 Y H2 #[I2,Z])
end
set_option genInjectivity false in
set_option genSizeOf false in
structure It where
 go:Nat->Hp->Prop
 yld:Nat->Hp->V->Hp->Prop
 stop:Nat->Hp->Prop
def iR(X:Cx)(pins:List (o_×Obj))(H:Hp)(b:o_):Prop:=
 H b=Nn/\b≠X.env.locals/\b∉X.fs/\(b∈X.ex\/X.s₀.heap.objs.size<=b)/\(∀x c,X.env.cells.lookup x=Sm c->c≠b)/\∀p∈X.pn++pins,p.1≠b
theorem Inv.fpOk{X:Cx}{pins:List (o_×Obj)}{H':Hp}(I:Inv X pins σ H s)(F:s.heap.objs.size<=b)(O:H' b=Nn):iR X pins H' b:=by
 refine#[O,JX (rN I.lt F),I.nofs F,.inr (mn I.sz F),λx c e z=>?_,λp J z=>?_]
 .let#[v,q]:=I.cell x c e;exact absurd (rN q.lt (by rw[z];exact F)) (Lc _)
 .exact absurd (rN (vg (I.pin p J).1) (by rw[z];exact F)) (Lc _)
structure mH (P:L_) (w:K_) (K:KE) (tg:Expr) (J:It) (fp:MD) (it:o_) (tn:Nat->LY->Prop):Prop where
 mem:it∈fp
 obj:∀i h,tn i h->∀b∈fp,∃o,h.get? b=Sm o/\∀v,o.data ≠ .cell v
 keep:∀i h h',tn i h->(∀b∈fp,∀o,h.get? b=Sm o->h'.get? b=Sm o)->tn i h'
 item:∀(X:Cx),X.prog=P->X.w=w->X.K=K->X.calm=true->∀(i:Nat) (pins:List (o_×Obj)) (s:so) (σ : St) (H:Hp) (E:LZ),Inv X pins σ H s->(∀b∈fp,iR X pins H b)->tn i s.heap->J.go i H->
  I_ (model P w) X.A (pyNext (.ref it)) (λr s1=>∃u,r=Sm u/\
   I_ (model P w) X.A (letOwnedTupleGo tg (.ref it) u) (λ_ s2=>∃x H',Inv X pins σ H' s2/\RelV x u/\J.yld i H x H'/\tn (i+1) s2.heap/\∀b∈fp,H' b=Nn) E s1) E s
 done:∀(X:Cx),X.prog=P->X.w=w->X.K=K->X.calm=true->∀(i:Nat) (pins:List (o_×Obj)) (s:so) (σ : St) (H:Hp) (E:LZ),Inv X pins σ H s->(∀b∈fp,iR X pins H b)->tn i s.heap->J.stop i H->
  I_ (model P w) X.A (pyNext (.ref it)) (λr s1=>r=Nn/\Inv X pins σ H s1) E s
 self:∀(A:Me) (i:Nat) (s:so) (Q:LZ) (E:LZ),tn i s.heap->Q (.ref it) s->I_ (model P w) A (pyIter (.ref it)) Q E s
abbrev TI:=St->Hp->(It->Hp->Prop)->Prop
def KO(X:Cx)(pins:List (o_×Obj))(σ : St)(tg:Expr)(R:It->Hp->Prop)(itv:B_)(s2:so):Prop:=
 ∃(it:o_) (fp:MD) (tn:Nat->LY->Prop) (J:It) (H':Hp),itv = .ref it/\Inv X pins σ H' s2/\mH X.prog X.w X.K tg J fp it tn/\tn 0 s2.heap/\(∀b∈fp,iR X pins H' b)/\R J H'
def PI(X:Cx)(tg iter:Expr)(wi:TI):Prop:=
 ∀(pins:List (o_×Obj)) (s:so) (σ : St) (H:Hp) (R:It->Hp->Prop),Inv X pins σ H s->wi σ H R->
  I_ (model X.prog X.w) X.A (eval iter X.env) (λv s1=>I_ (model X.prog X.w) X.A (pyIter v) (KO X pins σ tg R) X.xe s1) X.xe s
theorem yW{M:Model}{A:Me}{E:LZ}{s:so}{tg:Expr}{it:o_}{u:B_}{o:Obj}{n:String}{vs:MM}{Q:Unit->so->Prop}(O:s.heap.get? it=Sm o)(S:o.cls = .type n)(hd:o.data = .fields vs)
    (J:["enumerate","zip","dict_itemiterator","dict_reverseitemiterator","odict_iterator","itertools.zip_longest","itertools.pairwise"].contains n=false) (F:Q Unit.unit s):I_ M A (letOwnedTupleGo tg (.ref it) u) Q E s:=by
  unfold letOwnedTupleGo;cases tg<;>first
    | exact Lp F
    | (cases u<;>first
        | exact Lp F
        | (refine Lo (wpAny_load O ?_)
           rw[S,hd];show I_ M A (if (["enumerate","zip","dict_itemiterator","dict_reverseitemiterator","odict_iterator","itertools.zip_longest","itertools.pairwise"].contains n&&vs[0]? == Sm (rawInt _))=true then _ else _) Q E s;rw[Lu (by intro h;rw[J,Bool.false_and]at h;cases h)];exact Lp F))
def md(K:KE)(a:o_):It:=
 #[λi H=>∃xs x,ud K H a xs/\xs[i]?=Sm x,λi H x H'=>H'=H/\∀xs,ud K H a xs->xs[i]?=Sm x,λi H=>∃xs,ud K H a xs/\xs.length<=i]
def vK(K:KE)(a:o_):It:=
 #[λi H=>∃xs x,uc K H a xs/\xs[i]?=Sm x,λi H x H'=>H'=H/\∀xs,uc K H a xs->xs[i]?=Sm x,λi H=>∃xs,uc K H a xs/\xs.length<=i]
def ng(lo:Int)(n:Nat):It:=#[λi _=>i<n,λi H x H'=>H'=H/\x = .int (lo+i),λi _=>n<=i]
theorem AD{P:L_}(a it:o_):mH P w K tg (md K a) [it] it (λi h=>h.IsListIter it a i) where
 mem:='~'
 obj:=λi h st b F=>by
  have e:b=it:=by simpa using F
  subst e;revert st;refine yF1 λo=>yB3 λe c d=>?_;exact#[o,e,λv z=>by rw[d]at z;cases z]
 keep:=λi h h' st k=>st.at λo e=>k it '~' o e
 item:=by
  intro X hP hw hK hc i pins s σ H E I hf st hg;subst hP hw hK;revert hg;refine yF2 λxs x=>yB2 λO hx=>?_;refine yE1 (I.list O) λS=>yB3 λY p hz=>?_;let#[u,hu,ru]:=Y.get hx;refine yA6 (hf it '~') λf0 f1 f2 f3 Z U=>?_;refine wpAny_pyNext_list_item st p.isList (x:=u) (by simpa using hu) λh' J sb=>?_;have I1:Inv X pins σ H {s with heap:=h'}:=I.turned (t':=s.toks) (λb o F e=>(sb.2 b F).trans e) f0 f1 f3 Z U;refine yE1 (id J) λo=>yB3 λe c d=>?_;exact#[u,rfl,yW (s:={s with heap:=h'}) e c d ∅ (yI2 x H #[I1,ru,#[rfl,λys hy=>by rw[I.list_inj hy O];exact hx],J,λb F=>(hf b F).1])]
 done:=by
  intro X hP hw hK hc i pins s σ H E I hf st hg;subst hP hw hK;let#[xs,O,hx]:=hg;refine yE1 (I.list O) λS=>yB3 λY p hz=>?_;refine yA6 (hf it '~') λf0 f1 f2 f3 Z U=>?_;have hl:=Y.length;exact wpAny_pyNext_list_end (I.ok.hd hc) st p.isList (by simp;lia) λh' eb=>#[rfl,I.turned (t':=s.toks) (λb o F e=>eb b o F e) f0 f1 f3 Z U]
 self:=λ_ _ _ _ _ st h=>wpAny_pyIter_listiter st h
theorem yv{P:L_}(a it:o_):mH P w K tg (vK K a) [it] it (λi h=>h.IsTupleIter it a i) where
 mem:='~'
 obj:=λi h st b J=>by
  have e:b=it:=by simpa using J
  subst e;revert st;refine yF1 λo=>yB3 λe c d=>?_;exact#[o,e,λv z=>by rw[d]at z;cases z]
 keep:=λi h h' st k=>st.at λo e=>k it '~' o e
 item:=by
  intro X hP hw hK hc i pins s σ H E I hf st hg;subst hP hw hK;revert hg;refine yF2 λxs x=>yB2 λS hx=>?_;refine yE1 (I.tuple S) λF=>yB3 λY p hz=>?_;let#[u,hu,ru]:=Y.get hx;refine yA6 (hf it '~') λf0 f1 f2 f3 Z U=>?_;refine wpAny_pyNext_tuple_item st (show s.heap.IsTuple a F.toArray from p) (x:=u) (by simpa using hu) λh' O sb=>?_;have I1:Inv X pins σ H {s with heap:=h'}:=I.turned (t':=s.toks) (λb o J e=>(sb.2 b J).trans e) f0 f1 f3 Z U;refine yE1 (id O) λo=>yB3 λe c d=>?_;exact#[u,rfl,yW (s:={s with heap:=h'}) e c d ∅ (yI2 x H #[I1,ru,#[rfl,λys hy=>by rw[I.tuple_inj hy S];exact hx],O,λb J=>(hf b J).1])]
 done:=by
  intro X hP hw hK hc i pins s σ H E I hf st hg;subst hP hw hK;let#[xs,S,hx]:=hg;refine yE1 (I.tuple S) λF=>yB3 λY p hz=>?_;refine yA6 (hf it '~') λf0 f1 f2 f3 Z U=>?_;have hl:=Y.length;exact wpAny_pyNext_tuple_end (I.ok.hd hc) st (show s.heap.IsTuple a F.toArray from p) (by simp;lia) λh' eb=>#[rfl,I.turned (t':=s.toks) (λb o J e=>eb b o J e) f0 f1 f3 Z U]
 self:=λ_ _ _ _ _ st h=>wpAny_pyIter_tupleiter st h
theorem xv{P:L_}{K:PySem.W.Frag}(it:o_)(lo:Int)(n:Nat):mH P w K tg (ng lo n) [it] it (λi h=>IsRangeIter h it (lo+(i:Nat)*1) ((n:Int)-(i:Nat)) 1) where
 mem:='~'
 obj:=λi h st b F=>by
  have e:b=it:=by simpa using F
  subst e;exact⟨_,st,λv z=>by
   have z':Data.fields _=Data.cell v:=z;cases z'⟩
 keep:=λi h h' st k=>k it '~' _ st
 item:=by
  intro X hP hw Z S i pins s σ H E I hf st hg;subst hP hw Z;refine yA6 (hf it '~') λY f1 f2 U f4 O=>?_;have W:=Walks.range (prog:=X.prog) (w:=X.w) (I.ok.hd S) it lo 1 n;refine W.item i s _ _ hg st λv h' tk hv J kk=>?_;let#[t,rfl]:=hv;have I1:Inv X pins σ H {s with heap:=h',toks:=tk}:=I.turned (λb o F e=>kk b o (by simpa using F) e) Y f1 U f4 O;refine#[_,rfl,yW (s:={s with heap:=h',toks:=tk}) (n := "range_iterator") J rfl rfl ∅ (yI2 (.int (lo+i)) H #[I1,#[t,?_],#[rfl,rfl],J,λb F=>(hf b F).1])];rw[Int.mul_one]
 done:=by
  intro X hP hw Z S i pins s σ H E I hf st hg;subst hP hw Z;refine yA6 (hf it '~') λY f1 f2 U f4 O=>?_;exact wpAny_pyNext_range_end (I.ok.hd S) st (by have:n<=i:=hg;lia) λh' eb=>#[rfl,I.turned (t':=s.toks) (λb o F e=>eb b o F e) Y f1 U f4 O]
 self:=λ_ _ _ _ _ st h=>wpAny_pyIter_rangeiter st h
section
variable{X:Cx}{tg:Expr}
def nu(K:KE)(tl:TE):TI:=λσ H R=>tl σ H λx H1=>∃a,x = .ref a/\(∃xs,ud K H1 a xs)/\R (md K a) H1
def CY(K:KE)(tl:TE):TI:=λσ H R=>tl σ H λx H1=>∃a,x = .ref a/\(∃xs,uc K H1 a xs)/\R (vK K a) H1
theorem Fx{l:Expr}{tl:TE}(hl:PE X l tl):PI X tg l (nu X.K tl):=by
 intro pins s σ H R I h;refine bA (hl pins s σ H _ I h) λv J ⟨x,H1,F,O,U⟩=>?_;revert U;refine yF1 λa=>yB3 ?_;rintro e ⟨xs,S⟩ q;subst e;cases O;refine yE1 (F.list S) λW=>yB3 λZ p hz=>?_;refine Oz p.isList ?_;refine yI5 J.heap.objs.size ([J.heap.objs.size]) _ _ H1 #[rfl,F.kept (t':=J.toks) λb o e=>yc _ e,AD a _,#[_,yQ _ rfl,rfl,rfl],λb Y=>?_,q];have e:b=J.heap.objs.size:=by simpa using Y
 subst e;exact F.fpOk (zg _) (F.hok.fresh (zg _))
theorem Gy{l:Expr}{tl:TE}(hl:PE X l tl):PI X tg l (CY X.K tl):=by
 intro pins s σ H R I h;refine bA (hl pins s σ H _ I h) λv F ⟨x,H1,J,S,W⟩=>?_;revert W;refine yF1 λa=>yB3 ?_;rintro e ⟨xs,U⟩ q;subst e;cases S;refine yE1 (J.tuple U) λO=>yB3 λZ p hz=>?_;refine wpAny_pyIter_tuple (show F.heap.IsTuple a O.toArray from p) ?_;refine yI5 F.heap.objs.size ([F.heap.objs.size]) _ _ H1 #[rfl,J.kept (t':=F.toks) λb o e=>yc _ e,yv a _,#[_,yQ _ rfl,rfl,rfl],λb Y=>?_,q];have e:b=F.heap.objs.size:=by simpa using Y
 subst e;exact J.fpOk (zg _) (J.hok.fresh (zg _))
theorem Dm{pins:List (o_×Obj)}{R:It->Hp->Prop}{lo hi:Int}{t u v:Tok}{F:Nat}(I:Inv X pins σ H s)(h1:-(2^62)<=lo)(h2:lo<2^62)(S:-(2^62)<=hi)(Y:hi<2^62)
  (q:R (ng lo (hi-lo).toNat) H):I_ (model X.prog X.w) X.A (pyIter (.ref s.heap.objs.size)) (KO X pins σ tg R) E {s with heap:=s.heap.push {cls:=.type "range",data:=.fields #v[.int lo t,.int hi u,.int 1 v]},toks:=F}:=by
 refine wpAny_pyIter_range (IsRange.new ..) (small_one h1 h2 S Y) ?_;have J:Inv X pins σ H {s with heap:=s.heap.push {cls:=.type "range",data:=.fields #v[.int lo t,.int hi u,.int 1 v]},toks:=F}:=I.kept λb o e=>yc _ e;refine⟨(s.heap.push {cls:=.type "range",data:=.fields #v[.int lo t,.int hi u,.int 1 v]}).objs.size,[(s.heap.push {cls:=.type "range",data:=.fields #v[.int lo t,.int hi u,.int 1 v]}).objs.size],_,_,H,rfl,
  J.kept (t':=F) λb o e=>yc _ e,xv _ lo (hi-lo).toNat,?_,λb W=>?_,q⟩
 .have U:lo+((0:Nat):Int)*1=lo:='~';have O:(((hi-lo).toNat:Nat):Int)-((0:Nat):Int)=Mv.Range.rangeSize lo hi 1:=by rw[rangeSize_one];split<;>lia
  show IsRangeIter _ _ (lo+((0:Nat):Int)*1) ((((hi-lo).toNat:Nat):Int)-((0:Nat):Int)) 1;rw[U,O];exact yQ _ rfl
 .have e:b=(s.heap.push {cls:=.type "range",data:=.fields #v[.int lo t,.int hi u,.int 1 v]}).objs.size:=by simpa using W
  subst e;exact J.fpOk (zg _) (J.hok.fresh (zg _))
def EF(ta:TA):TI:=λσ H R=>ta σ H λvs H1=>∃j:Int,vs=[.int j]/\-(2^62)<=j/\j<2^62/\R (ng 0 j.toNat) H1
theorem ef{a:Expr}{ta:TA}{p pos:Pos}(hg:Gl X "range") (U:X.mg "range" = Nn) (W:PA X [a] ta) (Y:Mj [a] X.env=[(false,eval a X.env)]:=by rfl):PI X tg (.Call (.Name "range" p) [a] [] pos) (EF ta):=by
 intro pins s σ H R I h;refine Call_ (jI I hg U boot_range (zbb (bA (W pos pins s σ H _ I h) λus Z ⟨vs,H1,S,J,F⟩=>?_) Y rfl));revert F;refine yF1 λj=>yB4 λe F O q=>?_;subst e;cases J with
 | cons r rr=>
  cases rr;let#[t,rfl]:=r;exact call_range_1 (Dm S () () F O (by simpa using q))
def CW(wi:TI)(g:TG)(tb:TS):TS:=λD σ H=>wi σ H λJ H1=>∃W:Nat->Nat->St->Hp->Prop,(∃m,W 0 m σ H1)/\∀i m σ H,W i m σ H->
 (J.stop i H/\D.nx σ H)\/(J.go i H/\∃N:St->Hp->Prop,(∀σ' H',N σ' H'->∃m',m'<m/\W (i+1) m' σ' H')/\∀x H',J.yld i H x H'->g x σ H' λσ2 H2=>tb {D with nx:=N,ct:=N,bk:=D.nx} σ2 H2)
noncomputable def kS(fp:MD)(h:LY):List (o_×Obj):=fp.filterMap λb=>(h.get? b).map λo=>(b,o)
theorem iC{fp:MD}{o:Obj}(F:b∈fp)(e:h.get? b=Sm o):(b,o)∈kS fp h:=List.mem_filterMap.mpr #[b,F,by rw[e];rfl]
theorem AX{fp:MD}{h:LY}{p:o_×Obj}(J:p∈kS fp h):p.1∈fp/\h.get? p.1=Sm p.2:=by
 let#[b,O,e]:=List.mem_filterMap.mp J;cases q:h.get? b with
 | none=>rw[q]at e;cases e
 | some o=>
  rw[q]at e;have F:(b,o)=p:=Option.some.inj e;subst F;exact#[O,q]
theorem Inv.pinned{pins:List (o_×Obj)}{fp:MD}(I:Inv X pins σ H s)(hf:∀b∈fp,iR X pins H b)(O:∀b∈fp,∃o,s.heap.get? b=Sm o/\∀v,o.data ≠ .cell v):Inv X (pins++kS fp s.heap) σ H s:=
 I.pins_of λp Y=>(LG.mp Y).elim (λz=>I.pin p (oo _ z)) λz=>by
  let#[J,e]:=AX z;refine yA4 (hf p.1 J) λS W U _=>?_;let#[o,F,d]:=O p.1 J;rw[e]at F;cases F;exact#[e,S,W,U,d]
theorem Inv.unpinned{pins pl:List (o_×Obj)}(I:Inv X (pins++pl) σ H s):Inv X pins σ H s:=I.pins_of λp F=>I.pin p (oo _ (IV _ F))
theorem cg{iter:Expr}{ab:List Ma}{wi:TI}{g:TG}{tb:TS}{pos:Pos}(hp:PassesOwn (model X.prog X.w) X.A X.env X.xe)(hc:X.calm=true)(hi:PI X tg iter wi)(hg:PG X tg g)(U:Iz X ab tb)
  (hs:∀x,foldedSetIterable iter X.env x=pure x:=by intro _;rfl):PS X (.For tg iter ab [] pos) (CW wi g tb):=by
 intro pins s σ H D I h;refine wpAny_For (bA (hi pins s σ H _ I h) λv s1 h1=>bA h1 λa5 s2 h2=>?_) hs;revert h2;refine yF5 λit fp tn J H2=>yB6 λe I2 T as f2=>yF1 λW=>yB2 ?_;rintro ⟨m0,w0⟩ ad;subst e;have S:∀ {H':Hp},(∀b∈fp,H' b=Nn)->∀b∈fp,iR X pins H' b:=λhn b U=>#[hn b U,(f2 b U).2];refine codeAny_forLoop_any (λn s'=>∃i σ' H',Inv X pins σ' H' s'/\tn i s'.heap/\(∀b∈fp,H' b=Nn)/\W i n σ' H') ?_ m0 (yI3 0 σ H2 #[I2,as,λb U=>(f2 b U).1,w0]);intro n s3;refine yF3 λi σ3 H3=>yB4 λI3 ag al w3=>?_;rcases ad i n σ3 H3 w3 with ⟨stop,qn⟩ | ⟨go,N,hN,step⟩
 .refine N2 hp (bA (T.done X rfl rfl rfl hc i pins s3 σ3 H3 X.xe I3 (S al) ag stop) λr s4 ⟨hr,I4⟩=>?_);subst hr;exact Oy (yI2 σ3 H3 #[I4,qn])
 .refine N2 hp (bA (T.item X rfl rfl rfl hc i pins s3 σ3 H3 X.xe I3 (S al) ag go) λr s4 ⟨u,hr,h4⟩=>?_);subst hr;refine N2 hp (bA h4 λ_ s5 ⟨x,H5,I5,r5,y5,ac,a4⟩=>?_);have a3:=I5.pinned (S a4) (T.obj _ _ ac);refine N2 hp (bA (hg _ s5 σ3 H5 x u _ a3 r5 (step x H5 y5)) λ_ s6 ⟨σ6,H6,I6,q6⟩=>?_);refine N2 hp (bA (U _ s6 σ6 H6 _ I6 q6) λf s7 Z=>?_);have again:∀ {F:St} {O:Hp},Inv X (pins++kS fp s5.heap) F O s7->N F O->∃m,m<n/\∃i σ' H',Inv X pins σ' H' s7/\tn i s7.heap/\(∀b∈fp,H' b=Nn)/\W i m σ' H':=λ{F O} Y n7=>by
   let#[m',hm,w7]:=hN F O n7;refine#[m',hm,yI3 (i+1) F O #[Y.unpinned,T.keep _ _ _ ac λb U o e=>(Y.pin (b,o) (oo _ (oo _ (iC U e)))).1,λb U=>?_,w7]];let#[o,e,d]:=T.obj _ _ ac b U;exact(Y.pin (b,o) (oo _ (oo _ (iC U e)))).2.1
  cases f with
  | next=>revert Z;refine yF2 λF O=>yB2 λY n7=>?_;exact again Y n7
  | cont=>revert Z;refine yF2 λF O=>yB2 λY n7=>?_;exact again Y n7
  | brk=>revert Z;refine yF2 λF O=>yB2 λY Z=>?_;exact yI2 F O #[Y.unpinned,Z]
  | ret v=>revert Z;refine yF3 λx7 F O=>yB3 λY r7 Z=>?_;exact yI3 x7 F O #[Y.unpinned,r7,Z]
end
theorem BJ{K:PySem.W.Frag}{xs:MC}{g:TG}{tb:TS}{D:eI}(F:Nat->St->Hp->Prop)(S:F 0 σ H)(hl:∀i σ H,i<=xs.length->F i σ H->ud K H a xs)
  (Y:∀i x σ H,xs[i]?=Sm x->F i σ H->g x σ H λO H2=>tb {D with nx:=F (i+1),ct:=F (i+1),bk:=D.nx} O H2) (hd:∀σ H,F xs.length σ H->D.nx σ H) :
  ∃W:Nat->Nat->St->Hp->Prop,(∃m,W 0 m σ H)/\∀i m σ H,W i m σ H->
   ((md K a).stop i H/\D.nx σ H)\/((md K a).go i H/\∃N:St->Hp->Prop,(∀J H',N J H'->∃m',m'<m/\W (i+1) m' J H')/\∀x H',(md K a).yld i H x H'->g x σ H' λO H2=>tb {D with nx:=N,ct:=N,bk:=D.nx} O H2):=by
 refine#[λi m σ H=>m=xs.length-i/\i<=xs.length/\F i σ H,#[xs.length,'~',mw _,S],?_];rintro i m σ H ⟨rfl,hi,p⟩;have q:=hl i σ H hi p;by_cases hlt:i<xs.length
 .refine .inr #[yI2 xs (xs[i]) #[q,by simp[hlt]],F (i+1),λJ H' U=>#[xs.length-(i+1),(),rfl,hlt,U],λx H' y=>?_];let#[e,y]:=y;subst e;exact Y i x σ _ (y xs q) p
 .have e:i=xs.length:=()
  subst e;exact .inl #[#[xs,q,zg _],hd σ H p]
theorem zX{lo:Int}{n:Nat}{g:TG}{tb:TS}{D:eI}(F:Nat->St->Hp->Prop)(S:F 0 σ H)
  (Y:∀i σ H,i<n->F i σ H->g (.int (lo+i)) σ H λO H2=>tb {D with nx:=F (i+1),ct:=F (i+1),bk:=D.nx} O H2) (hd:∀σ H,F n σ H->D.nx σ H) :
  ∃W:Nat->Nat->St->Hp->Prop,(∃m,W 0 m σ H)/\∀i m σ H,W i m σ H->
   ((ng lo n).stop i H/\D.nx σ H)\/((ng lo n).go i H/\∃N:St->Hp->Prop,(∀J H',N J H'->∃m',m'<m/\W (i+1) m' J H')/\∀x H',(ng lo n).yld i H x H'->g x σ H' λO H2=>tb {D with nx:=N,ct:=N,bk:=D.nx} O H2):=by
 refine#[λi m σ H=>m=n-i/\i<=n/\F i σ H,#[n,'~',mw _,S],?_];rintro i m σ H ⟨rfl,hi,p⟩;by_cases hlt:i<n
 .refine .inr #[hlt,F (i+1),λJ H' U=>#[n-(i+1),(),rfl,hlt,U],λx H' y=>?_];let#[e,y]:=y;subst e y;exact Y i σ _ hlt p
 .have e:i=n:=()
  subst e;exact .inl #[zg _,hd σ H p]
abbrev R2:=V->V->Hp->VK->Prop
def Gw(X:Cx)(f:B_->B_->Sem B_)(r:R2):Prop:=
 ∀(pins:List (o_×Obj)) (s:so) (σ : St) (H:Hp) (x y:V) (v u:B_) (Q:VK),Inv X pins σ H s->RelV x v->RelV y u->r x y H Q->
  I_ (model X.prog X.w) X.A (f v u) (EP X pins σ Q) X.xe s
def UnR(X:Cx)(f:B_->Sem B_)(r:V->Hp->VK->Prop):Prop:=
 ∀(pins:List (o_×Obj)) (s:so) (σ : St) (H:Hp) (x:V) (v:B_) (Q:VK),Inv X pins σ H s->RelV x v->r x H Q->
  I_ (model X.prog X.w) X.A (f v) (EP X pins σ Q) X.xe s
def Ck(X:Cx)(f:B_)(r:MC->Hp->VK->Prop):Prop:=
 ∀(pins:List (o_×Obj)) (s:so) (σ : St) (H:Hp) (xs:MC) (us:MF) (Q:VK),Inv X pins σ H s->A1 xs us->r xs H Q->
  I_ (model X.prog X.w) X.A (call f us) (EP X pins σ Q) X.xe s
def gj(r:R2)(ta tb:TE):TE:=λσ H Q=>ta σ H λx H1=>tb σ H1 λy H2=>r x y H2 Q
def D9(r:V->Hp->VK->Prop)(ta:TE):TE:=λσ H Q=>ta σ H λx H1=>r x H1 Q
def rI(C:Int->Int->Prop)(g:Int->Int->V):R2:=λx y H Q=>∃i j,x = .int i/\y = .int j/\C i j/\Q (g i j) H
def ml(g:Int->Int->V):R2:=λx y H Q=>∃i j,x = .int i/\y = .int j/\Q (g i j) H
def rU(g:Int->V):V->Hp->VK->Prop:=λx H Q=>∃i,x = .int i/\Q (g i) H
section
variable{X:Cx}{a b c:Expr}{ta tb tc:TE}{pos:Pos}
theorem B1(W:PE X a ta)(hb:PE X b tb){pins:List (o_×Obj)}{R:V->V->Hp->Prop}(I:Inv X pins σ H s)
  (h:ta σ H λx H1=>tb σ H1 λy H2=>R x y H2)  {f:B_->B_->Sem B_}
  (hf:∀v u s2 x y H2,Inv X pins σ H2 s2->RelV x v->RelV y u->R x y H2->I_ (model X.prog X.w) X.A (f v u) Q X.xe s2) :
  I_ (model X.prog X.w) X.A (eval a X.env) (λv s₁=>I_ (model X.prog X.w) X.A (eval b X.env) (λu F=>I_ (model X.prog X.w) X.A (f v u) Q X.xe F) X.xe s₁) X.xe s:=by
 refine bA (W pins s σ H _ I h) λv Z ⟨x,H1,U,J,S⟩=>?_;refine bA (hb pins Z σ H1 _ U S) λu s2 ⟨y,H2,I2,Y,O⟩=>?_;exact hf v u s2 x y H2 I2 J Y O
theorem ar{op:Operator}{r:R2}(F:Gw X (binaryOp op) r)(O:PE X a ta)(S:PE X b tb):PE X (.BinOp a op b pos) (gj r ta tb):=by
 intro pins s σ H Q I h;exact wpAny_BinOp (B1 O S I h λv u s2 x y H2 W J U q=>F pins s2 σ H2 x y v u Q W J U q)
theorem eh{op:UnaryOp}{r:V->Hp->VK->Prop}(S:UnR X (unaryOp op) r)(W:PE X a ta):PE X (.UnaryOp op a pos) (D9 r ta):=by
 intro pins s σ H Q I h;exact UnaryOp_ (bA (W pins s σ H _ I h) λv U ⟨x,H1,O,F,J⟩=>S pins U σ H1 x v Q O F J)
theorem uh{f:B_->B_->Sem B_}{C:Int->Int->Prop}{g:Int->Int->Int}
  (rule:∀(i j:Int) (t u:Tok) (s:so) (Q:LZ) (E:LZ),C i j->Q (.int (g i j) s.toks) {s with toks:=s.toks+1}->I_ (model X.prog X.w) X.A (f (.int i t) (.int j u)) Q E s) :
  Gw X f (rI C λi j=>.int (g i j)):=by
 intro pins s σ H x y v u Q I F J h;revert h;refine yF2 λi j=>yB4 ?_;rintro rfl rfl O q;let#[t,rfl]:=F;let#[t',rfl]:=J;exact rule i j t t' s _ _ O (yI2 (.int (g i j)) H #[I.tok _,#[_,rfl],q])
theorem yM{f:B_->B_->Sem B_}{g:Int->Int->Int}
  (rule:∀(i j:Int) (t u:Tok) (s:so) (Q:LZ) (E:LZ),Q (.int (g i j) s.toks) {s with toks:=s.toks+1}->I_ (model X.prog X.w) X.A (f (.int i t) (.int j u)) Q E s) :
  Gw X f (ml λi j=>.int (g i j)):=by
 intro pins s σ H x y v u Q I F J h;revert h;refine yF2 λi j=>yB3 ?_;rintro rfl rfl q;let#[t,rfl]:=F;let#[t',rfl]:=J;exact rule i j t t' s _ _ (yI2 (.int (g i j)) H #[I.tok _,#[_,rfl],q])
theorem Cf{f:B_->B_->Sem B_}{g:Int->Int->Bool}
  (rule:∀(i j:Int) (t u:Tok) (s:so) (Q:LZ) (E:LZ),Q (.bool (g i j)) s->I_ (model X.prog X.w) X.A (f (.int i t) (.int j u)) Q E s) :
  Gw X f (ml λi j=>.bl (g i j)):=by
 intro pins s σ H x y v u Q I F J h;revert h;refine yF2 λi j=>yB3 ?_;rintro rfl rfl q;let#[t,rfl]:=F;let#[t',rfl]:=J;exact rule i j t t' s _ _ (yI2 (.bl (g i j)) H #[I,rfl,q])
def OH(i j:Int):Prop:=0<j/\j<1073741824
def IN(i j:Int):Prop:=0<=j/\j<=1000000/\i.natAbs<2^64
def Jy(i j:Int):Prop:=(-(2^64)<i/\i<2^64)\/(-(2^64)<j/\j<2^64)
theorem Jy.ok{i j:Int}(h:Jy i j):IntMulOk i j:=by
 rcases h with ⟨h1,h2⟩ | ⟨h1,h2⟩
 .exact .of_left (intBits_le_64 h1 h2)
 .exact .of_right (intBits_le_64 h1 h2)
theorem yr(k:Nat):(0:Int)<=2^k:=by
 rw[two_pow_cast];exact Int.natCast_nonneg _
theorem Io:Gw X (binaryOp .Add) (ml λi j=>.int (i+j)):=yM λ_ _ _ _ _ _ _ q=>add_int q
theorem gv:Gw X (binaryOp .Sub) (ml λi j=>.int (i-j)):=yM λ_ _ _ _ _ _ _ q=>sub_int q
theorem Ht:Gw X (binaryOp .Mult) (rI Jy λi j=>.int (i*j)):=uh λ_ _ _ _ _ _ _ F q=>mul_int q F.ok
theorem eW:Gw X (binaryOp .FloorDiv) (rI OH λi j=>.int (i/j)):=uh λi j _ _ _ _ _ F q=>by
 have h1:(0:Int)<j:=F.1;have h2:j<1073741824:=F.2;exact floordiv_int () (by rw[zbv i ()];exact q) (.inl (PyProof.noPylong_small ()))
theorem b5:Gw X (binaryOp .Mod) (rI (λ_ j=>0<j) λi j=>.int (i%j)):=uh λi j _ _ _ _ _ F q=>by
 have h1:(0:Int)<j:=F;exact mod_int' () (by rw[Int.fmod_eq_emod_of_nonneg i ()];exact q)
theorem nK:Gw X (binaryOp .Pow) (rI IN λi j=>.int (i^j.toNat)):=uh λ_ _ _ _ _ _ _ F q=>pow_int_small F.1 F.2.1 F.2.2 q
theorem nX:Gw X (binaryOp .LShift) (rI IN λi j=>.int (i*2^j.toNat)):=uh λ_ _ _ _ _ _ _ F q=>lshift_int_small F.1 F.2.1 F.2.2 q
theorem sP:Gw X (binaryOp .RShift) (rI (λ_ j=>0<=j) λi j=>.int (i/2^j.toNat)):=uh λi j _ _ _ _ _ F q=>
 rshift_int F (by rw[zbv i (yr _)];exact q)
theorem lu:Gw X (binaryOp .BitAnd) (ml λi j=>.int (Ou i j)):=yM λ_ _ _ _ _ _ _ q=>and_int q
theorem KG:Gw X (binaryOp .BitOr) (ml λi j=>.int (OA i j)):=yM λ_ _ _ _ _ _ _ q=>or_int q
theorem KM{f:B_->Sem B_}{g:Int->Int}
  (rule:∀(i:Int) (t:Tok) (s:so) (Q:LZ) (E:LZ),Q (.int (g i) s.toks) {s with toks:=s.toks+1}->I_ (model X.prog X.w) X.A (f (.int i t)) Q E s) :
  UnR X f (rU λi=>.int (g i)):=by
 intro pins s σ H x v Q I F h;let#[i,rfl,q]:=h;let#[t,rfl]:=F;exact rule i t s _ _ (yI2 (.int (g i)) H #[I.tok _,#[_,rfl],q])
theorem dN:UnR X (unaryOp .USub) (rU λi=>.int (-i)):=KM λ_ _ _ _ _ q=>neg_int q
theorem Jc:UnR X (unaryOp .Invert) (rU λi=>.int (Nc i)):=KM λ_ _ _ _ _ q=>invert_int q
end
noncomputable def rQ:V->V->Bool
 | .non,.non=>true | .non,.int _=>true | .int _,.non=>true | .non,.bl _=>true | .bl _,.non=>true | .non,.str _=>true | .str _,.non=>true
 | .int _,.int _=>true | .bl _,.bl _=>true | .str _,.str _=>true | .byt _,.byt _=>true
 | .int _,.str _=>true | .str _,.int _=>true | .bl _,.str _=>true | .str _,.bl _=>true
 | _,_=>false
def K2:R2:=λx y H Q=>rQ x y=true/\Q (.bl (decide (x=y))) H
def KW:R2:=λx y H Q=>rQ x y=true/\Q (.bl (!decide (x=y))) H
theorem wJ{i j:Int}:decide (V.int i=V.int j)=(i==j):=by
 rw[KJ];simp
theorem Av{i j:Bool}:decide (V.bl i=V.bl j)=(i==j):=by
 rw[KJ];simp
theorem wO{i j:Str}:decide (V.str i=V.str j)=(i==j):=by
 rw[KJ];simp
theorem vI{i j:Array UInt8}:decide (V.byt i=V.byt j)=(i.toList==j.toList):=by
 rw[KJ];cases i;cases j;simp
section
variable{X:Cx}{a b c:Expr}{ta tb tc:TE}{pos:Pos}
theorem bC{pins:List (o_×Obj)}{Q:VK}{k F:Bool}(I:Inv X pins σ H s)(q:Q (.bl k) H)(e:k=F):EP X pins σ Q (.bool F) s:=by
 subst e;exact yI2 (.bl k) H #[I,rfl,q]
theorem Kc:Gw X (Mr .Eq) K2:=by
 intro pins s σ H x y v u Q I O F h;let#[J,q]:=h;cases x with
 | non=>
  cases O;cases y with
  | non=>cases F;exact EqNone.eq_none_none (bC I q '~')
  | bl j=>cases F;exact EqNone.eq_none_bool (bC I q '~')
  | int j=>let#[t',rfl]:=F;exact EqNone.eq_none_int (bC I q '~')
  | str j=>let#[t',rfl]:=F;exact EqNone.eq_none_str (bC I q '~')
  | _=>exact absurd (show false=true from J) xV
 | bl i=>
  cases O;cases y with
  | non=>cases F;exact EqNone.eq_bool_none (bC I q '~')
  | bl j=>cases F;exact eq_bool (bC I q Av)
  | str j=>let#[t',rfl]:=F;exact EqMixed.eq_bool_str (bC I q '~')
  | _=>exact absurd (show false=true from J) xV
 | int i=>
  let#[t,rfl]:=O;cases y with
  | non=>cases F;exact EqNone.eq_int_none (bC I q '~')
  | int j=>let#[t',rfl]:=F;exact eq_int (bC I q wJ)
  | str j=>let#[t',rfl]:=F;exact EqMixed.eq_int_str (bC I q '~')
  | _=>exact absurd (show false=true from J) xV
 | str i=>
  let#[t,rfl]:=O;cases y with
  | non=>cases F;exact EqNone.eq_str_none (bC I q '~')
  | bl j=>cases F;exact EqMixed.eq_str_bool (bC I q '~')
  | int j=>let#[t',rfl]:=F;exact EqMixed.eq_str_int (bC I q '~')
  | str j=>let#[t',rfl]:=F;exact eq_str (bC I q wO)
  | _=>exact absurd (show false=true from J) xV
 | byt i=>
  let#[t,rfl]:=O;cases y with
  | byt j=>let#[t',rfl]:=F;exact W.eq_bytes (bC I q vI)
  | _=>exact absurd (show false=true from J) xV
 | _=>cases y<;>exact absurd (show false=true from J) xV
theorem J8:Gw X (Mr .NotEq) KW:=by
 intro pins s σ H x y v u Q I O F h;let#[J,q]:=h;cases x with
 | non=>
  cases O;cases y with
  | non=>cases F;exact EqNone.ne_none_none (bC I q '~')
  | bl j=>cases F;exact EqNone.ne_none_bool (bC I q '~')
  | int j=>let#[t',rfl]:=F;exact EqNone.ne_none_int (bC I q '~')
  | str j=>let#[t',rfl]:=F;exact EqNone.ne_none_str (bC I q '~')
  | _=>exact absurd (show false=true from J) xV
 | bl i=>
  cases O;cases y with
  | non=>cases F;exact EqNone.ne_bool_none (bC I q '~')
  | bl j=>cases F;exact ne_bool (bC I q (congrArg not Av))
  | str j=>let#[t',rfl]:=F;exact EqMixed.ne_bool_str (bC I q '~')
  | _=>exact absurd (show false=true from J) xV
 | int i=>
  let#[t,rfl]:=O;cases y with
  | non=>cases F;exact EqNone.ne_int_none (bC I q '~')
  | int j=>let#[t',rfl]:=F;exact ne_int (bC I q (congrArg not wJ))
  | str j=>let#[t',rfl]:=F;exact EqMixed.ne_int_str (bC I q '~')
  | _=>exact absurd (show false=true from J) xV
 | str i=>
  let#[t,rfl]:=O;cases y with
  | non=>cases F;exact EqNone.ne_str_none (bC I q '~')
  | bl j=>cases F;exact EqMixed.ne_str_bool (bC I q '~')
  | int j=>let#[t',rfl]:=F;exact EqMixed.ne_str_int (bC I q '~')
  | str j=>let#[t',rfl]:=F;exact ne_str (bC I q (congrArg not wO))
  | _=>exact absurd (show false=true from J) xV
 | byt i=>
  let#[t,rfl]:=O;cases y with
  | byt j=>let#[t',rfl]:=F;exact W.ne_bytes (bC I q (congrArg not vI))
  | _=>exact absurd (show false=true from J) xV
 | _=>cases y<;>exact absurd (show false=true from J) xV
theorem Kt:Gw X (Mr .Lt) (ml λi j=>.bl (decide (i<j))):=Cf λ_ _ _ _ _ _ _ q=>lt_int q
theorem KD:Gw X (Mr .LtE) (ml λi j=>.bl (decide (i<=j))):=Cf λ_ _ _ _ _ _ _ q=>le_int q
theorem lx:Gw X (Mr .Gt) (ml λi j=>.bl (decide (j<i))):=Cf λ_ _ _ _ _ _ _ q=>gt_int q
theorem AB:Gw X (Mr .Lt) (λx y H Q=>∃i j,x = .str i/\y = .str j/\Q (.bl (decide (i.cps.toList<j.cps.toList))) H):=by
 intro pins s σ H x y v u Q I F J h;revert h;refine yF2 λi j=>yB3 ?_;rintro rfl rfl q;let#[t,rfl]:=F;let#[t',rfl]:=J;exact lt_str (bC I q rfl)
theorem By:Gw X (Mr .In) (λx y H Q=>∃i j,x = .str i/\y = .str j/\Q (.bl (!(Oc j i 0 j.length 1).isEmpty)) H):=by
 intro pins s σ H x y v u Q I F J h;revert h;refine yF2 λi j=>yB3 ?_;rintro rfl rfl q;let#[t,rfl]:=F;let#[t',rfl]:=J;exact in_str (bC I q rfl)
theorem Hz:Gw X (Mr .Is) (λx y H Q=>y = .non/\Q (.bl (decide (x = .non))) H):=by
 intro pins s σ H x y v u Q I F J h;let#[rfl,q]:=h;cases J;refine is_none_gen (bC I q ?_);cases x<;>first
  | (cases F;rfl)
  | (let#[t,rfl]:=F;rfl)
theorem Fk:Gw X (Mr .IsNot) (λx y H Q=>y = .non/\Q (.bl (!decide (x = .non))) H):=by
 intro pins s σ H x y v u Q I F J h;let#[rfl,q]:=h;cases J;refine isnot_none_gen (bC I q ?_);cases x<;>first
  | (cases F;rfl)
  | (let#[t,rfl]:=F;rfl)
theorem t_:Gw X (Mr .NotIn) (λx y H Q=>∃i j,x = .str i/\y = .str j/\Q (.bl (!(!(Oc j i 0 j.length 1).isEmpty))) H):=by
 intro pins s σ H x y v u Q I F J h;revert h;refine yF2 λi j=>yB3 ?_;rintro rfl rfl q;let#[t,rfl]:=F;let#[t',rfl]:=J;exact notIn_str (bC I q rfl)
theorem aB(b:Expr){op:CmpOp}(h:op ≠ .In:=by decide)(h2:op ≠ .NotIn:=by decide):behindInMarks op b=false:=by
 have F:(op==CmpOp.In)=false:=by cases op<;>first | rfl | exact absurd rfl h
 have J:(op==CmpOp.NotIn)=false:=by cases op<;>first | rfl | exact absurd rfl h2
 cases b<;>simp[behindInMarks,F,J]
theorem db{op:CmpOp}{r:R2}(J:Gw X (Mr op) r)(S:PE X a ta)(U:PE X b tb)(F:behindInMarks op b=false):PE X (.Compare a [op] [b] pos) (gj r ta tb):=by
 intro pins s σ H Q I h;exact wpAny_Compare1 (B1 S U I h λv u s2 x y H2 Y O W q=>J pins s2 σ H2 x y v u Q Y O W q) F
def j9(t:TE):TT:=λσ H Q=>t σ H λx H'=>∃k,x = .bl k/\Q k H'
theorem aA{op:CmpOp}{r:R2}(Z:Gw X (Mr op) r)(ha:PE X a ta)(hb:PE X b tb)(Y:behindInMarks op b=false):PT X (.Compare a [op] [b] pos) (j9 (gj r ta tb)):=by
 intro pins s σ H Q I h;refine wpAny_isTrue_Compare1 (bA (ha pins s σ H _ I h) λv s1 ⟨x,H1,S,F,O⟩=>bA (hb pins s1 σ H1 _ S O) λu s2 ⟨y,H2,U,r2,J⟩=>
  bA (Z pins s2 σ H2 x y v u _ U F r2 J) λc s3 ⟨z,H3,I3,W,k,e,q3⟩=>?_) Y
 subst e;cases W;exact Oa #[H3,I3,q3]
theorem jJ:(L9:Nat)<2^63:=by rw[Np];decide
theorem yT:Gw X (binaryOp .Add) (λx y H Q=>∃i j,x = .str i/\y = .str j/\i.length+j.length<=L9/\Q (.str (i++j)) H):=by
 intro pins s σ H x y v u Q I F J h;revert h;refine yF2 λi j=>yB4 ?_;rintro rfl rfl hz q;let#[t,rfl]:=F;let#[t',rfl]:=J;exact add_str (λt' O=>yI2 (.str (i++j)) H #[I.tok _,#[_,rfl],q]) hz
theorem dg{x:V}{F:MF}(r:A1 [x] F):∃u,F=[u]/\RelV x u:=by
 cases r with
 | cons r1 r2=>cases r2;exact#[_,rfl,r1]
theorem yZ{x y:V}{F:MF}(r:A1 [x,y] F):∃u w',F=[u,w']/\RelV x u/\RelV y w':=by
 cases r with
 | cons r1 r2=>
  cases r2 with
  | cons r3 r4=>cases r4;exact yI2 _ _ #[rfl,r1,r3]
theorem zT:Ck X (.type "int") (λxs H Q=>(∃i,xs=[.int i]/\Q (.int i) H)\/∃k,xs=[.bl k]/\Q (.int (if k then 1 else 0)) H):=by
 intro pins s σ H xs J Q I r h;rcases h with ⟨i,rfl,q⟩ | ⟨k,rfl,q⟩
 .refine yE1 (dg r) λu=>yB2 ?_;rintro rfl;refine yF1 ?_;rintro t rfl;exact call_int_int (yI2 (.int i) H #[I,#[_,rfl],q])
 .let#[u,rfl,F]:=dg r;cases F;exact call_int_bool (yI2 (.int (if k then 1 else 0)) H #[I.tok _,#[_,rfl],q])
theorem uI:Ck X (.type "str") (λxs H Q=>∃i,xs=[.int i]/\i.natAbs.log2<1920/\Q (.str (toString i)) H):=by
 intro pins s σ H xs F Q I r h;revert h;refine yF1 λi=>yB3 ?_;rintro rfl hz q;refine yE1 (dg r) λu=>yB2 ?_;rintro rfl;refine yF1 ?_;rintro t rfl;exact P.str_of_int hz (yI2 (.str _) H #[I.tok _,#[_,rfl],q])
end
structure Jl (h:LY) (x dx C:o_) (mA:Str->MG):Prop where
 obj:h.get? x=Sm (NL C dx)
 ns:h.Ns1 dx mA
 ne:dx≠x
theorem Ax{dx:o_}{mA:Str->MG}(n:h.Ns1 dx mA):∃od,h.get? dx=Sm od/\∀name,W.lookIn name od=Sm (mA name):=by
 revert n;refine yF3 λo es ep=>yB5 λU hd Y _ S=>?_;refine#[o,U,λname=>?_];have e:=S name;unfold nsFind findBy at e;rw[<-Array.find?_toList]at e;unfold W.lookIn;rw[hd];dsimp only;split
 .rename_i y q;rw[q]at e;exact congrArg Sm e
 .rename_i q;rw[q]at e;have a:es.toList.any (·.refKey)=false:=by
   rw[List.any_eq_false];intro y J;let#[z,t,F]:=Y y (LL.mp J);simp[NE.refKey,F]
  have O:¬ es.toList.any (·.refKey)=true:=by rw[a];exact xV
  rw[Lu O];exact congrArg Sm e
theorem Jl.look{x dx:o_}{mA:Str->MG}(I:Jl h x dx C mA):∃od,W.InstAt h x (NL C dx) C (Sm od)/\∀name,W.lookIn name od=Sm (mA name):=
 let ⟨od,ho,hl⟩:=Ax I.ns
 #[od,#[I.obj,rfl,rfl,ho],hl]
section
variable{prog:L_}{w:K_}{A:Me}{E:LZ}{s:so}{K:KE}{x dx C f:o_}{mA:Str->MG}{name:Str}{v:B_}
theorem FP{F:Bool}(X:K.In s.heap)(I:Jl s.heap x dx C mA)(hg:W.plainGet K C name=true)(hh:W.hasDictIn K C=true)
  (S:Nh K (.ref C) name=Sm Nn) (hv:mA name=Sm v) (O:W.handedIn v=true) (h:Q v {s with toks:=s.toks+1}) :
  I_ (model prog w) A (getAttr (.ref x) name F) Q E s:=by
 let#[U,J,hl]:=I.look;exact W.get_value X J (W.plainGet_of hg).1 (W.findObj_own hh S rfl (by rw[hl,hv])) O h
theorem Gb{ns:MA}{Q:Unit->so->Prop}(X:K.In s.heap)(I:Jl s.heap x dx C mA)
  (hs:Nh K (.ref C) "__setattr__" = Sm (Sm (.builtin "object.__setattr__"))) (hp:W.plainOver K C=true) (ht:W.takerIn K C name=Sm Nn) (hh:W.hasDictIn K C=true)
  (hw:PySem.Within mA ns) (hsz:ns.length<=L9)
  (h:∀h',Jl h' x dx C (λy=>if y=name then Sm v else mA y)->M5 dx s.heap h'->Q Unit.unit {s with heap:=h',toks:=s.toks+2}) :
  I_ (model prog w) A (setAttr (.ref x) name v) Q E s:=by
 let#[od,J,hl]:=I.look;refine W.set_plain X J hs (W.osa_open (s:={s with toks:=s.toks+1}) (r:=Nn) X J hp ht λb=>?_);let#[cd,hc,Y]:=W.any_some hh;have hx:s.heap.get? x=Sm #[.ref C,Sm dx,.plain,#[]]:=I.obj;refine Lo (Lp (Lo (Lo (wpAny_loadPart hx (Lo (W.Looks.here (s:={s with toks:=s.toks+1}) (W.looks_clsIn X hc) ?_))))));rw[Y];refine Lp (a:=Sm dx) (Lo (Lp (Lo ?_)));refine wpAny_nsSet1 (s:={s with toks:=s.toks+1}) I.ns λh' O F=>?_;refine yE3 (O.count (Within.cons name v hw)) λoD ac ab=>yB3 λZ U S=>?_;refine Lo (wpAny_lookBehind Z (by rw[U];exact pastItsLine_dict (mn S (by rw[zy];lia))) ?_);exact Lp (h _ #[(F.2 _ (u6 I.ne)).trans I.obj,O,I.ne] F)
theorem Cj{R:Nw->so->Prop}{vs:MF}{F:List (Str×B_)}(X:K.In s.heap)(J:W.makesIn K C=true)
  (hi:Nh K (.ref C) "__init__" = Sm (Sm (.ref f))) (hf:W.typeIn K (.ref f)=Sm (.type "function"))
  (h:codeAny (model prog w) (A.under (.builtin "type.__call__" #[.ref C::vs,F])) (.call (.ref f) #[.ref (s.heap.objs.size+1)::vs,F]) (W.InitBack (s.heap.objs.size+1) R)
   {s with heap:=(s.heap.push NH).push (NL C s.heap.objs.size)}) :
  codeAny (model prog w) A (.call (.ref C) #[vs,F]) R s:=by
 let#[hh,g,d,t,os]:=s;exact W.make_core (W.makes_of X J) (W.looks_findIn X hi) (λself=>W.bind_fn X self hf) (.inl rfl) h
end
noncomputable def bz(f:Str)(v:V):List (Str×V)->List (Str×V)
 | []=>[(f,v)]
 | (g,x)::r=>if g=f then (g,v)::r else (g,x)::bz f v r
theorem lX(f g:Str)(v:V):∀fs:List (Str×V),(bz f v fs).lookup g=if g=f then Sm v else fs.lookup g
 | []=>by
  show List.lookup g [(f,v)]=_;by_cases h:g=f
  .have F:(g==f)=true:=beq_iff_eq.mpr h;simp only[List.lookup,F,Lz h]
  .have F:(g==f)=false:=beq_eq_false_iff_ne.mpr h;simp only[List.lookup,F,Lu h]
 | (k,x)::r=>by
  have ih:=lX f g v r;rw[show bz f v ((k,x)::r)=(if k=f then (k,v)::r else (k,x)::bz f v r) from rfl];by_cases hk:k=f
  .rw[Lz hk];by_cases h:g=k
   .have F:(g==k)=true:=beq_iff_eq.mpr h;simp only[List.lookup,F,Lz (h.trans hk)]
   .have F:(g==k)=false:=beq_eq_false_iff_ne.mpr h;simp only[List.lookup,F,Lu (λe:g=f=>h (e.trans hk.symm))]
  .rw[Lu hk];by_cases h:g=k
   .have F:(g==k)=true:=beq_iff_eq.mpr h;simp only[List.lookup,F,Lu (λe:g=f=>hk (h.symm.trans e))]
   .have F:(g==k)=false:=beq_eq_false_iff_ne.mpr h;simp only[List.lookup,F];exact ih
theorem kQ(f:Str)(v:V):∀fs:List (Str×V),f∈(bz f v fs).map (·.1)/\∀g,g∈fs.map (·.1)->g∈(bz f v fs).map (·.1)
 | []=>#[by simp[bz],λg h=>by simp at h]
 | (k,x)::r=>by
  let#[i1,i2]:=kQ f v r;rw[show bz f v ((k,x)::r)=(if k=f then (k,v)::r else (k,x)::bz f v r) from rfl];by_cases hk:k=f
  .rw[Lz hk];subst hk;exact#['~',λg h=>by simpa using h]
  .rw[Lu hk];refine#[?_,λg h=>?_]
   .rw[yR];exact yh _ i1
   .rw[yR]at h |-
    rcases LH.mp h with e | e
    .exact LH.mpr (.inl e)
    .exact yh _ (i2 g e)
theorem lU(f:Str)(v:V):∀fs:List (Str×V),(bz f v fs).length<=fs.length+1
 | []=>by simp[bz]
 | (k,x)::r=>by
  have ih:=lU f v r;rw[show bz f v ((k,x)::r)=(if k=f then (k,v)::r else (k,x)::bz f v r) from rfl];by_cases hk:k=f
  .rw[Lz hk,zy,zy];lia
  .rw[Lu hk,zy,zy];lia
theorem Hd.some_of{v:V}{o:MG}(r:Hd (Sm v) o):∃u,o=Sm u/\RelV v u:=by
 cases o with
 | none=>exact(show False from r).elim
 | some u=>exact#[u,rfl,r]
theorem AN{v:V}{u:B_}(r:RelV v u):W.handedIn u=true:=by
 cases v with
 | non=>cases (show u=MQ from r);rfl
 | bl b=>cases (show u=N9 b from r);rfl
 | int i=>let#[t,e]:=(show ∃t,u=N_ i t from r);cases e;rfl
 | str x=>let#[t,e]:=(show ∃t,u=Nl x t from r);cases e;rfl
 | byt b=>let#[t,e]:=(show ∃t,u=B_.bytes b t from r);cases e;rfl
 | flt b=>let#[t,e]:=(show ∃t,u=B_.float b t from r);cases e;rfl
 | ref a=>cases (show u=Md a from r);rfl
 | ty n=>cases (show u=N1 n from r);rfl
section
variable{P:L_}{w:K_}{H H':Hp}{h h':LY}{a C dx:o_}{fs fs':List (Str×V)}
theorem oO(hok:G3 P w H h)(e:H a=Sm (.ins C dx fs)):∃mA,Jl h a dx C mA/\(∀f,Hd (fs.lookup f) (mA f))/\PySem.Within mA (fs.map (·.1))/\fs.length<=1000/\H dx=Sm (.own a):=by
 refine yA5 (show B3 P w H h a (.ins C dx fs) from hok a _ e) λd z ne F=>yF1 λmA=>yB3 λn r q=>?_;exact#[mA,#[F,n,ne],r,q,z,d]
end
structure Ln (K:KE) (C:o_):Prop where
 pg:W.plainGet K C NP=true
 hd:W.hasDictIn K C=true
 po:W.plainOver K C=true
 sa:Nh K (.ref C) "__setattr__" = Sm (Sm (.builtin "object.__setattr__"))
theorem Ln.get(c:Ln K C)(f:Str):W.plainGet K C f=true:=c.pg
def HU(K:KE)(C:o_)(f:Str):Prop:=Nh K (.ref C) f=Sm Nn
theorem HU.taker{f:Str}(n:HU K C f):W.takerIn K C f=Sm Nn:=by
 unfold W.takerIn;rw[show Nh K (.ref C) f=Sm Nn from n]
 rfl
section
variable{X:Cx}{pins:List (o_×Obj)}{σ:St}{H:Hp}{s:so}{a C dx:o_}{fs:List (Str×V)}{f:Str}{v:V}{A:Me}{E:LZ}
theorem yF{b:Bool}(I:Inv X pins σ H s)(e:H a=Sm (.ins C dx fs))(c:Ln X.K C)(n:HU X.K C f)(l:fs.lookup f=Sm v)
  (h:∀u s',Inv X pins σ H s'->RelV v u->Q u s'):I_ (model X.prog X.w) A (getAttr (.ref a) f b) Q E s:=by
 refine yE1 (oO I.hok e) λmA=>yB5 λO r _ _ _=>?_;let#[u,J,F]:=Hd.some_of (v:=v) (o:=mA f) (by rw[<-l];exact r f);exact FP I.kIn O (c.get f) c.hd n J (AN F) (h u _ (I.tok _) F)
theorem yp{y:V}{Q:Unit->so->Prop}(I:Inv X pins σ H s)(e:H a=Sm (.ins C dx fs))(c:Ln X.K C)(n:HU X.K C f)(hl:fs.length<1000)(W:RelV y u)
  (h:∀s',Inv X pins σ (upd H a (.ins C dx (bz f y fs))) s'->Q Unit.unit s'):I_ (model X.prog X.w) A (setAttr (.ref a) f u) Q E s:=by
 refine yE1 (oO I.hok e) λmA=>yB5 λO r wi _ J=>?_;have hz:(fs.map (·.1)).length<=L9:=by rw[zb,Np];lia
 refine Gb I.kIn O c.sa c.po n.taker c.hd wi hz λh' F S=>h _ ?_;have hd:∃o,h'.get? dx=Sm o:=let ⟨o,_,_,e',_⟩:=F.ns;#[o,e'];refine I.write (x:=a) (e:=dx) (by rw[e];exact True.intro) (.inr J) (λb q U z=>(S.2 b U).trans z) hd ?_;refine#[by rw[au O.ne];exact J,?_,O.ne,F.obj,_,F.ns,λg=>?_,λg hg=>?_]
 .have:=lU f y fs;lia
 .show Hd ((bz f y fs).lookup g) (if g=f then Sm u else mA g);rw[lX];by_cases q:g=f
  .rw[Lz q,Lz q];exact W
  .rw[Lu q,Lu q];exact r g
 .by_cases q:g=f
  .rw[q];exact(kQ f y fs).1
  .refine(kQ f y fs).2 g (wi g λz=>hg ?_);show (if g=f then Sm u else mA g)=Nn;rw[Lu q];exact z
theorem Inv.made(I:Inv X pins σ H s):Inv X pins σ (upd (upd H s.heap.objs.size (.own (s.heap.objs.size+1))) (s.heap.objs.size+1) (.ins C s.heap.objs.size []))
  {s with heap:=(s.heap.push NH).push (NL C s.heap.objs.size)}:=by
 have F:(s.heap.push NH).get? s.heap.objs.size=Sm NH:=yQ s.heap rfl;have O:((s.heap.push NH).push (NL C s.heap.objs.size)).get? (s.heap.objs.size+1)=Sm (NL C s.heap.objs.size):=by
  have:=yQ (s.heap.push NH) (o:=NL C s.heap.objs.size) rfl
  rwa [sK]at this
 have Y:(s.heap.push NH).Ns s.heap.objs.size (λ_=>Nn):=yI3 NH #[] _ #[F,rfl,(λe U=>absurd U '~'),λ_=>rfl];have S:=I.laid (a:=s.heap.objs.size) (o:=.own (s.heap.objs.size+1)) (h':=s.heap.push NH) (t':=s.toks) (λb u q=>yc _ q) (zg _) #[_,F];refine S.laid (a:=s.heap.objs.size+1) (o:=.ins C s.heap.objs.size []) (t':=s.toks) (λb u q=>yc _ q) (Nat.le_of_eq (sK _ _)) ?_;have ne:s.heap.objs.size≠s.heap.objs.size+1:=yG (za2 _);refine#[by rw[au ne,ai],mw _,ne,O,λ_=>Nn,(LY.Ns1.of_empty Y).at λo q=>yc _ q,λ_=>True.intro,λy J=>absurd rfl J]
theorem Fw{prog:L_}{env:Env}{f:Str}(J:attributeBase e f env (eval e env)=eval e env)
  (h:I_ (model prog w) A (eval e env) (λo F=>I_ (model prog w) A (getAttr o f true) Q E F) E s):I_ (model prog w) A (eval (.Attribute e f pos) env) Q E s:=
 Attribute_any_ h (by rw[arm_eval_Attribute,J])
end
section
variable{X:Cx}{pins:List (o_×Obj)}{σ:St}{H:Hp}{s:so}{A:Me}{E:LZ}{Q:LZ}{c:B_}{b:Bool}
inductive gT (K:PySem.W.Frag) (H:Hp):V->B_->Prop where
 | non:gT K H .non (.type "NoneType")
 | bl (x:Bool):gT K H (.bl x) (.type "bool")
 | int (i:Int):gT K H (.int i) (.type "int")
 | str (x:Str):gT K H (.str x) (.type "str")
 | flt (x:UInt64):gT K H (.flt x) (.type "float")
 | lst {a:o_} {xs:MC} (e:H a=Sm (.lst xs)):gT K H (.ref a) (.type "list")
 | frz {a:o_} {o:Obj} {xs:MC} (e:H a=Sm (.frz o (.lst xs))):gT K H (.ref a) (.type "list")
 | tup {a:o_} {xs:MC} (e:H a=Sm (.tup xs)):gT K H (.ref a) (.type "tuple")
 | dK {a:o_} {kvs:List (aP×V)} (e:H a=Sm (.dK kvs)):gT K H (.ref a) (.type "dict")
 | dT {a:o_} {kvs:List (List aP×V)} (e:H a=Sm (.dT kvs)):gT K H (.ref a) (.type "dict")
 | ins {a C dx:o_} {fs:List (Str×V)} (e:H a=Sm (.ins C dx fs)) (cl:Ln K C) (ha:PySem.W.findIn K (.ref C) "__class__" = Sm (Sm (.builtin "object.__class__")))
   (hn:PySem.W.specialIn K (.builtin "object.__class__") "__get__" = Sm (Sm (.builtin "getset_descriptor.__get__"))) (htk:PySem.W.takesIn K (.builtin "object.__class__")=Sm true)
   (hm:PySem.W.mroIn K C (.type "object")=Sm true):gT K H (.ref a) (.ref C)
theorem Ah{x:V}{u t:B_}(I:Inv X pins σ H s)(F:RelV x u)(ty:gT X.K H x t)(e:W.kitOne X.K t c=Sm b)(h:∀tk,Q (.bool b) {s with toks:=tk}) :
  I_ (model X.prog X.w) A (call (.builtin "isinstance") [u,c]) Q E s:=by
 cases ty with
 | non=>cases (show u=MQ from F);exact JA W.kitx_none I.kIn True.intro e (λz=>nomatch z) h
 | bl y=>cases (show u=N9 y from F);exact JA W.kitx_bool I.kIn True.intro e (λz=>nomatch z) h
 | int i=>let#[t,q]:=(show ∃t,u=N_ i t from F);cases q;exact JA W.kitx_int I.kIn True.intro e (λz=>nomatch z) h
 | str y=>let#[t,q]:=(show ∃t,u=Nl y t from F);cases q;exact JA W.kitx_str I.kIn True.intro e (λz=>nomatch z) h
 | flt y=>let#[t,q]:=(show ∃t,u=B_.float y t from F);cases q;exact JA W.kitx_float I.kIn True.intro e (λz=>nomatch z) h
 | @lst a xs ea=>
  cases (show u=Md a from F);refine yA2 (show B3 X.prog X.w H s.heap a (.lst xs) from I.hok a _ ea) λ_=>yF2 λ_ n=>yB2 λ_ h1=>?_;exact JA W.kitx_list I.kIn #[_,h1,rfl] e (λz=>nomatch z) h
 | @frz a ob xs ea=>
  cases (show u=Md a from F);refine yA3 (show B3 X.prog X.w H s.heap a (.frz ob (.lst xs)) from I.hok a _ ea) λ_ _=>yF2 λ_ n=>yB2 λ_ h1=>?_;exact JA W.kitx_list I.kIn #[_,h1,rfl] e (λz=>nomatch z) h
 | @tup a xs ea=>
  cases (show u=Md a from F);refine yA2 (show B3 X.prog X.w H s.heap a (.tup xs) from I.hok a _ ea) λ_=>yF1 λ_=>yB2 λ_ p=>?_;revert p;refine yF1 λo=>yB3 λh1 h2 _=>?_;exact JA W.kitx_tuple I.kIn #[o,h1,h2] e (λz=>nomatch z) h
 | @dK a kvs ea=>
  cases (show u=Md a from F);refine yA3 (show B3 X.prog X.w H s.heap a (.dK kvs) from I.hok a _ ea) λ_ _=>yF1 λvs=>yB2 λ_ p=>?_;revert p;refine yF3 λo es ep=>yB3 λh1 h2 _=>?_;exact JA W.kitx_dict I.kIn #[o,h1,h2.1] e (λz=>nomatch z) h
 | @dT a kvs ea=>
  cases (show u=Md a from F);refine yA3 (show B3 X.prog X.w H s.heap a (.dT kvs) from I.hok a _ ea) λ_ _=>yF1 λxs=>yB2 λ_=>yF3 λo es ep=>yB3 λh1 h2 _=>?_;exact JA W.kitx_dict I.kIn #[o,h1,h2.1] e (λz=>nomatch z) h
 | @ins a C dx fs ea cl ha hn htk hm=>
  cases (show u=Md a from F);let#[mA,O,_]:=oO I.hok ea;let#[S,J,_]:=O.look;exact JA (W.kitx_own (cl.get _) cl.hd ha hn htk hm) I.kIn J e (λz=>nomatch z) h
end
structure CC (k:Nat) (A:Me):Prop where
 hd:A.handled=Nn
 dp:A.depth+3*k+5<recursionLimit
 un:A.units+16*k+200<cLine
theorem CC.mono{j k:Nat}(r:CC k A)(h:j<=k):CC j A:=#[r.hd,by have:=r.dp;lia,by have:=r.un;lia]
theorem CC.deeper{k:Nat}(r:CC (k+1) A)(env:Env):CC k (A.deeper env):=
 #[r.hd,by have:=r.dp;show A.depth+1+3*k+5<_;lia,by have:=r.un;show A.units+3+16*k+200<_;lia]
theorem zA{F:MF}{J:List (Str×B_)}:(A.under (.builtin "type.__call__" #[.ref C::F,J])).depth=A.depth+1:=by
 first | rfl | simp[Me.under,Code.weight,Code.isCreation,Code.isGuard,Code.isCaller,Code.frames,Code.isFrame,guardIds]
theorem yo{F:MF}{J:List (Str×B_)}:(A.under (.builtin "type.__call__" #[.ref C::F,J])).units=A.units+1:=by
 first | rfl | simp[Me.under,Code.cUnits,Code.frames,Code.isFrame]
theorem CC.make{k:Nat}(r:CC (k+1) A)(C:o_)(F:MF)(J:List (Str×B_)):CC k (A.under (.builtin "type.__call__" #[.ref C::F,J])):=
 #[r.hd,by have:=r.dp;rw[zA];lia,by have:=r.un;rw[yo];lia]
theorem CC.depth{k:Nat}(r:CC k A):A.depth<recursionLimit:=by have:=r.dp;lia
def ix:TA:=λ_ H Q=>Q [] H
def cP(ta:TE)(tr:TA):TA:=λσ H Q=>ta σ H λx H1=>tr σ H1 λxs H2=>Q (x::xs) H2
section
variable{X:Cx}{e:Expr}{es:ML}{te:TE}{t:TA}{pos:Pos}
theorem ae:PA X [] ix:=λ_ _ _ _ H Q I h=>Calls.spliced_nil (yI2 ([]) H #[I,.nil,h])
theorem aa(ha:PE X e te)(F:PA X es t)(hs:Mj (e::es) X.env=(false,eval e X.env)::Mj es X.env:=by rfl):PA X (e::es) (cP te t):=by
 intro pos pins s σ H Q I h;rw[hs];show I_ _ _ (spliced ((false,eval e X.env)::backTo pos (Mj es X.env))) _ _ s;refine Calls.spliced_cons (bA (ha pins s σ H _ I h) λu Z ⟨x,H1,U,J,S⟩=>?_);exact bA (F pos pins Z σ H1 _ U S) λus s2 ⟨xs,H2,W,Y,O⟩=>yI2 (x::xs) H2 #[W,.cons J Y,O]
def xy(t:TA):TE:=λσ H Q=>t σ H λxs H1=>xs.length<=L9/\∀p,H1 p=Nn->Q (.ref p) (upd H1 p (.tup xs))
def DT(t:TA):TE:=λσ H Q=>t σ H λxs H1=>xs.length<=L9/\∀p,H1 p=Nn->Q (.ref p) (upd H1 p (.lst xs))
theorem aR{x1}(h:PA X es t):PE X (.Tuple es x1 pos) (xy t):=by
 intro pins s σ H Q I S;refine wpAny_Tuple_spliced (bA (h pos pins s σ H _ I S) λO F ⟨xs,H1,J,r,z,q⟩=>#[by rw[<-r.length];exact z,?_]);have hf:H1 F.heap.objs.size=Nn:=J.hok.fresh (zg _);refine yI2 (.ref F.heap.objs.size) (upd H1 F.heap.objs.size (.tup xs)) #[J.laid (t':=F.toks) (λb u e=>yc _ e) (zg _) ?_,rfl,q _ hf];exact#[z,O,r,#[_,yQ _ rfl,rfl,rfl,_,rfl]]
theorem aG(h:PA X es t):PE X (.List es pos) (DT t):=by
 intro pins s σ H Q I S;refine wpAny_List_spliced (bA (h pos pins s σ H _ I S) λO F ⟨xs,H1,J,r,z,q⟩=>#[by rw[<-r.length];exact z,?_]);have hf:H1 F.heap.objs.size=Nn:=J.hok.fresh (zg _);refine yI2 (.ref F.heap.objs.size) (upd H1 F.heap.objs.size (.lst xs)) #[J.laid (t':=F.toks) (λb u e=>yc _ e) (zg _) ?_,rfl,q _ hf];exact#[z,yI2 O 0 #[r,yQ _ rfl]]
end
abbrev Sp:=MC->Hp->VK->XK->Prop
abbrev jx:=List Env->Hp->so->XK->B_->so->Prop
structure ID (P:L_) (w:K_) (K:KE) (mg:Str->MG) (base:LY) (A:Me) (outer:List Env) (s:so) (H:Hp):Prop where
 frames:A.frames=Sm outer
 mod:Mod K mg base
 bs:∀b o,base.get? b=Sm o->s.heap.get? b=Sm o/\H b=Nn
 bsz:base.objs.size<=s.heap.objs.size
 funs:s.heap.FunFrames base outer
 frf:∀b∈kq outer,H b=Nn
 hok:G3 P w H s.heap
 bare:NG s.gens
def CE(outer:List Env)(P:L_)(w:K_)(H:Hp)(s:so)(Q:VK)(u:B_)(s':so):Prop:=
 ∃v H',s'.os=s.os/\NG s'.gens/\Un (kq outer) [] H H' s.heap s'.heap/\G3 P w H' s'.heap/\RelV v u/\Q v H'
def CR(CX:jx)(outer:List Env)(P:L_)(w:K_)(H:Hp)(s:so)(Q:VK)(E:XK)(r:Nw)(s':so):Prop:=
 match r with
 | .ok (.ret u)=>CE outer P w H s Q u s'
 | .ok _=>False
 | .error e=>CX outer H s E e s'
structure GZ (P:L_) (w:K_) (K:KE) (mg:Str->MG) (base:LY) (CX:jx) (k:Nat) (f:o_) (fd:Nf) (ps:MA) (sp:Sp):Prop where
 len:∀vs H Q E,sp vs H Q E->vs.length=ps.length
 run:∀(A:Me) (outer:List Env) (s:so) (H:Hp) (args:Args) (us:MF) (vs:MC) (Q:VK) (E:XK),CC k A->ID P w K mg base A outer s H->BindsTo s fd args (ps.zip us)->A1 vs us->sp vs H Q E->
  codeAny (model P w) A (.call (.ref f) args) (CR CX outer P w H s Q E) s
theorem GZ.mono{P:L_}{mg:Str->MG}{base:LY}{CX:jx}{j k:Nat}{f:o_}{fd:Nf}{ps:MA}{sp:Sp}(F:GZ P w K mg base CX j f fd ps sp)(h:j<=k) :
  GZ P w K mg base CX k f fd ps sp:=#[F.len,λA outer s H args J vs Q E O=>F.run A outer s H args J vs Q E (O.mono h)]
theorem GZ.imp{P:L_}{mg:Str->MG}{base:LY}{CX:jx}{k:Nat}{f:o_}{fd:Nf}{ps:MA}{sp J:Sp}(F:GZ P w K mg base CX k f fd ps sp)
  (h:∀vs H Q E,J vs H Q E->sp vs H Q E):GZ P w K mg base CX k f fd ps J:=
 #[λvs H Q E q=>F.len vs H Q E (h _ _ _ _ q),λA outer s H args U vs Q E O S Y hv Z=>F.run A outer s H args U vs Q E O S Y hv (h _ _ _ _ Z)]
theorem ID.make{P:L_}{mg:Str->MG}{base:LY}{outer:List Env}(e:ID P w K mg base A outer s H)(C:o_)(F:MF)(J:List (Str×B_)) :
  ID P w K mg base (A.under (.builtin "type.__call__" #[.ref C::F,J])) outer s H:=#[by first | exact e.frames | (simpa [Me.under,Code.envs,Code.isFrame,pushEnvs] using e.frames),e.mod,e.bs,e.bsz,e.funs,e.frf,e.hok,e.bare]
section
variable{X:Cx}{pins:List (o_×Obj)}{σ:St}{H:Hp}{s s':so}
theorem Inv.env0(I:Inv X pins σ H s):ID X.prog X.w X.K X.mg X.base X.A X.stack s H:=
 #[I.ok.frames,I.ok.mod,I.bs,mn I.ok.bsz I.sz,I.stack,I.stkFree,I.hok,I.bare]
theorem Inv.after{Q:VK}(I:Inv X pins σ H s)(h:CE X.stack X.prog X.w H s Q u s'):EP X pins σ Q u s':=by
 revert h;refine yF2 λv H'=>yB6 λos bare un hok r q=>?_;let#[hh,g,d,t,F]:=s';obtain rfl:F=s.os:=os;exact yI2 v H' #[I.call (h':=hh) (g':=g) (d':=d) (t':=t) (ch:=[]) un hok bare (λb z=>absurd z '~'),r,q]
end
def je(sp:Sp)(dvs:MC)(E:XK)(t:TA):TE:=λσ H Q=>t σ H λvs H1=>sp (vs++dvs) H1 Q E
def Binds(K:KE)(fd:Nf)(ps:MA)(ds:MF):Prop:=
 ∀(s:so) (us:MF),K.In s.heap->(us++ds).length=ps.length->BindsTo s fd #[us,[]] (ps.zip (us++ds))
theorem Binds.all{fd:Nf}{ps:MA}(h:∀F:MF,F.length=ps.length->bindArgs fd #[F,[]]=pure (ps.zip F)):Binds K fd ps []:=λs F _ hl=>by
 rw[Jg]at hl |-
 exact .of_eq (h F hl)
def n6(CX:jx)(X:Cx)(E:XK):Prop:=∀(pins:List (o_×Obj)) (σ : St) (H:Hp) (s:so) (e:B_) (s':so),Inv X pins σ H s->CX X.stack H s E e s'->X.xe e s'
section
variable{X:Cx}{CX:jx}{k:Nat}{f C:o_}{fd:Nf}{ps:MA}{sp:Sp}{dvs:MC}{ds:MF}{E:XK}{x m:Str}{p pos apos:Pos}{e o:Expr}{es:ML}{ta:TE}{t:TA}
theorem Ju{pins:List (o_×Obj)}{σ:St}{H:Hp}{s:so}{Q:VK}{J:MF}{vs:MC}(F:GZ X.prog X.w X.K X.mg X.base CX k f fd ps sp)(U:CC k X.A)(W:Binds X.K fd ps ds)(hd:A1 dvs ds)(hx:n6 CX X E)
  (I:Inv X pins σ H s) (r:A1 vs J) (h:sp (vs++dvs) H Q E):I_ (model X.prog X.w) X.A (call (.ref f) J) (EP X pins σ Q) X.xe s:=by
 have S:A1 (vs++dvs) (J++ds):=r.append hd;have hl:(J++ds).length=ps.length:=by rw[<-S.length];exact F.len _ _ _ _ h
 refine wpAny_call (Od (F.run X.A X.stack s H #[J,[]] (J++ds) (vs++dvs) Q E U I.env0 (W s J I.kIn hl) S h) λr s' O=>?_);cases r with
 | error e=>exact hx pins σ H s e s' I O
 | ok fl=>
  cases fl with
  | ret u=>exact I.after O
  | next=>exact False.elim O
  | brk=>exact False.elim O
  | cont=>exact False.elim O
theorem E3(F:GZ X.prog X.w X.K X.mg X.base CX k f fd ps sp)(S:CC k X.A)(hg:Gl X x)(U:X.mg x=Sm (.ref f))(Y:NJ X.K (.ref f)=true)(hb:Binds X.K fd ps ds)(hd:A1 dvs ds)(hx:n6 CX X E)
  (Z:PA X (e::es) t) (J:(x==("__debug__" : Str))=false:=by decide) (he:Mj (e::es) X.env=(false,eval e X.env)::Mj es X.env:=by rfl) (hpl:(backTo pos (Mj es X.env)).any (·.1)=false:=by rfl) :
  PE X (.Call (.Name x p) (e::es) [] pos) (je sp dvs E t):=by
 intro pins s σ H Q I h;refine OB (pe I hg U ?_ J);refine W.callWith_K (h₀:=X.base) I.ok.mod.kin Y (bA (Z pos pins s σ H _ I h) λus s1 ⟨vs,H1,O,r,q⟩=>#[O.kIn,?_]) he hpl;exact Ju F S hb hd hx O r q
structure Mk (K:KE) (C f:o_):Prop where
 makes:W.makesIn K C=true
 init:Nh K (.ref C) "__init__" = Sm (Sm (.ref f))
 fn:W.isFn K (.ref f)=true
 kp:NJ K (.ref C)=true
theorem DV{pins:List (o_×Obj)}{σ:St}{H:Hp}{s:so}{Q:VK}{O:MF}{vs:MC}(M:Mk X.K C f)(F:GZ X.prog X.w X.K X.mg X.base CX k f fd ps sp)(Y:CC (k+1) X.A)(hb:Binds X.K fd ps ds)(hd:A1 dvs ds)
  (hx:n6 CX X E) (I:Inv X pins σ H s) (r:A1 vs O)
  (h:∀x dx,H x=Nn->H dx=Nn->dx≠x->sp (.ref x::(vs++dvs)) (upd (upd H dx (.own x)) x (.ins C dx [])) (λv H2=>v = .non/\Q (.ref x) H2) E) :
  I_ (model X.prog X.w) X.A (call (.ref C) O) (EP X pins σ Q) X.xe s:=by
 have U:=h (s.heap.objs.size+1) s.heap.objs.size (I.hok.fresh (Nat.le_succ _)) (I.hok.fresh (zg _)) (yG (za2 _));have S:=Inv.made (C:=C) I;have W:A1 (V.ref (s.heap.objs.size+1)::(vs++dvs)) (Md (s.heap.objs.size+1)::(O++ds)):=.cons rfl (r.append hd);have hl:(Md (s.heap.objs.size+1)::O++ds).length=ps.length:=by
  have e:=W.length;rw[F.len _ _ _ _ U]at e;exact e.symm
 refine wpAny_call (Cj (f:=f) I.kIn M.makes M.init (beq_iff_eq.mp M.fn) (Od (F.run _ X.stack _ _ #[Md (s.heap.objs.size+1)::O,[]] (Md (s.heap.objs.size+1)::(O++ds)) _ _ E (Y.make C O [])
  (S.env0.make C O []) (hb _ (Md (s.heap.objs.size+1)::O) S.kIn hl) W U) λr s' J=>?_))
 cases r with
 | error e=>exact hx pins σ _ _ e s' S J
 | ok fl=>
  cases fl with
  | ret u=>
   refine yE2 (S.after J) λv H'=>yB4 λI3 Z ev q3=>?_;subst ev;exact#[Z,yI2 (V.ref (s.heap.objs.size+1)) H' #[I3,rfl,q3]]
  | next=>exact False.elim J
  | brk=>exact False.elim J
  | cont=>exact False.elim J
end
structure aC (N P:MA) (sc:Scope):Prop where
 kind:sc.kind = .function
 co:sc.isCoroutine=false
 gen:sc.isGenerator=false
 nd:N.Nodup
 pre:N.take P.length=P
 par:∀x∈P,sc.names.lookup x=Sm .local\/sc.names.lookup x=Sm .cell
 nofree:∀y∈sc.names,y.2 ≠ .free
theorem DB{N P:MA}{s:Ma}(h1:(L2.sg s).kind = .function:=by rfl)(h2:(L2.sg s).isCoroutine=false:=by rfl)(h3:(L2.sg s).isGenerator=false:=by rfl)(h4:N.Nodup:=by decide +kernel)(h5:N.take P.length=P:=by rfl)(h6:∀x∈P,(L2.sg s).names.lookup x=Sm .local\/(L2.sg s).names.lookup x=Sm .cell:=by decide +kernel)(h7:∀y∈(L2.sg s).names,y.2 ≠ .free:=by decide +kernel):aC N P (L2.sg s):=#[h1,h2,h3,h4,h5,h6,h7]
theorem qE{kindOf:Str->Option M6}{x:Str}:∀ {binds:List (Str×B_)} {m:Str->MG},(∀v,(x,v)∉binds)->bindL kindOf binds m x=m x
 | [],_,_=>rfl
 | (n,v)::r,m,h=>by
  unfold bindL;rw[qE λw F=>h w (yh _ F)];split
  .have:x≠n:=by rintro rfl;exact h v yd
   simp[this]
  .rfl
theorem pV{kindOf:Str->Option M6}{x:Str}:∀ {binds:List (Str×B_)} {m:Str->MG},(∀v,(x,v)∉binds)->bindC kindOf binds m x=m x
 | [],_,_=>rfl
 | (n,v)::r,m,h=>by
  unfold bindC;rw[pV λw F=>h w (yh _ F)];split
  .rfl
  .have:x≠n:=by rintro rfl;exact h v yd
   simp[this]
theorem pT{kindOf:Str->Option M6}{x:Str}{v:B_}:∀ {P:MA} {vs:MF} {i:Nat} {m:Str->MG},P.Nodup->P[i]?=Sm x->vs[i]?=Sm v->kindOf x=Sm .local->
  bindL kindOf (P.zip vs) m x=Sm v
 | [],_,_,_,_,h,_,_=>by simp at h
 | _::_,[],_,_,_,_,h,_=>by simp at h
 | p::P,w::vs,0,m,nd,h1,h2,hk=>by
  simp at h1 h2;subst h1;subst h2;show bindL kindOf ((p,w)::P.zip vs) m p=_;unfold bindL;rw[qE λv hv=>(LR.mp nd).1 (List.of_mem_zip hv).1,Lz hk];simp
 | p::P,w::vs,i+1,m,nd,h1,h2,hk=>by
  show bindL kindOf ((p,w)::P.zip vs) m x=_;unfold bindL;exact pT (i:=i) (LR.mp nd).2 (by simpa using h1) (by simpa using h2) hk
theorem qm{kindOf:Str->Option M6}{x:Str}{v:B_}:∀ {P:MA} {vs:MF} {i:Nat} {m:Str->MG},P.Nodup->P[i]?=Sm x->vs[i]?=Sm v->kindOf x≠Sm .local->
  bindC kindOf (P.zip vs) m x=Sm v
 | [],_,_,_,_,h,_,_=>by simp at h
 | _::_,[],_,_,_,_,h,_=>by simp at h
 | p::P,w::vs,0,m,nd,h1,h2,hk=>by
  simp at h1 h2;subst h1;subst h2;show bindC kindOf ((p,w)::P.zip vs) m p=_;unfold bindC;rw[pV λv hv=>(LR.mp nd).1 (List.of_mem_zip hv).1,Lu hk];simp
 | p::P,w::vs,i+1,m,nd,h1,h2,hk=>by
  show bindC kindOf ((p,w)::P.zip vs) m x=_;unfold bindC;exact qm (i:=i) (LR.mp nd).2 (by simpa using h1) (by simpa using h2) hk
noncomputable def start(N:MA)(vs:MC):St:=vs.map Sm++List.replicate (N.length-vs.length) Nn
noncomputable def kI(CX:jx)(P:L_)(w:K_)(K:KE)(mg:Str->MG)(base:LY)(N:MA)(qual:Str)(scope:Scope)(f:o_)(cd:B_)(A:Me)(outer:List Env)(s:so)(H:Hp)(E:XK):Cx where
 prog:=P
 w:=w
 K:=K
 mg:=mg
 base:=base
 A:=A.deeper (envOfC qual scope s.heap.objs.size f cd)
 N:=N
 s₀:=s
 H₀:=H
 env:=envOfC qual scope s.heap.objs.size f cd
 outer:=outer
 stack:=envOfC qual scope s.heap.objs.size f cd::outer
 ex:=[]
 calm:=true
 fn:=λ_=>true
 pn:=[]
 xe:=λe s'=>I_ (model P w) (A.deeper (envOfC qual scope s.heap.objs.size f cd)) (leaving (envOfC qual scope s.heap.objs.size f cd) e) (λ_ s''=>CX outer H s E e s'') (λe' s''=>CX outer H s E e' s'') s'
theorem va{F:Scope}{n:Nat}(h:F.names.lookup x=Sm .cell):∃c,(cellsFrom n F.names []).lookup x=Sm c:=by
 have q:=W.cellsFrom_some F.names n [] (.inl h);exact Option.isSome_iff_exists.mp q
theorem z_{CX:jx}{P:L_}{w:K_}{K:KE}{mg:Str->MG}{base:LY}{N ps:MA}{F:Str}{scope:Scope}{f:o_}{cd:B_}{A:Me}{outer:List Env}{s s1:so}{H:Hp}{E:XK}{us:MF}{vs:MC}
  (S:aC N ps scope) (hd:A.handled=Nn) (J:ID P w K mg base A outer s H) (hl:vs.length=ps.length) (r:A1 vs us)
  (x:InCallC s s.heap.objs.size (bindL (envOfC F scope s.heap.objs.size f cd).kindOf (ps.zip us) λ_=>Nn) (cellsFrom (s.heap.objs.size+1) scope.names []) (bindC (envOfC F scope s.heap.objs.size f cd).kindOf (ps.zip us) λ_=>Nn) s1) :
  Inv (kI CX P w K mg base N F scope f cd A outer s H E) [] (start N vs) H s1:=by
 have ab:ps.length<=N.length:=by have:=congrArg List.length S.pre;rw[lj]at this;lia
 refine yE2 x.done λh1 tk=>yB2 ?_;rintro rfl hk;have U:∀b:o_,b∉(kI CX P w K mg base N F scope f cd A outer s H E).ex:=λb z=>absurd (show b∈([]:MD) from z) '~';refine⟨⟨J.mod,S.kind,rfl,rfl,zg _,λy z c h1 h2=>?_,λy O=>?_,λy c _ h=>?_,λ_=>hd,Me.frames_deeper J.frames,.inr ⟨rfl,rfl⟩,λb z=>absurd z (U b),J.bs,J.bsz,λb _ _=>U b,λb z=>absurd z (U b),J.funs,J.frf⟩,
  rfl,J.bare,Un.kept hk,⟨_,x.toInCall.ns,λi y v h1 h2 h3=>?_⟩,λy c h=>⟨_,x.cell y c h⟩,J.hok.fresh (zg _),λy c h=>?_,λp Z=>absurd (show p∈([]:List (o_×Obj)) from Z) '~',J.hok.kept hk,?_⟩
 .exact name_of_addr x.apart (za3 h1) (za3 h2)
 .have O:scope.names.lookup y=Sm .cell\/scope.names.lookup y=Sm .free:=O;rcases O with O | O
  .exact va O
  .exact absurd rfl (S.nofree _ (za3 O))
 .exact xx (x.above y c (za3 h))
 .have hi:i<vs.length:=by
   unfold start at h2;by_cases hi:i<vs.length
   .exact hi
   .rw[uu (by simpa using hi)]at h2;rw[zbc]at h2;split at h2<;>cases h2
  have ha:vs[i]?=Sm v:=by
   unfold start at h2;rw[xr (by simpa using hi),zz]at h2;cases e:vs[i]? with
   | none=>rw[e]at h2;cases h2
   | some a=>rw[e]at h2;cases h2;rfl
  let#[u,hu,rv]:=r.get ha;have Z:ps[i]?=Sm y:=by
   rw[<-S.pre,List.getElem?_take_of_lt ()];exact h1
  have Y:ps.Nodup:=by rw[<-S.pre];exact S.nd.sublist (List.take_sublist _ _)
  refine#[u,rv,?_];rcases S.par y (xO Z) with k | k
  .exact .inl #[k,pT Y Z hu k]
  .let#[c,e]:=va (n:=s.heap.objs.size+1) k;refine .inr #[.inl k,c,e,?_];have q:=x.cell y c e;rw[qm Y Z hu (by show scope.names.lookup y≠_;rw[k];decide)]at q;exact q
 .exact J.hok.fresh (xx (x.above y c (za3 h)))
 .unfold start;show _=N.length;rw[zq,zb,zbd];lia
theorem J3{CX:jx}{P:L_}{w:K_}{K:KE}{mg:Str->MG}{base:LY}{k:Nat}{f:o_}{name F:Str}{U:Arguments}{Y:List Ma}{scope:Scope}{dV kV ag pm O ct oc:B_}{an od:MN}
  {as:Array MG} {N ps:MA} {sp:Sp} (lk:K.lookup f=Sm #[oc,od,.func (Nr name F U Y scope dV kV ag pm an O ct),as]) (a3:W.codeIn K O F=true) (S:aC N ps scope)
  (len:∀vs H Q E,sp vs H Q E->vs.length=ps.length)
  (Z:∀(A:Me) (outer:List Env) (s:so) (H:Hp) (vs:MC) (Q:VK) (E:XK),CC k (A.deeper (envOfC F scope s.heap.objs.size f O))->sp vs H Q E->
   ∃t,Iz (kI CX P w K mg base N F scope f O A outer s H E) Y t/\t {nx:=λ_ H'=>Q .non H',rt:=Q} (start N vs) H) :
  GZ P w K mg base CX (k+1) f (Nr name F U Y scope dV kV ag pm an O ct) ps sp:=by
 refine#[len,λA outer s H args us vs Q E hr e0 hb r ac=>?_];have hl:=len _ _ _ _ ac;have KX:K.In s.heap:=e0.mod.kin.keeps λb o e=>(e0.bs b o e).1;have al:s.heap.NoLimit:=e0.mod.nolimit.keeps λb o e=>(e0.bs b o e).1;have ab:∀y∈ps.zip us,scope.names.lookup y.1=Sm .local\/(scope.names.lookup y.1=Sm .cell/\((cellsFrom (s.heap.objs.size+1) scope.names []).lookup y.1).isSome=true):=λ⟨n,v⟩ hy=>by
  rcases S.par n (List.of_mem_zip hy).1 with q | q
  .exact .inl q
  .exact .inr #[q,W.cellsFrom_some _ _ _ (.inl q)]
 refine codeAny_call_function hr.depth (KX _ _ lk) rfl S.co S.gen rfl (W.codeRec_of KX a3) (hb _ _ _ _ ?_);refine wpAny_newFunctionEnv_cells S.kind ab λenv he s1 x=>?_;subst he;refine#[al.keeps x.toInCall.keep,codeAny_func ?_];let#[t,ht,hq]:=Z A outer s H vs Q E (hr.deeper _) ac;have I:Inv (kI CX P w K mg base N F scope f O A outer s H E) [] (start N vs) H s1:=z_ S hr.hd e0 hl r x;refine Nb (ht [] s1 (start N vs) H _ I hq) (λfl s' hs=>?_) λe s' hs=>hs;have ad:∀ {σ':St} {H':Hp} {v:V} {u:B_},Inv (kI CX P w K mg base N F scope f O A outer s H E) [] σ' H' s'->RelV v u->Q v H'->CE outer P w H s Q u s':=
  λ{σ' H' v u} J rv q=>yI2 v H' #[J.os,J.bare,J.base,J.hok,rv,q]
 cases fl with
 | ret u=>
  revert hs;refine yF3 λv σ' H'=>yB3 λJ rv q=>?_;exact ad J rv q
 | next=>
  revert hs;refine yF2 λσ' H'=>yB2 λJ q=>?_;exact ad (v:=V.non) (u:=MQ) J rfl q
 | brk=>
  revert hs;refine yF2 λ_ _=>yB2 λ_ q=>?_;exact False.elim q
 | cont=>
  revert hs;refine yF2 λ_ _=>yB2 λ_ q=>?_;exact False.elim q
section
variable{X:Cx}{x:Str}{p pos:Pos}{e:Expr}{es:ML}{t:TA}{id T:String}{r:MC->Hp->VK->Prop}
def tZ(r:MC->Hp->VK->Prop)(t:TA):TE:=λσ H Q=>t σ H λvs H1=>r vs H1 Q
theorem Ca(S:Ck X (.builtin id) r)(hg:Gl X x)(W:X.mg x=Nn)(hv:MX x=Sm (.builtin id))(ha:PA X (e::es) t)(J:x ≠ "__name__" := by decide) (hdb:(x==("__debug__" : Str))=false:=by decide)
  (he:Mj (e::es) X.env=(false,eval e X.env)::Mj es X.env:=by rfl) (hpl:(backTo pos (Mj es X.env)).any (·.1)=false:=by rfl):PE X (.Call (.Name x p) (e::es) [] pos) (tZ r t):=by
 intro pins s σ H Q I h;refine OB (jI I hg W hv ?_ J hdb);exact PyProof.Rows.callWith_builtin1 (bA (ha pos pins s σ H _ I h) λZ Y ⟨vs,H1,U,F,O⟩=>S pins Y σ H1 vs Z Q U F O) he hpl
theorem AG(S:Ck X (.type T) r)(hg:Gl X x)(W:X.mg x=Nn)(hv:MX x=Sm (.type T))(ha:PA X (e::es) t)(J:x ≠ "__name__" := by decide) (hdb:(x==("__debug__" : Str))=false:=by decide)
  (he:Mj (e::es) X.env=(false,eval e X.env)::Mj es X.env:=by rfl) (hpl:(backTo pos (Mj es X.env)).any (·.1)=false:=by rfl):PE X (.Call (.Name x p) (e::es) [] pos) (tZ r t):=by
 intro pins s σ H Q I h;refine OB (jI I hg W hv ?_ J hdb);exact zbb (bA (ha pos pins s σ H _ I h) λZ Y ⟨vs,H1,U,F,O⟩=>S pins Y σ H1 vs Z Q U F O) he hpl
end
end L2
namespace HT
open PySem PyProof.Rows
theorem rcLt_int(A:Me)(s:so)(a:Int)(t:Tok)(c:Int)(u:Tok)(prog:L_)(w:K_)(E:LZ)(Q:LZ)(h:Q (.bool (decide (a<c))) s) :
  I_ (model prog w) A (richCompare .Lt (.int a t) (.int c u)) Q E s:=
 (PyProof.Rows.lt_int h:I_ (model prog w) A (Mr .Lt (.int a t) (.int c u)) Q E s)
section
variable{prog:L_}{w:K_}{A:Me}{E:LZ}{s:so}
theorem cat_tup{t b:o_}{vs ws:MF}{Q:LZ}(ht:IsTup s.heap t vs.toArray)(hb:IsTup s.heap b ws.toArray)(hv:vs≠[])
  (h1:ws=[]->Q (.ref t) s) (h2:ws≠[]->Q (.ref s.heap.objs.size) {s with heap:=s.heap.push {cls:=.type "tuple",data:=.seq (vs++ws).toArray}})
  (hsz:vs.length+ws.length<=L9):I_ (model prog w) A (binaryOp .Add (.ref t) (.ref b)) Q E s:=by
 refine yE1 (id ht) ?_;rintro ⟨cls,dd,data,sl⟩;refine yB3 λY Z=>yF1 λn hd=>?_;refine yE1 (id hb) ?_;rintro ⟨ab,S,data2,O⟩;refine yB3 λJ W=>yF1 λn2 U=>?_;simp only at Z hd W U;subst Z hd W U;have e:vs.toArray++ws.toArray=(vs++ws).toArray:='~';by_cases hw:ws=[]
 .exact concat_meets #[_,Y,rfl] #[_,J,rfl] noFill_tuple_add seq_tuple_add PySem.F.slot_tuple_add PySem.F.entry_tuple_add (PySem.F.args_tuple_add_2 _ _)
   (tuple_addW1 t b vs.toArray ws.toArray n n2 dd S sl O (by simpa using hv) (by simp[hw])) #[Y,J,h1 hw]
 .refine concat_meets #[_,Y,rfl] #[_,J,rfl] noFill_tuple_add seq_tuple_add PySem.F.slot_tuple_add PySem.F.entry_tuple_add (PySem.F.args_tuple_add_2 _ _)
   (tuple_addW2 t b vs.toArray ws.toArray n n2 dd S sl O (by simpa using hv) (by simpa using hw) (by rw[List.size_toArray,List.size_toArray];exact hsz)) #[Y,J,?_]
  rw[e];exact h2 hw
noncomputable def sIx(n d:Nat):MI->Nat
 | none=>d
 | some v=>if v<0 then (v+(n:Int)).toNat else min v.toNat n
theorem sIx_none(n d:Nat):sIx n d Nn=d:=rfl
theorem sIx_nat(n d k:Nat):sIx n d (Sm (k:Int))=min k n:=by
 show (if (k:Int)<0 then ((k:Int)+(n:Int)).toNat else min (k:Int).toNat n)=min k n;rw[if_neg (),Int.toNat_natCast]
theorem HW(n d:Nat)(hd:d<=n)(o:MI):sIx n d o<=n:=by
 cases o with
 | none=>exact hd
 | some v=>
  show (if v<0 then (v+(n:Int)).toNat else min v.toNat n)<=n;by_cases hv:v<0
  .rw[if_pos hv];lia
  .rw[if_neg hv];exact Nat.min_le_right _ _
theorem v2(v:Int)(n d:Nat):(if v<0 then max (v+(n:Int)) 0 else min v (n:Int))=((sIx n d (Sm v):Nat):Int):=by
 show (if v<0 then max (v+(n:Int)) 0 else min v (n:Int))=(((if v<0 then (v+(n:Int)).toNat else min v.toNat n):Nat):Int)
 by_cases hv:v<0
 .simp only[if_pos hv];lia
 .simp only[if_neg hv];lia
theorem yX(lo hi:MI)(n:Nat):OT lo hi 1 (n:Int)=(((sIx n 0 lo:Nat):Int),((sIx n n hi:Nat):Int)):=by
 have h1:¬ ((1:Int)<0):=()
 unfold OT;simp only[h1,if_false];refine Prod.ext ?_ ?_
 .cases lo with
  | none=>rfl
  | some v=>exact v2 v n 0
 .cases hi with
  | none=>rfl
  | some v=>exact v2 v n n
theorem x_(i j:Nat):OC (i:Int) (j:Int) 1=j-i:=by
 unfold OC;have h1:(1:Int)>0:=()
 simp only[h1,if_true,Int.ediv_one];split<;>lia
theorem nB{v:B_}{o:MI}{Q:MI->so->Prop}(p:IsPart v o)(h:Q o s):I_ (model prog w) A (Mv.Slice.slicePartIndex v) Q E s:=by
 cases p with
 | none=>exact slicePart_none h
 | int i t=>exact slicePart_int h
theorem sliceApplied_gen{U:o_}{S O:B_}{lo hi:MI}{n:Nat}{Q:Int×Int×Nat->so->Prop}(Z:s.heap.IsSliceOf U S O .none)(pl:IsPart S lo)(Y:IsPart O hi)
  (h:Q (((sIx n 0 lo:Nat):Int),1,sIx n n hi-sIx n 0 lo) s):I_ (model prog w) A (O_ (.ref U) (pure (n:Int))) Q E s:=by
 refine yE1 (id Z) λos=>yB3 λF W J=>?_;unfold O_ Mv.Slice.sliceFields;refine MU (MU (Nd F J (x:=S) rfl (MU (Nd F J (x:=O) rfl (MU (Nd F J (x:=.none) rfl (M0 ?_)))))));refine MU (slicePart_none ?_);show I_ _ _ (if ((1:Int)==0)=true then _ else _) _ _ s;rw[if_neg ∅];refine MU (nB pl (MU (nB Y (MU (M0 ?_)))));show I_ _ _ (match OT lo hi 1 (n:Int) with | (lo,hi)=>pure (lo,(1:Int),OC lo hi 1)) _ _ s;rw[yX lo hi n];show I_ _ _ (pure (((sIx n 0 lo:Nat):Int),(1:Int),OC ((sIx n 0 lo:Nat):Int) ((sIx n n hi:Nat):Int) 1)) _ _ s;rw[x_];exact M0 h
theorem BH(xs:MM)(i k:Nat):((List.range k).filterMap λ(m:Nat)=>xs[((i:Int)+(m:Int)*1).toNat]?).toArray=((xs.toList.drop i).take k).toArray:=by
 have e:(λ(m:Nat)=>xs[((i:Int)+(m:Int)*1).toNat]?)=λm=>xs[i+m]?:=by
  funext m;have:((i:Int)+(m:Int)*1).toNat=i+m:=()
  rw[this]
 rw[e];have:=pick_run xs i k;rw[List.filterMap_map]at this;have F:((λx=>xs[x]?) ∘ λx=>i+x)=λm=>xs[i+m]?:=rfl;rw[F]at this;rw[this]
theorem getItem_tuple_cut{t Y:o_}{items:MM}{vl vu:B_}{lo hi:MI}{Q:LZ}(J:IsTup s.heap t items)(Z:s.heap.IsSliceOf Y vl vu .none)(pl:IsPart vl lo)(pu:IsPart vu hi)
  (hw:¬ (sIx items.size 0 lo=0/\sIx items.size items.size hi=items.size))
  (h:Q (.ref s.heap.objs.size) {s with heap:=s.heap.push {cls:=.type "tuple",data:=.seq ((items.toList.drop (sIx items.size 0 lo)).take (sIx items.size items.size hi-sIx items.size 0 lo)).toArray}})
  (hsz:items.size<=L9):I_ (model prog w) A (getItem (.ref t) (.ref Y)) Q E s:=by
 have F:sizeOk (.seq ((items.toList.drop (sIx items.size 0 lo)).take (sIx items.size items.size hi-sIx items.size 0 lo)).toArray):=by
  show ((items.toList.drop (sIx items.size 0 lo)).take (sIx items.size items.size hi-sIx items.size 0 lo)).toArray.size<=L9;rw[List.size_toArray,List.length_take,List.length_drop,Array.length_toList];exact Nat.le_trans (Nat.min_le_right _ _) (Nat.le_trans (Nat.sub_le _ _) hsz)
 have hj:sIx items.size items.size hi<=items.size:=HW _ _ (Nat.le_refl _) hi;refine yE1 (id Z) λos=>yB3 λO U ab=>?_;have S:s.TypeIs (.ref Y) "slice" := #[os,O,U];unfold getItem
 try with_reducible refine My ?_
 first | refine MU (M0 ?_) | skip
 refine MU (wpAny_sequenceKey J.typeIs ∅ ?_);refine MU (Nu (name:=Str.ofString "__getitem__") J.typeIs PyProof.Rows.slot_tuple_getitem
  (MW PyProof.Rows.slot_tuple_getitem J.typeIs entry_tuple_getitem ?_ (args_tuple_getitem _ _)))
 show I_ _ _ (OU (.ref t) >>= _) _ _ s;refine MU (tupleItemsOf_ J ?_);refine MU (NQ S ?_);rw[if_pos ∅];refine MU (sliceApplied_gen Z pl pu ?_);have W:¬ ((((sIx items.size 0 lo:Nat):Int)==0&&(1:Int)==1&&(sIx items.size items.size hi-sIx items.size 0 lo)==items.size)=true):=by
  intro q;rw[Bool.and_eq_true,Bool.and_eq_true]at q;have q1:((sIx items.size 0 lo:Nat):Int)=0:=eq_of_beq q.1.1;have q2:sIx items.size items.size hi-sIx items.size 0 lo=items.size:=eq_of_beq q.2;exact hw #[(),()]
 show I_ _ _ (if (((sIx items.size 0 lo:Nat):Int)==0&&(1:Int)==1&&(sIx items.size items.size hi-sIx items.size 0 lo)==items.size)=true then _ else _) _ _ s;rw[if_neg W,BH]
 first
  | exact MU (m:=OE _) (MZ (M0 ⟨_,rfl,M0 h⟩) F)
  | exact MU (m:=OE _) (MZ (MU (M0 (M0 ⟨_,rfl,M0 h⟩))) F)
  | exact MU (MU (m:=OE _) (MZ (M0 (M0 ⟨_,rfl,M0 h⟩)) F))
  | exact MU (MU (m:=OE _) (MZ (M0 ⟨_,rfl,M0 h⟩) F))
end
end HT
namespace L2
open PySem PySem.Spec PyProof.Rows
variable{H:Hp}
abbrev TO:=St->Hp->(MI->Hp->Prop)->Prop
def PO(X:Cx)(e:Option Expr)(t:TO):Prop:=
 ∀(pins:List (o_×Obj)) (s:so) (σ : St) (H:Hp) (Q:MI->Hp->Prop),Inv X pins σ H s->t σ H Q->
  I_ (model X.prog X.w) X.A (evalPart e X.env) (λu s'=>∃o H',Inv X pins σ H' s'/\IsPart u o/\Q o H') X.xe s
def pH:TO:=λ_ H Q=>Q Nn H
def y7(t:TE):TO:=λσ H Q=>t σ H λx H1=>∃i,x = .int i/\Q (Sm i) H1
theorem mV{ns:MJ}:∀ {F:MF},A1 (ns.map V.int) F->Nx F ns:=by
 induction ns with
 | nil=>intro F r;rw[JO]at r;cases r;exact .nil
 | cons n ns ih=>
  intro F r;rw[yR]at r;cases r with
  | cons r1 r2=>
   let#[t,e]:=r1;subst e;exact .cons n t (ih r2)
section
variable{X:Cx}{e:Expr}{te:TE}{lo hi:Option Expr}{tl th:TO}{pos p2:Pos}
theorem gY:PO X Nn pH:=by
 intro pins s σ H Q I h;rw[evalPart_none];exact Lp (yI2 Nn H #[I,.none,h])
theorem fE(h:PE X e te):PO X (Sm e) (y7 te):=by
 intro pins s σ H Q I S;rw[evalPart_some];refine bA (h pins s σ H _ I S) λu U ⟨x,H1,O,F,J⟩=>?_;let#[i,rfl,q]:=J;let#[t,rfl]:=F;exact yI2 (Sm i) H1 #[O,.int i t,q]
def DQ(X:Cx)(r:V->MI->MI->Hp->VK->Prop):Prop:=
 ∀(pins:List (o_×Obj)) (s:so) (σ : St) (H:Hp) (x:V) (v vl vu:B_) (lo hi:MI) (sl:o_) (Q:VK),Inv X pins σ H s->RelV x v->s.heap.IsSliceOf sl vl vu .none->IsPart vl lo->IsPart vu hi->r x lo hi H Q->
  ∃T id,typeLookup (.type T) "__getitem__" = pure (Sm (.builtin id))/\s.TypeIs v T/\I_ (model X.prog X.w) X.A (getItem v (.ref sl)) (EP X pins σ Q) X.xe s
theorem DQ.or{r J:V->MI->MI->Hp->VK->Prop}(h:DQ X r)(h':DQ X J):DQ X (λx lo hi H Q=>r x lo hi H Q\/J x lo hi H Q):=by
 intro pins s σ H x v S Y lo hi U Q I O F pl W q;rcases q with q | q
 .exact h pins s σ H x v S Y lo hi U Q I O F pl W q
 .exact h' pins s σ H x v S Y lo hi U Q I O F pl W q
def IM(r:V->MI->MI->Hp->VK->Prop)(te:TE)(tl th:TO):TE:=λσ H Q=>te σ H λx H1=>tl σ H1 λl H2=>th σ H2 λu H3=>r x l u H3 Q
theorem fw{r:V->MI->MI->Hp->VK->Prop}(Y:DQ X r)(he:PE X e te)(hl:PO X lo tl)(hu:PO X hi th):PE X (.Subscript e (.Slice lo hi Nn p2) pos) (IM r te tl th):=by
 intro pins s σ H Q I h;refine Subscript_ (bA (he pins s σ H _ I h) λv s1 ⟨x,H1,I1,r1,q1⟩=>?_);refine wpAny_Slice (bA (hl pins s1 σ H1 _ I1 q1) λJ s2 ⟨l,H2,I2,pl,q2⟩=>bA (hu pins s2 σ H2 _ I2 q2) λF s3 ⟨u,O,I3,U,W⟩=>?_);rw[evalPart_none];refine Lp ?_;have S:Inv X pins σ O {s3 with heap:=s3.heap.push {cls:=.type "slice",data:=.fields #v[J,F,.none]}}:=I3.kept (t':=s3.toks) λb ob q=>yc _ q;refine yE2 (Y pins {s3 with heap:=s3.heap.push {cls:=.type "slice",data:=.fields #v[J,F,.none]}} σ O x v J F l u s3.heap.objs.size Q S r1 (LY.IsSliceOf.new ..) pl U W) λT id=>yB3 λZ ht hg=>?_;show I_ (model X.prog X.w) X.A (subscriptTail e (.Slice lo hi Nn p2) v (.ref s3.heap.objs.size)) (EP X pins σ Q) X.xe {s3 with heap:=s3.heap.push {cls:=.type "slice",data:=.fields #v[J,F,.none]}};exact tail_any (ops:=[.ref s3.heap.objs.size,v]) ht Z hg (by with_unfolding_all rfl)
noncomputable def dQ(xs:MC)(lo hi:MI):MC:=(xs.drop (HT.sIx xs.length 0 lo)).take (HT.sIx xs.length xs.length hi-HT.sIx xs.length 0 lo)
theorem me(xs:MC)(lo hi:MI):(dQ xs lo hi).length<=xs.length:=by
 unfold dQ;rw[lj,Lm];exact Nat.le_trans (Nat.min_le_right _ _) (Nat.sub_le _ _)
def Mu(K:KE):V->MI->MI->Hp->VK->Prop:=λx lo hi H Q=>∃a xs,x = .ref a/\uc K H a xs/\
 ¬ (HT.sIx xs.length 0 lo=0/\HT.sIx xs.length xs.length hi=xs.length)/\∀p,H p=Nn->Q (.ref p) (upd H p (.tup (dQ xs lo hi)))
theorem JE:DQ X (Mu X.K):=by
 intro pins s σ H x v vl vu lo hi sl Q I W S pl Y h;revert h;refine yF2 λa xs=>yB4 ?_;rintro rfl hx U q;cases W;refine yE1 (I.tuple hx) λJ=>yB3 λr O hz=>?_;have F:J.toArray.size=xs.length:=by rw[xq];exact r.length.symm
 refine yI2 ("tuple") _ #[PyProof.Rows.slot_tuple_getitem.lookup,O.typeIs,?_];refine HT.getItem_tuple_cut O S pl Y (by rw[F];exact U) ?_ (by rw[F];exact hz);rw[F];refine yI2 (.ref s.heap.objs.size) _ #[I.laid (t':=s.toks) (o:=.tup (dQ xs lo hi)) (λb Z q=>yc _ q) (zg _) ?_,rfl,q _ (I.hok.fresh (zg _))];exact#[mn (me xs lo hi) hz,_,(r.drop (HT.sIx xs.length 0 lo)).take (HT.sIx xs.length xs.length hi-HT.sIx xs.length 0 lo),GO.new _ _]
def qZ(K:KE):R2:=λx y H Q=>∃a b xs ys,x = .ref a/\y = .ref b/\uc K H a xs/\uc K H b ys/\xs≠[]/\xs.length+ys.length<=L9/\
 (ys=[]->Q (.ref a) H)/\(ys≠[]->∀p,H p=Nn->Q (.ref p) (upd H p (.tup (xs++ys))))
theorem A1.nil_iff{xs:MC}{F:MF}(r:A1 xs F):F=[] ↔ xs=[]:=by
 cases r with
 | nil=>simp
 | cons _ _=>simp
theorem FW:Gw X (binaryOp .Add) (qZ X.K):=by
 intro pins s σ H x y v u Q I Z ry h;revert h;refine yF4 λa b xs ys=>yB8 ?_;rintro rfl rfl ha hb hx hz U S;cases Z;cases ry;refine yE1 (I.tuple ha) λW=>yB3 λJ Y _=>?_;refine yE1 (I.tuple hb) λO=>yB3 λF p2 _=>?_;refine HT.cat_tup Y p2 (λz=>hx (J.nil_iff.mp z)) (λz=>yI2 (.ref a) H #[I,rfl,U (F.nil_iff.mp z)]) (λz=>?_) (by rw[<-J.length,<-F.length];exact hz);refine yI2 (.ref s.heap.objs.size) _ #[I.laid (t':=s.toks) (o:=.tup (xs++ys)) (λb ob q=>yc _ q) (zg _) ?_,rfl,S (λw=>z (F.nil_iff.mpr w)) _ (I.hok.fresh (zg _))];exact#[by rw[zq];exact hz,_,J.append F,GO.new _ _]
end
noncomputable def lb(n:Nat)(i:Int):MH:=if 0<=i then (if i<n then Sm i.toNat else Nn) else if -(n:Int)<=i then Sm (i+n).toNat else Nn
noncomputable def cJ{α:Type}(xs:List α)(i:Int):Option α:=(lb xs.length i).bind λj=>xs[j]?
theorem wv{n:Nat}{i:Int}{j:Nat}(h:lb n i=Sm j):seqIndex? i n=Sm j/\j<n/\-(n:Int)<=i/\i<n:=by
 unfold lb at h;by_cases h0:0<=i
 .rw[Lz h0]at h;by_cases h1:i<n
  .rw[Lz h1]at h;have e:i.toNat=j:=Option.some.inj h;exact#[by rw[seqIndex_of h0 h1,e],(),(),h1]
  .rw[Lu h1]at h;cases h
 .rw[Lu h0]at h;by_cases h1:-(n:Int)<=i
  .rw[Lz h1]at h;have e:(i+n).toNat=j:=Option.some.inj h;exact#[by rw[seqIndex_neg () h1,e],(),h1,()]
  .rw[Lu h1]at h;cases h
theorem oy{α:Type}{xs:List α}{i:Int}{v:α}(h:cJ xs i=Sm v):∃j,seqIndex? i xs.length=Sm j/\xs[j]?=Sm v/\j<xs.length/\-(xs.length:Int)<=i/\i<xs.length:=by
 unfold cJ at h;cases e:lb xs.length i with
 | none=>rw[e]at h;cases h
 | some j=>
  rw[e]at h;refine yA4 (wv e) λh1 h2 F J=>?_;exact#[j,h1,h,h2,F,J]
theorem aq{α:Type}{xs:List α}{j:Nat}{v:α}(h:xs[j]?=Sm v):cJ xs (j:Int)=Sm v:=by
 have F:j<xs.length:=(Lq.mp h).1;have e:lb xs.length (j:Int)=Sm j:=by
  unfold lb;rw[Lz (),Lz ()];simp
 unfold cJ;rw[e];exact h
def F3(b:Expr):Prop:=∀o i,subscripted b false o i=operate [o,i] (getItem o i)
def IG(X:Cx)(r:R2):Prop:=
 ∀(value slice:Expr) (pins:List (o_×Obj)) (s:so) (σ : St) (H:Hp) (x y:V) (v u:B_) (Q:VK),Inv X pins σ H s->RelV x v->RelV y u->r x y H Q->
  subscripted slice false v u=operate [v,u] (getItem v u)->I_ (model X.prog X.w) X.A (subscriptTail value slice v u) (EP X pins σ Q) X.xe s
def Iy(X:Cx)(id:String)(r:V->MC->Hp->VK->Prop):Prop:=
 ∀(pins:List (o_×Obj)) (s:so) (σ : St) (H:Hp) (x:V) (xs:MC) (v:B_) (us:MF) (Q:VK),Inv X pins σ H s->RelV x v->A1 xs us->r x xs H Q->
  I_ (model X.prog X.w) X.A (call (.builtin id) (v::us)) (EP X pins σ Q) X.xe s
section
variable{X:Cx}{a b:Expr}{ta tb:TE}{pos:Pos}
theorem IG.or{r J:R2}(h:IG X r)(h':IG X J):IG X (λx y H Q=>r x y H Q\/J x y H Q):=by
 intro value F pins s σ H x y v u Q I O S q U;rcases q with q | q
 .exact h value F pins s σ H x y v u Q I O S q U
 .exact h' value F pins s σ H x y v u Q I O S q U
theorem am{r:R2}(F:IG X r)(S:PE X a ta)(U:PE X b tb)(Y:F3 b:=by exact λ_ _=>rfl):PE X (.Subscript a b pos) (gj r ta tb):=by
 intro pins s σ H Q I h;exact Subscript_ (B1 S U I h λv u s2 x y H2 J O W q=>F a b pins s2 σ H2 x y v u Q J O W q (Y _ _))
def Jz(K:KE):R2:=λx y H Q=>∃p xs i v,x = .ref p/\y = .int i/\ud K H p xs/\cJ xs i=Sm v/\Q v H
def G7(K:KE):R2:=λx y H Q=>∃p xs i v,x = .ref p/\y = .int i/\uc K H p xs/\cJ xs i=Sm v/\Q v H
def HQ:R2:=λx y H Q=>∃z i c,x = .str z/\y = .int i/\z.length<=L9/\cJ z.cps.toList i=Sm c/\Q (.str #[#v[c]]) H
theorem JP:IG X (Jz X.K):=by
 intro value O pins s σ H x y v u Q I rx ry h W;revert h;refine yF4 λp xs i z=>yB5 ?_;rintro rfl rfl Z he q;cases rx;let#[t,rfl]:=ry;refine yE1 (I.list Z) λJ=>yB3 λr pl hz=>?_;refine yE1 (oy he) λj=>yB5 λh1 h2 h3 h4 h5=>?_;let#[w,Y,U]:=r.get h2;have hl:=r.length;have hn:=jJ;have F:EP X pins σ Q w s:=yI2 z H #[I,U,q];by_cases h0:0<=i
 .have S:i.toNat=j:=by
   rw[seqIndex_of h0 h5]at h1;exact Option.some.inj h1
  exact item_listR pl.isList h0 () (by rw[S];simpa using Y) F W
 .have S:(i+(J.toArray.size:Int)).toNat=j:=by
   rw[seqIndex_neg () h4]at h1;rw[xq,<-hl];exact Option.some.inj h1
  exact OG (x:=w) pl.isList.typeIs slot_list_getitem.lookup
   (wpAny_getItem_list_neg (Q:=λr s'=>r=w/\EP X pins σ Q r s') pl.isList () (by rw[xq]<;>lia) () (by rw[S];simpa using Y) #[rfl,F]) W
theorem K9:IG X (G7 X.K):=by
 intro value F pins s σ H x y v u Q I rx ry h S;revert h;refine yF4 λp xs i z=>yB5 ?_;rintro rfl rfl W Z q;cases rx;let#[t,rfl]:=ry;refine yE1 (I.tuple W) λY=>yB3 λr pl hz=>?_;refine yE1 (oy Z) λj=>yB5 λh1 h2 h3 h4 h5=>?_;let#[w,U,O]:=r.get h2;have hl:=r.length;have hn:=jJ;have J:EP X pins σ Q w s:=yI2 z H #[I,O,q];exact OG (x:=w) pl.typeIs slot_tuple_getitem.lookup
  (getItem_tuple (j:=j) (Q:=λr s'=>r=w/\EP X pins σ Q r s') pl () () (by rw[xq,<-hl];exact h1) (by simpa using U) #[rfl,J]) S
theorem HL:IG X HQ:=by
 intro value F pins s σ H x y v u Q I W Z h J;revert h;refine yF3 λz i c=>yB5 ?_;rintro rfl rfl hz S q;let#[t,rfl]:=W;let#[t',rfl]:=Z;refine yE1 (oy S) λj=>yB5 λh1 h2 h3 h4 Y=>?_;have hl:z.cps.toList.length=z.length:=by simp[Str.length]
 rw[hl]at h1 h4 Y;have hn:=jJ;exact tail_any (typeIs_str s z t) slot_str_getitem.lookup (getItem_str (c:=c) (by
  have U:decide (i < -(2^63:Int))=false:=decide_eq_false ();have O:decide (i>=2^63)=false:=decide_eq_false ();rw[U,O,Bool.or_false]) (by rw[h1];simpa using h2) (yI2 (.str ⟨#v[c]⟩) H ⟨I.tok _,⟨_,rfl⟩,q⟩)) J
def Qu(K:KE):R2:=λx y H Q=>Jz K x y H Q\/G7 K x y H Q\/HQ x y H Q
theorem Jr:IG X (Qu X.K):=JP.or (K9.or HL)
theorem xT(F:MF)(n j:Nat)(u:B_):Ng (·.setIfInBounds j u) {cls:=.type "list",data:=.seq F.toArray n}={cls:=.type "list",data:=.seq (F.set j u).toArray n}:=by
 simp[Ng]
theorem Inv.lst{pins:List (o_×Obj)}{σ:St}{s:so}{p:o_}{xs:MC}(I:Inv X pins σ H s)(h:H p=Sm (.lst xs)) :
  ∃(F:MF) (n:Nat),A1 xs F/\s.heap.get? p=Sm {cls:=.type "list",data:=.seq F.toArray n}/\xs.length<=L9:=by
 refine yA2 (I.hok p _ h) λz=>yF2 λF n=>yB2 λr e=>?_;exact yI2 F n #[r,e,z]
theorem Inv.lstUpd{pins:List (o_×Obj)}{σ:St}{s:so}{p:o_}{xs ys:MC}{F its':MF}{n n':Nat}{f:Obj->Obj}(I:Inv X pins σ H s)(h:H p=Sm (.lst xs))
  (O:s.heap.get? p=Sm {cls:=.type "list",data:=.seq F.toArray n}) (hf:f {cls:=.type "list",data:=.seq F.toArray n}={cls:=.type "list",data:=.seq its'.toArray n'}) (r:A1 ys its') (hz:ys.length<=L9) (t:Nat) :
  Inv X pins σ (upd H p (.lst ys)) {s with heap:=s.heap.update p f,toks:=t}:=by
 have e:(s.heap.update p f).get? p=Sm {cls:=.type "list",data:=.seq its'.toArray n'}:=by
  rw[JC f O (by rw[hf]<;>rfl),hf]
 refine I.write (x:=p) (e:=p) (by rw[h];trivial) (.inl rfl) (λb u J q=>(za4 _ _ (u6 J)).trans q) #[_,e] ?_;exact#[hz,yI2 its' n' #[r,e]]
def yH:V->V->V->Hp->(Hp->Prop)->Prop:=λo i v H Q=>∃p xs k j,o = .ref p/\i = .int k/\H p=Sm (.lst xs)/\lb xs.length k=Sm j/\Q (upd H p (.lst (xs.set j v)))
theorem BS:IP X yH:=by
 intro pins s σ H o i v ov iv u Q I ro ri rv h;revert h;refine yF4 λp xs k j=>yB5 ?_;rintro rfl rfl U hj q;cases ro;let#[t,rfl]:=ri;refine yE2 (I.lst U) λF n=>yB3 λr J hz=>?_;refine yA4 (wv hj) λh1 h2 S Z=>?_;have hl:=r.length;have hn:=jJ;have Y:Inv X pins σ (upd H p (.lst (xs.set j v))) {s with heap:=s.heap.update p (Ng (·.setIfInBounds j u))}:=
  I.lstUpd U J (xT F n j u) (r.set rv j) (by rw[List.length_set];exact hz) s.toks
 by_cases h0:0<=k
 .have O:k.toNat=j:=by
   rw[seqIndex_of h0 Z]at h1;exact Option.some.inj h1
  exact W.ki_setAt J h0 () (by rw[xq,<-hl];exact Z) (by rw[O];exact#[_,Y,q])
 .have O:(k+(F.toArray.size:Int)).toNat=j:=by
   rw[seqIndex_neg () S]at h1;rw[xq,<-hl];exact Option.some.inj h1
  exact W.ki_setBack J () (by rw[xq,<-hl];exact S) () (by rw[O];exact#[_,Y,q])
theorem clipN(i:Int)(n:Nat):(max 0 (min (if i<0 then i+n else i) n)) = (((if i<0 then (i+n).toNat else min i.toNat n):Nat):Int):=by
 split
 next h=>rw[Int.toNat_eq_max,Int.min_eq_left (),Int.max_comm]
 next h=>
  rw[Int.max_eq_right (Int.le_min.mpr #[Int.not_lt.mp h,Int.natCast_nonneg n])];let#[k,rfl]:=Int.eq_ofNat_of_zero_le (Int.not_lt.mp h);rcases Nat.le_total k n with h|h
  .exact (Int.min_eq_left (Int.ofNat_le.mpr h)).trans (congrArg _ (Nat.min_eq_left h)).symm
  .exact (Int.min_eq_right (Int.ofNat_le.mpr h)).trans (congrArg _ (Nat.min_eq_right h)).symm
theorem uk(lo hi:MI)(n:Nat):(sliceBounds lo hi Nn n).1=((HT.sIx n 0 lo:Nat):Int)/\(sliceBounds lo hi Nn n).2.1=((HT.sIx n n hi:Nat):Int)/\(sliceBounds lo hi Nn n).2.2=1:=by
 refine#[?_,?_,rfl]
 .cases lo with
  | none=>rfl
  | some i=>exact clipN i n
 .cases hi with
  | none=>rfl
  | some i=>exact clipN i n
theorem qP(F:MF)(lo hi:MI):slicePick F.toArray lo hi Nn=((F.drop (HT.sIx F.length 0 lo)).take (HT.sIx F.length F.length hi-HT.sIx F.length 0 lo)).toArray:=by
 let#[h1,h2,J]:=uk lo hi F.toArray.size;unfold slicePick;rw[h1,h2,J];simp only[sliceRange_one,pick_run,xq]<;>rfl
def B9(K:KE):V->MI->MI->Hp->VK->Prop:=λx lo hi H Q=>∃a xs,x = .ref a/\ud K H a xs/\∀p,H p=Nn->Q (.ref p) (upd H p (.lst (dQ xs lo hi)))
theorem Fy:DQ X (B9 X.K):=by
 intro pins s σ H x v Z vu lo hi sl Q I U O pl W h;revert h;refine yF2 λa xs=>yB3 ?_;rintro rfl hx q;cases U;refine yE1 (I.list hx) λS=>yB3 λr J hz=>?_;have F:=r.length;refine yI2 ("list") _ #[slot_list_getitem.lookup,J.isList.typeIs,?_];refine wpAny_getItem_list_slice J.isList O pl W .none '~' ?_ (by rw[xq]<;>lia);rw[qP,<-F];refine yI2 (.ref s.heap.objs.size) _ #[I.laid (t':=s.toks) (o:=.lst (dQ xs lo hi)) (λb Y q=>yc _ q) (zg _) ?_,rfl,q _ (I.hok.fresh (zg _))];exact#[mn (me xs lo hi) hz,yI2 _ 0 #[(r.drop (HT.sIx xs.length 0 lo)).take (HT.sIx xs.length xs.length hi-HT.sIx xs.length 0 lo),yQ _ rfl]]
noncomputable def bQ:V->Bool
 | .non=>true
 | .bl _=>true
 | .int _=>true
 | .str _=>true
 | _=>false
noncomputable def gQ:V->V->Bool
 | .non,.non=>true
 | .bl a,.bl b=>a==b
 | .bl a,.int b=>(if a then 1 else 0)==b
 | .int a,.bl b=>a==(if b then 1 else 0)
 | .int a,.int b=>a==b
 | .str a,.str b=>a==b
 | _,_=>false
theorem kH{A:Me}{s:so}{y x:V}{u v:B_}(J:RelV y u)(F:RelV x v)(S:bQ y=true)(O:bQ x=true):SeqAt.EqAt A s u v (gQ y x):=by
 cases y with
 | non=>
  cases J;cases x with
  | non=>cases F;exact SeqAt.EqAt.same _
  | bl b=>cases F;exact SeqAt.EqAt.none_bool b
  | int b=>let#[t,rfl]:=F;exact SeqAt.EqAt.none_int b t
  | str b=>let#[t,rfl]:=F;exact SeqAt.EqAt.none_str b t
  | _=>exact absurd (show false=true from O) xV
 | bl a=>
  cases J;cases x with
  | non=>cases F;exact SeqAt.EqAt.bool_none a
  | bl b=>cases F;exact SeqAt.EqAt.bool_bool a b
  | int b=>let#[t,rfl]:=F;exact SeqAt.EqAt.bool_int a b t
  | str b=>let#[t,rfl]:=F;exact SeqAt.EqAt.bool_str a b t
  | _=>exact absurd (show false=true from O) xV
 | int a=>
  let#[t',rfl]:=J;cases x with
  | non=>cases F;exact SeqAt.EqAt.int_none a t'
  | bl b=>cases F;exact SeqAt.EqAt.int_bool a t' b
  | int b=>let#[t,rfl]:=F;exact SeqAt.EqAt.int_int a t' b t
  | str b=>let#[t,rfl]:=F;exact SeqAt.EqAt.int_str a t' b t
  | _=>exact absurd (show false=true from O) xV
 | str a=>
  let#[t',rfl]:=J;cases x with
  | non=>cases F;exact SeqAt.EqAt.str_none a t'
  | bl b=>cases F;exact SeqAt.EqAt.str_bool a t' b
  | int b=>let#[t,rfl]:=F;exact SeqAt.EqAt.str_int a t' b t
  | str b=>let#[t,rfl]:=F;exact SeqAt.EqAt.str_str a t' b t
  | _=>exact absurd (show false=true from O) xV
 | _=>exact absurd (show false=true from S) xV
noncomputable def gL(x:V)(u:B_):Bool:=match u with
 | .none=>gQ .non x
 | .bool b=>gQ (.bl b) x
 | .int i _=>gQ (.int i) x
 | .str z _=>gQ (.str z) x
 | _=>false
theorem Ap{x y:V}{u:B_}(r:RelV y u)(f:bQ y=true):gL x u=gQ y x:=by
 cases y with
 | non=>cases r;rfl
 | bl b=>cases r;rfl
 | int i=>let#[t,rfl]:=r;rfl
 | str z=>let#[t,rfl]:=r;rfl
 | _=>exact absurd (show false=true from f) xV
theorem jt{x:V}:∀ {xs:MC} {F:MF},A1 xs F->xs.all bQ=true->F.any (gL x)=xs.any λy=>gQ y x
 | _,_,.nil,_=>rfl
 | y::xs,u::F,.cons r t,f=>by
  rw[List.all_cons,Ld]at f;rw[za5,za5,Ap r f.1,jt t f.2]
theorem i8{A:Me}{s:so}{x:V}{v:B_}(O:RelV x v)(S:bQ x=true):∀ {xs:MC} {J:MF},A1 xs J->xs.all bQ=true->∀u∈J,SeqAt.EqAt A s u v (gL x u)
 | _,_,.nil,_=>λu F=>by cases F
 | y::xs,u::J,.cons r t,f=>λU F=>by
  rw[List.all_cons,Ld]at f;rcases LH.mp F with rfl | F
  .rw[Ap r f.1];exact kH r O f.1 S
  .exact i8 O S t f.2 U F
noncomputable def jG(x:V)(xs:MC):Bool:=xs.any λy=>gQ y x
def K1(K:KE)(neg:Bool):R2:=λx y H Q=>∃p xs,y = .ref p/\(ud K H p xs\/uc K H p xs)/\bQ x=true/\xs.all bQ=true/\Q (.bl (if neg then !jG x xs else jG x xs)) H
theorem AH:Gw X (Mr .In) (K1 X.K false):=by
 intro pins s σ H x y v u Q I S W h;revert h;refine yF2 λp xs=>yB5 ?_;rintro rfl J U fs q;cases W;rcases J with J | J
 .refine yE1 (I.list J) λF=>yB3 λr pl hz=>?_;refine SeqAt.in_listAt (gL x) pl.isList (λw O=>i8 S U r fs w (by simpa using O)) (yI2 (.bl _) H #[I,rfl,?_]);rw[show F.toArray.any (gL x)=F.any (gL x) from '~',jt r fs];exact q
 .refine yE1 (I.tuple J) λF=>yB3 λr pl hz=>?_;refine SeqAt.in_tupleAt (gL x) pl (λw O=>i8 S U r fs w (by simpa using O)) (yI2 (.bl _) H #[I,rfl,?_]);rw[show F.toArray.any (gL x)=F.any (gL x) from '~',jt r fs];exact q
theorem vc:Gw X (Mr .NotIn) (K1 X.K true):=by
 intro pins s σ H x y v u Q I S W h;revert h;refine yF2 λp xs=>yB5 ?_;rintro rfl J U fs q;cases W;rcases J with J | J
 .refine yE1 (I.list J) λF=>yB3 λr pl hz=>?_;refine SeqAt.notIn_listAt (gL x) pl.isList (λw O=>i8 S U r fs w (by simpa using O)) (yI2 (.bl _) H #[I,rfl,?_]);rw[show F.toArray.any (gL x)=F.any (gL x) from '~',jt r fs];exact q
 .refine yE1 (I.tuple J) λF=>yB3 λr pl hz=>?_;refine SeqAt.notIn_tupleAt (gL x) pl (λw O=>i8 S U r fs w (by simpa using O)) (yI2 (.bl _) H #[I,rfl,?_]);rw[show F.toArray.any (gL x)=F.any (gL x) from '~',jt r fs];exact q
theorem uz:Ck X (.builtin "len") (λxs H Q=>∃p ys,xs=[.ref p]/\(ud X.K H p ys\/uc X.K H p ys)/\Q (.int ys.length) H):=by
 intro pins s σ H xs W Q I r h;revert h;refine yF2 λp ys=>yB3 ?_;rintro rfl J q;let#[u,rfl,U]:=dg r;cases U;have Y:=jJ;rcases J with J | J
 .refine yE1 (I.list J) λO=>yB3 λS pl hz=>?_;have F:=S.length;exact Calls.call_len_list pl.isList (by simp only[xq]<;>lia) (yI2 (.int ys.length) H #[I.tok _,#[s.toks+1,by rw[xq,F]],q])
 .refine yE1 (I.tuple J) λO=>yB3 λS pl hz=>?_;have F:=S.length;exact len_tuple pl (by simp only[xq]<;>lia) (yI2 (.int ys.length) H #[I.tok _,#[s.toks+1,by rw[xq,F]],q])
theorem rD:Ck X (.builtin "len") (λxs H Q=>∃z,xs=[.str z]/\z.length<=L9/\Q (.int z.length) H):=by
 intro pins s σ H xs F Q I r h;revert h;refine yF1 λz=>yB3 ?_;rintro rfl hz q;refine yE1 (dg r) λu=>yB2 ?_;rintro rfl;refine yF1 ?_;rintro t rfl;have J:=jJ;exact len_str () (yI2 (.int z.length) H #[I.tok _,#[_,rfl],q])
theorem rV:Ck X (.type "list") (λxs H Q=>∃p ys,xs=[.ref p]/\(ud X.K H p ys\/uc X.K H p ys)/\∀l,H l=Nn->Q (.ref l) (upd H l (.lst ys))):=by
 intro pins s σ H xs us Q I r h;revert h;refine yF2 λp ys=>yB3 ?_;rintro rfl S q;let#[u,rfl,rx]:=dg r;cases rx;have W:∀(F:MF),A1 ys F->ys.length<=L9->∀(h':LY) (O:Nat),(∀b o',s.heap.get? b=Sm o'->h'.get? b=Sm o')->
   h'.get? s.heap.objs.size=Sm {cls:=.type "list",dict:=Nn,data:=.seq F.toArray O,slots:=#[]}->EP X pins σ Q (.ref s.heap.objs.size) {s with heap:=h'}:=λF J hz h' O kp e=>
  (yI2 (.ref s.heap.objs.size) _ #[I.laid (t':=s.toks) kp (zg _) (show B3 X.prog X.w _ h' _ (.lst ys) from #[hz,yI2 F O #[J,e]]),rfl,q _ (I.hok.fresh (zg _))])
 rcases S with S | S
 .refine yE1 (I.list S) λF=>yB3 λJ pl hz=>?_;have U:=J.length;refine yE1 pl.isList λo=>yB3 λZ Y=>yF1 λn hd=>?_;exact call_list_seq p (.inl rfl) Z Y hd (λh' O kp e=>W F J hz h' O kp e) (by simp only[xq]<;>lia)
 .refine yE1 (I.tuple S) λF=>yB3 λJ pl hz=>?_;have U:=J.length;revert pl;refine yF1 λo=>yB3 λZ Y=>yF1 λn hd=>?_;exact call_list_seq p (.inr rfl) Z Y hd (λh' O kp e=>W F J hz h' O kp e) (by simp only[xq]<;>lia)
theorem qI:Ck X (.type "tuple") (λxs H Q=>∃p ys,xs=[.ref p]/\((ud X.K H p ys/\∀l,H l=Nn->Q (.ref l) (upd H l (.tup ys)))\/(uc X.K H p ys/\Q (.ref p) H))):=by
 intro pins s σ H xs Z Q I r h;revert h;refine yF2 λp ys=>yB2 ?_;rintro rfl h;let#[u,rfl,W]:=dg r;cases W;rcases h with ⟨J,q⟩ | ⟨J,q⟩
 .refine yE1 (I.list J) λF=>yB3 λO pl hz=>?_;have U:=O.length;refine call_tuple_list pl.isList (λh' kp=>?_) (by simp only[xq]<;>lia);have S:Inv X pins σ H {s with heap:=h'}:=I.kept (t':=s.toks) kp;have Y:Inv X pins σ (upd H h'.objs.size (.tup ys)) {s with heap:=h'.push {cls:=.type "tuple",data:=.seq F.toArray}}:=
   S.laid (t':=s.toks) (λb o e=>yc _ e) (zg _) (show B3 X.prog X.w _ _ _ (.tup ys) from #[hz,F,O,GO.new _ _])
  exact yI2 (.ref h'.objs.size) _ #[Y,rfl,q _ (S.hok.fresh (zg _))]
 .refine yE1 (I.tuple J) λF=>yB3 λO pl hz=>?_;exact call_tuple_same pl (yI2 (.ref p) H #[I,rfl,q])
def uj(K:KE)(T:String)(x:V)(H:Hp):Prop:=match x with
 | .str _=>T = "str"
 | .int _=>T = "int"
 | .ref p=>(T = "list" /\ ∃xs,ud K H p xs)\/(T = "tuple" /\ ∃o,K.lookup p=Sm o/\o.cls = .type "tuple" /\ o.dict=Nn)\/
   (T = "dict" /\ ((∃kvs,H p=Sm (.dK kvs))\/∃kvs,H p=Sm (.dT kvs)))\/(T = "set" /\ ∃S n,H p=Sm (.set S n))
 | _=>False
theorem AM{pins:List (o_×Obj)}{σ:St}{H:Hp}{s:so}{T:String}{x:V}{v:B_}(I:Inv X pins σ H s)(r:RelV x v)(ty:uj X.K T x H) :
  s.TypeIs v T/\∀a,v = .ref a->∃ob,s.heap.get? a=Sm ob/\ob.dict=Nn:=by
 cases x with
 | str z=>
  let#[t,rfl]:=r;cases (show T = "str" from ty);exact#[typeIs_str s z t,λ_ e=>nomatch e]
 | int i=>
  let#[t,rfl]:=r;cases (show T = "int" from ty);exact#[typeIs_int s i t,λ_ e=>nomatch e]
 | ref p=>
  cases r;rcases ty with ⟨rfl,xs,O⟩ | ⟨rfl,o,F,W,hd⟩ | ⟨rfl,F⟩ | ⟨rfl,S,n,F⟩
  .refine yE1 (I.list O) λU=>yB3 λ_ pl _=>?_;refine#[pl.isList.typeIs,λa e=>?_];cases e;revert pl;refine yF2 λo n=>yB4 λe c hd _=>?_;exact#[o,e,hd]
  .refine#[#[o,I.kIn p o F,W],λa e=>?_];cases e;exact#[o,I.kIn _ o F,hd]
  .have z:∃o,s.heap.get? p=Sm o/\o.ExactDict:=by
    rcases F with ⟨kvs,F⟩ | ⟨kvs,F⟩
    .refine yA3 (I.hok p _ F) λ_ _=>yF1 λ_=>yB2 λ_=>yF3 λo _ _=>yB3 λe ex _=>?_;exact#[o,e,ex]
    .refine yA3 (I.hok p _ F) λ_ _=>yF1 λ_=>yB2 λ_=>yF3 λo _ _=>yB3 λe ex _=>?_;exact#[o,e,ex]
   let#[o,e,ex]:=z;refine#[#[o,e,ex.1],λa J=>?_];cases J;exact#[o,e,ex.2.1]
  .refine yE4 (I.hok p _ F) λo _ _ _=>yB3 λe ex _=>?_;refine#[#[o,e,ex.1],λa J=>?_];cases J;exact#[o,e,ex.2.1]
 | _=>exact False.elim ty
def Dj(K:KE)(T:String)(r:V->MC->Hp->VK->Prop)(to:TE):TE:=λσ H Q=>to σ H λx H1=>uj K T x H1/\r x [] H1 Q
def GC(K:KE)(T:String)(r:V->MC->Hp->VK->Prop)(to:TE)(t:TA):TE:=λσ H Q=>to σ H λx H1=>uj K T x H1/\t σ H1 λxs H2=>r x xs H2 Q
variable{o e:Expr}{es:ML}{to:TE}{t:TA}{name:Str}{apos cpos:Pos}{T id:String}{r:V->MC->Hp->VK->Prop}
theorem IB(W:PlainAttrs T)(slot:Slot T name id)(J:typeOf (.builtin id)=pure (.type "method_descriptor")) (Y:Iy X id r) (Z:PE X o to)
  (F:attributeBase o name X.env (eval o X.env)=eval o X.env:=by rfl) (hline:(apos.endLine==cpos.line)=true:=by rfl):PE X (.Call (.Attribute o name apos) [] [] cpos) (Dj X.K T r to):=by
 intro pins s σ H Q I h;refine wpAny_Call_method0_late F hline (bA (Z pins s σ H _ I h) λv s1 ⟨x,H1,S,O,ty,U⟩=>?_);let#[h1,h2]:=AM S O ty;exact yI2 T id #[W,slot,J,h1,h2,zbw rfl (PySem.evalArgs_none (Y pins s1 σ H1 x [] v [] Q S O .nil U))]
theorem Kp(Y:PlainAttrs T)(slot:Slot T name id)(J:typeOf (.builtin id)=pure (.type "method_descriptor")) (hm:Iy X id r) (ho:PE X o to) (ha:PA X (e::es) t)
  (F:attributeBase o name X.env (eval o X.env)=eval o X.env:=by rfl)
  (hfew:((backTo cpos (Mj (e::es) X.env)).all (λx=>!x.1)&&(backToKw cpos (keywordEach [] X.env)).all (λx=>x.1.isSome)
   && decide ((e::es).length+([]:List Keyword).length+(if ([]:List Keyword).isEmpty then 0 else 1)<30))=true:=by rfl)
  (hline:(apos.endLine==cpos.line)=true:=by rfl) (hs:Mj (e::es) X.env=(false,eval e X.env)::Mj es X.env:=by rfl) (hplain:(backTo cpos (Mj es X.env)).any (·.1)=false:=by rfl) :
  PE X (.Call (.Attribute o name apos) (e::es) [] cpos) (GC X.K T r to t):=by
 intro pins s σ H Q I h;refine wpAny_Call_method_late F hfew hline rfl (bA (ho pins s σ H _ I h) λv s1 ⟨x,H1,S,O,ty,Z⟩=>?_);let#[h1,h2]:=AM S O ty;refine yI2 T id #[Y,slot,J,h1,h2,?_];have U:=ha cpos pins s1 σ H1 _ S Z;rw[hs]at U |-
 refine zbw (by show (false||(backTo cpos (Mj es X.env)).any (·.1))=false;rw[hplain]<;>rfl) (Calls.evalArgs_plain ?_);exact bA U λus s2 ⟨vs,H2,I2,r2,W⟩=>hm pins s2 σ H2 x vs v us Q I2 O r2 W
end
def ET(X:Cx)(id:String)(r:V->MC->Hp->VK->Prop):Prop:=
 ∀(pins:List (o_×Obj)) (s:so) (σ : St) (H:Hp) (x:V) (xs:MC) (v:B_) (us:MF) (Q:VK),Inv X pins σ H s->RelV x v->A1 xs us->r x xs H Q->
  I_ (model X.prog X.w) X.A (call (.builtin id) (v::us)) (EP X pins σ Q) X.xe s
theorem A1.cons_at{x:V}{xs:MC}{F:MF}(h:A1 (x::xs) F):∃u vs,F=u::vs/\RelV x u/\A1 xs vs:=by
 cases h with
 | cons r q=>exact yI2 _ _ #[rfl,r,q]
theorem A1.one{x:V}{F:MF}(h:A1 [x] F):∃u,F=[u]/\RelV x u:=by
 refine yE2 h.cons_at λu vs=>yB3 ?_;rintro rfl r q;cases q;exact#[u,rfl,r]
theorem A1.zero:∀ {F:MF},A1 [] F->F=[]
 | _,.nil=>rfl
theorem A1.dropLast{xs:MC}{F:MF}(h:A1 xs F):A1 xs.dropLast F.dropLast:=by
 induction h with
 | nil=>exact .nil
 | cons r t ih=>
  cases t with
  | nil=>exact .nil
  | cons q t'=>exact .cons r ih
theorem yJ{α:Type}(l:List α):l.eraseIdx (l.length-1)=l.dropLast:=by
 induction l with
 | nil=>rfl
 | cons a r ih=>
  cases r with
  | nil=>rfl
  | cons b r=>
   have e:(a::b::r).length-1=((b::r).length-1)+1:=by
    have h1:(a::b::r).length=r.length+2:=rfl;have h2:(b::r).length=r.length+1:=rfl;lia
   rw[e,List.eraseIdx_cons_succ,ih]
   all_goals rfl
section
variable{X:Cx}{pins:List (o_×Obj)}{σ:St}{H:Hp}{s:so}{l b:o_}{xs ys zs:MC}
theorem Inv.lset{F its':MF}{n:Nat}{f:MM->MM}{t':Nat}(I:Inv X pins σ H s)(J:H l=Sm (.lst xs))
  (e:s.heap.get? l=Sm {cls:=.type "list",data:=.seq F.toArray n}) (hf:f F.toArray=its'.toArray) (hv:A1 ys its') (hz:ys.length<=L9) :
  Inv X pins σ (upd H l (.lst ys)) {s with heap:=s.heap.update l (Ng f),toks:=t'}:=by
 have q:=IsL.update e f;rw[hf]at q;refine I.write (x:=l) (e:=l) (by rw[J];exact trivial) (.inl rfl) (λU u S O=>(za4 s.heap (Ng f) (u6 S)).trans O) #[_,q] ?_;exact#[hz,yI2 its' _ #[hv,q]]
theorem Inv.lnew{F:MF}{t':Nat}(I:Inv X pins σ H s)(hv:A1 ys F)(hz:ys.length<=L9) :
  Inv X pins σ (upd H s.heap.objs.size (.lst ys)) {s with heap:=s.heap.push {cls:=.type "list",data:=.seq F.toArray},toks:=t'}:=
 I.laid (λ_ _ q=>yc _ q) (zg _) #[hz,yI2 F 0 #[hv,yQ _ rfl]]
theorem Inv.fresh(I:Inv X pins σ H s):H s.heap.objs.size=Nn:=I.hok.fresh (zg _)
theorem Inv.lstM(I:Inv X pins σ H s)(J:H l=Sm (.lst xs)):xs.length<=L9/\∃(F:MF) (n:Nat),A1 xs F/\xs.length=F.length/\s.heap.get? l=Sm {cls:=.type "list",data:=.seq F.toArray n}:=by
 refine yA2 (I.hok l _ J) λz=>yF2 λF n=>yB2 λr e=>?_;exact#[z,yI2 F n #[r,r.length,e]]
theorem C6{n:Nat}(h:n<=L9):OV n=false:=by
 unfold OV;exact decide_eq_false ()
end
section
variable{X:Cx}
def oT:V->MC->Hp->VK->Prop:=λx vs H Q=>∃l xs y,x = .ref l/\vs=[y]/\H l=Sm (.lst xs)/\xs.length<L9/\Q .non (upd H l (.lst (xs++[y])))
theorem qg:ET X "list.append" oT:=by
 intro pins s σ H x vs v Y Q I S U h;revert h;refine yF3 λl xs y=>yB5 ?_;rintro rfl rfl O hz q;cases S;let#[u,rfl,W]:=U.one;refine yA2 (I.lstM O) λz=>yF2 λJ n=>yB3 λr hl e=>?_;refine call_meets F.slot_list_append #[_,e,rfl] F.entry_list_append (F.args_list_append_2 _ _) (PySem.list_append l J.toArray n u (by rw[xq];lia)) #[e,?_];refine yI2 .non _ #[I.lset (its':=J++[u]) O e '~' (r.append (.cons W .nil)) ?_,rfl,q];rw[zq,JZ];lia
def lH:V->MC->Hp->VK->Prop:=λx vs H Q=>∃l b xs zs,x = .ref l/\vs=[.ref b]/\H l=Sm (.lst xs)/\H b=Sm (.lst zs)/\xs.length+zs.length<=L9/\Q .non (upd H l (.lst (xs++zs)))
theorem z9:ET X "list.extend" lH:=by
 intro pins s σ H x vs v us Q I rx Y h;revert h;refine yF4 λl b xs zs=>yB6 ?_;rintro rfl rfl U hB hz q;cases rx;let#[u,rfl,ru]:=Y.one;cases ru;refine yA2 (I.lstM U) λz=>yF2 λO n=>yB3 λr hl e=>?_;refine yA2 (I.lstM hB) λz2=>yF2 λJ n2=>yB3 λr2 Z W=>?_;have hsz:O.toArray.size+J.toArray.size<=L9:=by rw[xq,xq];lia
 have S:¬ (!O.toArray.isEmpty&&OV (O.toArray.size+J.toArray.size))=true:=by
  rw[C6 hsz,Bool.and_false];exact xV
 refine call_meets F.slot_list_extend #[_,e,rfl] F.entry_list_extend (F.args_list_extend_2 _ _)
  (AutoSeq1.list_extend_list_list_0 l O.toArray n b J.toArray n2 S (by rw[xq];lia) ()) #[e,W,?_]
 refine yI2 .non _ #[I.lset (its':=O++J) U e '~' (r.append r2) ?_,rfl,q];rw[zq];lia
def CJ:V->MC->Hp->VK->Prop:=λx vs H Q=>∃l xs y,x = .ref l/\vs=[]/\H l=Sm (.lst xs)/\xs[xs.length-1]?=Sm y/\Q y (upd H l (.lst xs.dropLast))
theorem GL:ET X "list.pop" CJ:=by
 intro pins s σ H x vs v us Q I rx Z h;revert h;refine yF3 λl xs y=>yB5 ?_;rintro rfl rfl U W q;cases rx;have S:=Z.zero;subst S;refine yA2 (I.lstM U) λz=>yF2 λJ n=>yB3 λr hl e=>?_;let#[u,Y,ru]:=r.get W;have O:J.toArray[J.toArray.size-1]?=Sm u:=by
  show J.toArray[J.length-1]?=Sm u;rw[<-JB,<-hl];exact Y
 refine call_meets F.slot_list_pop #[_,e,rfl] F.entry_list_pop (F.args_list_pop_1 _) (MeetsSeq.list_pop_last l J.toArray n u O (by rw[xq];lia)) #[e,?_];refine yI2 y _ #[I.lset (its':=J.dropLast) U e ?_ r.dropLast ?_,ru,q]
 .show J.toArray.eraseIdxIfInBounds (J.toArray.size-1)=J.dropLast.toArray;rw[xq,List.eraseIdxIfInBounds_toArray,yJ]
 .rw[List.length_dropLast];lia
def Aw:V->MC->Hp->VK->Prop:=λx vs H Q=>∃l xs,x = .ref l/\vs=[]/\H l=Sm (.lst xs)/\Q .non (upd H l (.lst []))
theorem Du:ET X "list.clear" Aw:=by
 intro pins s σ H x vs v Y Q I U W h;revert h;refine yF2 λl xs=>yB4 ?_;rintro rfl rfl S q;cases U;have O:=W.zero;subst O;refine yA2 (I.lstM S) λz=>yF2 λJ n=>yB3 λr hl e=>?_;refine call_meets F.slot_list_clear #[_,e,rfl] F.entry_list_clear (F.args_list_clear_1 _) (AutoSeq1.list_clear_list_0 l J.toArray n (by rw[xq];lia)) #[e,?_];exact yI2 .non _ #[I.lset (its':=[]) (ys:=[]) S e rfl .nil (mw _),rfl,q]
def Nv:R2:=λx y H Q=>∃l b xs zs,x = .ref l/\y = .ref b/\H l=Sm (.lst xs)/\H b=Sm (.lst zs)/\xs.length+zs.length<=L9/\∀p,H p=Nn->Q (.ref p) (upd H p (.lst (xs++zs)))
theorem Hv:Gw X (binaryOp .Add) Nv:=by
 intro pins s σ H x y v u Q I rx ry h;revert h;refine yF4 λl b xs zs=>yB6 ?_;rintro rfl rfl Y U hz q;cases rx;cases ry;refine yA2 (I.lstM Y) λz=>yF2 λJ n=>yB3 λr hl e=>?_;refine yA2 (I.lstM U) λz2=>yF2 λF n2=>yB3 λW S O=>?_;refine P.add_list e O ?_ (by rw[xq,xq];lia);have Z:J.toArray++F.toArray=(J++F).toArray:='~';rw[Z];exact yI2 (.ref _) _ #[I.lnew (t':=s.toks) (r.append W) (by rw[zq];lia),rfl,q _ I.fresh]
end
section
variable{κ:Type}[DecidableEq κ]
noncomputable def bY(kvs:List (κ×V))(k:κ):MK:=(kvs.find? λkv=>decide (kv.1=k)).map (·.2)
noncomputable def du(kvs:List (κ×V))(k:κ)(v:V):List (κ×V):=
 if (kvs.any λkv=>decide (kv.1=k))=true then kvs.map (λkv=>if kv.1=k then (kv.1,v) else kv) else kvs++[(k,v)]
theorem dD{p:κ×V}{r:List (κ×V)}{k:κ}(e:p.1=k):bY (p::r) k=Sm p.2:=by simp[bY,zaQ,e]
theorem dE{p:κ×V}{r:List (κ×V)}{k:κ}(e:¬ p.1=k):bY (p::r) k=bY r k:=by simp[bY,zaQ,e]
theorem i7(k:κ):∀kvs:List (κ×V),(kvs.any λkv=>decide (kv.1=k))=(bY kvs k).isSome
 | []=>rfl
 | p::r=>by
  rw[za5];by_cases e:p.1=k
  .simp only[dD e,decide_eq_true e,Bool.true_or,Option.isSome_some]
  .rw[dE e,decide_eq_false e,Bool.false_or];exact i7 k r
theorem uq(k j:κ)(y:V):∀kvs:List (κ×V),bY (kvs.map λkv=>if kv.1=k then (kv.1,y) else kv) j=(bY kvs j).map λx=>if j=k then y else x
 | []=>rfl
 | p::r=>by
  have ih:=uq k j y r;rw[yR];by_cases h:p.1=k
  .rw[Lz h];by_cases e:p.1=j
   .rw[dD (p:=(p.1,y)) e,dD e,Option.map_some,Lz (e.symm.trans h)]
   .rw[dE (p:=(p.1,y)) e,dE e,ih]
  .rw[Lu h];by_cases e:p.1=j
   .rw[dD (p:=p) e,dD e,Option.map_some,Lu (λz=>h (e.trans z))]
   .rw[dE (p:=p) e,dE e,ih]
theorem qA(k j:κ)(y:V):∀kvs:List (κ×V),bY kvs k=Nn->bY (kvs++[(k,y)]) j=if j=k then Sm y else bY kvs j
 | [],_=>by
  by_cases e:k=j
  .rw[Lz e.symm];exact dD (p:=(k,y)) e
  .rw[Lu (λz=>e z.symm)];exact dE (p:=(k,y)) e
 | p::r,hn=>by
  rw[IW];have F:¬ p.1=k:=λz=>by rw[dD z]at hn;cases hn
  rw[dE F]at hn;have ih:=qA k j y r hn;by_cases e:p.1=j
  .rw[dD e,dD e,Lu (λz=>F (e.trans z))]
  .rw[dE e,dE e,ih]
theorem mC(kvs:List (κ×V))(k j:κ)(y:V):bY (du kvs k y) j=if j=k then Sm y else bY kvs j:=by
 unfold du;by_cases a:(kvs.any λkv=>decide (kv.1=k))=true
 .rw[Lz a,uq];rw[i7]at a;by_cases e:j=k
  .let#[x,hx]:=Option.isSome_iff_exists.mp a;rw[Lz e,e,hx,Option.map_some,Lz rfl]
  .rw[Lu e];cases bY kvs j with
   | none=>rfl
   | some x=>rw[Option.map_some,Lu e]
 .rw[Lu a];refine qA k j y kvs ?_;rw[i7]at a;cases q:bY kvs k with
  | none=>rfl
  | some x=>rw[q]at a;exact(a rfl).elim
theorem lT(kvs:List (κ×V))(k:κ)(v:V):(du kvs k v).length<=kvs.length+1:=by
 unfold du;split
 .rw[zb];lia
 .rw[zq,zy,yz];lia
theorem Dh{kvs:List (κ×V)}{k:κ}(v:V)(h:bY kvs k=Nn):du kvs k v=kvs++[(k,v)]:=by
 unfold du;rw[i7,h];exact Lu ∅
theorem Hd.isSome_eq{o:MK}{u:MG}(r:Hd o u):o.isSome=u.isSome:=by
 cases o with
 | none=>cases u with
  | none=>rfl
  | some _=>exact(show False from r).elim
 | some _=>cases u with
  | none=>exact(show False from r).elim
  | some _=>rfl
theorem Hd.getD{o:MK}{u:MG}{d:V}{d':B_}(r:Hd o u)(F:RelV d d'):RelV (o.getD d) (u.getD d'):=by
 cases o with
 | none=>cases u with
  | none=>exact F
  | some _=>exact(show False from r).elim
 | some _=>cases u with
  | none=>exact(show False from r).elim
  | some _=>exact r
theorem KV.val{kvs:List (κ×V)}{vs:List (κ×B_)}(r:KV kvs vs)(k:κ):Hd (bY kvs k) (valueAt vs k):=by
 unfold KV at r
 induction r with
 | nil=>exact True.intro
 | @cons p q ps qs h t ih=>
  let#[h1,h2]:=h;by_cases e:p.1=k
  .have F:q.1=k:=h1.symm.trans e;have b:valueAt (q::qs) k=Sm q.2:=by simp[valueAt,zaQ,F]
   rw[dD e,b];exact h2
  .have F:¬ q.1=k:=λz=>e (h1.trans z);have b:valueAt (q::qs) k=valueAt qs k:=by simp[valueAt,zaQ,F]
   rw[dE e,b];exact ih
theorem KV.any{kvs:List (κ×V)}{vs:List (κ×B_)}(r:KV kvs vs)(k:κ):(kvs.any λkv=>decide (kv.1=k))=vs.any λkv=>decide (kv.1=k):=by
 unfold KV at r
 induction r with
 | nil=>rfl
 | cons h t ih=>rw[za5,za5,ih,h.1]
theorem KV.repl{kvs:List (κ×V)}{vs:List (κ×B_)}(r:KV kvs vs)(k:κ){y:V}{u:B_}(F:RelV y u) :
  KV (kvs.map λkv=>if kv.1=k then (kv.1,y) else kv) (vs.map λkv=>if kv.1=k then (kv.1,u) else kv):=by
 unfold KV at r |-
 induction r with
 | nil=>exact .nil
 | @cons p q ps qs h t ih=>
  rw[yR,yR];refine .cons ?_ ih;let#[h1,h2]:=h;by_cases e:p.1=k
  .rw[Lz e,Lz (h1.symm.trans e)];exact#[h1,F]
  .rw[Lu e,Lu (λz=>e (h1.trans z))];exact#[h1,h2]
theorem KV.put{kvs:List (κ×V)}{vs:List (κ×B_)}(r:KV kvs vs)(k:κ){y:V}{u:B_}(F:RelV y u):KV (du kvs k y) (stored vs k u):=by
 unfold du stored;rw[r.any k];by_cases e:(vs.any λkv=>decide (kv.1=k))=true
 .rw[Lz e,Lz e];exact r.repl k F
 .rw[Lu e,Lu e];exact L8.snoc r #[rfl,F]
theorem KV.length{kvs:List (κ×V)}{vs:List (κ×B_)}(r:KV kvs vs):kvs.length=vs.length:=zaP r
end
theorem qY{P:L_}{w:K_}{k:aP}{u:B_}(r:RelV (kV k) u):(de P w).is k u=true:=by
 cases k with
 | inl i=>let#[t,e]:=(show ∃t,u=N_ i t from r);subst e;exact vy P w i t
 | inr x=>let#[t,e]:=(show ∃t,u=Nl x t from r);subst e;exact vz P w x t
theorem qx{P:L_}{w:K_}:∀ {ks:List aP} {F:MF},A1 (ks.map kV) F->ItemsAre (de P w) ks F
 | [],_,r=>by rw[JO]at r;cases r;exact .nil
 | k::ks,_,r=>by
  rw[yR]at r;cases r with
  | cons h t=>exact .cons (qY h) (qx t)
abbrev KT (H:Hp):List (List aP×V)->List (List aP×o_×B_)->Prop:=L8 λp q=>p.1=q.1/\H q.2.1=Sm (.tup (p.1.map kV))/\RelV p.2 q.2.2
theorem KT.val{H:Hp}{kvs:List (List aP×V)}{xs:List (List aP×o_×B_)}(r:KT H kvs xs)(k:List aP):Hd (bY kvs k) ((atKey xs k).map (·.2)):=by
 induction r with
 | nil=>exact True.intro
 | @cons p q ps qs h t ih=>
  let#[h1,_,h2]:=h;by_cases e:p.1=k
  .have F:q.1=k:=h1.symm.trans e;have b:atKey (q::qs) k=Sm q.2:=by simp[atKey,zaQ,F]
   rw[dD e,b];exact h2
  .have F:¬ q.1=k:=λz=>e (h1.trans z);have b:atKey (q::qs) k=atKey qs k:=by simp[atKey,zaQ,F]
   rw[dE e,b];exact ih
theorem KT.repl{H:Hp}{kvs:List (List aP×V)}{xs:List (List aP×o_×B_)}(r:KT H kvs xs)(k:List aP){y:V}{u:B_}(J:RelV y u) :
  KT H (kvs.map λkv=>if kv.1=k then (kv.1,y) else kv) (xs.map (putAt k u)):=by
 induction r with
 | nil=>exact .nil
 | @cons p q ps qs h t ih=>
  rw[yR,yR];refine .cons ?_ ih;let#[h1,h2,F]:=h;unfold putAt;by_cases e:p.1=k
  .rw[Lz e,Lz (h1.symm.trans e)];exact#[h1,h2,J]
  .rw[Lu e,Lu (λz=>e (h1.trans z))];exact#[h1,h2,F]
theorem KT.put{kvs:List (List aP×V)}{xs:List (List aP×o_×B_)}(r:KT H kvs xs)(k:List aP){b:o_}{y:V}{u:B_}(J:H b=Sm (.tup (k.map kV)))(F:RelV y u) :
  KT H (du kvs k y) (storedH xs k b u):=by
 have e:(kvs.any λkv=>decide (kv.1=k))=(atKey xs k).isSome:=by
  rw[i7,(r.val k).isSome_eq,Option.isSome_map]
 unfold du storedH;rw[e];by_cases q:(atKey xs k).isSome=true
 .rw[Lz q,Lz q];exact r.repl k F
 .rw[Lu q,Lu q];exact L8.snoc r #[rfl,J,F]
theorem KT.keeps{H':Hp}{kvs:List (List aP×V)}{xs:List (List aP×o_×B_)}(r:KT H kvs xs)(F:∀b ys,H b=Sm (.tup ys)->H' b=Sm (.tup ys)):KT H' kvs xs:=
 L8.mapP r λ_ _ z=>#[z.1,F _ _ z.2.1,z.2.2]
section
variable{P:L_}{w:K_}{H:Hp}{h:LY}{a:o_}
theorem Ez{u:HO}(ok:G3 P w H h)(e:Rd H a u):B3 P w H h a u:=e.ok ok
theorem rj{kvs:List (aP×V)}(ok:G3 P w H h)(e:Rd H a (.dK kvs)):kvs.length<=L9/\(a==sysModules)=false/\∃vs,KV kvs vs/\h.DictOf (de P w) a vs:=
 show B3 P w H h a (.dK kvs) from Ez ok e
theorem Kd{kvs:List (aP×V)}(ok:G3 P w H h)(e:H a=Sm (.dK kvs)):kvs.length<=L9/\(a==sysModules)=false/\∃vs,KV kvs vs/\h.DictOf (de P w) a vs:=rj ok (.inl e)
theorem u5{ks:List aP}(ok:G3 P w H h)(e:H a=Sm (.tup (ks.map kV))):(tupleKind (de P w)).is h ks a:=by
 refine yA2 (show B3 P w H h a (.tup (ks.map kV)) from ok a _ e) λ_=>yF1 λF=>yB2 λr=>yF1 λo=>yB4 λh1 h2 _=>yF1 λn J=>?_;exact yI3 o F.toArray n #[h1,h2,J,by simpa using qx r]
theorem Ey{kvs:List (List aP×V)}(ok:G3 P w H h)(e:Rd H a (.dT kvs)):kvs.length<=L9/\(a==sysModules)=false/\
  ∃xs,KT H kvs xs/\h.DictOfH (tupleKind (de P w)) a xs:=by
 refine yA3 (show B3 P w H h a (.dT kvs) from Ez ok e) λz y=>yF1 λxs=>yB2 λr=>yF3 λo es ep=>yB5 λh1 h2 F O J=>?_;refine#[z,y,xs,r,yI3 o es ep #[h1,h2,F,O,λx hx=>?_,J]];have all:∀ {l:List (List aP×V)} {m:List (List aP×o_×B_)},KT H l m->∀x∈m,(tupleKind (de P w)).is h x.1 x.2.1:=by
  intro l m q
  induction q with
  | nil=>intro x hx;exact nomatch hx
  | @cons p q ps qs hq t ih=>
   intro x hx;rcases LH.mp hx with e | hx
   .subst e;exact u5 ok (by rw[<-hq.1];exact hq.2.1)
   .exact ih x hx
 exact all r x hx
theorem Kw{kvs:List (List aP×V)}(ok:G3 P w H h)(e:H a=Sm (.dT kvs)):kvs.length<=L9/\(a==sysModules)=false/\
  ∃xs,KT H kvs xs/\h.DictOfH (tupleKind (de P w)) a xs:=Ey ok (.inl e)
end
def JS(H:Hp)(a:o_)(y:V)(r:MK):Prop:=
 (∃kvs k,Rd H a (.dK kvs)/\y=kV k/\r=bY kvs k)\/∃kvs k b,Rd H a (.dT kvs)/\y = .ref b/\H b=Sm (.tup (k.map kV))/\r=bY kvs k
def IA(H:Hp)(a:o_)(y v:V)(H':Hp):Prop:=
 (∃kvs k,H a=Sm (.dK kvs)/\y=kV k/\kvs.length<L9/\H'=upd H a (.dK (du kvs k v)))\/
 ∃kvs k b,H a=Sm (.dT kvs)/\y = .ref b/\H b=Sm (.tup (k.map kV))/\kvs.length<L9/\H'=upd H a (.dT (du kvs k v))
theorem JS.t{a b:o_}{kvs:List (List aP×V)}{k:List aP}(e:H a=Sm (.dT kvs))(F:H b=Sm (.tup (k.map kV))):JS H a (.ref b) (bY kvs k):=.inr (yI3 kvs k b #[.inl e,rfl,F,rfl])
theorem IA.k{a:o_}{kvs:List (aP×V)}{k:aP}{v:V}(e:H a=Sm (.dK kvs))(hl:kvs.length<L9):IA H a (kV k) v (upd H a (.dK (du kvs k v))):=.inl (yI2 kvs k #[e,rfl,hl,rfl])
theorem IA.t{a b:o_}{kvs:List (List aP×V)}{k:List aP}{v:V}(e:H a=Sm (.dT kvs))(F:H b=Sm (.tup (k.map kV)))(hl:kvs.length<L9) :
  IA H a (.ref b) v (upd H a (.dT (du kvs k v))):=.inr (yI3 kvs k b #[e,rfl,F,hl,rfl])
section
variable{X:Cx}{pins:List (o_×Obj)}{σ:St}{H:Hp}{s:so}{a:o_}{y v:V}{u r:B_}{o:MK}{A:Me}{E:LZ}
theorem Inv.big(I:Inv X pins σ H s):sysModules<s.heap.objs.size:=by
 have h:Mp<s.heap.objs.size:=(I.mod.glob.keeps I.bk).lt;exact Nat.lt_trans ∅ h
theorem Fn{Q:LZ}(S:A.units+1<cLine)(I:Inv X pins σ H s)(g:JS H a y o)(O:RelV y u)(h:∀s',Inv X pins σ H s'->Q (.bool (!o.isSome)) s') :
  I_ (model X.prog X.w) A (Mr .NotIn u (.ref a)) Q E s:=by
 rcases g with ⟨kvs,k,e,J,l⟩ | ⟨kvs,k,b,e,J,U,l⟩
 .subst J;refine yA3 (rj I.hok e) λz hd=>yF1 λvs=>yB2 λF dd=>?_;refine wpAny_notIn_of (qY O) hd dd.mapOf ?_;rw[<- (F.val k).isSome_eq,<-l];exact h _ (I.tok _)
 .subst J;cases (show u=Md b from O);refine yA3 (Ey I.hok e) λz hd=>yF1 λxs=>yB2 λF dd=>?_;refine wpAny_notIn_heap (tupleKind_room_in1 S) (u5 I.hok U) hd dd ?_;have q:=(F.val k).isSome_eq;rw[Option.isSome_map]at q;rw[<-q,<-l];exact h _ (I.tok _)
theorem v0{h':LY}{t':Nat}{F:HO}(I:Inv X pins σ H s)(J:Az (H a))(U:M5 a s.heap h')(O:∃q,h'.get? a=Sm q)(new:B3 X.prog X.w (upd H a F) h' a F) :
  Inv X pins σ (upd H a F) {s with heap:=h',toks:=t'}:=
 I.write (x:=a) (e:=a) J (.inl rfl) (λb q S z=>(U.2 b S).trans z) O new
theorem Jv{P:L_}{w:K_}{H':Hp}{h':LY}{kvs:List (aP×V)}{vs:List (aP×B_)}(z:kvs.length<=L9)(hd:(a==sysModules)=false)(F:KV kvs vs)(dd:h'.DictOf (de P w) a vs) :
  B3 P w H' h' a (.dK kvs):=#[z,hd,vs,F,dd]
theorem p7{H':Hp}{Q:Unit->so->Prop}(hu:A.units+1<cLine)(I:Inv X pins σ H s)(g:IA H a y v H')(ry:RelV y u)(Y:RelV v r)(h:∀s',Inv X pins σ H' s'->Q Unit.unit s') :
  I_ (model X.prog X.w) A (setItem (.ref a) u r) Q E s:=by
 rcases g with ⟨kvs,k,e,U,l,W⟩ | ⟨kvs,k,b,e,U,Z,l,W⟩
 .subst U W;refine yA3 (Kd I.hok e) λz hd=>yF1 λvs=>yB2 λF dd=>?_;have hz:vs.length<=L9:=by rw[<-F.length];exact z
  have hl:(du kvs k v).length<=L9:=by have:=lT kvs k v;lia
  refine wpAny_setItem_pairs (hsz:=hz) (qY ry) dd λh' J S=>h _ ?_;have he:∃q,h'.get? a=Sm q:=let ⟨q,_,_,O,_⟩:=J;#[q,O];exact v0 I (by rw[e];exact True.intro) S he (Jv hl hd (F.put k Y) J)
 .subst U W;cases (show u=Md b from ry);refine yA3 (Kw I.hok e) λz hd=>yF1 λxs=>yB2 λF dd=>?_;have hz:xs.length<=L9:=by rw[<-zaP F];exact z
  have hl:(du kvs k v).length<=L9:=by have:=lT kvs k v;lia
  refine wpAny_setItem_heap (hsz:=hz) (tupleKind_room_in1 hu) (u5 I.hok Z) dd λh' J S=>h _ ?_;revert J;refine yF3 λq es ep=>yB6 λO h2 h3 h4 _ h5=>?_;refine v0 I (by rw[e];exact True.intro) S #[q,O] #[hl,hd,_,(F.put k Z Y).keeps λc ys ec=>?_,yI3 q es ep #[O,h2,h3,h4,h5]];rw[au (dh ec e (λz=>nomatch z))];exact ec
end
theorem B4{P:L_}{w:K_}(h:LY)(F:sysModules<h.objs.size):B3 P w H (h.push {cls:=.type "dict",data:=.dict #[]}) h.objs.size (.dK []):=
 #[mw _,beq_eq_false_iff_ne.mpr (u6 (yG F)),[],.nil,LY.DictOf.new h]
theorem Cm{P:L_}{w:K_}(h:LY)(F:sysModules<h.objs.size):B3 P w H (h.push {cls:=.type "dict",data:=.dict #[]}) h.objs.size (.dT []):=
 #[mw _,beq_eq_false_iff_ne.mpr (u6 (yG F)),[],.nil,yI3 _ #[] 0 #[yQ _ rfl,#[rfl,rfl,rfl],rfl,rfl,JW]]
def HI:TE:=λ_ H Q=>∀p,H p=Nn->Q (.ref p) (upd H p (.dK []))
def Gv:TE:=λ_ H Q=>∀p,H p=Nn->Q (.ref p) (upd H p (.dT []))
section
variable{X:Cx}{pos:Pos}
theorem sy:PE X (.Dict [] [] pos) HI:=λpins s σ H Q I h=>
 wpAny_Dict_empty (yI2 (.ref s.heap.objs.size) _ #[I.laid (a:=s.heap.objs.size) (o:=.dK []) (t':=s.toks) (λ_ _ q=>yc _ q) (zg _) (B4 s.heap I.big),rfl,h _ (I.hok.fresh (zg _))])
theorem De:PE X (.Dict [] [] pos) Gv:=λpins s σ H Q I h=>
 wpAny_Dict_empty (yI2 (.ref s.heap.objs.size) _ #[I.laid (a:=s.heap.objs.size) (o:=.dT []) (t':=s.toks) (λ_ _ q=>yc _ q) (zg _) (Cm s.heap I.big),rfl,h _ (I.hok.fresh (zg _))])
end
def kP:List (TE×TE)->St->Hp->(List (V×V)->Hp->Prop)->Prop
 | [],_,H,Q=>Q [] H
 | (tk,tv)::r,σ,H,Q=>tk σ H λx H1=>tv σ H1 λy H2=>kP r σ H2 λps H3=>Q ((x,y)::ps) H3
abbrev VV:List (V×V)->List (B_×B_)->Prop:=L8 λp q=>RelV p.1 q.1/\RelV p.2 q.2
def PPs(X:Cx)(pos:Pos)(keys:List (Option Expr))(values:ML)(trs:List (TE×TE)):Prop:=
 ∀(pins:List (o_×Obj)) (s:so) (σ : St) (H:Hp) (Q:List (V×V)->Hp->Prop),Inv X pins σ H s->kP trs σ H Q->
  I_ (model X.prog X.w) X.A (evalPairs (pairTrees keys values X.env pos)) (λvs s'=>∃ps H',Inv X pins σ H' s'/\VV ps vs/\Q ps H') X.xe s
end L2
namespace Att
open PySem PySem.W PySem.Calls PyProof.Rows
theorem n5{P:Params}{h:LY}:∀(ns:MJ) (vs:MF),WellAll P h vs (ns.map WData.int)->Nx vs ns:=by
 intro ns
 induction ns with
 | nil=>
  intro vs w;rw[List.map_nil]at w;cases w;exact .nil
 | cons n ns ih=>
  intro vs w;rw[List.map_cons]at w;cases w with
  | cons a b=>
   cases a;exact .cons _ _ (ih _ b)
theorem AT{l:OpenLaw}{n:Nat}(hn:l.most=Sm n){P:Params}{h:LY}{args:List WData}{F:MF}
  (J:l.row.toRowW.claim.pre args=true) (W:WellAll P h F args) :
  ∃a vs ns,F=[Md a]/\args=[WData.list (ns.map WData.int)]/\h.get? a=Sm {cls:=.type "list",data:=.seq vs.toArray}/\Nx vs ns/\ns.length<=n:=by
 have Y:WShape.hasAll [] args [.list .int]=true:=(pre_splitW J).1;have Z:l.pre.holds [] {args:=args}=true:=(pre_splitW J).2;refine yE2 (hasAllW_cons Y) λd r=>yB3 ?_;rintro rfl h1 h2;obtain rfl:=hasAllW_nil h2;let#[xs,rfl,h3]:=hasW_list h1;let#[ns,rfl]:=items_int h3;have O:ns.length<=n:=by
  unfold OpenLaw.pre at Z;have U:(WTm.not (.lt (.lit (.int (n:Int))) (.len (.arg 0)))).holds [] {args:=[.list (ns.map .int)]}=true:=by
   have U:=(holds_andW Z).1;rw[hn]at U;exact U
  have S:=condW_of U (w_not (w_lt w_lit (w_len_list (w_arg rfl))));rw[List.length_map]at S;refine Nat.le_of_not_lt λq=>?_;have q':(n:Int)<((ns.length:Nat):Int):=()
  first
   | (rw[decide_eq_true q']at S;exact absurd S ∅)
   | (simp at S;lia)
 cases W with
 | cons w1 w2=>
  cases w2;cases w1 with
  | list ho hall=>exact yI3 _ _ ns #[rfl,rfl,ho,n5 ns _ hall,O]
theorem AQ(l:OpenLaw)(args:List WData):l.row.toRowW.claim.post args (.bool true) args=true:=
 postW_of (r:=l.row.toRowW) (X:=(true==true))
  (show WShape.has [] (.bool true) .bool=true by first | rfl | decide | simp[WShape.has,WShape.arms,WShape.armsAll])
  (show (WTm.eq .res (.lit (.bool true))).value [] {args:=args,res:=Sm (.bool true),after:=args}=Sm (.bool (true==true)) from w_eq_bool (w_res rfl) w_lit) rfl
theorem attach_call{l:OpenLaw}{n:Nat}{q:L_}{loose:MA}{XP:(Str->MG)->LY->Prop}{YP:K_->LY->Prop}{d:DefRec}
  (hn:l.most=Sm n) (ag:d.params.defaults=[])
  (call:∀(w:K_) (s₀ F:so) (mg mb:Str->MG) (fa:o_) (o:Obj) (pm Z O:B_) (a:o_) (vs:MF) (ns:MJ),
   Ground q loose [] XP w s₀ mg mb F.heap->YP w F.heap->
   F.heap.get? fa=Sm o->o.data = .func (docDef d.name d.params d.body d.scope pm Z O)->F.heap.CodeRec Z d.name->mg d.name=Sm (.ref fa)->
   F.heap.get? a=Sm {cls:=.type "list",data:=.seq vs.toArray}->Nx vs ns->ns.length<=n->F.gens = #[]->
   codeAny (model l.prog w) callerA (.call (.ref fa) ⟨[.ref a],[]⟩) (λr s'=>r = .ok (.ret (.bool true))/\OldK F.heap s'.heap/\s'.os=F.os/\NG s'.gens) F) :
  WalkO q loose XP YP l.row.toRowW d [] (λf vs=>PySem.call f vs):=by
 intro w s₀ F mg mb G Y fa o pm Z O dV kV ho hd ad hD ab hg args a3 as U al a4 ac a5;obtain rfl:dV = .none:=Dflts.none hD ag;obtain rfl:kV = .none:=Dflts.noKw hD;refine yE3 (AT hn U ac) λa vs ns=>yB5 ?_;rintro rfl rfl W J S;refine enter_call (Od (call w s₀ F mg mb fa o pm Z O a vs ns G Y ho (fd_plain hd) ad ab W J S hg) λr s' hq=>?_);revert hq;refine yB4 ?_;rintro rfl h2 h3 h4;exact#[.inl (yI3 (.bool true) (.bool true) ([]) #[rfl,λ_=>rfl,.bool true,AQ l _,λ_=>#[List.Pairwise.nil,λ_ hm=>(nomatch hm)]]),h2,h3,h4]
end Att
namespace L2
open PySem PySem.Spec PyProof.Rows
theorem kU:∀ {vs:MF} {ns:MJ},Nx vs ns->A1 (ns.map V.int) vs
 | _,_,.nil=>.nil
 | _,_,.cons n t h=>.cons #[t,rfl] (kU h)
def B8(H:Hp):Prop:=∀b,H b=Nn\/∃o xs,H b=Sm (.frz o (.lst xs))
theorem BR{P:L_}{w:K_}{K:KE}{mg mb:Str->MG}{CX:jx}{k:Nat}{fa a:o_}{fd:Nf}{x:Str}{sp:Sp}{J:so}{vs:MF}{ns:MJ}
  (KX:K.In J.heap) (ad:J.heap.Ns Mp mg) (S:J.heap.Ns builtinsNs mb) (as:∀x:Str,x ≠ "__name__" -> mb x=MX x) (ac:J.heap.NoLimit) (hg:J.gens = #[])
  (ha:J.heap.get? a=Sm {cls:=.type "list",data:=.seq vs.toArray}) (hi:Nx vs ns) (hl:ns.length<=L9) (hr:CC k callerA)
  (F:∀base:LY,K.In base->base.Ns Mp mg->GZ P w K mg base CX k fa fd [x] sp) (hbind:∀(s:so) (u:B_),BindsTo s fd #[[u],[]] [(x,u)])
  (hsp:∀H:Hp,B8 H->ud K H a (ns.map V.int)->sp [.ref a] H (λv _=>v = .bl true) λ_ _ _=>False)
  (hCX:∀H e s',CX [] H J (λ_ _ _=>False) e s'->False) :
  codeAny (model P w) callerA (.call (.ref fa) #[[.ref a],[]]) (λr s'=>r = .ok (.ret (.bool true))/\OldK J.heap s'.heap/\s'.os=J.os/\NG s'.gens) J:=by
 have rv:=kU hi;have ag:=hi.length;have Y:∀H:Hp,B8 H->ud K H a (ns.map V.int)->G3 P w H J.heap->(∀b,H b≠Nn->b=a)->(H a≠Nn->K.lookup a=Nn)->
   codeAny (model P w) callerA (.call (.ref fa) #[[.ref a],[]]) (λr s'=>r = .ok (.ret (.bool true))/\OldK J.heap s'.heap/\s'.os=J.os/\NG s'.gens) J:=by
  intro H hO hS hok hA hK;have O:∀ {b:o_} {o:Obj},J.heap.get? b=Sm o->H b=Nn->(jY J.heap H).get? b=Sm o:=λe n=>CI e n;have al:∀ {b:o_} {o:Obj} {es:Array NE} {ep:Nat},J.heap.get? b=Sm o->o.data = .dict es ep->H b=Nn:=λ{b o es ep} e d=>by
   cases q:H b with
   | none=>rfl
   | some u=>
    have e':b=a:=hA b (by rw[q];simp);subst e';rw[ha]at e;cases e;have d':Data.seq vs.toArray _=Data.dict es ep:=d;cases d'
  have U:∀ {b:o_} {m:Str->MG},J.heap.Ns b m->(jY J.heap H).Ns b m:=λ{b m} ⟨o,es,ep,e,d,r⟩=>yI3 o es ep #[O e (al e d),d,r];have Z:K.In (jY J.heap H):=λb o e=>O (KX b o e) (by
   cases q:H b with
   | none=>rfl
   | some u=>
    have e':b=a:=hA b (by rw[q];simp);subst e';rw[hK (by rw[q];simp)]at e;cases e)
  have hM:Mod K mg (jY J.heap H):=#[Z,U ad,#[mb,U S,as],let ⟨mc,h1,h2⟩:=ac;#[mc,U h1,h2]];have e0:ID P w K mg (jY J.heap H) callerA [] J H:=#[rfl,hM,λb o e=>Fe e,Nat.le_of_eq (Bz _ _),trivial,λb S=>absurd (show b∈([]:MD) from S) '~',hok,.of_eq hg];refine Od ((F _ Z (U ad)).run callerA [] J H #[[.ref a],[]] [.ref a] [.ref a] _ _ hr e0 (hbind J (.ref a)) (.cons rfl .nil) (hsp H hO hS)) λr s' h=>?_;cases r with
  | error e=>exact(hCX H e s' h).elim
  | ok fl=>
   cases fl with
   | next=>exact False.elim h
   | brk=>exact False.elim h
   | cont=>exact False.elim h
   | ret u=>
    revert h;refine yF2 λv H'=>yB6 λos bare un ab r' q=>?_;have q':v = .bl true:=q;subst q';obtain rfl:u=N9 true:=r';refine#[rfl,OldK.of_keep λb o e=>?_,os,bare];cases q:H b with
    | none=>exact un.keep b o e q (by intro z;exact absurd (show b∈([]:MD) from z) '~') '~'
    | some u=>
     rcases hO b with z | ⟨ob,xs,z⟩
     .rw[q]at z;cases z
     .have z2:=un.frzs b ob _ z;let#[e1,_]:=hok b _ z;let#[e2,_]:=ab b _ z2;rw[e]at e1;cases e1;exact e2
 cases hk:K.lookup a with
 | some o=>
  have e:=KX a o hk;rw[ha]at e;cases e;refine Y (λ_=>Nn) (λ_=>.inl rfl) (.inr (yI3 _ vs.toArray _ #[hk,rfl,rfl,rfl,by rw[xq,ag];exact hl,by simpa using rv])) (λb u z=>by have z':(Nn:Option HO)=Sm u:=z;cases z') (λb z=>absurd rfl z) λz=>absurd rfl z
 | none=>
  refine Y (λb=>if b=a then Sm (.frz {cls:=.type "list",data:=.seq vs.toArray} (.lst (ns.map V.int))) else Nn) (λb=>?_) (.inl (.inr #[{cls:=.type "list",data:=.seq vs.toArray},Lz rfl])) (λb u z=>?_) (λb z=>?_) λ_=>hk
  .by_cases S:b=a
   .exact .inr (yI2 _ _ (Lz S))
   .exact .inl (Lu S)
  .by_cases S:b=a
   .have z':=(Lz S).symm.trans z;cases z';subst S;exact#[ha,by rw[zb];exact hl,yI2 vs _ #[rv,ha]]
   .have z':=(Lu S).symm.trans z;cases z'
  .by_cases S:b=a
   .exact S
   .exact absurd (Lu S) z
noncomputable abbrev KOf {K:KE} {h:LY} (_:K.In h):KE:=K
theorem IF{l:W.OpenLaw}{n k:Nat}{q:L_}{loose:MA}{XP:(Str->MG)->LY->Prop}{YP:K_->LY->Prop}{d:DefRec}{K:Params->KE}{CX:K_->jx}{sp:K_->Sp}{x:Str}
  (hn:l.most=Sm n) (ad:n<=L9) (ab:d.params.defaults=[]) (hr:CC k callerA)
  (hY:∀(w:K_) (h:LY),YP w h->(K w.params).In h)
  (F:∀(w:K_) (mg:Str->MG) (fa:o_) (h:LY),(K w.params).In h->h.Ns Mp mg->mg d.name=Sm (.ref fa)->
   ∃fd:Nf,(∀(s:so) (u:B_),BindsTo s fd #[[u],[]] [(x,u)])/\
    ∀base:LY,(K w.params).In base->base.Ns Mp mg->GZ l.prog w (K w.params) mg base (CX w) k fa fd [x] (sp w))
  (U:∀(w:K_) (H:Hp) (a:o_) (ns:MJ),ns.length<=n->B8 H->ud (K w.params) H a (ns.map V.int)->sp w [.ref a] H (λv _=>v = .bl true) λ_ _ _=>False)
  (ac:∀(w:K_) (H:Hp) (s:so) (e:B_) (s':so),CX w [] H s (λ_ _ _=>False) e s'->False) :
  W.WalkO q loose XP YP l.row.toRowW d [] (λf vs=>PySem.call f vs):=by
 refine Att.attach_call hn ab λw s₀ s₁ mg mb fa o pm cd al a vs ns G Y ho hd ag Z S O J hg=>?_;have KX:=hY w _ Y;let#[fd,hb,hF]:=F w mg fa _ KX G.T.g Z;exact BR KX G.T.g G.T.b G.T.builtins G.T.nolimit hg S O (mn J ad) hr hF hb (λH hO hS=>U w H a ns J hO hS) λH e s'=>ac w H s₁ e s'
end L2
namespace L2
open PySem PySem.Spec PyProof.Rows
variable{X:Cx}{x:Str}{st:Ma}{ps:MA}{pos:Pos}{H:Hp}{i n:Nat}{Q:VK}{g:TG}{D:o_}{σ:St}{te:TE}{e:Expr}{es:ML}
abbrev kE:jx:=λ_ _ _ _ _ _=>False
abbrev E0:XK:=λ_ _ _=>False
theorem Er:n6 kE X E0:=λ_ _ _ _ _ _ _ h=>h.elim
structure JY (K:KE) (x qual:Str) (st:Ma) (f:o_) (fd:Nf):Prop where
 ex:∃(oc:B_) (od:MN) (kV doc pm:B_) (an:MN) (cdv ct:B_) (osl:Array MG),
  fd=Nr x qual (Dt st) (CZ st) (sg st) .none kV doc pm an cdv ct/\K.lookup f=Sm #[oc,od,.func fd,osl]/\W.codeIn K cdv qual=true
 kp:NJ K (.ref f)=true
section
variable{P:L_}{w:K_}{K:KE}{mg:Str->MG}{base:LY}
theorem JY.ok{J:Str}{f:o_}{fd:Nf}{N:MA}{k:Nat}{sp:Sp}(F:JY K x J st f fd)(S:aC N ps (sg st))(len:∀vs H Q E,sp vs H Q E->vs.length=ps.length)
  (U:∀(O:B_) (A:Me) (outer:List Env) (s:so) (H:Hp) (vs:MC) (Q:VK) (E:XK),CC k (A.deeper (envOfC J (sg st) s.heap.objs.size f O))->sp vs H Q E->
   ∃t,Iz (kI kE P w K mg base N J (sg st) f O A outer s H E).nox (CZ st) t/\t {nx:=λ_ H'=>Q .non H',rt:=Q} (start N vs) H):GZ P w K mg base kE (k+1) f fd ps sp:=by
 refine yE9 F.ex λoc od kV ac pm an O ct ab=>yB3 ?_;rintro rfl lk Y;refine J3 lk Y S len λA outer s H vs Q E Z W=>?_;let#[t,h,q]:=U O A outer s H vs Q E Z W;exact#[t,h.nox,q]
theorem JY.binds{J:Str}{f:o_}{fd:Nf}(F:JY K x J st f fd)
  (h:∀(kV O pm:B_) (an:MN) (S ct:B_) (U:MF),U.length=ps.length->bindArgs (Nr x J (Dt st) (CZ st) (sg st) .none kV O pm an S ct) #[U,[]]=pure (ps.zip U)):Binds K fd ps []:=by
 refine yE9 F.ex λoc od kV O pm an S ct Y=>yB3 ?_;rintro rfl lk Z;exact .all (h kV O pm an S ct)
theorem sU{F:Str}{f:o_}{U:B_}{Y an:MN}{S:Array MG}{kV O pm J ct:B_}(l:K.lookup f=Sm #[U,Y,.func (Nr x F (Dt st) (CZ st) (sg st) .none kV O pm an J ct),S])
  (c:W.codeIn K J F=true) (k:NJ K (.ref f)=true):JY K x F st f (Nr x F (Dt st) (CZ st) (sg st) .none kV O pm an J ct):=#[yI9 U Y kV O pm an J ct S #[rfl,l,c],k]
end
section
variable{X:Cx}
theorem pv(i:Nat)(F:X.N[i]?=Sm x:=by rfl)(hv:ao X.env.scope x:=by first | exact vSs ⋯ | exact Or.inl rfl | exact bR _ ⋯)(hd:(x==("__debug__" : Str))=false:=by decide)
  (hcd:(x==("__classdict__" : Str))=false:=by decide):PE X (.Name x pos) (cZ i):=IT F hv hd hcd
end
theorem aT{c A B:Prop}[Decidable c](h1:c->A)(h2:¬ c->B):if c then A else B:=by
 by_cases h:c
 .rw[Lz h];exact h1 h
 .rw[Lu h];exact h2 h
def su(H H':Hp):Prop:=∀b o,H b=Sm o->H' b=Sm o
theorem su.refl(H:Hp):su H H:=λ_ _ h=>h
theorem su.trans{H1 H2:Hp}(a:su H H1)(b:su H1 H2):su H H2:=λc o h=>b c o (a c o h)
theorem su.free{H H':Hp}(e:su H H'){l:o_}(h:H' l=Option.none):H l=Option.none:=by
 cases q:H l with
 | none=>rfl
 | some o=>
  rw[e l o q]at h;cases h
theorem su.seq{K:KE}{H':Hp}{a:o_}{xs:MC}(e:su H H')(h:ud K H a xs):ud K H' a xs:=by
 rcases h with (h | ⟨o,h⟩) | h
 .exact .inl (.inl (e _ _ h))
 .exact .inl (.inr #[o,e _ _ h])
 .exact .inr h
noncomputable def eR(cells:List (Str×o_)):List (Str×M6)->List (Str×o_)->List (Str×o_)
 | [],acc=>acc
 | (n,k)::r,acc=>eR cells r (if k == .free then (n,(cells.lookup n).getD 0)::acc else acc)
theorem ub{env:Env}{f:(Str×M6)->List (Str×o_)->Sem (ForInStep (List (Str×o_)))}
  (hf:∀n k cs,f (n,k) cs=if (k==Na)=true then (cellOf env n >>= λc=>pure (ForInStep.yield ((n,c)::cs))) else pure (ForInStep.yield cs)) :
  ∀(names:List (Str×M6)) (acc:List (Str×o_)),(∀x∈names,x.2 = .free->∃c,env.cells.lookup x.1=Sm c)->
  forIn names acc f=(pure (eR env.cells names acc):Sem _)
 | [],acc,_=>rfl
 | (n,k)::r,acc,h=>by
  rw[List.forIn_cons,hf];have ih:=λacc=>ub hf r acc λx hx=>h x (yh _ hx);by_cases hk:(k==Na)=true
  .rw[Lz hk];let#[c,F]:=h (n,k) yd (by simpa using hk);have e:cellOf env n=pure c:=by unfold cellOf;rw[F]
   rw[e,pure_bind,pure_bind];show forIn r ((n,c)::acc) f=_;rw[ih];show _=pure (eR env.cells r (if (k==Na)=true then (n,(env.cells.lookup n).getD 0)::acc else acc));rw[Lz hk,F];rfl
  .rw[Lu hk,pure_bind];show forIn r acc f=_;rw[ih];show _=pure (eR env.cells r (if (k==Na)=true then (n,(env.cells.lookup n).getD 0)::acc else acc));rw[Lu hk]
theorem kg{env:Env}{scope:Scope}(h:∀x∈scope.names,x.2 = .free->∃c,env.cells.lookup x.1=Sm c):closureFor scope env=pure (eR env.cells scope.names []):=by
 unfold closureFor;show (forIn scope.names ([]:List (Str×o_)) _ >>= λcs=>pure cs)=_;rw[ub (env:=env) (λn k cs=>?_) _ _ h]
 .rfl
 .rfl
theorem l5{cells:List (Str×o_)}:∀ {names:List (Str×M6)} {acc:List (Str×o_)} {x:Str} {c:o_},(∀y∈names,y.2 = .free->∃c,cells.lookup y.1=Sm c)->
  (∀y c,acc.lookup y=Sm c->cells.lookup y=Sm c)->(eR cells names acc).lookup x=Sm c->cells.lookup x=Sm c
 | [],acc,x,c,_,ha,h=>ha x c h
 | (n,k)::r,acc,x,c,hn,ha,h=>by
  refine l5 (names:=r) (λy F=>hn y (yh _ F)) ?_ h;intro y d F;by_cases hk:(k==Na)=true
  .rw[Lz hk]at F;let#[e,S]:=hn (n,k) yd (by simpa using hk);have O:cells.lookup n=Sm e:=S;rw[K3]at F;by_cases hyn:(y==n)=true
   .rw[hyn]at F;have J:(cells.lookup n).getD 0=d:=Option.some.inj F;rw[O]at J;have U:y=n:=by simpa using hyn
    rw[U,O,<-J];rfl
   .have hf:(y==n)=false:=by simpa using hyn
    rw[hf]at F;exact ha y d F
  .rw[Lu hk]at F;exact ha y d F
theorem nN{cells:List (Str×o_)}:∀ {names:List (Str×M6)} {acc:List (Str×o_)} {x:Str},(∃c,acc.lookup x=Sm c)->∃c,(eR cells names acc).lookup x=Sm c
 | [],_,_,h=>h
 | (n,k)::r,acc,x,h=>by
  refine nN (names:=r) ?_;by_cases hk:(k==Na)=true
  .rw[Lz hk,K3];cases hx:(x==n) with
   | true=>exact#[_,rfl]
   | false=>exact h
  .rw[Lu hk];exact h
theorem jP{cells:List (Str×o_)}:∀ {names:List (Str×M6)} {acc:List (Str×o_)} {x:Str},(x,Na)∈names->∃c,(eR cells names acc).lookup x=Sm c
 | (n,k)::r,acc,x,h=>by
  rcases LH.mp h with e | h
  .have F:x=n:=congrArg (·.1) e;have J:Na=k:=congrArg (·.2) e;subst F J;refine nN (names:=r) ?_;rw[Lz (by rfl),K3];rw[beq_self_eq_true];exact#[_,rfl]
  .exact jP (names:=r) h
theorem fj{env:Env}:∀ {names:List (Str×M6)} {x:Str} {k:M6},(∀y∈names,y.2 ≠ .cell)->
  (names.map λ(n,k)=>if (k==Na&&env.scope.kind == .function&&env.kindOf n==Sm .cell) then (n,M6.cell) else (n,k)).lookup x=Sm k->(k = .cell\/k = .free)->(x,Na)∈names
 | [],_,_,_,h,_=>by simp at h
 | (n,k0)::r,x,k,hc,h,hk=>by
  have ih:=@fj env r x k (λy J=>hc y (yh _ J));rw[yR]at h;by_cases hf:(k0==Na&&env.scope.kind == .function&&env.kindOf n==Sm .cell)=true
  .have F:k0 = .free:=by
    have:(k0==Na)=true:=by
     rw[Ld,Ld]at hf;exact hf.1.1
    simpa using this
   dsimp only at h;rw[Lz hf,K3]at h;cases hx:(x==n) with
   | true=>
    have:x=n:=by simpa using hx
    rw[this,F];exact yd
   | false=>rw[hx]at h;exact yh _ (ih h hk)
  .dsimp only at h;rw[Lu hf,K3]at h;cases hx:(x==n) with
   | true=>
    rw[hx]at h;have e:k0=k:=Option.some.inj h;have:x=n:=by simpa using hx
    rcases hk with z | z
    .exact absurd (e.trans z) (hc (n,k0) yd)
    .rw[this,e,z];exact yd
   | false=>rw[hx]at h;exact yh _ (ih h hk)
noncomputable def b9(X:Cx)(N0 T:MA)(scope:Scope)(C:o_)(fp:MD)(s:so)(H:Hp):Cx:=
 {X with N:=N0++T,s₀:=s,H₀:=H,env:=compEnvC scope (eR X.env.cells scope.names []) C X.env,outer:=X.stack,stack:=X.stack,ex:=fp,fn:=λ_=>false,pn:=[],xe:=λ_ _=>False}
structure jj (X:Cx) (N0 T:MA) (scope:Scope):Prop where
 kind:scope.kind = .function
 nocell:∀y∈scope.names,y.2 ≠ .cell
 names:∀y∈scope.names,y.2 = .local->scope.names.lookup y.1=Sm .local
 free:∀y∈scope.names,y.2 = .free->X.env.kindOf y.1=Sm .cell\/X.env.kindOf y.1=Sm .free
 apart:∀y∈scope.names,y.2 = .local->y.1∉N0
 len0:N0.length=X.N.length
 same:∀(i:Nat) (x:Str) (k:M6),N0[i]?=Sm x->(x,k)∈scope.names->X.N[i]?=Sm x
theorem kz{prog:L_}{w:K_}{A:Me}{R:Nw->so->Prop}{s:so}{elt F iter:Expr}{ifs:ML}{scope:Scope}{pos:Pos}{it acc:B_}{env:Env}(I:Nat->so->Prop)
  (J:∀n s,I n s->I_ (model prog w) A (pyNext it) (λr S=>match r with
   | none=>R (.ok .next) S
   | some v=>I_ (model prog w) A (letOwnedTupleGo F it v) (λ_ s₀=>I_ (model prog w) A (assign F env v) (λ_ Y=>
     I_ (model prog w) A (forIn ifs true λc r=>if r=true then do let ok <-isTrue c env (eval c env);pure (ForInStep.yield ok) else pure (ForInStep.yield r)) (λok O=>
      if ok=true then I_ (model prog w) A (eval elt env) (λx W=>
       I_ (model prog w) A (call (.builtin "list.append") [acc,x]) (λ_ Z=>∃m,m<n/\I m Z) (λ_ _=>False) W) (λ_ _=>False) O
      else ∃m,m<n/\I m O) (λ_ _=>False) Y) (λ_ _=>False) s₀) (λ_ _=>False) S) (λ_ _=>False) s)
  (n:Nat) (h:I n s) :
  codeAny (model prog w) A (.compLoop (.ListComp elt [#[F,iter,ifs,0]] scope pos) 0 it acc env) R s:=by
 refine codeAny_loop rfl I (λn s hI=>?_) n h;show I_ _ A ((compTurn (.ListComp elt [#[F,iter,ifs,0]] scope pos) 0 it acc env).onRaise (λx=>do noteFrame x env;theTreesLotGoes x)) _ _ s;refine wpAny_noted ?_;rw[compTurn_list];refine Lo (wpAny_standAt (Lo (Nb (J n s hI) (λr S U=>?_) λ_ _ h'=>h'.elim)));cases r with
 | none=>exact Lp U
 | some v=>
  refine Lo (Nb U (λ_ s₀ h₀=>?_) λ_ _ h'=>h'.elim);refine Lo (Nb h₀ (λ_ Y h₂=>Lo (Nb h₂ (λok O h₃=>?_) λ_ _ h'=>h'.elim)) λ_ _ h'=>h'.elim);cases ok with
  | false=>exact Lp #[rfl,h₃]
  | true=>
   exact Lo (Lo (Nb h₃ (λx W h₄=>Lo (Nb h₄ (λ_ Z h₅=>Lp (Lp #[rfl,h₅])) λ_ _ h'=>h'.elim)) λ_ _ h'=>h'.elim))
def Jm(X:Cx)(ifs:ML)(tc:TT):Prop:=
 ∀(pins:List (o_×Obj)) (s:so) (σ : St) (H:Hp) (Q:Bool->Hp->Prop),Inv X pins σ H s->tc σ H Q->
  I_ (model X.prog X.w) X.A (forIn ifs true λc r=>if r=true then do let ok <-isTrue c X.env (eval c X.env);pure (ForInStep.yield ok) else pure (ForInStep.yield r)) (TP X pins σ Q) X.xe s
def j3:TT:=λ_ H Q=>Q true H
theorem cX:Jm X [] j3:=λ_ _ _ H _ I h=>wpAny_tests_nil #[H,I,h]
theorem j_{c:Expr}{tc:TT}(F:PT X c tc):Jm X [c] tc:=λpins s σ H Q I h=>wpAny_tests_one (F pins s σ H Q I h)
def wa(g:TG)(n:Nat):Prop:=∀x σ H Q,g x σ H Q->g x σ H λσ' H'=>Q σ' H'/\σ'.length=σ.length/\∀k,k<n->σ'[k]? = σ[k]?
def x6(g:gP)(n:Nat):Prop:=∀x σ H Q,g x σ H Q->g x σ H λσ' H'=>Q σ' H'/\σ'.length=σ.length/\∀k,k<n->σ'[k]? = σ[k]?
theorem bW(h:n<=i):wa (gK i) n:=λx σ H Q q=>#[q,'~',λk F=>by rw[zba ()]]
theorem rF:x6 yi n:=λx σ H Q q=>#[q.1,q.2,rfl,λ_ _=>rfl]
def yB(g:TG):Prop:=∀x σ H Q Q',(∀σ' H',Q σ' H'->Q' σ' H')->g x σ H Q->g x σ H Q'
def m6(g:gP):Prop:=∀x σ H Q Q',(∀σ' H',Q σ' H'->Q' σ' H')->g x σ H Q->g x σ H Q'
theorem iI:yB (gK i):=λx σ H Q F h q=>h _ _ q
theorem lD:m6 yi:=λx σ H Q F h q=>#[q.1,h _ _ q.2]
theorem vf{t:TG}{u:gP}(h1:yB t)(h2:m6 u):m6 (qX t u):=λx σ H Q J h ⟨v,r,e,q⟩=>yI2 v r #[e,h1 _ _ _ _ _ (λF H' z=>h2 _ _ _ _ _ h z) q]
theorem jc{t:TG}{u:gP}(h1:wa t n)(S:yB t)(h2:x6 u n)(O:m6 u):x6 (qX t u) n:=λx σ H Q ⟨v,r,e,q⟩=>by
 refine yI2 v r #[e,?_];refine S _ _ _ _ _ (λU H' z=>?_) (h1 _ _ _ _ q);let#[z,J,k1]:=z;exact O _ _ _ _ _ (λW H2 y=>#[y.1,y.2.1.trans J,λk F=>(y.2.2 k F).trans (k1 k F)]) (h2 _ _ _ _ z)
theorem wA{K:KE}{m:Nat}{t:gP}(h:x6 t n):wa (yk K m t) n:=λx σ H Q ⟨a,xs,e,q,l,z⟩=>yI2 a xs #[e,q,l,h _ _ _ _ z]
def fG(J:It)(g:TG)(tc:TT)(te:TE)(nT:Nat)(σ : St)(D:o_)(Q:VK)(H:Hp):Prop:=
 ∃W:Nat->Nat->MC->Hp->Prop,(∃m,W 0 m [] H)/\∀i m ys H2,W i m ys H2->
  (J.stop i H2/\Q (.ref D) H2)\/(J.go i H2/\∀x H',J.yld i H2 x H'->g x (σ++List.replicate nT Nn) H' λσ2 H3=>tc σ2 H3 λb H4=>
   if b=true then te σ2 H4 λy H5=>H5 D=Sm (.lst ys)/\ys.length<L9/\∃m',m'<m/\W (i+1) m' (ys++[y]) (upd H5 D (.lst (ys++[y]))) else ∃m',m'<m/\W (i+1) m' ys H4)
def rg(wi:TI)(g:TG)(tc:TT)(te:TE)(nT:Nat):TE:=λσ H Q=>wi σ H λJ H1=>∀D,H1 D=Nn->fG J g tc te nT σ D Q (upd H1 D (.lst []))
theorem G3.sameBut{P:L_}{w:K_}{h h':LY}{C:o_}(x:G3 P w H h)(J:M5 C h h')(F:H C=Nn):G3 P w H h':=λa o e=>
 (x a o e).stay (λb u O q=>(J.2 b (by
  rintro rfl;rcases O with z | z
  .rw[z]at F;rw[F]at e;cases e
  .rw[F]at z;cases z)).trans q) (λ_ q=>q) λ_ _ q=>q
section
variable{X:Cx}{N0 T:MA}{scope:Scope}{tg elt iter:Expr}{ifs:ML}{pos:Pos}{wi:TI}{g:TG}{tc:TT}{te:TE}
theorem ql{pins:List (o_×Obj)}{σ:St}{H:Hp}{s:so}{E:LZ}{it:o_}{fp:MD}{tn:Nat->LY->Prop}{J:It}{Q:VK}{RR:B_->o_->Nw->so->Prop}
  (S:jj X N0 T scope) (hc:X.calm=true)
  (hg:∀C fp s H,PG (b9 X N0 T scope C fp s H) tg g) (cd:wa g X.N.length) (hi:∀C fp s H,Jm (b9 X N0 T scope C fp s H) ifs tc) (he:∀C fp s H,PE (b9 X N0 T scope C fp s H) elt te)
  (I:Inv X pins σ H s) (Tn:mH X.prog X.w X.K tg J fp it tn) (st:tn 0 s.heap) (hf:∀b∈fp,iR X pins H b)
  (h:∀D,H D=Nn->fG J g tc te T.length σ D Q (upd H D (.lst [])))
  (cb:∀D C s' H' m,s'.heap.Ns C m->H' C=Nn->C≠X.env.locals->(∀x c,X.env.cells.lookup x=Sm c->c≠C)->(∀p∈X.pn++pins,p.1≠C)->X.s₀.heap.objs.size<=C->Inv X pins σ H' s'->
   (∀h',M5 C s'.heap h'->Inv X pins σ H' {s' with heap:=h'})->Q (.ref D) H'->RR (.ref D) C (.ok .next) s') :
  I_ (model X.prog X.w) X.A (newList []) (λacc s₃=>I_ (model X.prog X.w) X.A (newFunctionEnv scope X.env.globals (eR X.env.cells scope.names []) [] X.env.qual Nn .none (Sm X.env)) (λa3 s₄=>
   codeAny (model X.prog X.w) X.A (.compStart (.ListComp elt [⟨tg,iter,ifs,0⟩] scope pos) 0 (.ref it) acc {a3 with scope:=relabel scope X.env}) (RR acc a3.locals) s₄) E s₃) E s:=by
 refine MZ (wpAny_newFunctionEnv S.nocell (by intro y hy;simp at hy) (λh₁ Z O=>?_) S.kind);dsimp only at Z O |-
 generalize hH2:s.heap.push {cls:=.type "list",dict:=Nn,data:=.seq ([]:MF).toArray}=P2 at Z O |-;have hC:P2.objs.size=s.heap.objs.size+1:=by rw[<-hH2,sK]
 obtain⟨D,hD⟩ : ∃D:Nat,D=s.heap.objs.size:=⟨_,rfl⟩
 obtain⟨C,b0⟩ : ∃C:Nat,C=P2.objs.size:=⟨_,rfl⟩
 rw[<-b0]at Z O hC |-
 rw[<-hD]at hC |-
 have bh:D≠C:=()
 have ab:D<C:=()
 have bp:∀b o,s.heap.get? b=Sm o->b≠D:=λb o e=>hD ▸ yG (vg e);have Y:∀b o,s.heap.get? b=Sm o->b≠C:=λb o e=>yG (Nat.lt_trans (hD ▸ vg e) ab);have ac:∀b o,s.heap.get? b=Sm o->h₁.get? b=Sm o:=λb o e=>O.extBut b o (Y b o e) (yc _ (hH2 ▸ yc _ e));have be:H D=Nn:=I.hok.fresh ();have cz:H C=Nn:=I.hok.fresh ();have dat:h₁.get? D=Sm {cls:=.type "list",data:=.seq ([]:MF).toArray 0}:=by
  refine O.extBut _ _ bh (yc _ ?_);rw[<-hH2,hD];exact yQ _ rfl
 have U:∀x c,(eR X.env.cells scope.names []).lookup x=Sm c->X.env.cells.lookup x=Sm c:=λx c e=>
  l5 (λy hy hk=>I.ok.has y.1 (S.free y hy hk)) (λy c z=>by simp at z) e
 have ad:(b9 X N0 T scope C fp s H).Ok:=by
  refine⟨I.ok.mod,?_,I.ok.glob,I.ok.blt,?_,λx y c e1 e2=>I.ok.inj x y c (U x c e1) (U y c e2),λx hx=>?_,λx c z _=>(by cases z),I.ok.hd,I.ok.frames,.inl rfl,λb F=>⟨?_,λx c e=>(hf b F).2.2.2.2.1 x c (U x c e)⟩,
   I.bs,?_,λb o e F=>?_,λb F z=>?_,I.stack,I.stkFree⟩
  .show (relabel scope X.env).kind = .function;exact S.kind
  .show s.heap.objs.size<=C;lia
  .have ca:(relabel scope X.env).names.lookup x=Sm .cell\/(relabel scope X.env).names.lookup x=Sm .free:=hx;have m:(x,Na)∈scope.names:=by
    rcases ca with z | z
    .exact fj S.nocell z (.inl rfl)
    .exact fj S.nocell z (.inr rfl)
   exact jP m
  .show b≠C;let#[o,e,_]:=Tn.obj 0 _ st b F;exact Y b o e
  .exact mn I.ok.bsz I.sz
  .refine yA5 (hf b F) λ_ _ _ z _=>?_;rcases z with z | z
   .exact I.ok.noex b o e z
   .exact absurd (rN (rN (vg e) I.ok.bsz) z) (Lc _)
  .refine yA4 (hf b F) λ_ z1 z2 _=>?_;rcases LH.mp (I.stkSub b z) with q | q
   .exact z1 q
   .exact z2 q
 have I1:Inv (b9 X N0 T scope C fp s H) [] (σ++List.replicate T.length Nn) (upd H D (.lst [])) {s with heap:=h₁,toks:=s.toks+([]:List (Str×B_)).length}:=by
  refine#[ad,rfl,I.bare,Un.laid (h:=s.heap) ac () be,#[_,Z,λi x v e1 e2 e3=>?_],λx c e=>?_,?_,λx c e=>?_,λp hp=>(by simp[b9]at hp),I.hok.laid ac () ?_,?_]
  .have a6:(N0++T)[i]?=Sm x:=e1;have hl:=I.len;have cB:=S.len0;have hi:i<σ.length:=by
    rcases iu i σ.length with z | z
    .exact z
    .rw[uu z]at e2;rw[zbc]at e2;split at e2<;>cases e2
   rw[xr hi]at e2;rw[xr ()]at a6;have b2:x∈N0:=xO a6;have b1:(relabel scope X.env).names.lookup x=Sm .local\/(relabel scope X.env).names.lookup x=Sm .cell\/(relabel scope X.env).names.lookup x=Sm .free:=e3;have fr:(relabel scope X.env).names.lookup x=Sm .cell\/(relabel scope X.env).names.lookup x=Sm .free:=by
    rcases b1 with z | z | z
    .exfalso;have b3:∀(names:List (Str×M6)),(names.map λ(n,k)=>if (k==Na&&X.env.scope.kind == .function&&X.env.kindOf n==Sm .cell) then (n,M6.cell) else (n,k)).lookup x=Sm .local->(x,M6.local)∈names:=by
      intro names
      induction names with
      | nil=>intro z;simp at z
      | cons y r ih=>
       let#[n,k]:=y;intro z;rw[yR]at z;dsimp only at z;by_cases hfk:(k==Na&&X.env.scope.kind == .function&&X.env.kindOf n==Sm .cell)=true
       .rw[Lz hfk,K3]at z;cases hx:(x==n) with
        | true=>rw[hx]at z;cases z
        | false=>rw[hx]at z;exact yh _ (ih z)
       .rw[Lu hfk,K3]at z;cases hx:(x==n) with
        | true=>
         rw[hx]at z;have ek:k = .local:=Option.some.inj z;have en:x=n:=by simpa using hx
         rw[ek,en];exact yd
        | false=>rw[hx]at z;exact yh _ (ih z)
     exact S.apart (x,.local) (b3 _ z) rfl b2
    .exact .inl z
    .exact .inr z
   have m:(x,Na)∈scope.names:=by
    rcases fr with z | z
    .exact fj S.nocell z (.inl rfl)
    .exact fj S.nocell z (.inr rfl)
   have kX:=S.free _ m rfl;let#[mm,hn,cq]:=I.loc;let#[u,r,lk]:=cq i x v (S.same i x _ a6 m) e2 (.inr kX);refine#[u,r,.inr #[fr,?_]];rcases lk with ⟨z,_⟩ | ⟨_,c,ec,cc⟩
   .rcases kX with q | q
    .rw[q]at z;cases z
    .rw[q]at z;cases z
   .let#[c',a8]:=jP (cells:=X.env.cells) (acc:=[]) m;have:=U x c' a8;rw[ec]at this;cases this;exact#[c,a8,cc.keeps ac]
  .let#[v,z]:=I.cell x c (U x c e);exact#[v,z.keeps ac]
  .show upd H D (.lst []) C=Nn;rw[au (u6 bh)];exact cz
  .have q:=I.freeC x c (U x c e);refine yE2 (I.cell x c (U x c e)) λv o=>yB2 λz _=>?_;rw[au (bp c o z)];exact q
  .exact#[mw _,yI2 ([]) 0 #[.nil,dat]]
  .show (σ++List.replicate T.length Nn).length=(N0++T).length;rw[zq,zq,zbd,I.len,S.len0]
 have bt:tn 0 h₁:=Tn.keep _ _ _ st λb _ o e=>ac b o e;have a5:∀ {H':Hp},(∀b∈fp,H' b=Nn)->∀b∈fp,iR (b9 X N0 T scope C fp s H) [] H' b:=λhn b F=>
  #[hn b F,(ad.exf b F).1,ad.exfs b F,.inl F,(ad.exf b F).2,λp hp=>(by simp[b9]at hp)]
 have ce:∀b∈fp,upd H D (.lst []) b=Nn:=λb F=>by
  let#[o,e,_]:=Tn.obj 0 _ st b F;rw[au (bp b o e)];exact(hf b F).1
 let#[W,#[m0,w0],a7]:=h D be;have as:∀s₃ : so,s₃={s with heap:=h₁,toks:=s.toks+([]:List (Str×B_)).length}->
   codeAny (model X.prog X.w) X.A (.compLoop (.ListComp elt [#[tg,iter,ifs,0]] scope pos) 0 (.ref it) (.ref D) (compEnvC scope (eR X.env.cells scope.names []) C X.env)) (RR (.ref D) C) s₃:=by
  rintro s₃ rfl;refine kz (λn s'=>∃i H' ys,Inv (b9 X N0 T scope C fp s H) [] (σ++List.replicate T.length Nn) H' s'/\tn i s'.heap/\(∀b∈fp,H' b=Nn)/\W i n ys H') ?_ m0 (yI3 0 _ ([]) #[I1,bt,ce,w0]);intro n s3;refine yF3 λi H3 ys=>yB4 λI3 a9 bc w3=>?_;rcases a7 i n ys H3 w3 with ⟨stop,qn⟩ | ⟨go,step⟩
  .refine bA (Tn.done (b9 X N0 T scope C fp s H) rfl rfl rfl hc i [] s3 _ H3 (λ_ _=>False) I3 (a5 bc) a9 stop) λr s4 ⟨hr,I4⟩=>?_;subst hr;let#[m,hm,_]:=I4.loc;have bg:∀b∈fp,(b∈X.ex\/X.s₀.heap.objs.size<=b)/\b≠X.env.locals/\(∀x c,X.env.cells.lookup x=Sm c->c≠b)/\∀p∈X.pn++pins,p.1≠b:=λb F=>
    #[(hf b F).2.2.2.1,(hf b F).2.1,(hf b F).2.2.2.2.1,(hf b F).2.2.2.2.2]
   have u4:Un (kq X.stack) fp H H3 s.heap s4.heap:=I4.base;refine cb D C s4 H3 m hm I4.free (u6 (yG (Nat.lt_trans (hD ▸ I.lt) ab))) (λx c e=>?_) (λp hp=>?_) (mn (hD ▸ I.sz) (xx ab)) (I.call' (ch:=fp) I4.os u4 I4.hok I4.bare bg) (λh' ag=>?_) qn
   .refine yE2 (I.cell x c e) λv o=>yB2 λq _=>?_;exact Y c o q
   .exact Y _ _ (I.pin p hp).1
   .refine I.call' (ch:=fp) (s':={s4 with heap:=h'}) I4.os #[λb o q n' F hx=>(ag.2 b (Y b o q)).trans (u4.keep b o q n' F hx),λb o q n' F hx=>?_,u4.free,λb o q hx=>?_,u4.tups,u4.frzs,u4.tbls] (I4.hok.sameBut ag I4.free) I4.bare bg
    .let#[sl,e]:=u4.slot b o q n' F hx;exact#[sl,(ag.2 b (Y b o q)).trans e]
    .let#[o',e]:=u4.there b o q hx;exact#[o',(ag.2 b (Y b o q)).trans e]
  .refine bA (Tn.item (b9 X N0 T scope C fp s H) rfl rfl rfl hc i [] s3 _ H3 (λ_ _=>False) I3 (a5 bc) a9 go) λr s4 ⟨u,hr,h4⟩=>?_;subst hr;refine bA h4 λ_ s5 ⟨x,H5,I5,r5,y5,a4,cv⟩=>?_;have cn:=I5.pinned (a5 cv) (Tn.obj _ _ a4);refine bA (hg C fp s H _ s5 _ H5 x u _ cn r5 (cd _ _ _ _ (step x H5 y5))) λ_ s6 ⟨σ6,H6,I6,q6,l6,k6⟩=>?_;have al:∀ {H7:Hp} {s7:so},Inv (b9 X N0 T scope C fp s H) ([]++kS fp s5.heap) σ6 H7 s7->(∀ {m':Nat} {zs:MC},m'<n->W (i+1) m' zs H7->∃m,m<n/\∃i H' ys,Inv (b9 X N0 T scope C fp s H) [] (σ++List.replicate T.length Nn) H' s7/\tn i s7.heap/\(∀b∈fp,H' b=Nn)/\W i m ys H'):=λ{H7 s7} I7 {m' zs} hm w7=>by
    refine#[m',hm,yI3 (i+1) H7 zs #[I7.unpinned.weak (by rw[l6]) (λj v e=>?_),Tn.keep _ _ _ a4 λb F o e=>(I7.pin (b,o) (oo _ (oo _ (iC F e)))).1,λb F=>?_,w7]]
    .have hj:j<σ.length:=by
      rcases iu j σ.length with z | z
      .exact z
      .rw[uu z,zbc]at e;split at e<;>cases e
     rw[k6 j (by rw[<-I.len];exact hj)];exact e
    .let#[o,e,d]:=Tn.obj _ _ a4 b F;exact(I7.pin (b,o) (oo _ (oo _ (iC F e)))).2.1
   refine bA (hi C fp s H _ s6 σ6 H6 _ I6 q6) λb s7 ⟨H7,I7,q7⟩=>?_;cases b with
   | false=>
    let#[m',hm,w7]:=(show ∃m',m'<n/\W (i+1) m' ys H7 from by simpa using q7)
    exact al I7 hm w7
   | true=>
    rw[Lz rfl]at q7;refine bA (he C fp s H _ s7 σ6 H7 _ I7 q7) λv s8 ⟨y,H8,I8,r8,cA,hz,m',hm,w8⟩=>?_;refine bA (qg (X:=b9 X N0 T scope C fp s H) _ s8 σ6 H8 (.ref D) [y] (.ref D) [v] (λ_ H9=>H9=upd H8 D (.lst (ys++[y]))) I8 rfl (.cons r8 .nil) (yI3 D ys y #[rfl,rfl,cA,hz,rfl])) λv9 s9 ⟨y9,H9,I9,_,e9⟩=>?_;subst e9;exact al I9 hm w8
 exact codeAny_compStart_list (as _ rfl) (Tn.self X.A 0 _ _ _ bt (as _ rfl))
theorem dn(S:jj X N0 T scope)(hc:X.calm=true)(hI:PI X tg iter wi)
  (hg:∀C fp s H,PG (b9 X N0 T scope C fp s H) tg g) (ab:wa g X.N.length) (hi:∀C fp s H,Jm (b9 X N0 T scope C fp s H) ifs tc) (he:∀C fp s H,PE (b9 X N0 T scope C fp s H) elt te)
  (hs:∀x,foldedSetIterable iter X.env x=pure x:=by intro _;rfl):PE X (.ListComp elt [#[tg,iter,ifs,0]] scope pos) (rg wi g tc te T.length):=by
 intro pins s σ H Q I h;rw[eval_ListComp];refine wpAny_comprehension_free (use:=Nn) rfl hs (kg λx hx hk=>I.ok.has x.1 (S.free x hx hk)) S.kind S.names (bA (hI pins s σ H _ I h) λv s1 h1=>bA h1 λac s2 h2=>?_);revert h2;refine yF5 λit fp tn J H2=>yB6 λe I2 Tn U f2 q2=>?_;subst e;refine ql (RR:=λacc C=>compPost (model X.prog X.w) X.A X.xe Nn (EP X pins σ Q) acc C) S hc hg ab hi he I2 Tn U f2 q2 ?_;intro D C s' H' m hn hC hL F Z O I' W q;exact#[m,hn,λh' Y=>yI2 (.ref D) H' #[W h' Y,rfl,q]]
theorem iF{pos' U:Pos}(S:jj X N0 T scope)(hc:X.calm=true)(hN:X.N.Nodup)(Y:X.N[i]?=Sm x)(hx:X.env.scope.names.lookup x=Sm .local)(hI:PI X tg iter wi)
  (hg:∀C fp s H,PG (b9 X N0 T scope C fp s H) tg g) (a3:wa g X.N.length) (hi:∀C fp s H,Jm (b9 X N0 T scope C fp s H) ifs tc) (he:∀C fp s H,PE (b9 X N0 T scope C fp s H) elt te)
  (Z:swapsWith (.ListComp elt [#[tg,iter,ifs,0]] scope pos) (Sm (.Name x pos')) U.line X.env=pure true:=by rfl)
  (hs:∀x,foldedSetIterable iter X.env x=pure x:=by intro _;rfl):PS X (.Assign [.Name x pos'] (.ListComp elt [#[tg,iter,ifs,0]] scope pos) U) (oC (rg wi g tc te T.length) (gK i)):=by
 intro pins s σ H D I h;rw[exec_Assign_Name_used _ _ _ _ Z];refine Lo (wpAny_standAt (Lo ?_));show I_ _ X.A (do let _ <-comprehension (.ListComp elt [#[tg,iter,ifs,0]] scope pos) scope X.env _ (newList []) false (eval iter X.env) (Sm (assign (.Name x pos') X.env))) _ _ s;refine Lo (Nb (wpAny_comprehension_free (use:=Sm (assign (.Name x pos') X.env)) (Q:=λ_ s'=>SP X pins D .next s') rfl hs (kg λx hx hk=>I.ok.has x.1 (S.free x hx hk)) S.kind S.names
  (bA (hI pins s σ H _ I h) λv s1 h1=>bA h1 λa4 s2 h2=>?_)) (λ_ s' hq=>Lp (Lp hq)) λ_ _ e=>e)
 revert h2;refine yF5 λit fp tn J H2=>yB6 λe I2 Tn ag f2 q2=>?_;subst e;refine ql (RR:=λacc C=>compPost (model X.prog X.w) X.A X.xe (Sm (assign (.Name x pos') X.env)) (λ_ s'=>SP X pins D .next s') acc C) S hc hg a3 hi he I2 Tn ag f2 q2 ?_;intro L C s' H' m hn hC hL F W O I' a5 q;show I_ _ X.A (assign (.Name x pos') X.env (.ref L)) _ _ _;refine wpAny_assign_Name (qw (v:=.ref L) I' hN Y (.inl hx) rfl (λas ac ⟨a,ab,ha⟩=>?_) (.inr hx));have ad:C≠a:=by
  rintro rfl;rcases ha with z | z
  .exact hL z
  .exact F x C z rfl
 refine#[m,hn.sameBut ab ad,λh' al=>?_];exact yI2 (σ.set i (Sm (.ref L))) H' #[ac.turned (t':=as.toks) (λb o hb e=>(al.2 b hb).trans e) hC hL (.inr O) F W,q]
end
theorem A1.of:∀ {xs:MC} {F:MF} {i:Nat} {u:B_},A1 xs F->F[i]?=Sm u->∃x,xs[i]?=Sm x/\RelV x u
 | _,_,0,u,.cons r _,e=>#[_,rfl,by simp at e;subst e;exact r]
 | _,_,i+1,u,.cons _ rr,e=>by
  let#[x,hx,r]:=A1.of (i:=i) rr (by simpa using e);exact#[x,by simpa using hx,r]
theorem kG:∀ {F:MA} {J:MF},A1 (F.map V.str) J->StrsAre J F
 | [],_,.nil=>.nil
 | s::F,_,.cons r rr=>by
  let#[t,rfl]:=r;exact .cons s t (kG rr)
theorem qp:∀ {F:MF} {J:MA},StrsAre F J->A1 (J.map V.str) F
 | _,_,.nil=>.nil
 | _,_,.cons y t h=>.cons #[t,rfl] (qp h)
theorem Bt(bs:List Bool):(List.range bs.length).any (λi=>bs.getD i false)=bs.any id:=by
 rw[KJ,zbe,zbe];constructor
 .rintro⟨i,hi,h⟩;have F:=LK.mp hi;rw[xW,zd F]at h;exact#[_,gV F,h]
 .rintro⟨b,J,h⟩;let#[i,hi,rfl]:=LJ.mp J;refine#[i,LK.mpr hi,?_];rw[xW,zd hi];exact h
theorem D7{bs:List Bool}{J:MF}(r:A1 (bs.map V.bl) J){i:Nat}{v:B_}(e:J.toArray[i]?=Sm v):v = .bool (bs.getD i false):=by
 let#[x,hx,O]:=r.of (i:=i) (by simpa using e);rw[zz]at hx;cases hb:bs[i]? with
 | none=>rw[hb]at hx;cases hx
 | some b=>
  rw[hb]at hx;have F:V.bl b=x:=Option.some.inj hx;subst F;rw[xW,hb];exact O
section
variable{X:Cx}
def zr(K:KE):MC->Hp->VK->Prop:=λxs H Q=>∃(p:o_) (bs:List Bool),xs=[.ref p]/\ud K H p (bs.map V.bl)/\Q (.bl (bs.any id)) H
theorem wM{K:KE}(p:o_):zr K [.ref p] H Q=∃bs:List Bool,ud K H p (bs.map V.bl)/\Q (.bl (bs.any id)) H:=propext #[λ⟨_,bs,e,q⟩=>by cases e;exact#[bs,q],λ⟨bs,q⟩=>yI2 p bs #[rfl,q]]
theorem Ae(W:X.calm=true):Ck X (.builtin "any") (zr X.K):=by
 intro pins s σ H xs us Q I r h;revert h;refine yF2 λp bs=>yB3 ?_;rintro rfl U q;let#[u,rfl,Z]:=dg r;cases Z;refine yE1 (I.list U) λF=>yB3 λO pl hz=>?_;have J:F.length=bs.length:=by rw[<-O.length,zb]
 refine call_any_walk (Oz pl.isList ?_);refine yI7 _ _ _ _ _ _ (λi=>bs.getD i false) #[rfl,Walks.list (A:=X.A.in1) (I.ok.hd W) s.heap.objs.size p (yG pl.lt) F.toArray,#[#[_,yQ _ rfl,rfl,rfl],(pl.keeps λb o e=>yc _ e).isList],?_,λh' S hk=>?_]
 .intro i v s' Q' E' hP Y;rw[D7 O hP];exact Oa Y
 .refine yI2 (.bl (bs.any id)) H #[I.kept (t':=S) λb o e=>hk b o (λz=>?_) (yc _ e),?_,q]
  .exact yG (vg e) (by simpa using z)
  .have e:(List.range F.toArray.size).any (λi=>bs.getD i false)=bs.any id:=by rw[xq,J,Bt]
   show N9 ((List.range F.toArray.size).any λi=>bs.getD i false)=N9 (bs.any id);rw[e]
noncomputable def dy(H:Hp):V->Option String
 | .non=>Sm "NoneType"
 | .bl _=>Sm "bool"
 | .int _=>Sm "int"
 | .str _=>Sm "str"
 | .ref a=>match H a with
  | some (.lst _)=>Sm "list"
  | some (.frz _ (.lst _))=>Sm "list"
  | some (.tup _)=>Sm "tuple"
  | some (.dK _)=>Sm "dict"
  | some (.dT _)=>Sm "dict"
  | _=>Nn
 | _=>Nn
theorem Au{K:KE}{H:Hp}:∀ {x:V} {T:String},dy H x=Sm T->gT K H x (.type T)
 | .non,T,h=>by cases h;exact .non
 | .bl b,T,h=>by cases h;exact .bl b
 | .int i,T,h=>by cases h;exact .int i
 | .str y,T,h=>by cases h;exact .str y
 | .byt _,T,h=>by cases h
 | .flt _,T,h=>by cases h
 | .ty _,T,h=>by cases h
 | .ref a,T,h=>by
  cases e:H a with
  | none=>simp[dy,e]at h
  | some o=>
   cases o with
   | lst xs=>simp[dy,e]at h;subst h;exact .lst e
   | tup xs=>simp[dy,e]at h;subst h;exact .tup e
   | dK xs=>simp[dy,e]at h;subst h;exact .dK e
   | dT xs=>simp[dy,e]at h;subst h;exact .dT e
   | frz ob u=>
    cases u with
    | lst xs=>simp[dy,e]at h;subst h;exact .frz e
    | _=>simp[dy,e]at h
   | _=>simp[dy,e]at h
noncomputable def ES(T C:String):Bool:=T==C||(T == "bool" && C == "int")
theorem BL(K:KE){T C:String}(F:T∈["NoneType","bool","int","str","list","tuple","dict"]) (J:C∈["bool","int","str","list","tuple"]):W.kitOne K (.type T) (.type C)=Sm (ES T C):=by
 simp only[yg,Je,or_false]at F J;rcases F with rfl | rfl | rfl | rfl | rfl | rfl | rfl<;>rcases J with rfl | rfl | rfl | rfl | rfl<;>(with_unfolding_all rfl)
theorem zi{H:Hp}{x:V}{T:String}(h:dy H x=Sm T):T∈["NoneType","bool","int","str","list","tuple","dict"]:=by
 cases x with
 | ref a=>
  cases e:H a with
  | none=>simp[dy,e]at h
  | some o=>
   cases o with
   | frz ob u=>cases u<;>simp[dy,e]at h<;>subst h<;>decide
   | _=>simp[dy,e]at h<;>subst h<;>decide
 | _=>first | (cases h;decide) | cases h
def HY:MC->Hp->VK->Prop:=λxs H Q=>∃(x:V) (T C:String),xs=[x,.ty C]/\dy H x=Sm T/\C∈["bool","int","str","list","tuple"]/\Q (.bl (ES T C)) H
theorem wD(x:V)(C:String):HY [x,.ty C] H Q=∃T,dy H x=Sm T/\C∈["bool","int","str","list","tuple"]/\Q (.bl (ES T C)) H:=
 propext #[λ⟨_,T,_,e,q⟩=>by cases e;exact#[T,q],λ⟨T,q⟩=>yI3 x T C #[rfl,q]]
theorem D4:Ck X (.builtin "isinstance") HY:=by
 intro pins s σ H xs Y Q I r h;revert h;refine yF3 λx T C=>yB4 ?_;rintro rfl J U q;refine yE2 (yZ r) λu W=>yB3 ?_;rintro rfl S F;cases F;exact Ah I S (Au J) (BL X.K (zi J) U) λO=>yI2 (.bl (ES T C)) H #[I.tok O,rfl,q]
def y6(K:KE):V->MC->Hp->VK->Prop:=λx vs H Q=>∃(sep:Str) (p:o_) (ss:MA),x = .str sep/\vs=[.ref p]/\ud K H p (ss.map V.str)/\(ss.map (·.length)).sum+ss.length*sep.length<=16777216/\Q (.str (Ml sep ss)) H
theorem Gh:Iy X "str.join" (y6 X.K):=by
 intro pins s σ H x xs v Z Q I Y r h;revert h;refine yF3 λF p S=>yB5 ?_;rintro rfl rfl J hz q;let#[t,rfl]:=Y;let#[u,rfl,W]:=dg r;cases W;refine yE1 (I.list J) λO=>yB3 λU pl _=>?_;exact join_list pl.isList (by simpa using kG U) hz λt' k=>yI2 (.str (Ml F S)) H #[I.tok k,#[t',rfl],q]
end
def mL(J:It)(g:TG)(tb:TS)(D:eI)(σ : St)(H:Hp):Prop:=∃W:Nat->Nat->St->Hp->Prop,(∃m,W 0 m σ H)/\∀i m σ H,W i m σ H->
 (J.stop i H/\D.nx σ H)\/(J.go i H/\∃N:St->Hp->Prop,(∀σ' H',N σ' H'->∃m',m'<m/\W (i+1) m' σ' H')/\∀x H',J.yld i H x H'->g x σ H' λσ2 H2=>tb {D with nx:=N,ct:=N,bk:=D.nx} σ2 H2)
theorem wy(wi:TI)(g:TG)(tb:TS)(D:eI)(σ : St)(H:Hp):CW wi g tb D σ H=wi σ H λJ H1=>mL J g tb D σ H1:=rfl
theorem oV{J:It}{tb:TS}{D:eI}(n:Nat)(F:Nat->St->Hp->Prop)(U:F 0 σ H)(O:∀i σ H,i<n->F i σ H->J.go i H)(S:∀σ H,F n σ H->J.stop n H)
  (Z:∀i σ H x H',i<n->F i σ H->J.yld i H x H'->g x σ H' λY H2=>tb {D with nx:=F (i+1),ct:=F (i+1),bk:=D.nx} Y H2) (hd:∀σ H,F n σ H->D.nx σ H):mL J g tb D σ H:=by
 refine#[λi m σ H=>m=n-i/\i<=n/\F i σ H,#[n,'~',mw _,U],?_];rintro i m σ H ⟨rfl,hi,p⟩;by_cases hlt:i<n
 .exact .inr #[O i σ H hlt p,F (i+1),λσ' H' W=>#[n-(i+1),(),rfl,hlt,W],λx H' y=>Z i σ H x H' hlt p y]
 .have e:i=n:=()
  subst e;exact .inl #[S σ H p,hd σ H p]
theorem cL{K:KE}{a:o_}{xs:MC}{tb:TS}{D:eI}(F:Nat->St->Hp->Prop)(J:F 0 σ H)(hl:∀i σ H,i<=xs.length->F i σ H->ud K H a xs)
  (O:∀i x σ H,xs[i]?=Sm x->F i σ H->g x σ H λS H2=>tb {D with nx:=F (i+1),ct:=F (i+1),bk:=D.nx} S H2) (hd:∀σ H,F xs.length σ H->D.nx σ H):mL (md K a) g tb D σ H:=
 BJ F J hl O hd
theorem fC{lo:Int}{tb:TS}{D:eI}(F:Nat->St->Hp->Prop)(J:F 0 σ H)
  (O:∀i σ H,i<n->F i σ H->g (.int (lo+i)) σ H λS H2=>tb {D with nx:=F (i+1),ct:=F (i+1),bk:=D.nx} S H2) (hd:∀σ H,F n σ H->D.nx σ H):mL (ng lo n) g tb D σ H:=
 zX F J O hd
def iB(n i:Nat)(Pv:Nat->MC->Hp->Prop)(D:o_)(ys:MC)(y:V)(H:Hp):Prop:=
 H D=Sm (.lst ys)/\ys.length<L9/\∃m',m'<n-i/\(m'=n-(i+1)/\i+1<=n/\Pv (i+1) (ys++[y]) (upd H D (.lst (ys++[y]))))
theorem fD{J:Nat->MC->Hp->Prop}{ys:MC}{y:V}(hi:i<n)(F:ys.length=i)(hz:n<=L9)(h1:H D=Sm (.lst ys))(h2:J (i+1) (ys++[y]) (upd H D (.lst (ys++[y])))):iB n i J D ys y H:=
 #[h1,(),n-(i+1),(),rfl,hi,h2]
def jh(n i:Nat)(Pv:Nat->MC->Hp->Prop)(D:o_)(ys:MC)(te:TE)(σ : St)(H:Hp):Prop:=
 if true=true then te σ H (iB n i Pv D ys) else ∃m',m'<n-i/\(m'=n-(i+1)/\i+1<=n/\Pv (i+1) ys H)
theorem mE{F:Nat->MC->Hp->Prop}{ys:MC}:jh n i F D ys te σ H=te σ H (iB n i F D ys):=by
 unfold jh;rw[Lz rfl]
theorem jW{J:It}{nT:Nat}(n:Nat)(F:Nat->MC->Hp->Prop)(U:F 0 [] H)(O:∀i ys H,i<n->F i ys H->J.go i H)(S:∀ys H,F n ys H->J.stop n H)
  (W:∀i ys H x H',i<n->F i ys H->J.yld i H x H'->g x (σ++List.replicate nT Nn) H' (jh n i F D ys te))
  (hd:∀ys H,F n ys H->Q (.ref D) H):fG J g j3 te nT σ D Q H:=by
 refine#[λi m ys H=>m=n-i/\i<=n/\F i ys H,#[n,'~',mw _,U],?_];rintro i m ys H ⟨rfl,hi,p⟩;by_cases hlt:i<n
 .exact .inr #[O i ys H hlt p,λx H' y=>W i ys H x H' hlt p y]
 .have e:i=n:=()
  subst e;exact .inl #[S ys H p,hd ys H p]
theorem er{K:KE}{a:o_}{xs:MC}{nT:Nat}(F:Nat->MC->Hp->Prop)(O:F 0 [] H)(hl:∀i ys H,i<=xs.length->F i ys H->ud K H a xs)
  (S:∀i ys H x,xs[i]?=Sm x->i<xs.length->F i ys H->g x (σ++List.replicate nT Nn) H (jh xs.length i F D ys te))
  (hd:∀ys H,F xs.length ys H->Q (.ref D) H):fG (md K a) g j3 te nT σ D Q H:=by
 refine jW xs.length F O (λi ys H hi p=>yI2 xs (xs[i]) #[hl i ys H (xx hi) p,by simp[hi]]) (λys H p=>#[xs,hl _ ys H (zg _) p,zg _]) (λi ys H x H' hi p J=>?_) hd;let#[rfl,y]:=J;exact S i ys _ x (y xs (hl i ys _ (xx hi) p)) hi p
theorem l_{lo:Int}{nT:Nat}(F:Nat->MC->Hp->Prop)(O:F 0 [] H)
  (S:∀i ys H,i<n->F i ys H->g (.int (lo+i)) (σ++List.replicate nT Nn) H (jh n i F D ys te))
  (hd:∀ys H,F n ys H->Q (.ref D) H):fG (ng lo n) g j3 te nT σ D Q H:=by
 refine jW n F O (λi ys H hi p=>hi) (λys H p=>zg _) (λi ys H x H' hi p J=>?_) hd;let#[rfl,rfl]:=J;exact S i ys _ hi p
def om(u:TS)(D:eI)(σ : St)(H:Hp):Prop:=u D σ H
section
variable{D:eI}{σ:St}{H:Hp}{Q:VK}{B:Bool->Hp->Prop}{L:MC->Hp->Prop}{R:It->Hp->Prop}{G:St->Hp->Prop}
theorem ww(t u:TS):oF t u D σ H=t {D with nx:=om u D} σ H:=rfl
theorem ou(u:TS):om u D σ H=u D σ H:=rfl
theorem uK:qW D σ H=D.nx σ H:=rfl
theorem vL(c:TT)(t u:TS):yt c t u D σ H=c σ H λb H1=>if b=true then t D σ H1 else u D σ H1:=rfl
theorem w9(t:TE):lf t D σ H=t σ H D.rt:=rfl
theorem si(t:TE):EN t D σ H=t σ H λ_ H1=>D.nx σ H1:=rfl
theorem xk(t:TE)(g:TG):oC t g D σ H=t σ H λx H1=>g x σ H1 D.nx:=rfl
theorem tU(i:Nat)(v:V):gK i v σ H G=G (σ.set i (Sm v)) H:=rfl
theorem vY(vs:MC):yi vs σ H G=(vs=[]/\G σ H):=rfl
theorem uY(t:TG)(u:gP)(vs:MC):qX t u vs σ H G=∃v r,vs=v::r/\t v σ H λF H'=>u r F H' G:=rfl
theorem v1(K:KE)(n:Nat)(t:gP)(v:V):yk K n t v σ H G=∃a xs,v = .ref a/\uc K H a xs/\xs.length=n/\t xs σ H G:=rfl
theorem xh(to ti:TE)(t:oP)(v:V):Iw to ti t v σ H G=to σ H λo H1=>ti σ H1 λi H2=>t o i v H2 λF=>G σ F:=rfl
theorem wG(i:Nat):cZ i σ H Q=∃v,σ[i]?=Sm (Sm v)/\Q v H:=rfl
theorem EV(v:V):tC v σ H Q=Q v H:=rfl
theorem AO(r:R2)(ta tb:TE):gj r ta tb σ H Q=ta σ H λx H1=>tb σ H1 λy H2=>r x y H2 Q:=rfl
theorem Ay(r:V->Hp->VK->Prop)(ta:TE):D9 r ta σ H Q=ta σ H λx H1=>r x H1 Q:=rfl
theorem tY(t:TE):j9 t σ H B=t σ H λx H'=>∃k,x = .bl k/\B k H':=rfl
theorem EI(t:TE):tB t σ H B=t σ H λx H'=>∃k,x = .bl k/\B k H':=rfl
theorem vB(t u:TT):CB t u σ H B=t σ H λc H1=>if c=true then u σ H1 B else B false H1:=rfl
theorem Ak(t u:TT):G5 t u σ H B=t σ H λc H1=>if c=true then B true H1 else u σ H1 B:=rfl
theorem vW(t:TT):Jo t σ H B=t σ H λc H1=>B (!c) H1:=rfl
theorem uD(ta tb:TE):yL ta tb σ H Q=ta σ H λx H1=>∃c,x = .bl c/\if c=true then tb σ H1 Q else Q (.bl false) H1:=rfl
theorem zZ(t:TT)(ta tb:TE):Ij t ta tb σ H Q=t σ H λc H1=>if c=true then ta σ H1 Q else tb σ H1 Q:=rfl
theorem Aq(r:MC->Hp->VK->Prop)(t:TA):tZ r t σ H Q=t σ H λvs H1=>r vs H1 Q:=rfl
theorem t0(ta:TE)(F:TA):cP ta F σ H L=ta σ H λx H1=>F σ H1 λxs H2=>L (x::xs) H2:=rfl
theorem wk:ix σ H L=L [] H:=rfl
theorem vS(t:TA):xy t σ H Q=t σ H λxs H1=>xs.length<=L9/\∀p,H1 p=Nn->Q (.ref p) (upd H1 p (.tup xs)):=rfl
theorem xm(t:TA):DT t σ H Q=t σ H λxs H1=>xs.length<=L9/\∀p,H1 p=Nn->Q (.ref p) (upd H1 p (.lst xs)):=rfl
theorem sI(sp:Sp)(dvs:MC)(E:XK)(t:TA):je sp dvs E t σ H Q=t σ H λvs H1=>sp (vs++dvs) H1 Q E:=rfl
theorem Ab(K:KE)(T:String)(r:V->MC->Hp->VK->Prop)(to:TE)(t:TA):GC K T r to t σ H Q=to σ H λx H1=>uj K T x H1/\t σ H1 λxs H2=>r x xs H2 Q:=rfl
theorem wV(K:KE)(T:String)(r:V->MC->Hp->VK->Prop)(to:TE):Dj K T r to σ H Q=to σ H λx H1=>uj K T x H1/\r x [] H1 Q:=rfl
theorem Br(r:V->MI->MI->Hp->VK->Prop)(te:TE)(tl th:TO):IM r te tl th σ H Q=te σ H λx H1=>tl σ H1 λl H2=>th σ H2 λu F=>r x l u F Q:=rfl
theorem rO(t:TE)(O:MI->Hp->Prop):y7 t σ H O=t σ H λx H1=>∃i,x = .int i/\O (Sm i) H1:=rfl
theorem nc(O:MI->Hp->Prop):pH σ H O=O Nn H:=rfl
theorem rG(wi:TI)(g:TG)(tc:TT)(te:TE)(nT:Nat):rg wi g tc te nT σ H Q=wi σ H λJ H1=>∀D,H1 D=Nn->fG J g tc te nT σ D Q (upd H1 D (.lst [])):=rfl
theorem wZ:j3 σ H B=B true H:=rfl
theorem sf(K:KE)(tl:TE):nu K tl σ H R=tl σ H λx H1=>∃a,x = .ref a/\(∃xs,ud K H1 a xs)/\R (md K a) H1:=rfl
theorem sE(ta:TA):EF ta σ H R=ta σ H λvs H1=>∃j:Int,vs=[.int j]/\-(2^62)<=j/\j<2^62/\R (ng 0 j.toNat) H1:=rfl
theorem Bl(g:Int->Int->V)(i j:Int):ml g (.int i) (.int j) H Q=Q (g i j) H:=propext #[λ⟨_,_,F,J,q⟩=>by cases F;cases J;exact q,λq=>yI2 i j #[rfl,rfl,q]]
theorem EG(C:Int->Int->Prop)(g:Int->Int->V)(i j:Int):rI C g (.int i) (.int j) H Q=(C i j/\Q (g i j) H):=propext #[λ⟨_,_,F,J,q⟩=>by cases F;cases J;exact q,λq=>yI2 i j #[rfl,rfl,q]]
end
structure xn (K:KE) (mg:Str->MG) (x:Str) (st:Ma):Prop where
 ex:∃f fd,JY K x x st f fd/\mg x=Sm (.ref f)
structure aD (P:L_) (w:K_) (K:KE) (mg:Str->MG) (base:LY) (k:Nat) (x:Str) (ps:MA) (sp:Sp):Prop where
 ex:∃f fd,GZ P w K mg base kE k f fd ps sp/\Binds K fd ps []/\NJ K (.ref f)=true/\mg x=Sm (.ref f)
section
variable{P:L_}{w:K_}{K:KE}{mg:Str->MG}{base:LY}
theorem xn.cal{N:MA}{k:Nat}{sp:Sp}(D:xn K mg x st)(S:aC N ps (sg st))
  (O:∀(f:o_) (J:B_) (A:Me) (outer:List Env) (s:so) (H:Hp) (vs:MC) (Q:VK) (E:XK),CC k (A.deeper (envOfC x (sg st) s.heap.objs.size f J))->sp vs H Q E->
   ∃t,Iz (kI kE P w K mg base N x (sg st) f J A outer s H E).nox (CZ st) t/\t {nx:=λ_ H'=>Q .non H',rt:=Q} (start N vs) H) (hb:∀(kV U pm:B_) (an:MN) (J ct:B_) (Y:MF),Y.length=ps.length->bindArgs (Nr x x (Dt st) (CZ st) (sg st) .none kV U pm an J ct) ⟨Y,[]⟩=pure (ps.zip Y):=by walk_at "z") (len:∀vs H Q E,sp vs H Q E->vs.length=ps.length:=by walk_at "v"):aD P w K mg base (k+1) x ps sp:=by
 refine yE2 D.ex λf fd=>yB2 λF m=>?_;exact#[f,fd,F.ok S len λJ A outer s H vs Q E Z h=>O f J A outer s H vs Q E Z h,F.binds hb,F.kp,m]
end
section
variable{X:Cx}
theorem aw{j k:Nat}{sp:Sp}{p:Pos}{t:TA}(c:aD X.prog X.w X.K X.mg X.base j x ps sp)(J:CC k X.A)(O:PA X (e::es) t)(hle:j<=k:=by decide)(hg:Gl X x:=by first | exact vGg ⋯ | rfl | exact jE _ ⋯)
  (hdb:(x==("__debug__" : Str))=false:=by decide) (he:Mj (e::es) X.env=(false,eval e X.env)::Mj es X.env:=by rfl) (hpl:(backTo pos (Mj es X.env)).any (·.1)=false:=by rfl) :
  PE X (.Call (.Name x p) (e::es) [] pos) (je sp [] E0 t):=by
 refine yE2 c.ex λf fd=>yB4 λF b kp m=>?_;exact E3 F (J.mono hle) hg m kp b .nil Er O hdb he hpl
theorem IQ{T:String}(F:X.mg x=Nn)(hv:MX x=Sm (.type T))(hg:Gl X x:=by first | exact vGg ⋯ | rfl)(hn:x ≠ "__name__" := by decide) (hd:(x==("__debug__" : Str))=false:=by decide):PE X (.Name x pos) (tC (.ty T)):=
 Fz hg F hv rfl hn hd
theorem bx{p:Pos}{t:TA}{id:String}{r:MC->Hp->VK->Prop}(O:Ck X (.builtin id) r)(J:X.mg x=Nn)(hv:MX x=Sm (.builtin id))(F:PA X (e::es) t)(hg:Gl X x:=by first | exact vGg ⋯ | rfl | exact jE _ ⋯)
  (hn:x ≠ "__name__" := by decide) (hdb:(x==("__debug__" : Str))=false:=by decide) (he:Mj (e::es) X.env=(false,eval e X.env)::Mj es X.env:=by rfl) (hpl:(backTo pos (Mj es X.env)).any (·.1)=false:=by rfl) :
  PE X (.Call (.Name x p) (e::es) [] pos) (tZ r t):=Ca O hg J hv F hn hdb he hpl
theorem eQ{p:Pos}{t:TA}{T:String}{r:MC->Hp->VK->Prop}(O:Ck X (.type T) r)(J:X.mg x=Nn)(hv:MX x=Sm (.type T))(F:PA X (e::es) t)(hg:Gl X x:=by first | exact vGg ⋯ | rfl | exact jE _ ⋯)
  (hn:x ≠ "__name__" := by decide) (hdb:(x==("__debug__" : Str))=false:=by decide) (he:Mj (e::es) X.env=(false,eval e X.env)::Mj es X.env:=by rfl) (hpl:(backTo pos (Mj es X.env)).any (·.1)=false:=by rfl) :
  PE X (.Call (.Name x p) (e::es) [] pos) (tZ r t):=AG O hg J hv F hn hdb he hpl
end
section
variable{X:Cx}
def ni:R2:=λx y H Q=>match x,y with
 | .int i,.int j=>Q (.int (i+j)) H
 | .str a,.str b=>a.length+b.length<=L9/\Q (.str (a++b)) H
 | .ref l,.ref b=>∃xs zs,H l=Sm (.lst xs)/\H b=Sm (.lst zs)/\xs.length+zs.length<=L9/\∀p,H p=Nn->Q (.ref p) (upd H p (.lst (xs++zs)))
 | _,_=>False
theorem aF:Gw X (binaryOp .Add) ni:=by
 intro pins s σ H x y v u Q I F J h;cases x<;>cases y<;>first
  | exact(show False from h).elim
  | exact Io pins s σ H _ _ v u Q I F J (yI2 _ _ ⟨rfl,rfl,h⟩)
  | exact yT pins s σ H _ _ v u Q I F J (yI2 _ _ ⟨rfl,rfl,h⟩)
  | (revert h;refine yF2 λxs zs=>yB4 λh1 h2 O S=>?_;exact Hv pins s σ H _ _ v u Q I F J (yI4 _ _ xs zs #[rfl,rfl,h1,h2,O,S]))
def Cq:R2:=λx y H Q=>match x,y with
 | .int i,.int j=>Q (.bl (decide (i<j))) H
 | .str i,.str j=>Q (.bl (decide (i.cps.toList<j.cps.toList))) H
 | _,_=>False
theorem Hw:Gw X (Mr .Lt) Cq:=by
 intro pins s σ H x y v u Q I F J h;cases x<;>cases y<;>first
  | exact(show False from h).elim
  | exact Kt pins s σ H _ _ v u Q I F J (yI2 _ _ ⟨rfl,rfl,h⟩)
  | exact AB pins s σ H _ _ v u Q I F J (yI2 _ _ ⟨rfl,rfl,h⟩)
def ya(K:KE):R2:=λx y H Q=>match x,y with
 | .str i,.str j=>Q (.bl (!(Oc j i 0 j.length 1).isEmpty)) H
 | x,.ref p=>∃xs,(ud K H p xs\/uc K H p xs)/\bQ x=true/\xs.all bQ=true/\Q (.bl (jG x xs)) H
 | _,_=>False
theorem Hc:Gw X (Mr .In) (ya X.K):=by
 intro pins s σ H x y v u Q I F J h;cases y with
 | str j=>
  cases x with
  | str i=>exact By pins s σ H _ _ v u Q I F J (yI2 i j #[rfl,rfl,h])
  | _=>exact(show False from h).elim
 | ref p=>
  have h':∃xs,(ud X.K H p xs\/uc X.K H p xs)/\bQ x=true/\xs.all bQ=true/\Q (.bl (jG x xs)) H:=by cases x<;>exact h
  revert h';refine yF1 λxs=>yB4 λh1 h2 O S=>?_;exact AH pins s σ H _ _ v u Q I F J (yI2 p xs #[rfl,h1,h2,O,S])
 | _=>cases x<;>exact(show False from h).elim
def lI(K:KE):R2:=λx y H Q=>match x,y with
 | .str i,.str j=>Q (.bl (!(!(Oc j i 0 j.length 1).isEmpty))) H
 | x,.ref p=>∃xs,(ud K H p xs\/uc K H p xs)/\bQ x=true/\xs.all bQ=true/\Q (.bl (!jG x xs)) H
 | _,_=>False
theorem BA:Gw X (Mr .NotIn) (lI X.K):=by
 intro pins s σ H x y v u Q I F J h;cases y with
 | str j=>
  cases x with
  | str i=>exact t_ pins s σ H _ _ v u Q I F J (yI2 i j #[rfl,rfl,h])
  | _=>exact(show False from h).elim
 | ref p=>
  have h':∃xs,(ud X.K H p xs\/uc X.K H p xs)/\bQ x=true/\xs.all bQ=true/\Q (.bl (!jG x xs)) H:=by cases x<;>exact h
  revert h';refine yF1 λxs=>yB4 λh1 h2 O S=>?_;exact vc pins s σ H _ _ v u Q I F J (yI2 p xs #[rfl,h1,h2,O,S])
 | _=>cases x<;>exact(show False from h).elim
def nS(K:KE):MC->Hp->VK->Prop:=λxs H Q=>match xs with
 | [.str z]=>z.length<=L9/\Q (.int z.length) H
 | [.ref p]=>∃ys,(ud K H p ys\/uc K H p ys)/\Q (.int ys.length) H
 | _=>False
theorem zF:Ck X (.builtin "len") (nS X.K):=by
 intro pins s σ H xs F Q I r h;cases xs with
 | nil=>exact(show False from h).elim
 | cons x xs=>
  cases xs with
  | nil=>
   cases x with
   | str z=>exact rD pins s σ H _ F Q I r #[z,rfl,h]
   | ref p=>
    let#[ys,h1,h2]:=h;exact uz pins s σ H _ F Q I r (yI2 p ys #[rfl,h1,h2])
   | _=>exact(show False from h).elim
  | cons y ys=>cases x<;>exact(show False from h).elim
def iU(K:KE):R2:=λx y H Q=>match x,y with
 | .ref p,.int i=>∃xs v,(ud K H p xs\/uc K H p xs)/\cJ xs i=Sm v/\Q v H
 | .str z,.int i=>∃c,z.length<=L9/\cJ z.cps.toList i=Sm c/\Q (.str #[#v[c]]) H
 | _,_=>False
theorem Lr:IG X (iU X.K):=by
 intro value F pins s σ H x y v u Q I S U h W;refine Jr value F pins s σ H x y v u Q I S U ?_ W;cases x with
 | ref p=>
  cases y with
  | int i=>
   revert h;refine yF2 λxs O=>yB3 λh1 h2 J=>?_;rcases h1 with h1 | h1
   .exact .inl (yI4 p xs i O #[rfl,rfl,h1,h2,J])
   .exact .inr (.inl (yI4 p xs i O #[rfl,rfl,h1,h2,J]))
  | _=>exact(show False from h).elim
 | str z=>
  cases y with
  | int i=>
   revert h;refine yF1 λc=>yB3 λh1 h2 J=>?_;exact .inr (.inr (yI3 z i c #[rfl,rfl,h1,h2,J]))
  | _=>exact(show False from h).elim
 | _=>exact(show False from h).elim
end
section
variable{K:KE}{H:Hp}{Q:VK}
theorem qd(i j:Int):ni (.int i) (.int j) H Q=Q (.int (i+j)) H:=rfl
theorem qv(a b:Str):ni (.str a) (.str b) H Q=(a.length+b.length<=L9/\Q (.str (a++b)) H):=rfl
theorem kJ(l b:o_):ni (.ref l) (.ref b) H Q=∃xs zs,H l=Sm (.lst xs)/\H b=Sm (.lst zs)/\xs.length+zs.length<=L9/\∀p,H p=Nn->Q (.ref p) (upd H p (.lst (xs++zs))):=rfl
theorem rE(i j:Int):Cq (.int i) (.int j) H Q=Q (.bl (decide (i<j))) H:=rfl
theorem rT(i j:Str):Cq (.str i) (.str j) H Q=Q (.bl (decide (i.cps.toList<j.cps.toList))) H:=rfl
theorem rB(i j:Str):ya K (.str i) (.str j) H Q=Q (.bl (!(Oc j i 0 j.length 1).isEmpty)) H:=rfl
theorem uJ(x:V)(p:o_):ya K x (.ref p) H Q=∃xs,(ud K H p xs\/uc K H p xs)/\bQ x=true/\xs.all bQ=true/\Q (.bl (jG x xs)) H:=by cases x<;>rfl
theorem lW(i j:Str):lI K (.str i) (.str j) H Q=Q (.bl (!(!(Oc j i 0 j.length 1).isEmpty))) H:=rfl
theorem mf(x:V)(p:o_):lI K x (.ref p) H Q=∃xs,(ud K H p xs\/uc K H p xs)/\bQ x=true/\xs.all bQ=true/\Q (.bl (!jG x xs)) H:=by cases x<;>rfl
theorem qF(z:Str):nS K [.str z] H Q=(z.length<=L9/\Q (.int z.length) H):=rfl
theorem pI(p:o_):nS K [.ref p] H Q=∃ys,(ud K H p ys\/uc K H p ys)/\Q (.int ys.length) H:=rfl
theorem tH(p:o_)(i:Int):iU K (.ref p) (.int i) H Q=∃xs v,(ud K H p xs\/uc K H p xs)/\cJ xs i=Sm v/\Q v H:=rfl
theorem tM(z:Str)(i:Int):iU K (.str z) (.int i) H Q=∃c,z.length<=L9/\cJ z.cps.toList i=Sm c/\Q (.str #[#v[c]]) H:=rfl
theorem rC(p:o_)(k:Int)(v:V)(G:Hp->Prop):yH (.ref p) (.int k) v H G=∃xs j,H p=Sm (.lst xs)/\lb xs.length k=Sm j/\G (upd H p (.lst (xs.set j v))):=
 propext #[λ⟨_,xs,_,j,F,J,q⟩=>by cases F;cases J;exact yI2 xs j q,λ⟨xs,j,q⟩=>yI4 p xs k j #[rfl,rfl,q]]
theorem mT(p:o_)(y:V):oT (.ref p) [y] H Q=∃xs,H p=Sm (.lst xs)/\xs.length<L9/\Q .non (upd H p (.lst (xs++[y]))):=
 propext #[λ⟨_,xs,_,F,J,q⟩=>by cases F;cases J;exact#[xs,q],λ⟨xs,q⟩=>yI3 p xs y #[rfl,rfl,q]]
theorem tF(F:Str)(p:o_):y6 K (.str F) [.ref p] H Q=∃J,ud K H p (J.map V.str)/\(J.map (·.length)).sum+J.length*F.length<=16777216/\Q (.str (Ml F J)) H:=
 propext #[λ⟨_,_,J,O,S,q⟩=>by cases O;cases S;exact#[J,q],λ⟨J,q⟩=>yI3 F p J #[rfl,rfl,q]]
theorem wQ(y:Str):uj K "str" (.str y) H=True:=eq_true rfl
theorem v4(p:o_):(uj K "list" (.ref p) H)=∃xs,ud K H p xs:=by
 refine propext #[λh=>?_,λh=>.inl #[rfl,h]];rcases h with ⟨_,h⟩ | ⟨h,_⟩ | ⟨h,_⟩ | ⟨h,_⟩
 .exact h
 .exact absurd h ∅
 .exact absurd h ∅
 .exact absurd h ∅
end
theorem bK:MX "len" = Sm (.builtin "len"):=⋯
theorem qQ:MX "isinstance" = Sm (.builtin "isinstance"):=⋯
theorem AF:MX "any" = Sm (.builtin "any"):=⋯
theorem ji:MX "sorted" = Sm (.builtin "sorted"):=⋯
theorem G9:MX "str" = Sm (.type "str"):=⋯
theorem Ag:MX "int" = Sm (.type "int"):=⋯
theorem jN:MX "list" = Sm (.type "list"):=⋯
theorem uw:MX "tuple" = Sm (.type "tuple"):=⋯
theorem ay(i:Nat){pos pos':Pos}(F:X.N.Nodup)(J:PE X e te)(hi:X.N[i]?=Sm x:=by rfl)(hx:aI X.env.scope x:=by first | exact vLl ⋯ | exact Or.inl rfl)(hs:swapsWith e (Sm (.Name x pos')) pos.line X.env=pure false:=by rfl)
  (hf:X.fn x=true\/X.env.scope.names.lookup x=Sm .local:=by first | exact .inl rfl | exact .inr rfl | assumption):PS X (.Assign [.Name x pos'] e pos) (oC te (gK i)):=GM F hi hx J hs hf
theorem aS(i:Nat)(F:X.N.Nodup)(hi:X.N[i]?=Sm x:=by rfl)(hx:aI X.env.scope x:=by first | exact vLl ⋯ | exact Or.inl rfl | exact ee _ ⋯)
  (hf:X.fn x=true\/X.env.scope.names.lookup x=Sm .local:=by first | exact .inl rfl | exact .inr rfl | assumption | exact gi _ ⋯):PG X (.Name x pos) (gK i):=E1 F hi hx hf
structure CO (fsc:Scope) (N N0 T:MA) (scope:Scope):Prop where
 kind:scope.kind = .function
 nocell:∀y∈scope.names,y.2 ≠ .cell
 names:∀y∈scope.names,y.2 = .local->scope.names.lookup y.1=Sm .local
 free:∀y∈scope.names,y.2 = .free->fsc.names.lookup y.1=Sm .cell\/fsc.names.lookup y.1=Sm .free
 apart:∀y∈scope.names,y.2 = .local->y.1∉N0
 len0:N0.length=N.length
 same:((N0.zip N).all λp=>p.1==p.2 || !(scope.names.any λy=>y.1==p.1))=true
theorem CO.to{fsc:Scope}{N N0 T:MA}{scope:Scope}(S:CO fsc N N0 T scope:=by constructor<;>decide +kernel)(h1:X.env.scope=fsc:=by rfl)(h2:X.N=N:=by rfl):jj X N0 T scope:=by
 subst h1 h2;refine#[S.kind,S.nocell,S.names,S.free,S.apart,S.len0,λi x k e m=>?_];have hl:=S.len0;have hi:i<N0.length:=(Lq.mp e).1;have F:X.N[i]?=Sm X.N[i]:=zd ();have hz:(x,X.N[i])∈N0.zip X.N:=xO (i:=i) (by rw[List.getElem?_zip_eq_some];exact#[e,F]);have q:=List.all_eq_true.mp S.same _ hz;simp only[Bool.or_eq_true,beq_iff_eq,Bool.not_eq_true']at q;rcases q with q | q
 .rw[F,<-q]
 .have:(scope.names.any λy=>y.1==x)=true:=List.any_eq_true.mpr #[_,m,'~'];rw[this]at q;cases q
def mq:R2:=K2
def yq:R2:=KW
theorem aL:Gw X (Mr .Eq) mq:=Kc
theorem iY:Gw X (Mr .NotEq) yq:=J8
section
variable{K:KE}{H:Hp}{Q:VK}
theorem tz(i j:Int):mq (.int i) (.int j) H Q=Q (.bl (decide (i=j))) H:=by
 have e:decide (V.int i=V.int j)=decide (i=j):=by by_cases h:i=j<;>simp[h]
 show (rQ (.int i) (.int j)=true/\Q (.bl (decide (V.int i=V.int j))) H)=_;rw[e];exact propext #[λh=>h.2,λh=>#[rfl,h]]
theorem u0(i j:Str):mq (.str i) (.str j) H Q=Q (.bl (decide (i=j))) H:=by
 have e:decide (V.str i=V.str j)=decide (i=j):=by by_cases h:i=j<;>simp[h]
 show (rQ (.str i) (.str j)=true/\Q (.bl (decide (V.str i=V.str j))) H)=_;rw[e];exact propext #[λh=>h.2,λh=>#[rfl,h]]
theorem uU(i j:Str):yq (.str i) (.str j) H Q=Q (.bl (!decide (i=j))) H:=by
 have e:decide (V.str i=V.str j)=decide (i=j):=by by_cases h:i=j<;>simp[h]
 show (rQ (.str i) (.str j)=true/\Q (.bl (!decide (V.str i=V.str j))) H)=_;rw[e];exact propext #[λh=>h.2,λh=>#[rfl,h]]
end
theorem Ke:IP X yH:=BS
section
variable{X:Cx}(K:KE)
theorem kC(F:X.K=K:=by rfl):Gw X (Mr .In) (ya K):=F ▸ Hc
theorem kA(F:X.K=K:=by rfl):Gw X (Mr .NotIn) (lI K):=F ▸ BA
theorem ba(F:X.K=K:=by rfl):Ck X (.builtin "len") (nS K):=F ▸ zF
theorem ax(F:X.K=K:=by rfl):IG X (iU K):=F ▸ Lr
theorem qe(F:X.K=K:=by rfl)(hc:X.calm=true:=by rfl):Ck X (.builtin "any") (zr K):=F ▸ Ae hc
theorem sV(F:X.K=K:=by rfl):Iy X "str.join" (y6 K):=F ▸ Gh
theorem Cg(F:X.K=K:=by rfl):DQ X (B9 K):=F ▸ Fy
theorem bF{tg l:Expr}{tl:TE}(hl:PE X l tl)(F:X.K=K:=by rfl):PI X tg l (nu K tl):=F ▸ Fx hl
theorem jv{k:Nat}{t:gP}(h:Lj X es t)(F:(assignEach es X.env).length=n:=by rfl)(hst:(assignEach es X.env).findIdx? (·.1)=Nn:=by rfl)(hK:X.K=K:=by rfl)(hc:X.calm=true:=by rfl):PG X (.Tuple es k pos) (yk K n t):=hK ▸ JU hc h F hst
theorem bB{o:Expr}{to:TE}{t:TA}{name:Str}{apos cpos:Pos}{T id:String}{r:V->MC->Hp->VK->Prop}(O:PlainAttrs T)(slot:Slot T name id)(J:typeOf (.builtin id)=pure (.type "method_descriptor")) (S:Iy X id r) (U:PE X o to) (W:PA X (e::es) t)
  (F:attributeBase o name X.env (eval o X.env)=eval o X.env:=by rfl)
  (hfew:((backTo cpos (Mj (e::es) X.env)).all (λx=>!x.1)&&(backToKw cpos (keywordEach [] X.env)).all (λx=>x.1.isSome)&&decide ((e::es).length+([]:List Keyword).length+(if ([]:List Keyword).isEmpty then 0 else 1)<30))=true:=by rfl)
  (hline:(apos.endLine==cpos.line)=true:=by rfl) (hs:Mj (e::es) X.env=(false,eval e X.env)::Mj es X.env:=by rfl) (hplain:(backTo cpos (Mj es X.env)).any (·.1)=false:=by rfl) (hK:X.K=K:=by rfl) :
  PE X (.Call (.Attribute o name apos) (e::es) [] cpos) (GC K T r to t):=hK ▸ Kp O slot J S U W F hfew hline hs hplain
theorem ye(F:X.K=K:=by rfl):Ck X (.type "list") (λxs H Q=>∃p ys,xs=[.ref p]/\(ud K H p ys\/uc K H p ys)/\∀l,H l=Nn->Q (.ref l) (upd H l (.lst ys))):=F ▸ rV
theorem vp(F:X.K=K:=by rfl):Ck X (.type "tuple") (λxs H Q=>∃p ys,xs=[.ref p]/\((ud K H p ys/\∀l,H l=Nn->Q (.ref l) (upd H l (.tup ys)))\/(uc K H p ys/\Q (.ref p) H))):=F ▸ qI
end
theorem Ad(n:Int)(P:Int->Prop):(∃j,[V.int n]=[V.int j]/\P j)=P n:=propext #[λ⟨_,e,h⟩=>by cases e;exact h,λh=>#[n,rfl,h]]
theorem v5(x:V)(xs:MC)(P:V->MC->Prop):(∃v r,x::xs=v::r/\P v r)=P x xs:=propext #[λ⟨_,_,e,h⟩=>by cases e;exact h,λh=>yI2 x xs #[rfl,h]]
noncomputable def g0(scope fsc:Scope):Scope:={scope with names:=scope.names.map λ(n,k)=>if (k == .free&&fsc.kind == .function&&fsc.names.lookup n==Sm .cell) then (n,.cell) else (n,k)}
section
variable{X:Cx}{N0 T:MA}{scope:Scope}{C:o_}{fp:MD}{s:so}{H:Hp}{x:Str}
theorem jE(fsc:Scope)(h:(g0 scope fsc).names.lookup x=Sm .globalImplicit)(e:X.env.scope=fsc:=by rfl):Gl (b9 X N0 T scope C fp s H) x:=by subst e;exact h
theorem bR(fsc:Scope)(h:((g0 scope fsc).names.lookup x=Sm .local||(g0 scope fsc).names.lookup x=Sm .cell||(g0 scope fsc).names.lookup x=Sm .free)=true)(e:X.env.scope=fsc:=by rfl):ao (b9 X N0 T scope C fp s H).env.scope x:=by
 subst e;simp only[Bool.or_eq_true,decide_eq_true_eq]at h;rcases h with (h | h) | h
 .exact .inl h
 .exact .inr (.inl h)
 .exact .inr (.inr h)
theorem ee(fsc:Scope)(h:(g0 scope fsc).names.lookup x=Sm .local)(e:X.env.scope=fsc:=by rfl):aI (b9 X N0 T scope C fp s H).env.scope x:=by subst e;exact .inl h
theorem gi(fsc:Scope)(h:(g0 scope fsc).names.lookup x=Sm .local)(e:X.env.scope=fsc:=by rfl):(b9 X N0 T scope C fp s H).fn x=true\/(b9 X N0 T scope C fp s H).env.scope.names.lookup x=Sm .local:=by subst e;exact .inr h
end
theorem br:Iy X "list.append" oT:=qg
theorem PW.pt'{t:TT}(h:PW X e t):PT X e t:=h.pt
theorem jL{t u:TS}{D:eI}(I:St->Hp->Prop)(h:∀k:St->Hp->Prop,(∀σ' H',I σ' H'->k σ' H')->t {D with nx:=k} σ H)(hu:∀σ' H',I σ' H'->om u D σ' H'):om (oF t u) D σ H:=h _ hu
theorem mU{Q:List (V×V)->Hp->Prop}:kP [] σ H Q=Q [] H:=rfl
theorem lS{Q:List (V×V)->Hp->Prop}(F tv:TE)(r:List (TE×TE)):kP ((F,tv)::r) σ H Q=F σ H λx H1=>tv σ H1 λy H2=>kP r σ H2 λps J=>Q ((x,y)::ps) J:=rfl
theorem su.upd{H':Hp}{p:o_}(sm:su H H')(h:H p=Nn)(o:HO):su H (upd H' p o):=λb u q=>by rw[au (aQ q h)];exact sm b u q
theorem ak{p:o_}(h:H p=Nn)(o:HO):su H (upd H p o):=λb u q=>by rw[au (aQ q h)];exact q
end L2
namespace L2
open PySem PySem.Spec PyProof.Rows PySem.SeqAt
variable{n:Nat}{α:Type}
def GP(K:KE)(H:Hp):Nat->V->V->Bool->Prop
 | 0,x,y,b=>bQ x=true/\bQ y=true/\b=gQ x y
 | n+1,x,y,b=>(bQ x=true/\bQ y=true/\b=gQ x y)\/∃a c xs ys,x = .ref a/\y = .ref c/\((ud K H a xs/\ud K H c ys)\/(uc K H a xs/\uc K H c ys))/\
   ((∃e:Nat->Bool,xs.length=ys.length/\(∀(i:Nat) x y,xs[i]?=Sm x->ys[i]?=Sm y->GP K H n x y (e i))/\b=(List.range xs.length).all e)\/
    (ud K H a xs/\ud K H c ys/\xs.length≠ys.length/\b=false))
theorem mS:∀ {x:V},bQ x=true->gQ x x=true
 | .non,_=>rfl
 | .bl b,_=>by simp[gQ]
 | .int i,_=>by simp[gQ]
 | .str y,_=>by simp[gQ]
section
variable{X:Cx}{pins:List (o_×Obj)}{σ:St}{H:Hp}{s:so}
theorem GP.self(I:Inv X pins σ H s):∀ {n:Nat} {x:V} {b:Bool},GP X.K H n x x b->b=true
 | 0,x,b,h=>by let#[h1,_,rfl]:=h;exact mS h1
 | n+1,x,b,h=>by
  rcases h with ⟨h1,_,rfl⟩ | ⟨a,c,xs,ys,rfl,e,U,h⟩
  .exact mS h1
  .cases e;have O:xs=ys:=by
    rcases U with ⟨J,S⟩ | ⟨J,S⟩
    .exact I.list_inj J S
    .exact I.tuple_inj J S
   subst O;rcases h with ⟨e,_,W,rfl⟩ | ⟨_,_,z,_⟩
   .rw[zbx];intro i hi;have F:=LK.mp hi;have q:=W i xs[i] xs[i] (zd F) (zd F);exact GP.self I q
   .exact absurd rfl z
theorem GP.rc(I:Inv X pins σ H s)(ih:∀ {A:Me} {x y:V} {b:Bool} {u v:B_},A.units+n<cLine->GP X.K H n x y b->RelV x u->RelV y v->EqAt A s u v b)
  {A:Me} {a c:o_} {xs ys:MC} {b:Bool} (hu:A.units+(n+1)<cLine) (hq:(ud X.K H a xs/\ud X.K H c ys)\/(uc X.K H a xs/\uc X.K H c ys))
  (h:(∃e:Nat->Bool,xs.length=ys.length/\(∀(i:Nat) x y,xs[i]?=Sm x->ys[i]?=Sm y->GP X.K H n x y (e i))/\b=(List.range xs.length).all e)\/(ud X.K H a xs/\ud X.K H c ys/\xs.length≠ys.length/\b=false)) :
  RcAt A s (.ref a) (.ref c) b/\RcNeAt A s (.ref a) (.ref c) (!b):=by
 have W:A.in1.units+n<cLine:=by
  have:A.in1.units=A.units+1:=rfl;lia
 rcases h with ⟨e,hl,he,rfl⟩ | ⟨U,Y,hl,rfl⟩
 .rcases hq with ⟨U,Y⟩ | ⟨U,Y⟩
  .refine yE1 (I.list U) λi1=>yB3 λS J z1=>?_;refine yE1 (I.list Y) λi2=>yB3 λO p2 z2=>?_;have l1:=S.length;have l2:=O.length;have F:∀j (h1:j<i1.toArray.size) (h2:j<i2.toArray.size),EqAt A.in1 s i1.toArray[j] i2.toArray[j] (e j):=λj h1 h2=>by
    let#[x,hx,rx]:=S.of (i:=j) (u:=i1.toArray[j]) (by simp at h1 |-);let#[y,hy,ry]:=O.of (i:=j) (u:=i2.toArray[j]) (by simp at h2 |-);exact ih W (he j x y hx hy) rx ry
   have ez:xs.length=i1.toArray.size:=by simp;lia
   rw[ez];exact#[RcAt.lists J.isList p2.isList (by simp;lia) () F,RcNeAt.lists J.isList p2.isList (by simp;lia) () F]
  .refine yE1 (I.tuple U) λi1=>yB3 λS J z1=>?_;refine yE1 (I.tuple Y) λi2=>yB3 λO p2 z2=>?_;have l1:=S.length;have l2:=O.length;have F:∀j (h1:j<i1.toArray.size) (h2:j<i2.toArray.size),EqAt A.in1 s i1.toArray[j] i2.toArray[j] (e j):=λj h1 h2=>by
    let#[x,hx,rx]:=S.of (i:=j) (u:=i1.toArray[j]) (by simp at h1 |-);let#[y,hy,ry]:=O.of (i:=j) (u:=i2.toArray[j]) (by simp at h2 |-);exact ih W (he j x y hx hy) rx ry
   have ez:(List.range xs.length).all e=((List.range (min i1.toArray.size i2.toArray.size)).all e&&i1.toArray.size==i2.toArray.size):=by
    have e1:i1.toArray.size=xs.length:=by simp;lia
    have e2:i2.toArray.size=xs.length:=by simp;lia
    rw[e1,e2,Nat.min_self];simp
   rw[ez];exact#[RcAt.tuples (show s.heap.IsTuple a i1.toArray from J) (show s.heap.IsTuple c i2.toArray from p2) () F,RcNeAt.tuples (show s.heap.IsTuple a i1.toArray from J) (show s.heap.IsTuple c i2.toArray from p2) () F]
 .refine yE1 (I.list U) λi1=>yB3 λS J z1=>?_;refine yE1 (I.list Y) λi2=>yB3 λO p2 z2=>?_;have l1:=S.length;have l2:=O.length;have Z:(i1.toArray.size != i2.toArray.size)=true:=by
   rw[bne_iff_ne];simp;lia
  exact#[RcAt.lists_lengths J.isList p2.isList Z (),RcNeAt.lists_lengths J.isList p2.isList Z ()]
theorem GP.at(I:Inv X pins σ H s):∀ {n:Nat} {A:Me} {x y:V} {b:Bool} {u v:B_},A.units+n<cLine->GP X.K H n x y b->RelV x u->RelV y v->EqAt A s u v b
 | 0,A,x,y,b,u,v,_,h,F,J=>by let#[h1,h2,rfl]:=h;exact kH F J h1 h2
 | n+1,A,x,y,b,u,v,hu,h,F,J=>by
  have S:=h;rcases h with ⟨h1,h2,rfl⟩ | ⟨a,c,xs,ys,rfl,rfl,U,h⟩
  .exact kH F J h1 h2
  .cases F;cases J;by_cases hac:a=c
   .subst hac;rw[GP.self I S];exact EqAt.same _
   .exact EqAt.of_refs hac (GP.rc I (λO q F J=>GP.at I O q F J) hu U h).1
end
section
variable{X:Cx}
def BI(K:KE):R2:=λx y H Q=>∃(a c:o_) (n:Nat) (b:Bool),x = .ref a/\y = .ref c/\n<=100/\GP K H (n+1) x y b/\Q (.bl b) H
def DG(K:KE):R2:=λx y H Q=>∃(a c:o_) (n:Nat) (b:Bool),x = .ref a/\y = .ref c/\n<=100/\GP K H (n+1) x y b/\Q (.bl (!b)) H
theorem Gz(hu:X.A.units+101<cLine):Gw X (Mr .Eq) (BI X.K):=by
 intro pins s σ H x y v u Q I J O h;revert h;refine yF4 λa c n b=>yB5 ?_;rintro rfl rfl Z W q;cases J;cases O;rcases W with ⟨h1,_⟩ | ⟨a',c',xs,ys,Y,U,S,h⟩
 .cases h1
 .cases Y;cases U;exact(GP.rc I (λF q J O=>GP.at I F q J O) () S h).1 _ _ _ _ (yI2 (.bl b) H #[I,rfl,q])
theorem Ja(hu:X.A.units+101<cLine):Gw X (Mr .NotEq) (DG X.K):=by
 intro pins s σ H x y v u Q I J O h;revert h;refine yF4 λa c n b=>yB5 ?_;rintro rfl rfl Z W q;cases J;cases O;rcases W with ⟨h1,_⟩ | ⟨a',c',xs,ys,Y,U,S,h⟩
 .cases h1
 .cases Y;cases U;exact(GP.rc I (λF q J O=>GP.at I F q J O) () S h).2 _ _ _ _ (yI2 (.bl (!b)) H #[I,rfl,q])
theorem pB(K:KE){k:Nat}(J:CC k X.A)(F:X.K=K:=by rfl):Gw X (Mr .Eq) (BI K):=by subst F;exact Gz (by have:=J.un;lia)
theorem xj(K:KE){k:Nat}(J:CC k X.A)(F:X.K=K:=by rfl):Gw X (Mr .NotEq) (DG K):=by subst F;exact Ja (by have:=J.un;lia)
end
section
variable{K:KE}{H:Hp}{Q:VK}
theorem wC(a c:o_):BI K (.ref a) (.ref c) H Q=∃(n:Nat) (b:Bool),n<=100/\GP K H (n+1) (.ref a) (.ref c) b/\Q (.bl b) H:=
 propext #[λ⟨_,_,n,b,F,J,q⟩=>yI2 n b q,λ⟨n,b,q⟩=>yI4 a c n b #[rfl,rfl,q]]
theorem wF(a c:o_):DG K (.ref a) (.ref c) H Q=∃(n:Nat) (b:Bool),n<=100/\GP K H (n+1) (.ref a) (.ref c) b/\Q (.bl (!b)) H:=
 propext #[λ⟨_,_,n,b,F,J,q⟩=>yI2 n b q,λ⟨n,b,q⟩=>yI4 a c n b #[rfl,rfl,q]]
theorem GP.flat{n:Nat}{x y:V}(hx:bQ x=true)(F:bQ y=true):GP K H n x y (gQ x y):=by
 cases n with
 | zero=>exact#[hx,F,rfl]
 | succ n=>exact .inl #[hx,F,rfl]
theorem GP.refl{x:V}(hx:bQ x=true):GP K H n x x true:=by
 have q:GP K H n x x (gQ x x):=GP.flat hx hx
 rwa [mS hx]at q
theorem GP.seq{a c:o_}{xs ys:MC}(F:(ud K H a xs/\ud K H c ys)\/(uc K H a xs/\uc K H c ys))(hl:xs.length=ys.length)(J:∀(i:Nat) x y,xs[i]?=Sm x->ys[i]?=Sm y->GP K H n x y true):GP K H (n+1) (.ref a) (.ref c) true:=
 .inr (yI4 a c xs ys #[rfl,rfl,F,.inl #[λ_=>true,hl,J,'~']])
theorem GP.seqFlat{a c:o_}{xs:MC}(O:(ud K H a xs/\ud K H c xs)\/(uc K H a xs/\uc K H c xs))(hf:∀x∈xs,bQ x=true):GP K H (n+1) (.ref a) (.ref c) true:=
 GP.seq O rfl λi x y F J=>by
  rw[F]at J;cases J;exact GP.refl (hf x (xO F))
end
theorem Be{y:Str}:∀ {l:MA} {j:Nat},j<l.idxOf y->∀(h:j<l.length),l[j]≠y
 | n::r,0,h,_=>by
  intro e;have F:n=y:=e;subst F;simp at h
 | n::r,j+1,h,h2=>by
  by_cases e:n=y
  .subst e;simp at h
  .rw[List.idxOf_cons]at h;have J:(n==y)=false:=beq_eq_false_iff_ne.mpr e;rw[J]at h;have h':j+1<r.idxOf y+1:=h;have q:=Be (y:=y) (l:=r) (j:=j) () (by simpa using h2);simpa using q
section
variable{X:Cx}
def wu(K:KE):V->MC->Hp->VK->Prop:=λx vs H Q=>∃(p:o_) (ss:MA) (y:Str),x = .ref p/\vs=[.str y]/\ud K H p (ss.map V.str)/\y∈ss/\Q (.int (ss.idxOf y:Nat)) H
theorem nh{K:KE}{H:Hp}{Q:VK}(p:o_)(y:Str):wu K (.ref p) [.str y] H Q=∃F:MA,ud K H p (F.map V.str)/\y∈F/\Q (.int (F.idxOf y:Nat)) H:=
 propext #[λ⟨_,F,_,J,O,q⟩=>by cases J;cases O;exact#[F,q],λ⟨F,q⟩=>yI3 p F y #[rfl,rfl,q]]
theorem qj(K:KE)(hK:X.K=K:=by rfl):Iy X "list.index" (wu K):=by
 subst hK;intro pins s σ H x xs v us Q I Z r h;revert h;refine yF3 λp O y=>yB5 ?_;rintro rfl rfl hq hy q;cases Z;let#[u,rfl,ru]:=dg r;let#[t,rfl]:=ru;refine yE1 (I.list hq) λJ=>yB3 λrv pl hz=>?_;have U:J.length=O.length:=by rw[<-rv.length,zb]
 rw[zb]at hz;have hs:L9=16777216:=Np;refine yE1 pl.isList ?_;rintro ⟨cls,dd,data,sl⟩;refine yB3 λho hc=>yF1 λn hd=>?_;simp only at hc hd;subst hc hd;have hj:O.idxOf y<O.length:=LO.mpr hy;have S:∀(i:Nat) (h:i<J.length),∃t',J[i] = .str O[i] t':=λi h=>by
  let#[x,hx,Z]:=rv.of (i:=i) (u:=J[i]) (zd h);rw[zz,zd ()]at hx;have ac:V.str O[i]=x:=Option.some.inj hx;subst ac;exact Z
 refine call_meets zby #[_,ho,rfl] F.entry_list_index (F.args_list_index_2 _ _)
  (list_indexAt p J.toArray n dd sl (.str y t) (gL (.str y)) (O.idxOf y) (by simpa [U] using hj) () ?_ ?_) #[ho,λz hz=>?_,yI2 (.int _) H #[I.tok _,#[_,rfl],q]]
 .show gL (.str y) J[O.idxOf y]=true;let#[t',e]:=S (O.idxOf y) ();rw[e];show (O[O.idxOf y]==y)=true;rw[List.getElem_idxOf hj];simp
 .intro j ag ad;have ab:j<J.length:=by simpa using ag
  show gL (.str y) J[j]=false;let#[t',e]:=S j ab;rw[e];show (O[j]==y)=false;exact beq_eq_false_iff_ne.mpr (Be ad _)
 .have Y:z∈J:=by simpa using hz
  let#[i,hi,rfl]:=LJ.mp Y;let#[t',e]:=S i hi;have q':=kH (A:=X.A.in1) (s:=s) (y:=.str O[i]) (x:=.str y) (u:=J[i]) (v:=.str y t) #[t',e] #[t,rfl] rfl rfl;rw[e];rw[e]at q';exact q'
end
section
variable{X:Cx}
def xA:R2:=λx y H Q=>y = .non/\Q (.bl (decide (x = .non))) H
def Ex:R2:=λx y H Q=>y = .non/\Q (.bl (!decide (x = .non))) H
theorem fL:Gw X (Mr .Is) xA:=Hz
theorem BW:Gw X (Mr .IsNot) Ex:=Fk
def Ea:MC->Hp->VK->Prop:=λxs H Q=>(∃i,xs=[.int i]/\Q (.int i) H)\/∃k,xs=[.bl k]/\Q (.int (if k then 1 else 0)) H
theorem qC:Ck X (.type "int") Ea:=zT
def vG(K:KE):MC->Hp->VK->Prop:=λxs H Q=>∃p ys,xs=[.ref p]/\(ud K H p ys\/uc K H p ys)/\∀l,H l=Nn->Q (.ref l) (upd H l (.lst ys))
theorem j7(K:KE)(F:X.K=K:=by rfl):Ck X (.type "list") (vG K):=ye K F
def Bf(K:KE):MC->Hp->VK->Prop:=λxs H Q=>∃p ys,xs=[.ref p]/\((ud K H p ys/\∀l,H l=Nn->Q (.ref l) (upd H l (.tup ys)))\/(uc K H p ys/\Q (.ref p) H))
theorem qo(K:KE)(F:X.K=K:=by rfl):Ck X (.type "tuple") (Bf K):=vp K F
def xF:R2:=λx y H Q=>match x,y with
 | .int i,.int j=>Jy i j/\Q (.int (i*j)) H
 | .str z,.int n=>0<=n/\n<=4096/\z.length<=4096/\Q (.str (Txt.mul z n)) H
 | _,_=>False
theorem gm:Gw X (binaryOp .Mult) xF:=by
 intro pins s σ H x y v u Q I F J h;cases x with
 | int i=>
  cases y with
  | int j=>exact Ht pins s σ H _ _ v u Q I F J (yI2 _ _ #[rfl,rfl,h])
  | _=>exact(show False from h).elim
 | str z=>
  cases y with
  | int n=>
   let#[t,rfl]:=F;let#[t',rfl]:=J;revert h;refine yB4 λO h1 h2 q=>?_;exact SB.mul (mulOk_of 4096 4096 h2 () () ∅ ∅) λt' k=>yI2 (.str (Txt.mul z n)) H #[I.tok k,#[t',rfl],q]
  | _=>exact(show False from h).elim
 | _=>exact(show False from h).elim
end
section
variable{K:KE}{H:Hp}{Q:VK}
theorem wn(x:V):xA x .non H Q=Q (.bl (decide (x = .non))) H:=propext #[λh=>h.2,λh=>#[rfl,h]]
theorem tm(x:V):Ex x .non H Q=Q (.bl (!decide (x = .non))) H:=propext #[λh=>h.2,λh=>#[rfl,h]]
theorem rR(k:Bool):Ea [.bl k] H Q=Q (.int (if k then 1 else 0)) H:=propext #[λh=>by rcases h with ⟨_,e,q⟩ | ⟨_,e,q⟩<;>cases e;exact q,λq=>.inr #[k,rfl,q]]
theorem nZ(p:o_):vG K [.ref p] H Q=∃ys,(ud K H p ys\/uc K H p ys)/\∀l,H l=Nn->Q (.ref l) (upd H l (.lst ys)):=propext #[λ⟨_,ys,e,q⟩=>by cases e;exact#[ys,q],λ⟨ys,q⟩=>yI2 p ys #[rfl,q]]
theorem qD(p:o_):Bf K [.ref p] H Q=∃ys,((ud K H p ys/\∀l,H l=Nn->Q (.ref l) (upd H l (.tup ys)))\/(uc K H p ys/\Q (.ref p) H)):=propext #[λ⟨_,ys,e,q⟩=>by cases e;exact#[ys,q],λ⟨ys,q⟩=>yI2 p ys #[rfl,q]]
theorem pO(i j:Int):xF (.int i) (.int j) H Q=(Jy i j/\Q (.int (i*j)) H):=rfl
theorem pY(z:Str)(n:Int):xF (.str z) (.int n) H Q=(0<=n/\n<=4096/\z.length<=4096/\Q (.str (Txt.mul z n)) H):=rfl
theorem wW(a:o_)(lo hi:MI):B9 K (.ref a) lo hi H Q=∃xs,ud K H a xs/\∀p,H p=Nn->Q (.ref p) (upd H p (.lst (dQ xs lo hi))):=propext #[λ⟨_,xs,e,q⟩=>by cases e;exact#[xs,q],λ⟨xs,q⟩=>yI2 a xs #[rfl,q]]
theorem ER(g:Int->V)(i:Int):rU g (.int i) H Q=Q (g i) H:=propext #[λ⟨_,e,q⟩=>by cases e;exact q,λq=>#[i,rfl,q]]
end
theorem cC(h:n<=1000000):n<L9:=by
 have:L9=16777216:=Np;lia
theorem aH(h:n<=1000000):n<=L9:=xx (cC h)
theorem nO{f:α->V}{xs:List α}{i:Int}{x:α}(J:0<=i)(h:xs[i.toNat]?=Sm x):cJ (xs.map f) i=Sm (f x):=by
 have q:(xs.map f)[i.toNat]?=Sm (f x):=by rw[zz,h];rfl
 have F:=aq q
 rwa [show ((i.toNat:Nat):Int)=i from ()]at F
theorem GB{xs:List α}{i:Int}(J:0<=i)(h:i<xs.length):∃x,xs[i.toNat]?=Sm x/\cJ xs i=Sm x:=by
 have F:i.toNat<xs.length:=()
 refine#[xs[i.toNat],zd F,?_];have q:=aq (zd F)
 rwa [show ((i.toNat:Nat):Int)=i from ()]at q
theorem FJ{H H':Hp}{p:o_}{o:HO}(h:upd H p o=H')(F:H p=Nn):su H H':=h ▸ ak F o
theorem Ku{H H':Hp}{p:o_}{o:HO}(h:upd H p o=H'):H' p=Sm o:=h ▸ ai
theorem tJ{β: Type}{f:α->β}(xs:List α)(x:α):xs.map f++[f x]=(xs++[x]).map f:=by rw[yb];rfl
theorem jO{P:α->Prop}{xs:List α}{x:α}(h:∀y∈xs,P y)(hx:P x):∀y∈xs++[x],P y:=λy F=>(LG.mp F).elim (h y) λz=>by rw[Lv.mp z];exact hx
theorem mK{xs:List α}{x:α}(h:xs.length=n):(xs++[x]).length=n+1:=by simp[h]
end L2
namespace L2
open PySem PySem.Spec PyProof.Rows
variable{H:Hp}
theorem Inv.turnedL{X:Cx}{pins:List (o_×Obj)}{σ:St}{s:so}{h':LY}{t':Nat}{ch:MD}(I:Inv X pins σ H s)(k:∀b o,b∉ch->s.heap.get? b=Sm o->h'.get? b=Sm o)
  (hf:∀b∈ch,iR X pins H b):Inv X pins σ H {s with heap:=h',toks:=t'}:=by
 have J:∀b u,H b=Sm u->b∉ch:=λb u e z=>by rw[(hf b z).1]at e;cases e
 refine I.step (g':=s.gens) (d':=s.drawn) (ch:=ch) (λb hb=>?_) (λb o _ _ F e _=>k b o F e) (λb o _ _ F e _=>#[o.slots,k b o F e]) (λ_ _ _ _ n=>n)
  (λb o F e=>#[o,k b o F e]) (λ_ _ e=>e) (λ_ _ _ e=>e) (λb ps e=>#[#[],by rw[e];simp]) (λm W=>?_) (λb u e=>?_) I.bare
 .refine yA6 (hf b hb) λ_ Z _ S Y O=>?_;exact#[S,Z,Y,O]
 .revert W;refine yF3 λo es ep=>yB2 λU r=>?_;exact yI3 o es ep #[k _ o (λz=>(hf _ z).2.1 rfl) U,r]
 .refine(I.hok b u e).stay (λc v F q=>k c v ?_ q) (λ_ q=>q) λ_ _ q=>q;rcases F with z | z
  .rw[z];exact J b u e
  .exact J c _ z
theorem Inv.turnedLaid{X:Cx}{pins:List (o_×Obj)}{σ:St}{s:so}{h':LY}{t':Nat}{ch:MD}{a:o_}{o:HO}(I:Inv X pins σ H s)(k:∀b o,b∉ch->s.heap.get? b=Sm o->h'.get? b=Sm o)
  (hf:∀b∈ch,iR X pins H b) (U:s.heap.objs.size<=a) (new:B3 X.prog X.w (upd H a o) h' a o):Inv X pins σ (upd H a o) {s with heap:=h',toks:=t'}:=by
 have J:H a=Nn:=I.hok.fresh U;have O:∀b u,H b=Sm u->b∉ch:=λb u e z=>by rw[(hf b z).1]at e;cases e
 refine I.step (g':=s.gens) (d':=s.drawn) (ch:=ch) (λb S=>?_) (λb o _ _ F e _=>k b o F e) (λb o _ _ F e _=>#[o.slots,k b o F e]) (λb u _ q n=>?_)
  (λb o F e=>#[o,k b o F e]) (λb xs q=>?_) (λb u xs q=>?_) (λb ps q=>#[#[],?_]) (λm Z=>?_) (λb u e=>?_) I.bare
 .refine yA6 (hf b S) λ_ f1 _ Y f4 W=>?_;exact#[Y,f1,f4,W]
 .rw[au (yG (rN (vg q) U))];exact n
 .rw[au (aQ q J)];exact q
 .rw[au (aQ q J)];exact q
 .rw[au (aQ q J),q];simp
 .revert Z;refine yF3 λo es ep=>yB2 λho r=>?_;exact yI3 o es ep #[k _ o (λz=>(hf _ z).2.1 rfl) ho,r]
 .by_cases S:b=a
  .subst S;rw[ai]at e;cases e;exact new
  .rw[au S]at e;refine(I.hok b u e).stay (λc v F q=>k c v ?_ q) (λc q=>by rw[au (aQ q J)];exact q) λc xs q=>by rw[au (aQ q J)];exact q
   rcases F with z | z
   .rw[z];exact O b u e
   .exact O c _ z
structure BB (z TI TO i1 i2:o_):Prop where
 TIz:TI≠z
 TOz:TO≠z
 i1z:i1≠z
 i2z:i2≠z
 TITO:TI≠TO
 TIi1:TI≠i1
 TIi2:TI≠i2
 TOi1:TO≠i1
 TOi2:TO≠i2
 i12:i1≠i2
theorem Qq(n:Nat):BB (n+4) (n+2) (n+3) n (n+1):=#[(show (@Ne Nat (n+2) (n+4):Prop) from ()),(show (@Ne Nat (n+3) (n+4):Prop) from ()),(show (@Ne Nat (n) (n+4):Prop) from ()),(show (@Ne Nat (n+1) (n+4):Prop) from ()),(show (@Ne Nat (n+2) (n+3):Prop) from ()),(show (@Ne Nat (n+2) (n):Prop) from ()),(show (@Ne Nat (n+2) (n+1):Prop) from ()),(show (@Ne Nat (n+3) (n):Prop) from ()),(show (@Ne Nat (n+3) (n+1):Prop) from ()),(show (@Ne Nat (n) (n+1):Prop) from ())]
theorem CH:MX "zip" = Sm (.type "zip"):=⋯
theorem tK(n m:o_)(P:o_->o_->Prop):(∃i j,[V.ref n,V.ref m]=[V.ref i,V.ref j]/\P i j)=P n m:=propext #[λ⟨_,_,e,h⟩=>by cases e;exact h,λh=>yI2 n m #[rfl,h]]
def xK(x:V)(H:Hp)(Q:VK):Prop:=match x with
 | .str y=>y.length<=L9/\Q (.str y) H
 | .int i=>i.natAbs.log2<1920/\Q (.str (toString i)) H
 | _=>False
def GD(te:TE):TE:=λσ H Q=>te σ H λx H1=>xK x H1 Q
abbrev TJ:=Str->St->Hp->VK->Prop
def Eh:TJ:=λacc _ H Q=>acc.length<=L9/\Q (.str acc) H
def AJ(te:TE)(tj:TJ):TJ:=λacc σ H Q=>te σ H λx H1=>∃y,x = .str y/\(acc++y).length<=L9/\tj (acc++y) σ H1 Q
def PJ(X:Cx)(es:ML)(tj:TJ):Prop:=∀(pins:List (o_×Obj)) (s:so) (σ : St) (H:Hp) (acc:Str) (Q:VK),Inv X pins σ H s->tj acc σ H Q->I_ (model X.prog X.w) X.A (joinParts acc (evalEach es X.env)) (EP X pins σ Q) X.xe s
def Ek(tj:TJ):TE:=λσ H Q=>tj NP σ H Q
section
variable{X:Cx}
theorem Bh{e:Expr}{te:TE}{pos:Pos}(U:PE X e te):PE X (.FormattedValue e (-1) Nn pos) (GD te):=by
 intro pins s σ H Q I h;refine FormattedValue_plain (bA (U pins s σ H _ I h) λv W ⟨x,H1,O,J,F⟩=>?_);cases x with
 | str y=>
  let#[t,rfl]:=J;exact formatField_str (λt' S=>yI2 (.str y) H1 #[O.tok S,#[t',rfl],F.2]) F.1
 | int i=>
  let#[t,rfl]:=J;exact formatField_int_small F.1 (yI2 (.str (toString i)) H1 #[O.tok _,#[_,rfl],F.2])
 | _=>exact(show False from F).elim
theorem GW:PJ X [] Eh:=λpins s σ H acc Q I h=>joinParts_nil (yI2 (.str acc) H #[I.tok _,#[_,rfl],h.2]) h.1
theorem oR{e:Expr}{es:ML}{te:TE}{F:TJ}(S:PE X e te)(W:PJ X es F):PJ X (e::es) (AJ te F):=by
 intro pins s σ H acc Q I h;show I_ _ _ (joinParts acc (eval e X.env::evalEach es X.env)) _ _ _;refine joinParts_cons (bA (S pins s σ H _ I h) λv U ⟨x,H1,O,J,y,e,hz,q⟩=>?_);subst e;let#[t,rfl]:=J;exact#[hz,W pins U σ H1 (acc++y) Q O q]
theorem Ga{J O:Expr}{es:ML}{F:TJ}{pos:Pos}(h:PJ X (J::O::es) F):PE X (.JoinedStr (J::O::es) pos) (Ek F):=λpins s σ H Q I q=>JoinedStr_many (h pins s σ H NP Q I q)
end
section
variable{σ:St}{H:Hp}{Q:VK}
theorem w_(te:TE):GD te σ H Q=te σ H λx H1=>xK x H1 Q:=rfl
theorem vd(F:TJ):Ek F σ H Q=F NP σ H Q:=rfl
theorem tO(acc:Str):Eh acc σ H Q=(acc.length<=L9/\Q (.str acc) H):=rfl
theorem pN(te:TE)(F:TJ)(acc:Str):AJ te F acc σ H Q=te σ H λx H1=>∃y,x = .str y/\(acc++y).length<=L9/\F (acc++y) σ H1 Q:=rfl
theorem u7(y:Str):xK (.str y) H Q=(y.length<=L9/\Q (.str y) H):=rfl
theorem uH(i:Int):xK (.int i) H Q=(i.natAbs.log2<1920/\Q (.str (toString i)) H):=rfl
end
noncomputable def wt(K:KE)(a:o_):It:=
  ⟨λi H=>∃xs x,ud K H a xs/\xs[i]?=Sm x,
   λi H v H'=>∃t x,H t=Nn/\v = .ref t/\H'=upd H t (.tup [.int i,x])/\∀xs,ud K H a xs->xs[i]?=Sm x,
   λi H=>∃xs,ud K H a xs/\xs.length<=i⟩
def RH(e it l:o_)(i:Nat)(h:LY):Prop:=(∃old,IsEnum h e it i old)/\h.IsListIter it l i
theorem AU{P:L_}{w:K_}{K:KE}{ad:ML}{k:Nat}{pos:Pos}{e it l:o_}(ac:e≠it):mH P w K (.Tuple ad k pos) (wt K l) [e,it] e (RH e it l) where
 mem:='~'
 obj:=λi h st b S=>by
  let#[#[O,J],#[o4,U,c4,d4]]:=st;simp only[yg,Je,or_false]at S;rcases S with rfl | rfl
  .exact#[_,J,λv e=>by cases e]
  .exact#[_,U,λv e=>by rw[d4]at e;cases e]
 keep:=λi h h' st kk=>by
  let#[#[O,J],U]:=st;exact#[#[O,kk e '~' _ J],U.at λo z=>kk it '~' o z]
 item:=by
  intro X hP hw hK hc i pins s σ H E I hf st hg;subst hP hw hK;revert hg;refine yF2 λxs x=>yB2 λq1 hx=>?_;refine yE1 (I.list q1) λa8=>yB3 λY p1 _=>?_;let#[u1,a7,a4]:=Y.get hx;let#[#[O,J],U]:=st;refine wpAny_pyNext_enum_item J U p1.isList (x:=u1) (by simpa using a7) ac λh' a1 a3 a5 a6 kk=>?_;refine#[_,rfl,wpAny_letOwnedTupleGo_enum a1 λbc al ab=>?_];have lt:∀ {c o},s.heap.get? c=Sm o->s.heap.objs.size≠c:=λz=>JX (vg z);have a9:s.heap.objs.size≠e:=lt J;have Z:∀b o,b∉[e,it]->s.heap.get? b=Sm o->bc.get? b=Sm o:=λb o S z=>by
   simp only[yg,Je,or_false,not_or]at S;exact ab.extBut _ _ S.1 (kk b o S.1 S.2 z)
  have hsz:H s.heap.objs.size=Nn:=I.hok.fresh (zg _);have ag:=ab.extBut _ _ a9 a5;have as:∀c∈[e,it],c≠s.heap.objs.size:=λc F=>by
   let#[o4,e4,_]:=id U;simp only[yg,Je,or_false]at F;rcases F with rfl | rfl
   .exact(lt J).symm
   .exact(lt e4).symm
  refine⟨.ref s.heap.objs.size,upd H s.heap.objs.size (.tup [.int i,x]),I.turnedLaid (t':=s.toks+1) Z hf (zg _) ⟨aH (by show 2<=1000000;decide),[.int i s.toks,u1],.cons ⟨_,rfl⟩ (.cons a4 .nil),⟨_,ag,rfl,rfl,0,rfl⟩⟩,rfl,yI2 _ x ⟨hsz,rfl,rfl,λbg q'=>?_⟩,
   ⟨⟨_,by simpa using al⟩,a3.extBut ab.extBut ac.symm⟩,λc F=>?_⟩
  .rw[I.list_inj q' q1];exact hx
  .rw[au (as c F)];exact(hf c F).1
 done:=by
  intro X hP hw hK hc i pins s σ H E I hf st hg;subst hP hw hK;let#[xs,q1,be]:=hg;refine yE1 (I.list q1) λa8=>yB3 λY p1 _=>?_;have l1:=Y.length;let#[#[O,J],U]:=st;refine wpAny_pyNext_enum_end (I.ok.hd hc) J U p1.isList (by simp;lia) λh' kk=>#[rfl,I.turnedL (t':=s.toks) (λb o S z=>?_) hf];simp only[yg,Je,or_false,not_or]at S;exact kk b o S.2 z
 self:=λA i s Q E st h=>by
  let#[#[O,J],_]:=st;exact wpAny_pyIter_enum J h
theorem pC:MX "enumerate" = Sm (.type "enumerate"):=⋯
def Ee(K:KE)(ta:TA):TI:=λσ H R=>ta σ H λvs H1=>∃a:o_,vs=[.ref a]/\(∃xs,H1 a=Sm (.lst xs))/\R (wt K a) H1
theorem uO(K:KE)(ta:TA){σ:St}{R:It->Hp->Prop}:Ee K ta σ H R=ta σ H λvs H1=>∃a:o_,vs=[.ref a]/\(∃xs,H1 a=Sm (.lst xs))/\R (wt K a) H1:=rfl
theorem vD(n:o_)(P:o_->Prop):(∃i,[V.ref n]=[V.ref i]/\P i)=P n:=propext #[λ⟨_,e,h⟩=>by cases e;exact h,λh=>#[n,rfl,h]]
theorem mN(K:KE){X:Cx}{S:ML}{k:Nat}{O:Pos}{a:Expr}{ta:TA}{p pos:Pos}(hg:Gl X "enumerate") (hm:X.mg "enumerate" = Nn) (ha:PA X [a] ta) (hs:Mj [a] X.env=[(false,eval a X.env)]:=by rfl) (hK:X.K=K:=by rfl) :
  PI X (.Tuple S k O) (.Call (.Name "enumerate" p) [a] [] pos) (Ee K ta):=by
 subst hK;intro pins s σ H R I h;refine Call_ (jI I hg hm pC (zbb (bA (ha pos pins s σ H _ I h) λus J ⟨vs,H1,Y,r1,q1⟩=>?_) hs rfl));revert q1;refine yF1 λl=>yB3 ?_;rintro e ⟨xs,h1⟩ q;subst e;let#[u1,rfl,Z]:=dg r1;obtain rfl:u1=Md l:=Z;obtain⟨hz,F,n,rv,hl⟩ : xs.length<=L9/\∃(F:MF) (n:Nat),A1 xs F/\J.heap.get? l=Sm {cls:=.type "list",data:=.seq F.toArray n}:=Y.hok l _ h1;refine call_enumerate_1 hl λh' a1 a4 a6 kk=>?_;refine wpAny_pyIter_enum a1 ⟨_,[J.heap.objs.size+1,J.heap.objs.size],_,_,H1,rfl,Y.kept (t':=J.toks) kk,
  AU (e:=J.heap.objs.size+1) (it:=J.heap.objs.size) (JX (za2 _)),⟨⟨_,a1⟩,a4⟩,λb hb=>?_,q⟩
 have U:J.heap.objs.size<=b:=by
  simp only[yg,Je,or_false]at hb;rcases hb with rfl | rfl<;>first | exact zg _ | exact zbf _ _
 exact Y.fpOk U (Y.hok.fresh U)
section
variable{K:KE}{a b:o_}{xs ys:MC}{g:TG}{te:TE}{nT:Nat}{σ:St}{D:o_}{Q:VK}{H:Hp}
theorem xB(F:Nat->MC->Hp->Prop)(J:F 0 [] H)(hl:∀i zs H,i<=xs.length->F i zs H->ud K H a xs)
  (W:∀i zs H x t,xs[i]?=Sm x->i<xs.length->F i zs H->H t=Nn->g (.ref t) (σ++List.replicate nT Nn) (upd H t (.tup [.int i,x])) (jh xs.length i F D zs te))
  (hd:∀zs H,F xs.length zs H->Q (.ref D) H):fG (wt K a) g j3 te nT σ D Q H:=by
 refine jW xs.length F J (λi zs H hi p=>yI2 xs (xs[i]) #[hl i zs H (xx hi) p,by simp[hi]]) (λzs H p=>#[xs,hl _ zs H (zg _) p,zg _]) (λi zs H v H' hi p O=>?_) hd;revert O;refine yF2 λt x=>yB4 ?_;rintro U rfl rfl S;exact W i zs H x t (S xs (hl i zs H (xx hi) p)) hi p U
theorem Bn{tb:TS}{D:eI}(F:Nat->St->Hp->Prop)(J:F 0 σ H)(hl:∀i σ H,i<=xs.length->F i σ H->ud K H a xs)
  (Y:∀i x t σ H,xs[i]?=Sm x->F i σ H->H t=Nn->g (.ref t) σ (upd H t (.tup [.int i,x])) λW H2=>tb {D with nx:=F (i+1),ct:=F (i+1),bk:=D.nx} W H2) (hd:∀σ H,F xs.length σ H->D.nx σ H):mL (wt K a) g tb D σ H:=by
 refine oV xs.length F J (λi σ H hi p=>yI2 xs (xs[i]) #[hl i σ H (xx hi) p,by simp[hi]]) (λσ H p=>#[xs,hl _ σ H (zg _) p,zg _]) (λi σ H v H' hi p O=>?_) hd;revert O;refine yF2 λt x=>yB4 ?_;rintro U rfl rfl S;exact Y i x t σ H (S xs (hl i σ H (xx hi) p)) p U
def ra(n i:Nat)(Pv:Nat->MC->Hp->Prop)(ys:MC)(H:Hp):Prop:=∃m',m'<n-i/\(m'=n-(i+1)/\i+1<=n/\Pv (i+1) ys H)
theorem nC{n i:Nat}{F:Nat->MC->Hp->Prop}{ys:MC}(hi:i<n)(h:F (i+1) ys H):ra n i F ys H:=#[n-(i+1),(),rfl,hi,h]
theorem lh{n i:Nat}{J:Nat->MC->Hp->Prop}{D:o_}{ys:MC}{y:V}(hi:i<n)(F:ys.length<=i)(hz:n<=L9)(h1:H D=Sm (.lst ys))(h2:J (i+1) (ys++[y]) (upd H D (.lst (ys++[y])))):iB n i J D ys y H:=
 #[h1,(),n-(i+1),(),rfl,hi,h2]
def n_(n i:Nat)(Pv:Nat->MC->Hp->Prop)(D:o_)(ys:MC)(tc:TT)(te:TE)(σ : St)(H:Hp):Prop:=
 tc σ H λb H4=>if b=true then te σ H4 (iB n i Pv D ys) else ra n i Pv ys H4
theorem rK{n i:Nat}{F:Nat->MC->Hp->Prop}{D:o_}{ys:MC}{tc:TT}{te:TE}{σ:St}:n_ n i F D ys tc te σ H=tc σ H λb J=>if b=true then te σ J (iB n i F D ys) else ra n i F ys J:=rfl
theorem mD{J:It}{tc:TT}(n:Nat)(F:Nat->MC->Hp->Prop)(U:F 0 [] H)(O:∀i ys H,i<n->F i ys H->J.go i H)(S:∀ys H,F n ys H->J.stop n H)
  (W:∀i ys H x H',i<n->F i ys H->J.yld i H x H'->g x (σ++List.replicate nT Nn) H' (n_ n i F D ys tc te))
  (hd:∀ys H,F n ys H->Q (.ref D) H):fG J g tc te nT σ D Q H:=by
 refine#[λi m ys H=>m=n-i/\i<=n/\F i ys H,#[n,'~',mw _,U],?_];rintro i m ys H ⟨rfl,hi,p⟩;by_cases hlt:i<n
 .exact .inr #[O i ys H hlt p,λx H' y=>W i ys H x H' hlt p y]
 .have e:i=n:=()
  subst e;exact .inl #[S ys H p,hd ys H p]
theorem m_{tc:TT}(F:Nat->MC->Hp->Prop)(O:F 0 [] H)(hl:∀i ys H,i<=xs.length->F i ys H->ud K H a xs)
  (S:∀i ys H x,xs[i]?=Sm x->i<xs.length->F i ys H->g x (σ++List.replicate nT Nn) H (n_ xs.length i F D ys tc te))
  (hd:∀ys H,F xs.length ys H->Q (.ref D) H):fG (md K a) g tc te nT σ D Q H:=by
 refine mD xs.length F O (λi ys H hi p=>yI2 xs (xs[i]) #[hl i ys H (xx hi) p,by simp[hi]]) (λys H p=>#[xs,hl _ ys H (zg _) p,zg _]) (λi ys H x H' hi p J=>?_) hd;let#[rfl,y]:=J;exact S i ys _ x (y xs (hl i ys _ (xx hi) p)) hi p
end
set_option genInjectivity false in
set_option genSizeOf false in
structure IK (prog:L_) (w:K_) (κ : Type) [DecidableEq κ] where
 is:LY->κ->B_->Prop
 hash:κ->Int
 draws:κ->Nat
 deep:Nat
 inj:∀ {h:LY} {v:B_} {x y:κ},is h x v->is h y v->x=y
 keeps:∀ {h h':LY} {k:κ} {v:B_} {d:o_} {o:Obj} {es ep},is h k v->h.get? d=Sm o->o.data = .dict es ep->M5 d h h'->is h' k v
 pyHash:∀ {A:Me} {E:LZ} {s:so} {k:κ} {v:B_} {Q:Int->so->Prop},A.units+deep<cLine->is s.heap k v->Q (hash k) {s with toks:=s.toks+draws k}->
  I_ (model prog w) A (PySem.pyHash v) Q E s
 eqBool:∀ {A:Me} {E:LZ} {s:so} {x y:κ} {u v:B_} {Q:Bool->so->Prop},A.units+deep<cLine->is s.heap x u->is s.heap y v->Q (decide (x=y)) s->
  I_ (model prog w) A (PySem.eqBool u v) Q E s
 quiet:∀ {A:Me} {E:LZ} {s:so} {k:κ} {v:B_} {n:Nat} {Q:Bool->so->Prop},is s.heap k v->Q true s->I_ (model prog w) A (eqIsQuiet (n+deep) v) Q E s
section
variable{prog:L_}{w:K_}{κ:Type}[DecidableEq κ](K:IK prog w κ)
inductive Cz (h:LY):List κ->MF->Prop
 | nil:Cz h [] []
 | cons {k:κ} {v:B_} {ks:List κ} {vs:MF}:K.is h k v->Cz h ks vs->Cz h (k::ks) (v::vs)
def CM(h:LY)(ks:List κ)(v:B_):Prop:=∃a o items n,v = .ref a/\h.get? a=Sm o/\o.cls = .type "tuple" /\ o.data = .seq items n/\Cz K h ks items.toList
variable{K}
theorem Cz.inj{h:LY}{x y:List κ}{vs:MF}(i:Cz K h x vs)(j:Cz K h y vs):x=y:=by
 induction i generalizing y with
 | nil=>cases j;rfl
 | cons a b ih=>
  cases j with
  | cons c d=>rw[K.inj a c,ih d]
theorem Cz.keeps{h h':LY}{d:o_}{o:Obj}{es ep}(F:h.get? d=Sm o)(hd:o.data = .dict es ep)(J:M5 d h h'):∀ {x:List κ} {vs:MF},Cz K h x vs->Cz K h' x vs
 | _,_,.nil=>.nil
 | _,_,.cons a b=>.cons (K.keeps a F hd J) (b.keeps F hd J)
theorem Cz.len{h:LY}:∀ {x:List κ} {vs:MF},Cz K h x vs->x.length=vs.length
 | _,_,.nil=>rfl
 | _,_,.cons _ b=>by rw[zy,zy,b.len]
noncomputable def jr(K:IK prog w κ)(ks:List κ):Nat:=(ks.map K.draws).sum
noncomputable def rH(K:IK prog w κ)(ks:List κ):Int:=reduceHash (Oe (ks.map K.hash))
theorem lg{A:Me}{E:LZ}{s:so}{ks:List κ}{v:B_}{Q:Int->so->Prop}(Z:A.units+(K.deep+1)<cLine)(Y:CM K s.heap ks v)(h:Q (rH K ks) {s with toks:=s.toks+(jr K ks+1)}) :
  I_ (model prog w) A (PySem.pyHash v) Q E s:=by
 revert Y;refine yF4 λa o items n=>yB5 ?_;rintro rfl U W hd hi;have O:s.TypeIs (.ref a) "tuple" := #[o,U,W];unfold PySem.pyHash
 first | unfold pyHashByItsType | skip
 first | refine Lo (wpAny_cRoomFor_or (.inr ()) ?_) | skip
 refine Lo (NR O F.slot_tuple_hash.lookup ?_);rw[Lu (by rw[beq_builtin_none];exact xV)];refine Lo (NR O F.slot_tuple_hash.lookup ?_);show I_ _ _ (callSpecialIfBoundUnlessNone? (.ref a) "__hash__" _ >>= _) Q E s;refine Lo (O1 O F.slot_tuple_hash (MW F.slot_tuple_hash O
  F.entry_tuple_hash ?_ (F.args_tuple_hash_1 _)))
 show I_ _ _ (OU (.ref a) >>= _) _ _ s;refine Lo (wpAny_tupleItemsOf U hd (Lo ?_));rw[<-zbg];refine Og _ (λBY (b:Array Int) s'=>∃done left,ks=done++left/\Cz K s.heap left BY/\b.toList=done.map K.hash/\s'={s with toks:=s.toks+jr K done}) _ ?_ ?_ _ _ (yI2 ([]) ks #[rfl,hi,rfl,rfl])
 .intro x BY b s';refine yF2 λdone left=>yB4 ?_;rintro rfl hl S rfl;cases hl with
  | @cons k _ ks' _ h1 hl'=>
   have e:jr K (done++[k])=jr K done+K.draws k:=by simp[jr]
   refine Lo (K.pyHash (show A.in1.units+K.deep<cLine from by show A.units+1+K.deep<cLine;lia) h1 ?_);have J:∃done' left',done++k::ks'=done'++left'/\Cz K s.heap left' BY/\(b.push (K.hash k)).toList=done'.map K.hash/\({s with toks:=s.toks+jr K done+K.draws k}:so)={s with toks:=s.toks+jr K done'}:=
    (yI2 (done++[k]) ks' #['~',hl',by simp[S],by rw[e,i9]])
   first
    | exact Lp J
    | exact Lo (Lp (Lp J))
 .intro b s';refine yF2 λdone left=>yB4 ?_;rintro rfl hl S rfl;cases hl;rw[Jg]at h;show I_ _ _ (retInt (Oe b.toList)) _ _ _;rw[S];refine wpAny_ret_mkInt ?_;unfold rH reduceHash at h;show I_ _ _ (if (decide (-(2:Int)^63<=Oe (done.map K.hash))&&decide (Oe (done.map K.hash)<2^63))=true then _ else _) Q E _;by_cases hr:(decide (-(2:Int)^63<=Oe (done.map K.hash))&&decide (Oe (done.map K.hash)<2^63))=true
  .rw[Lz hr]at h |-
   exact Lp (by simpa [i9] using h)
  .rw[Lu hr]at h |-
   exact Lo (M_ (Lp (by simpa [i9] using h)))
theorem zm{A:Me}{E:LZ}{s:so}{x y:List κ}{a b:o_}{P:Fin->so->Prop}(hu:A.units+K.deep<cLine)(hx:CM K s.heap x (.ref a))(hy:CM K s.heap y (.ref b))(h:P (.done (.ret (.bool (decide (x=y))))) s) :
  I_ (model prog w) A (Mv.«tuple.__eq__» #[[.ref a,.ref b],[]]) P E s:=by
 revert hx;refine yF4 λ_ oa xs na=>yB5 λe1 ab ca ad al=>?_;revert hy;refine yF4 λ_ ob ys nb=>yB5 λe2 Z cb ac ag=>?_;cases e1;cases e2;show I_ _ _ (isInstance (.ref b) (.type "tuple") >>= _) _ _ s;refine Lo (N4 #[ob,Z,cb] isSubtype_tuple_tuple ?_);simp only[zaR,sJ,if_false];refine Lo (wpAny_tupleItemsOf ab ad (Lo (wpAny_tupleItemsOf Z ac (Lo ?_))));refine Og _ (λBY r s'=>r.1=Nn/\s'=s/\∃x' y' S O,BY=List.zip S O/\Cz K s.heap x' S/\Cz K s.heap y' O/\decide (x'=y')=decide (x=y)/\(S.length==O.length)=(xs.size==ys.size)) _ ?_ ?_ _ _
  #[rfl,rfl,yI4 x y xs.toList ys.toList #[rfl,al,ag,rfl,'~']]
 .rintro⟨u,v⟩ BY r s' ⟨hr,rfl,x',y',S,O,hz,W,U,F,J⟩;cases W with
  | nil=>simp at hz
  | @cons k1 u' x'' xs'' h1 hx''=>
   cases U with
   | nil=>simp at hz
   | @cons k2 v' y'' ys'' h2 hy''=>
    simp only[zbh,List.cons.injEq,Prod.mk.injEq]at hz;let#[#[rfl,rfl],rfl]:=hz;refine Lo (K.eqBool (x:=k1) (y:=k2) hu h1 h2 ?_);by_cases hk:k1=k2
    .subst hk;rw[decide_eq_true rfl];simp only[zaR,sJ,if_false];refine Lp #[rfl,rfl,yI4 x'' y'' xs'' ys'' #[rfl,hx'',hy'',?_,by simpa using J]];rw[<-F];by_cases hxy:x''=y''<;>simp[hxy]
    .rw[decide_eq_false hk];simp only[Bool.not_false,if_true];have hf:decide (x=y)=false:=by rw[<-F];simp[hk]
     rw[hf]at h;exact Lo (Lp (Lp (Lp h)))
 .rintro⟨r1,r2⟩ s' ⟨hr,rfl,x',y',S,O,hz,W,U,F,J⟩;simp only at hr;subst hr;refine Lp ?_;have Y:(xs.size==ys.size)=decide (x=y):=by
   rw[<-F,<-J];cases W with
   | nil=>cases U<;>simp
   | cons _ _=>
    cases U with
    | nil=>simp
    | cons _ _=>simp at hz
  show P (.done (.ret (.bool (xs.size==ys.size)))) s';rw[Y];exact h
theorem pF{A:Me}{E:LZ}{s:so}{x y:List κ}{u v:B_}{Q:Bool->so->Prop}(hu:A.units+(K.deep+1)<cLine)(hx:CM K s.heap x u)(hy:CM K s.heap y v)(h:Q (decide (x=y)) s) :
  I_ (model prog w) A (PySem.eqBool u v) Q E s:=by
 have ab:=hx;have U:=hy;revert hx;refine yF4 λa oa xs na=>yB5 ?_;rintro rfl S ca W Z;revert hy;refine yF4 λb ob ys nb=>yB5 ?_;rintro rfl J cb O Y;unfold PySem.eqBool
 try with_reducible refine My ?_
 show I_ _ _ (if (Md a==Md b)=true then _ else _) Q E s;by_cases hab:(Md a==Md b)=true
 .rw[Lz hab];have e:a=b:=by have:=eq_of_beq hab;injection this
  subst e;rw[S]at J;cases J;rw[W]at O;injection O with e1 _
  subst e1;rw[decide_eq_true (Z.inj Y)]at h;exact Lo (M_ (Lp h))
 .rw[Lu hab];have ta:s.TypeIs (.ref a) "tuple" := #[oa,S,ca];have tb:s.TypeIs (.ref b) "tuple" := #[ob,J,cb];refine Lo (wpAny_richCompare_same_room (op:=.Eq) ta tb F.slot_tuple_eq (MW F.slot_tuple_eq ta F.entry_tuple_eq ?_ (F.args_tuple_eq_2 _ _)) ());refine zm (K:=K) ?_ ab U #[_,rfl,(λe=>nomatch e),Oa h];show A.units+1+K.deep<cLine;lia
theorem j4{A:Me}{E:LZ}{s:so}{ks:List κ}{v:B_}{n:Nat}{Q:Bool->so->Prop}(Z:CM K s.heap ks v)(h:Q true s):I_ (model prog w) A (eqIsQuiet (n+(K.deep+1)) v) Q E s:=by
 revert Z;refine yF4 λa o items m=>yB5 ?_;rintro rfl W Y hd hi;have U:s.TypeIs (.ref a) "tuple" := #[o,W,Y];rw[show n+(K.deep+1)=(n+K.deep)+1 from rfl];unfold eqIsQuiet;refine Lo (NR U F.slot_tuple_eq.lookup ?_);show I_ _ _ (isInstance (.ref a) (.type "tuple") >>= _) _ _ s;refine Lo (N4 U isSubtype_tuple_tuple ?_);simp only[zaR,sJ,if_false];refine Lo (Ni W hd (Lo ?_));show I_ _ _ (forIn items _ _) _ _ s;rw[<-zbg];refine Og _ (λBY r s'=>r.1=Nn/\s'=s/\∃J,Cz K s.heap J BY) _ ?_ ?_ _ _ #[rfl,rfl,ks,hi]
 .intro v BY r s';refine yB3 ?_;rintro S rfl;refine yF1 λJ O=>?_;cases O with
  | cons h1 h2=>
   refine Lo (K.quiet h1 ?_);simp only[zaR,sJ,if_false];exact Lp #[rfl,rfl,_,h2]
 .rintro⟨r1,r2⟩ s' ⟨S,rfl,_⟩;simp only at S;subst S;exact Lp h
noncomputable def tupK(K:IK prog w κ):IK prog w (List κ) where
 is:=CM K
 hash:=rH K
 draws:=λks=>jr K ks+1
 deep:=K.deep+1
 inj:=by
  intro h v x y;refine yF4 λa oa xs na=>yB5 ?_;rintro rfl hoa ca hda hia;refine yF4 λb ob ys nb=>yB5 λe hob cb hdb hib=>?_;cases e;rw[hoa]at hob;cases hob;rw[hda]at hdb;injection hdb with e1 _
  subst e1;exact hia.inj hib
 keeps:=by
  intro h h' k v d o es ep;refine yF4 λa oa xs na=>yB5 ?_;rintro rfl hoa ca hda hia;intro ho hd hs;have hne:a≠d:=by
   rintro rfl;rw[hoa]at ho;cases ho;rw[hd]at hda;cases hda
  exact yI4 a oa xs na #[rfl,(hs.2 a hne).trans hoa,ca,hda,hia.keeps ho hd hs]
 pyHash:=λhu hk h=>lg hu hk h
 eqBool:=λhu hx hy h=>pF hu hx hy h
 quiet:=λhk h=>j4 hk h
noncomputable def El(K:IK prog w κ)(hd:K.deep<=7):HeapKind prog w (List κ) where
 is:=λh k a=>CM K h k (.ref a)
 hash:=rH K
 draws:=λks=>jr K ks+1
 room:=λA=>A.units+(K.deep+1)<cLine
 inj:=(tupK K).inj
 keeps:=(tupK K).keeps
 pyHash:=λhu hk h=>lg hu hk h
 eqBool:=λhu hx hy h=>pF hu hx hy h
 quiet:=λ{A E s k a Q} hk h=>by
  have q:=j4 (n:=7-K.deep) (A:=A) (E:=E) hk h
  rwa [show 7-K.deep+(K.deep+1)=8 from ()]at q
end
noncomputable def jT:MI->V
 | none=>.non
 | some i=>.int i
theorem Dx{x y:MI}{v:B_}(a:RelV (jT x) v)(b:RelV (jT y) v):x=y:=by
 have e:=a.inj b;cases x<;>cases y<;>simp_all [jT]
theorem qH(x:MI):bQ (jT x)=true:=by cases x<;>rfl
theorem Ff(x y:MI):gQ (jT x) (jT y)=decide (x=y):=by
 cases x with
 | none=>cases y<;>rfl
 | some i=>
  cases y with
  | none=>rfl
  | some j=>
   show (i==j)=_;by_cases h:i=j<;>simp[h]
theorem Ao{prog:L_}{w:K_}{A:Me}{E:LZ}{s:so}{Q:Int->so->Prop}(h:Q 0xFCA86420 {s with toks:=s.toks+1}):I_ (model prog w) A (PySem.pyHash .none) Q E s:=by
 have J:s.TypeIs .none "NoneType" := rfl;unfold PySem.pyHash
 first | unfold pyHashByItsType | skip
 refine Lo ?_;rw[cRoomFor,Lu ∅];refine Lp (Lo (NR J F.slot_NoneType_hash.lookup ?_));rw[Lu (by rw[beq_builtin_none];exact xV)];refine Lo (NR J F.slot_NoneType_hash.lookup ?_);show I_ _ _ (callSpecialIfBoundUnlessNone? .none "__hash__" _ >>= _) Q E s;refine Lo (O1 J F.slot_NoneType_hash (MW F.slot_NoneType_hash J
  F.entry_NoneType_hash ?_ (F.args_NoneType_hash_1 _)))
 show I_ _ _ (retInt 0xFCA86420) _ _ s;refine wpAny_ret_mkInt ?_;exact Lp h
noncomputable def fv(prog:L_)(w:K_):IK prog w MI where
 is:=λ_ k v=>RelV (jT k) v
 hash:=λk=>match k with
  | none=>0xFCA86420
  | some i=>hashInt i
 draws:=λ_=>1
 deep:=0
 inj:=λa b=>Dx a b
 keeps:=λa _ _ _=>a
 pyHash:=λ{A E s k v Q} _ hk h=>by
  cases k with
  | none=>
   obtain rfl:v=MQ:=hk;exact Ao h
  | some i=>
   let#[t,rfl]:=(show ∃t,v=N_ i t from hk)
   exact wpAny_pyHash_int h
 eqBool:=λ{A E s x y u v Q} _ hx hy h=>by
  have q:=kH (A:=A) (s:=s) hx hy (qH x) (qH y);rw[Ff]at q;exact q prog w E Q h
 quiet:=λ{A E s k v n Q} hk h=>by
  have e:carriedByValue v=true:=by
   cases k with
   | none=>obtain rfl:v=MQ:=hk;rfl
   | some i=>let#[t,rfl]:=(show ∃t,v=N_ i t from hk);rfl
  rw[eqIsQuiet_byValue _ e];exact Lp h
abbrev NI:=Sum Int (List MI)
theorem CM.tup{prog:L_}{w:K_}{κ:Type}[DecidableEq κ]{K:IK prog w κ}{h:LY}{l:List κ}{v:B_}(x:CM K h l v):∃a its,v = .ref a/\h.IsTuple a its:=by
 revert x;refine yF4 λa o items n=>yB5 ?_;rintro rfl F J hd hi;exact yI2 a items #[rfl,o,F,J,n,hd]
theorem xg{A:Me}{prog:L_}{w:K_}(F:A.units+1<cLine):A.units+((fv prog w).deep+1)<cLine:=F
abbrev BV:=Int×List MI
noncomputable def nk(k:BV):List NI:=[.inl k.1,.inr k.2]
section
variable{X:Cx}{pins:List (o_×Obj)}{σ:St}{H:Hp}{s:so}{a b:o_}{k:BV}{kvs:List (BV×V)}
theorem L8.snoc{α β : Type}{F:α->β->Prop}{x:α}{y:β}(h:F x y):∀ {l:List α} {m:List β},L8 F l m->L8 F (l++[x]) (m++[y])
 | _,_,.nil=>.cons h .nil
 | _,_,.cons r t=>.cons r (L8.snoc h t)
end
end L2
namespace L2
open PySem PySem.Spec PyProof.Rows PySem.SeqAt
section
variable{X:Cx}
def MY(K:KE):R2:=λx y H Q=>iU K x y H Q\/∃a kvs k v,x = .ref a/\y=kV k/\H a=Sm (.dK kvs)/\bY kvs k=Sm v/\Q v H
theorem rZ(K:KE)(hK:X.K=K:=by rfl):IG X (MY K):=by
 intro value J pins s σ H x y v u Q I U Y h Z;rcases h with h | ⟨a,kvs,k,z,rfl,rfl,e,l,q⟩
 .exact ax K hK value J pins s σ H x y v u Q I U Y h Z
 .cases U;refine yA3 (rj I.hok (.inl e)) λ_ hd=>yF1 λvs=>yB2 λO dd=>?_;let#[w',hw,S]:=Hd.some_of (v:=z) (o:=valueAt vs k) (by rw[<-l];exact O.val k);have hl:typeLookup (.type "dict") "__getitem__" = pure (Sm (.builtin "dict.__getitem__")):=F.slot_dict_getitem.lookup;exact OG (x:=w') dd.typeIs hl (wpAny_getItem_of (qY Y) dd.mapOf hw #[rfl,yI2 z H #[I.tok _,S,q]]) Z
def J_:oP:=λo i v H Q=>∃a kvs k,o = .ref a/\i=kV k/\H a=Sm (.dK kvs)/\kvs.length<L9/\Q (upd H a (.dK (du kvs k v)))
theorem Ed{n:Nat}(F:CC n X.A):IP X J_:=by
 intro pins s σ H o i v W Y u Q I O J S h;revert h;refine yF3 λa kvs k=>yB5 ?_;rintro rfl rfl e hl q;cases O;exact p7 (by have:=F.un;lia) I (IA.k e hl) J S λs' U=>#[_,U,q]
end
variable{n i ep:Nat}{xs:MP}{a it:o_}{o:Obj}{es:Array (Int×B_)}{K:Type}{ps:MB}
theorem xa{X:Cx}:Iy X "list.pop" CJ:=GL
section
variable{K:KE}{H:Hp}{Q:VK}
theorem vF(p:o_):CJ (.ref p) [] H Q=∃xs y,H p=Sm (.lst xs)/\xs[xs.length-1]?=Sm y/\Q y (upd H p (.lst xs.dropLast)):=
 propext #[λ⟨_,xs,y,F,_,q⟩=>by cases F;exact yI2 xs y q,λ⟨xs,y,q⟩=>yI3 p xs y #[rfl,rfl,q]]
end
theorem oW{X:Cx}(K:KE){o:Expr}{to:TE}{name:Str}{apos cpos:Pos}{T id:String}{r:V->MC->Hp->VK->Prop}(O:PlainAttrs T)(slot:Slot T name id)(J:typeOf (.builtin id)=pure (.type "method_descriptor")) (S:Iy X id r) (U:PE X o to)
  (F:attributeBase o name X.env (eval o X.env)=eval o X.env:=by rfl) (hline:(apos.endLine==cpos.line)=true:=by rfl) (hK:X.K=K:=by rfl):PE X (.Call (.Attribute o name apos) [] [] cpos) (Dj K T r to):=hK ▸ IB O slot J S U F hline
theorem wb:∀(xs:MC) (F:MF),xs.length=F.length->(∀(j:Nat) x u,xs[j]?=Sm x->F[j]?=Sm u->RelV x u)->A1 xs F
 | [],[],_,_=>.nil
 | [],u::F,hl,_=>by simp at hl
 | x::xs,[],hl,_=>by simp at hl
 | x::xs,u::F,hl,h=>.cons (h 0 x u rfl rfl) (wb xs F (by simpa using hl) λj a b J O=>h (j+1) a b J O)
section
variable{X:Cx}
theorem iA{α β : Type}{F:α->β->Prop}:∀ {l:List α} {m:List β} {j:Nat} {a:α} {b:β},L8 F l m->l[j]?=Sm a->m[j]?=Sm b->F a b
 | _,_,0,_,_,.cons h _,e1,e2=>by
  cases e1;cases e2;exact h
 | _,_,j+1,_,_,.cons _ t,e1,e2=>iA (j:=j) t e1 e2
 | _,_,0,_,_,.nil,e1,_=>by cases e1
 | _,_,_+1,_,_,.nil,e1,_=>by cases e1
theorem tV:MX "set" = Sm (.type "set"):=⋯
def EE(K:KE)(SO:o_->MJ->HO):MC->Hp->VK->Prop:=λxs H Q=>∃p,∃ns:MJ,xs=[.ref p]/\ud K H p (ns.map V.int)/\ns.length<=60/\∀(l:o_) (ds:MJ),H l=Nn->ds.Nodup->(∀x,x∈ds ↔ x∈ns)->ds.length<=ns.length->Q (.ref l) (upd H l (SO l ds))
def uf(SO:o_->MJ->HO):MC->Hp->VK->Prop:=λxs H Q=>∃p,∃ds:MJ,xs=[.ref p]/\H p=Sm (SO p ds)/\ds.length<=60/\∀(l:o_) (ts:MJ),H l=Nn->ts.Perm ds->ts.Pairwise (· <= ·)->Q (.ref l) (upd H l (.lst (ts.map V.int)))
end
def gH(xs:MP):Prop:=∀(a b:Nat) (ha:a<xs.size) (hb:b<xs.size),a<b->xs[a]<xs[b]
theorem mO{xs:MP}(h:gH xs)(j:Nat):∀(F lo hi:Nat),lo<=hi->hi<=xs.size->hi-lo<=F->(∀k (J:k<xs.size),k<lo->xs[k]<j)->(∀k (J:k<xs.size),hi<=k->j<=xs[k])->
  OI xs j F lo hi<=xs.size/\(∀k (J:k<xs.size),k<OI xs j F lo hi->xs[k]<j)/\(∀k (J:k<xs.size),OI xs j F lo hi<=k->j<=xs[k])
 | 0,lo,hi,h1,h2,h3,h4,h5=>by
  have e:lo=hi:=()
  subst e;exact#[h2,h4,h5]
 | F+1,lo,hi,h1,h2,h3,h4,h5=>by
  unfold OI;split
  .rename_i hlt;have O:(lo+hi)/2<xs.size:=()
   have U:xs.getD ((lo+hi)/2) j=xs[(lo+hi)/2]:=by simp[Array.getD,O]
   dsimp only;rw[U];split
   .rename_i hj;refine mO h j F _ hi () h2 () (λk J S=>?_) h5;rcases iu k ((lo+hi)/2) with z | z
    .exact Nat.lt_trans (h k _ J O z) hj
    .have:k=(lo+hi)/2:=()
     subst this;exact hj
   .rename_i hj;refine mO h j F lo _ () () () h4 (λk J S=>?_);rcases iu ((lo+hi)/2) k with z | z
    .exact mn (Nat.le_of_not_lt hj) (xx (h _ k O J z))
    .have:k=(lo+hi)/2:=()
     subst this;exact Nat.le_of_not_lt hj
  .have e:lo=hi:=()
   subst e;exact#[h2,h4,h5]
theorem gF(h:gH xs)(j:Nat):M7 xs j<=xs.size/\(∀k (F:k<xs.size),k<M7 xs j->xs[k]<j)/\(∀k (F:k<xs.size),M7 xs j<=k->j<=xs[k]):=
 mO h j xs.size 0 xs.size (mw _) (zg _) () (λk _ z=>absurd z (KP _)) (λk F z=>absurd F ())
theorem yK(h:gH xs):M7 xs 0=0:=by
 let#[h1,h2,F]:=gF h 0;refine zbA λJ=>?_;exact absurd (h2 0 () ()) (KP _)
theorem xS(h:gH xs)(hi:i<xs.size):M7 xs (xs[i]+1)=i+1:=by
 let#[h1,h2,F]:=gF h (xs[i]+1);rcases Nat.lt_trichotomy (M7 xs (xs[i]+1)) (i+1) with z | z | z
 .have:=F i hi ();lia
 .exact z
 .have O:=h2 (i+1) () z;have J:=h i (i+1) hi () ();lia
theorem pU{p x k:Nat}(O:p<=xs.size)(J:k<(M8 xs p x).size):(M8 xs p x)[k]=if h:k<p then xs[k]'() else if k=p then x else xs.getD (k-1) 0:=by
 have S:(M8 xs p x).size=xs.size+1:=by
  unfold M8;simp;lia
 have e:(M8 xs p x)[k]?=Sm (if h:k<p then xs[k]'() else if k=p then x else xs.getD (k-1) 0):=by
  unfold M8;rw[Array.getElem?_append];simp only[Array.size_push,KZ];split
  .rename_i h;rw[Array.getElem?_push];simp only[KZ];by_cases hkp:k<p
   .rw[Lu (),dif_pos hkp,Array.getElem?_extract];simp;lia
   .have:k=p:=()
    subst this;rw[Lz (),dif_neg hkp,Lz rfl]
  .rename_i h;rw[dif_neg (),Lu (),Array.getElem?_extract];have F:k-1<xs.size:=()
   rw[Lz (),show p+(k-(min p xs.size-0+1))=k-1 from ()];simp[Array.getD,F]
 rw[IC J]at e;exact Option.some.inj e
theorem kK(h:gH xs){j:Nat}(Z:∀k (F:k<xs.size),xs[k]≠j):gH (M8 xs (M7 xs j) j):=by
 let#[h1,h2,S]:=gF h j;have hs:(M8 xs (M7 xs j) j).size=xs.size+1:=by
  unfold M8;simp;lia
 generalize M7 xs j=p at h1 h2 S hs;intro a b Y hb O;rw[pU h1 Y,pU h1 hb];have J:∀k,k<xs.size->∃F:k<xs.size,xs.getD k 0=xs[k]:=λk F=>#[F,by simp[Array.getD,F]];by_cases a1:a<p
 .rw[dif_pos a1];by_cases b1:b<p
  .rw[dif_pos b1];exact h a b _ _ O
  .rw[dif_neg b1];by_cases b2:b=p
   .rw[Lz b2];exact h2 a () a1
   .rw[Lu b2];let#[F,e]:=J (b-1) ();rw[e];exact h a (b-1) _ _ ()
 .rw[dif_neg a1,dif_neg ()];by_cases a2:a=p
  .rw[Lz a2,Lu ()];let#[F,e]:=J (b-1) ();rw[e];have:=S (b-1) F ();have:=Z (b-1) F;lia
  .rw[Lu a2,Lu ()];let#[F,e]:=J (b-1) ();let#[W,U]:=J (a-1) ();rw[e,U];exact h _ _ _ _ ()
theorem qr{t:Mf}{j:Nat}(h:gH t.place)(e:∀i,t.slot j ≠ .live i):∀k (F:k<t.place.size),t.place[k]≠j:=λk F S=>by
 let#[h1,h2,J]:=gF h j;have O:M7 t.place j=k:=by
  rcases Nat.lt_trichotomy (M7 t.place j) k with z | z | z
  .have:=J (M7 t.place j) () (zg _);have:=h (M7 t.place j) k () F z;lia
  .exact z
  .have:=h2 k F z;lia
 refine e k ?_;unfold Mf.slot;rw[O];dsimp only;rw[IC F,S];simp
theorem mR{t:Mf}{hashAt:Nat->Int}{h:Int}:∀(F:Nat) (p:Oh),(∀d,p.dummy=Sm d->t.slot d = .dummy)->∀j dm,Oi t hashAt h F p=Sm (.empty j dm)->t.slot j = .empty/\∀d,dm=Sm d->t.slot d = .dummy
 | 0,p,_,j,dm,e=>by unfold Oi at e;cases e
 | F+1,p,hp,j,dm,e=>by
  unfold Oi at e;have J:∀q:Oh,(t.advance q).dummy=q.dummy:=λq=>by unfold OW;split<;>rfl
  cases hs:t.slot p.j with
  | empty=>
   rw[hs]at e;cases e;exact#[hs,hp]
  | dummy=>
   rw[hs]at e;refine mR F _ (λd hd=>?_) j dm e;rw[J]at hd;cases hd;exact hs
  | live i=>
   rw[hs]at e;dsimp only at e;split at e
   .cases e
   .exact mR F _ (λd hd=>by rw[J]at hd;exact hp d hd) j dm e
structure cQ (L:Bool) (t:Mf):Prop where
 led:t.led=L
 rise:gH t.place
theorem vn(n:Nat):gH (Array.range n):=λa b J O F=>by simpa using F
theorem gG{L:Bool}{t:Mf}(h:cQ L t)(n:Nat):cQ L (t.standIn n):=#[h.led,vn n]
theorem A5{L:Bool}{t:Mf}(h:cQ L t){hh:Int}{j:Nat}{b:Bool}(e:t.freeSlot hh=Sm (j,b)):cQ L (t.put j).1:=by
 refine#[h.led,kK h.rise (qr h.rise ?_)];unfold Mf.freeSlot at e;split at e
 .rename_i j' dm hpr;have:=mR (t:=t) _ (t.probeStart hh) (λd hd=>by cases hd) j' dm hpr;cases dm with
  | none=>
   cases e;exact λi z=>by have:=this.1;rw[show (Nn:MH).getD j'=j' from rfl,this]at z;cases z
  | some d=>
   cases e;exact λi z=>by have:=this.2 d rfl;rw[show (Sm d:MH).getD j'=d from rfl,this]at z;cases z
 .cases e
theorem vh{L:Bool}{t:Mf}(h:cQ L t)(es:Array (Int×B_))(hh:Int)(x:B_):cQ L (layNew t es hh x).2.1:=by
 unfold layNew;cases e:t.freeSlot hh with
 | none=>exact gG h _
 | some q=>
  let#[j,b]:=q;have hg:=A5 h e;show cQ L ((t.put j).1.orStandIn _);unfold Mf.orStandIn;split
  .exact hg
  .exact gG hg _
theorem lR{l:MB}(h:l.Pairwise (· < ·)):gH l.toArray:=λa b J O F=>by
 have:=(List.pairwise_iff_getElem.mp h) a b (by simpa using J) (by simpa using O) F;simpa using this
theorem zk{L:Bool}{t:Mf}(h:cQ L t)(es:Array (Int×B_))(n:Nat):cQ L (relayAll t es n).2.1:=by
 unfold relayAll;split
 .rename_i t' order e;dsimp only;split
  .unfold Mf.relaid Mf.laid at e;cases ho:Mf.layClean (Mf.sizeAbove n-1) (es.map (·.1)) with
   | none=>rw[ho]at e;cases e
   | some owner=>
    rw[ho]at e;cases e;refine#[h.led,lR ?_];refine List.pairwise_map.mpr ?_;refine List.Pairwise.filterMap _ ?_ List.pairwise_lt_range;intro a b F x hx y J;let#[k,_,rfl]:=LI.mp hx;let#[O,_,rfl]:=LI.mp J;exact F
  .exact gG h _
 .exact gG h _
section
variable{prog:L_}{w:K_}{K:Type}[DecidableEq K]{knd:KeyKind prog w K}{A:Me}{E:LZ}{s:so}{G:Mf->Prop}
def Apart(knd:KeyKind prog w K)(l:List (Int×B_)):Prop:=l.Pairwise λe e'=>∀k,knd.is k e.2=true->knd.is k e'.2=false
theorem Apart.perm{l O:List (Int×B_)}(h:Apart knd l)(p:O.Perm l):Apart knd O:=
 (p.pairwise_iff λ{x y} F k J=>by
  cases e:knd.is k x.2 with
  | false=>rfl
  | true=>rw[F k e]at J;cases J).mpr h
theorem Apart.push{l:List (Int×B_)}{k:K}{x:B_}{hh:Int}(h:Apart knd l)(S:∀e∈l,knd.is k e.2=false)(W:knd.is k x=true):Apart knd (l++[(hh,x)]):=by
 refine List.pairwise_append.mpr #[h,List.pairwise_singleton _ _,λe U b Y J F=>?_];rw[Lv.mp Y];show knd.is J x=false;rw[KeyKind.is_eq_decide W J];refine decide_eq_false λO=>?_;subst O;rw[S e U]at F;cases F
structure sx (knd:KeyKind prog w K) (G:Mf->Prop) (o:Obj) (es:Array (Int×B_)) (ep:Nat) (t:Mf) (S:K->Bool) (n:Nat):Prop where
 ex:o.ExactSet
 dat:o.data = .set es ep t
 el:ElemsOf knd es.toList
 mem:∀k,S k=true ↔ ∃e∈es.toList,knd.is k e.2=true
 few:es.size<scanBound
 fit:t.fits es.size=true
 num:es.size=n
 good:G t
 apart:Apart knd es.toList
def Hk(knd:KeyKind prog w K)(G:Mf->Prop)(h:LY)(a:o_)(S:K->Bool)(n:Nat):Prop:=∃o es ep t,h.get? a=Sm o/\sx knd G o es ep t S n
theorem stored{h:LY}{t:Mf}{S:K->Bool}{es':Array (Int×B_)}{t':Mf}{S':K->Bool}{n':Nat}(J:h.get? a=Sm o)(T:sx knd G o es ep t S n)
  (O:∀o',o'.ExactSet->o'.data = .set es' (ep+1) t'->sx knd G o' es' (ep+1) t' S' n'):∃o',(h.update a (Obj.putSet es' t')).get? a=Sm o'/\sx knd G o' es' (ep+1) t' S' n':=by
 have F:=putSet_of es' t' T.dat;have hg:=JC (Obj.putSet es' t') J (by rw[F];rfl);rw[F]at hg;exact#[_,hg,O _ T.ex rfl]
theorem tG(gr:∀t es n,G t->G (relayAll t es n).2.1){g:Bool->Sem Unit}(hg:∀(b:Bool) (s₁:so) (Q':Unit->so->Prop),Q' Unit.unit s₁->I_ (model prog w) A (g b) Q' E s₁)
      {t:Mf} {S:K->Bool}  (ho:s.heap.get? a=Sm o) (T:sx knd G o es ep t S n)
  {F:Array (Int×B_)} {t2:Mf} {S':K->Bool} {n':Nat} (T1:∀o',o'.ExactSet->o'.data = .set F (ep+1) t2->sx knd G o' F (ep+1) t2 S' n') {J:Bool} {R:Option Bool->so->Prop}
  (h:∀h',M5 a s.heap h'->Hk knd G h' a S' n'->R (Sm true) {s with heap:=h'}) :
  I_ (model prog w) A (do
    storeSet a F t2
    if (!J&&t2.tooFull)=true then do
      g (relayAll t2 F (NS F.size)).2.2
      storeSet a (relayAll t2 F (NS F.size)).1 (relayAll t2 F (NS F.size)).2.1
      pure (Sm true)
     else pure (Sm true)) R E s:=by
 let#[o1,W,O]:=stored ho T T1;refine Lo (wpAny_storeSet_of ho T.dat ?_ (OJ O.few));have U:=IJ s.heap a (Obj.putSet F t2);split
 .have hp:=relayAll_perm t2 F (NS F.size);have Z:=relayAll_fits t2 F (NS F.size);have Y:=gr t2 F (NS F.size) O.good;generalize relayAll t2 F (NS F.size)=Rl at hp Z Y |-;let#[ab,t3,ac]:=Rl
  dsimp only at hp Z Y |-
  have hsz:ab.size=F.size:=by rw[<-og,hp.length_eq,og]
  let#[o2,ad,U2]:=stored (es':=ab) (t':=t3) (S':=S') (n':=n') W O λo' ex da=>#[ex,da,O.el.perm hp,λk'=>(O.mem k').trans #[λ⟨e,he,q⟩=>#[e,hp.mem_iff.mpr he,q],λ⟨e,he,q⟩=>#[e,hp.mem_iff.mp he,q]],by rw[hsz];exact O.few,Z,by rw[hsz];exact O.num,Y,O.apart.perm hp];refine Lo (hg _ _ _ ?_);refine Lo (wpAny_storeSet_of W O.dat ?_ (OJ U2.few));exact Lp (h _ (U.trans (IJ _ a _)) (yI4 _ _ _ _ #[ad,U2]))
 .exact Lp (h _ U (yI4 _ _ _ _ #[W,O]))
theorem LF(gl:∀t es h x,G t->G (layNew t es h x).2.1)(gr:∀t es n,G t->G (relayAll t es n).2.1)(gp:∀t:Mf,G t->G {t with plain:=false})
  {a:o_} {S:K->Bool} {n:Nat} {k:K} {x:B_} {Q:Bool->so->Prop} (hkey:knd.is k x=true) (hsc:x.scannable=true) (hS:Hk knd G s.heap a S n) (hroom:n+1<scanBound)
  (h:∀h',M5 a s.heap h'->Hk knd G h' a (λZ=>S Z||decide (Z=k)) (if S k then n else n+1)->Q (!S k) {s with heap:=h'}) :
  I_ (model prog w) A (setAddHashed a x (knd.hash k)) Q E s:=by
 revert hS;refine yF4 λo es ep t=>yB2 λho T=>?_;have a6:es.size+1<scanBound:=by rw[T.num];exact hroom
 unfold setAddHashed setAddHashedIn;refine My (Lo (Ny ho T.dat T.fit ?_));dsimp only;rw[byScan_of hsc T.few T.el];simp only[↓reduceIte];unfold setAddByScan;refine Lo ?_;refine Lo (M_ ?_);refine Lo (wpAny_setScan_of hkey ho T.dat T.fit T.el ?_);cases hr:List.findIdx? (λe=>knd.is k e.2) es.toList with
 | some j=>
  dsimp only;let#[hj,a3,_]:=List.findIdx?_eq_some_iff_getElem.mp hr;have Y:S k=true:=(T.mem k).mpr #[es.toList[j],gV hj,a3];refine Lp (Lp ?_);have e:s={s with heap:=s.heap}:=by cases s;rfl
  have q:=h s.heap (OX a s.heap) ⟨o,es,ep,t,ho,T.ex,T.dat,T.el,λZ=>by
   rw[Bool.or_eq_true,decide_eq_true_eq,<-T.mem Z];exact⟨λhk=>hk.elim id (λe=>e ▸ Y),.inl⟩,T.few,T.fit,by rw[Y];exact T.num,T.good,T.apart⟩
  rw[Y]at q;rw[e];exact q
 | none=>
  dsimp only;have al:=List.findIdx?_eq_none_iff.mp hr;have Y:S k=false:=by
   cases hk:S k with
   | false=>rfl
   | true=>let#[e,he,hp]:=(T.mem k).mp hk;rw[al e he]at hp;cases hp
  have as:∀(b:Bool) {s₁:so} {Q':Unit->so->Prop},Q' Unit.unit s₁->I_ (model prog w) A (match b with | true=>rule "set.scan.the-table-gave-way" | false=>pure Unit.unit) Q' E s₁:=λb s₁ Q' hq=>by
   cases b<;>first | exact Lp hq | exact M_ hq
  have F:=layNew_perm t es (knd.hash k) x;have J:=layNew_fits t es (knd.hash k) x;have O:=gl t es (knd.hash k) x T.good;generalize layNew t es (knd.hash k) x=Ly at F J O |-;let#[ab,t1,ag,a5]:=Ly
  dsimp only at F J O |-
  rw[KS]at F;have ad:ab.size=n+1:=by rw[<-og,F.length_eq,zq,og,T.num];rfl
  have mk:∀t2:Mf,t2.fits ab.size=true->G t2->∀o',o'.ExactSet->o'.data = .set ab (ep+1) t2->sx knd G o' ab (ep+1) t2 (λZ=>S Z||decide (Z=k)) (n+1):=λt2 a4 g2 o' ex da=>
   #[ex,da,(T.el.push hkey hsc).perm F,mem_push_iff hkey T.mem F,by rw[ad];exact hroom,a4,ad,g2,(T.apart.push (λe he=>by have:=al e he;simpa using this) hkey).perm F]
  refine Lo (as _ ?_);have ac:∀h',M5 a s.heap h'->Hk knd G h' a (λZ=>S Z||decide (Z=k)) (n+1)->Q true {s with heap:=h'}:=by
   intro h' W U;have:=h h' W;rw[Y]at this;exact this U
  split
  .refine Lo ?_;rw[hashByValue_scannable 8 hsc];refine Lp ?_;refine tG gr ?_ ho T (mk _ ?_ ?_) ?_
   .intro b s₁ Q' hq;cases b<;>first | exact Lp hq | exact M_ hq
   .split
    .exact J
    .exact Mf.fits_plain_off J
   .split
    .exact O
    .exact gp _ O
   .intro h' W U;dsimp only;exact M0 (ac h' W U)
  .refine Lo (Lp ?_);simp only[↓reduceIte];refine tG gr ?_ ho T (mk _ J O) ?_
   .intro b s₁ Q' hq;cases b<;>first | exact Lp hq | exact M_ hq
   .intro h' W U;dsimp only;exact M0 (ac h' W U)
end
section
variable{prog:L_}{w:K_}{A:Me}{R:Nw->so->Prop}{I:o_}{fp wr:MD}{Gm:Array NN->Array NN->Prop}{n:Nat}{P:Nat->B_->Prop}{St:Nat->so->Prop}{L:Bool}
theorem nW{t:Mf}(h:cQ L t):cQ L {t with plain:=false}:=#[h.led,h.rise]
theorem Hk.at'[DecidableEq K]{knd:KeyKind prog w K}{G:Mf->Prop}{h h':LY}{a:o_}{S S':K->Bool}{m m':Nat}(x:Hk knd G h a S m)(e:∀o,h.get? a=Sm o->h'.get? a=Sm o)(O:∀k,S k=S' k)(F:m=m'):Hk knd G h' a S' m':=by
 revert x;refine yF4 λo es ep t=>yB2 λJ T=>?_;have:S=S':=funext O;subst this;subst F;exact yI4 o es ep t #[e o J,T]
end
section
variable{prog:L_}{w:K_}{A:Me}{E:LZ}{s:so}
noncomputable def c_(w:K_):Bool:=!(w.params.followText "set-order")
theorem DH(a:B_){Q₁:LZ}
  (h:Q₁ (.ref s.heap.objs.size) {s with heap:=s.heap.push {cls:=.type "set",dict:=Nn,data:=.set #[] 0 (.fresh 0 0 (c_ w))}}) :
  codeAny (model prog w) A (.call (.builtin "set.__new__") #[[.type "set",a],[]]) (wants Q₁ E) s:=by
 refine codeAny_of_tree ?_;show I_ _ A.in1 (do checkBuiltinCall "set.__new__" #[[.type "set",a],[]];again (.builtin "set.__new__" #[[.type "set",a],[]])) _ _ s;refine Lo (Ov (F.newCall_set_1 a) (Lp #[N7 F.plain_set_new _,NB F.entry_set_new ?_]));rw[JN F.plain_set_new _];unfold Mv.«set.__new__» Mv.Frozenset.newClass;have J:=sub_set_self;let#[S,g,d,O,os]:=s;dsimp only
 wp_walk
 refine Ow (Lp ?_);dsimp only;simp only[newObj];refine Lo (wpAny_alloc (Lp ?_));exact Lp h
end
section
variable{prog:L_}{w:K_}{A:Me}{R:Nw->so->Prop}{I:o_}{fp wr:MD}{Gm:Array NN->Array NN->Prop}{n:Nat}{P:Nat->B_->Prop}{St:Nat->so->Prop}{L:Bool}
theorem Fm[DecidableEq K](val:Nat->K)(i:Nat)(k:K):((List.range (i+1)).map val).contains k=(((List.range i).map val).contains k||decide (k=val i)):=by
 rw[List.range_succ,yb,List.contains_eq_any_beq,List.contains_eq_any_beq,List.any_append];congr 1;by_cases e:k=val i
 .simp[e]
 .simp[e]
theorem C_{K:Type}[DecidableEq K]{knd:KeyKind prog w K}(W:WalksS prog w A.in1 I fp wr Gm n P St)(S:o_)(as:S∉fp)(val:Nat->K)(Z:∀i v,P i v->knd.is (val i) v=true/\v.scannable=true)(O:n+1<scanBound) :
  ∀(k i:Nat) (s:so),n-i=k->i<=n->St i s->(∃m,m<=i/\Hk knd (cQ L) s.heap S (λk'=>((List.range i).map val).contains k') m)->
   (∀s',Moved (S::wr) Gm s s'->(∃m,m<=n/\Hk knd (cQ L) s'.heap S (λk'=>((List.range n).map val).contains k') m)->R (.ok (.ret .none)) s')->
   codeAny (model prog w) A (.builtin "set.update.loop" #[[.ref S,.ref I],[]]) R s:=by
 have a3:S∉wr:=λh=>as (W.sub _ h);have F:∀b∈wr,b∈S::wr:=λb O=>yh _ O;intro k
 induction k with
 | zero=>
  rintro i s hk hi J ⟨m,ab,hS⟩ hR;have a6:i=n:=()
  subst a6;refine NB zbi ?_;rw[JN zaS _];show I_ _ A.in1 (pyNext (.ref I) >>= _) _ _ s;refine Lo (W.done s _ _ J λs' Y=>?_);show I_ _ A.in1 (ret MQ) _ _ s';exact Lp (hR s' (Y.mono F) #[m,ab,hS.at' (λo e=>Y.heap S _ a3 e) (λ_=>rfl) rfl])
 | succ k ih=>
  rintro i s hk hi J ⟨m,ab,hS⟩ hR;have ag:i<n:=()
  refine NB zbi ?_;rw[JN zaS _];show I_ _ A.in1 (pyNext (.ref I) >>= _) _ _ s;refine Lo (W.item i s _ _ ag J λv s' hP U Y=>?_);let#[hv,a5]:=Z i v hP;have a4:=hS.at' (h':=s'.heap) (λo e=>Y.heap S _ a3 e) (λ_=>rfl) rfl;show I_ _ A.in1 (holding [v] (setAdd S v) >>= _) _ _ s';refine Lo (My ?_);unfold setAdd;refine My ?_;refine Lo (knd.pyHash (k:=val i) hv ?_);refine LF (G:=cQ L) (knd:=knd) (s:={s' with toks:=s'.toks+1}) (λt es h x g=>vh g es h x) (λt es m g=>zk g es m) (λt g=>nW g) hv a5 a4 () λh' ad a8=>?_;refine Lp #[N7 zaS _,ih (i+1) _ () ag (W.frame _ s' _ _ U (Nat.le_succ _) λb O o e=>?_) #[_,?_,a8.at' (h':=h') (λo e=>e) (λk'=>(Fm val i k').symm) rfl] λa7 al ac=>?_]
  .rw[ad.2 b (λh:b=S=>as (by rw[<-h];exact O))];exact e
  .split<;>lia
  .refine hR a7 (Moved.trans W.gtrans ((Y.mono F).then_heap (Nat.le_succ _) λb o O e=>?_) al) ac;rw[ad.2 b (λh:b=S=>O (by rw[h];exact yd))];exact e
end
section
variable{prog:L_}{w:K_}{A:Me}{E:LZ}{s:so}
noncomputable def jp(w:K_):Obj:={cls:=.type "set",dict:=Nn,data:=.set #[] 0 (.fresh 0 0 (c_ w))}
theorem qz{l:o_}{items:MM}{Po:LY->Prop}{Q:LZ}(hh:A.handled=Nn)(hl:s.heap.IsList l items)
  (Z:∀(R:Nw->so->Prop) (s1:so) (I:o_) (St:Nat->so->Prop),I=s.heap.objs.size+1->s1.heap.get? s.heap.objs.size=Sm (jp w)->(∀b o,s.heap.get? b=Sm o->s1.heap.get? b=Sm o)->
   WalksS prog w A.in1.in1.in1 I [I,l] [I] (λa b=>b=a) items.size (λi v=>items[i]?=Sm v) St->St 0 s1->s.heap.objs.size∉[I,l]->(∀s',Moved [s.heap.objs.size,I] (λa b=>b=a) s1 s'->Po s'.heap->R (.ok (.ret .none)) s')->
   codeAny (model prog w) A.in1.in1 (.builtin "set.update.loop" ⟨[.ref s.heap.objs.size,.ref I],[]⟩) R s1)
  (h:∀(h':LY) (tk:Nat),Po h'->(∀b o,b<s.heap.objs.size->s.heap.get? b=Sm o->h'.get? b=Sm o)->Q (.ref s.heap.objs.size) {s with heap:=h',toks:=tk}) :
  I_ (model prog w) A (call (.type "set") [.ref l]) Q E s:=by
 let#[c,tl,be]:=F.called_set.mro;have a8:=F.called_set.made;have bt:=F.called_set.sub;refine wpAny_call (codeAny_of_tree ?_);show I_ _ _ (callAny (.type "set") _) _ _ _;refine Lp #[Code.quiet_builtin _ ⋯,NB F.entry_type_call ?_];rw[Me.under_plain (weight_type_call_type "set" [.ref l] []) rfl];have h1:=F.called_set.notType;have h2:=F.called_set.canCreate;have b2:=F.typeCall_set_1 (.ref l)
 repeat (any_goals (first | assumption | wp_step))
 refine Od (DH (.ref l) (E:=E) (Q₁:=λobj s₁=>obj = .ref s.heap.objs.size/\s₁={s with heap:=s.heap.push (jp w)}) #[rfl,rfl]) λr s₁ hr=>?_;cases r with
 | error e=>exact hr
 | ok fl=>
  cases fl with
  | ret obj=>
   let#[rfl,rfl]:=hr;have hS:(s.heap.push (jp w)).get? s.heap.objs.size=Sm (jp w):=yQ _ rfl;have hT:so.TypeIs {s with heap:=s.heap.push (jp w)} (.ref s.heap.objs.size) "set" := #[_,hS,rfl];have b0:=F.called_set.init.lookup;have b1:=F.called_set.init.bind (.ref s.heap.objs.size)
   repeat (any_goals (first | assumption | wp_step))
   refine Od (codeAny_call_builtin (R:=wants (λr s₂=>r = .none/\∃h' tk,s₂={s with heap:=h',toks:=tk}/\
     Po h'/\
     (∀b o,b<s.heap.objs.size->s.heap.get? b=Sm o->h'.get? b=Sm o)) E) F.called_set.init.plain F.entry_set_init (check_set_init_1 hT ?_)) λr₂ s₂ O=>?_
   .refine yE1 hl λol=>yB3 λac ag=>yF1 λnl Y=>?_;let#[bh,U,a3,J]:=ol;simp only at ag Y;subst ag;subst Y;have al:(s.heap.push (jp w)).get? l=Sm {cls:=.type "list",dict:=U,data:=.seq items nl,slots:=J}:=yc _ ac;have bg:=F.sub_list_set;have bp:=F.sub_list_frozenset;have b3:(N1 "list" == N1 "dict")=false:=∅;have ad:(s.heap.push (jp w)).IsList l items:=#[_,al,rfl,nl,rfl];unfold Mv.«set.__init__» noKeywords Mv.Frozenset.updateFrom;generalize hPI:pyIter=PI
    wp_walk
    subst hPI;refine Oz ad ?_;refine Lo (wpAny_runValue ?_);have W:l<s.heap.objs.size:=vg ac;have a5:A.in1.in1.in1.handled=Nn:=by simp[hh]
    have ab:l≠(s.heap.push (jp w)).objs.size:=by
     rw[sK];exact yG (K0 W)
    have bc:s.heap.objs.size∉[(s.heap.push (jp w)).objs.size,l]:=by
     rw[sK];simp only[yg,zbz,yu,or_false,not_or];exact#[yG (za2 _),JX W]
    refine Z _ _ _ _ (sK ..) (yc _ hS) (λb o e=>yc _ (yc _ e)) ((Walks.list a5 _ l ab items).toS) #[#[_,yQ _ rfl,rfl,rfl],(ad.push _)] bc ?hR
    case hR=>
     intro s' hm S;let#[h',g',d',a9,a6]:=s';have eg:g'=s.gens:=hm.gens;have ed:d'=s.drawn:=hm.drawn;have eo:a6=s.os:=hm.os;subst eg;subst ed;subst eo;show I_ _ _ _ _ _ _;refine Lp ?_;show I_ _ _ (ret MQ) _ _ _;refine Lp #[rfl,yI2 h' a9 #[rfl,S,λb o hb e=>?_]];have a4:b≠s.heap.objs.size:=yG hb;have as:b≠(s.heap.push (jp w)).objs.size:=by
      rw[sK];exact yG (K0 hb)
     exact hm.heap b o (by simp only[yg,zbz,yu,or_false,not_or];exact#[a4,as]) (yc _ (yc _ e))
   .cases r₂ with
    | error e=>exact O
    | ok fl₂=>
     cases fl₂ with
     | ret r=>
      revert O;refine yB2 ?_;rintro rfl;refine yF2 λh' tk=>yB3 ?_;rintro rfl S a7
      repeat (any_goals (first | assumption | wp_step))
      exact h _ _ S a7
     | _=>exact O.elim
  | _=>exact hr.elim
theorem qu[DecidableEq K]{knd:KeyKind prog w K}{l:o_}{items:MM}(val:Nat->K){Q:LZ}(hh:A.handled=Nn)(hl:s.heap.IsList l items)(F:∀(i:Nat) (v:B_),items[i]?=Sm v->knd.is (val i) v=true/\v.scannable=true)(hb:items.size+1<scanBound)
  (h:∀(h':LY) (O:Nat),(∃m,m<=items.size/\Hk knd (cQ (c_ w)) h' s.heap.objs.size (λk'=>((List.range items.size).map val).contains k') m)->
   (∀b o,b<s.heap.objs.size->s.heap.get? b=Sm o->h'.get? b=Sm o)->Q (.ref s.heap.objs.size) {s with heap:=h',toks:=O}) :
  I_ (model prog w) A (call (.type "set") [.ref l]) Q E s:=
 qz hh hl (λR s1 I St _ U _ W S J Z=>C_ (L:=c_ w) W _ J val F hb (items.size-0) 0 _ () (mw _) S ⟨0,zg _,_,#[],0,.fresh 0 0 (c_ w),U,
  ⟨rfl,rfl,rfl⟩,rfl,λe Y=>by simp at Y,λk=>'~',∅,rfl,rfl,⟨rfl,λa b ha=>absurd ha (KP _)⟩,List.Pairwise.nil⟩ Z) h
theorem ED[DecidableEq K]{knd:KeyKind prog w K}{h:LY}{a:o_}{S:K->Bool}{n:Nat}{L:Bool}{Sh:Int×B_->Prop}(F:Int×B_->K)(W:∀e k,knd.is k e.2=true->Sh e/\k=F e)(bk:∀e,Sh e->knd.is (F e) e.2=true)(x:Hk knd (cQ L) h a S n) :
  ∃o es ep t,h.get? a=Sm o/\o.ExactSet/\o.data = .set es ep t/\es.size<scanBound/\t.fits es.size=true/\cQ L t/\(∀e∈es.toList,Sh e)/\(es.toList.map F).Nodup/\(∀k,k∈es.toList.map F ↔ S k=true)/\(es.toList.map F).length=n:=by
 revert x;refine yF4 λo es ep t=>yB2 λZ T=>?_;have O:∀e∈es.toList,Sh e:=λe J=>by
  let#[#[k,O,_],_]:=T.el e J;exact(W e k O).1
 refine yI4 o es ep t #[Z,T.ex,T.dat,T.few,T.fit,T.good,O,?_,λk=>?_,by rw[zb,og];exact T.num]
 .refine List.pairwise_map.mpr (List.Pairwise.imp_of_mem (λ{x y} hx Y U e=>?_) T.apart);have h1:=U (F x) (bk x (O x hx));rw[e,bk y (O y Y)]at h1;cases h1
 .rw[T.mem,LD];constructor
  .rintro⟨e,J,rfl⟩;exact#[e,J,bk e (O e J)]
  .rintro⟨e,J,z⟩;exact#[e,J,(W e k z).2.symm]
theorem w6[DecidableEq K]{ns:List K}(d x:K):((List.range ns.length).map λi=>ns.getD i d).contains x=true ↔ x∈ns:=by
 rw[List.contains_iff_mem,LD];constructor
 .rintro⟨i,hi,rfl⟩;rw[xW,zd (LK.mp hi)];exact gV _
 .intro hx;let#[i,hi,e]:=LJ.mp hx;exact#[i,LK.mpr hi,by rw[xW,zd hi,e];rfl]
end
noncomputable def j5(e:Int×B_):Int:=match e.2 with
 | .int d _=>d
 | _=>0
def GS(w:K_)(h:LY)(a:o_)(ds:MJ):Prop:=∃o es ep t,h.get? a=Sm o/\o.ExactSet/\o.data = .set es ep t/\es.size<scanBound/\t.fits es.size=true/\cQ (c_ w) t/\(∀e∈es.toList,∃tk,e.2 = .int (j5 e) tk)/\es.toList.map j5=ds
noncomputable def pj(w:K_)(a:o_)(ds:MJ):HO:=.ext λh=>GS w h a ds
theorem KB{prog:L_}{w:K_}{h:LY}{S:Int->Bool}(x:Hk (Mh prog w) (cQ (c_ w)) h a S n):∃ds,GS w h a ds/\ds.Nodup/\(∀k,k∈ds ↔ S k=true)/\ds.length=n:=by
 let#[o,es,ep,t,h1,h2,Y,h4,h5,W,U,h8,Z,O]:=ED (Sh:=λe=>∃F,e.2 = .int (j5 e) F) j5 (λe k hk=>by
  let#[F,J]:=La hk;have:j5 e=k:=by unfold j5;rw[J]
  rw[this];exact⟨⟨F,J⟩,rfl⟩) (λe ⟨F,J⟩=>by rw[J];exact intKind_is _ _ _ _) x
 exact#[_,yI4 o es ep t #[h1,h2,Y,h4,h5,W,U,rfl],h8,Z,O]
section
variable{X:Cx}
theorem Bk{m:Nat}(hr:CC m X.A){K:KE}(hK:X.K=K):Ck X (.type "set") (EE K (pj X.w)):=by
 subst hK;intro pins s σ H xs us Q I r h;revert h;refine yF2 λp ns=>yB4 ?_;rintro rfl hq ab q;let#[u,rfl,ru]:=dg r;cases ru;refine yE1 (I.list hq) λU=>yB3 λrv pl hz=>?_;have F:U.length=ns.length:=by rw[<-rv.length,zb]
 refine qu (knd:=Mh X.prog X.w) (λi=>ns.getD i 0) hr.hd pl.isList (λi v hv=>by
  let#[t,rfl]:=Nx.int_at (by simpa using mV rv) i v (by simpa using hv);exact⟨intKind_is _ _ _ _,rfl⟩) (by simp only[xq];unfold scanBound;lia) λh' tk ⟨m,hm,hS⟩ hk=>?_
 refine yE1 (KB hS) λds=>yB4 λhg O J Y=>?_;refine yE4 (id hg) λo es ep t=>yB2 λZ S=>?_;refine yI2 (.ref s.heap.objs.size) _ #[I.laid (λb o e=>hk b o (vg e) e) (zg _) (show B3 X.prog X.w _ h' _ (pj X.w s.heap.objs.size ds) from #[hg,#[o,Z],λh1 h2 g k=>?_]),rfl,q _ ds (I.hok.fresh (zg _)) O (λx=>?_) ?_]
 .revert g;refine yF4 λo es ep t=>yB2 λZ BY=>?_;exact yI4 o es ep t #[k o Z,BY]
 .rw[J,xq,F];exact w6 0 x
 .rw[Y,<-F];simpa using hm
end
theorem jZ{α:Type}:∀(l:List α) (i:Nat) (hi:i<l.length),(l[i]::l.eraseIdx i).Perm l
 | x::l,0,_=>.rfl
 | x::l,i+1,hi=>(List.Perm.swap x (l[i]'(by simpa using hi)) (l.eraseIdx i)).trans (List.Perm.cons x (jZ l i (by simpa using hi)))
theorem v8{α:Type}(next:Nat->Nat):∀(F k:Nat) (left:List α) (out:Array α),F=left.length->(pickOrder.go next F k left out).toList.Perm (out.toList++left)
 | 0,k,left,out,h=>by
  have:left=[]:=zaT h.symm;subst this;unfold pickOrder.go;simp
 | F+1,k,left,out,h=>by
  unfold pickOrder.go;have hi:next k%left.length<left.length:=Nat.mod_lt _ ()
  rw[zd hi];dsimp only;refine(v8 next F (k+1) _ _ (by rw[List.length_eraseIdx];rw[Lz hi];lia)).trans ?_;rw[KS,oU];refine List.Perm.append_left _ ?_;exact jZ _ _ hi
theorem AI{α:Type}(next:Nat->Nat)(xs:Array α):(pickOrder next xs).toList.Perm xs.toList:=by
 unfold pickOrder;have:=v8 next xs.size 0 xs.toList #[] '~'
 simpa using this
section
variable{M:Model}{A:Me}{E:LZ}
theorem vq{s:so}{Q:Nat->so->Prop}(F:n≠0)(h:∀i d',i<n->Q i {s with drawn:=d'}):I_ M A (choose .order n) Q E s:=λΓ p J=>by
 show Sem.wp M Γ (.choose .order n .pure) _ _ _ _;rw[Sem.wp_choose];refine#[F,?_];rw[Sem.wp_pure];exact h _ _ (Nat.mod_lt _ ())
theorem p9{α:Type}:∀(n:Nat) (xs:List α) (s:so) (Q:List α->so->Prop),n=xs.length->(∀ys d',ys.Perm xs->Q ys {s with drawn:=d'})->I_ M A (drawOrder n xs) Q E s
 | 0,xs,s,Q,hn,h=>by
  have:xs=[]:=zaT hn.symm;subst this;unfold drawOrder;exact Lp (by have:=h [] s.drawn .nil;cases s;exact this)
 | n+1,[],s,Q,hn,h=>by simp at hn
 | n+1,x::xs,s,Q,hn,h=>by
  unfold drawOrder;refine Lo (vq '~' λi d' hi=>?_);rw[zd hi];dsimp only;refine Lo (p9 n _ _ _ (by rw[List.length_eraseIdx,Lz hi];lia) λys F J=>?_);refine Lp ?_;exact h _ F ((List.Perm.cons _ J).trans (jZ _ _ hi))
end
theorem B6:Slot "set_iterator" "__next__" "set_iterator.__next__" :=
 .of (owner := "set_iterator") (n := "__next__") (by rw[typeLookup_type,builtinLookup_eq_fast];kernel_rfl) ⋯ ⋯ ⋯
  (by first | exact .inl ⋯ | exact .inr ⋯) (by rw[isSubtype_type];kernel_rfl)
theorem fX:entryFor table "set_iterator.__next__" = Sm Mv.«set_iterator.__next__»:=entryFor_of_tree (by kernel_rfl)
theorem pA:entryFor table "set.__iter__" = Sm Mv.«frozenset.__iter__»:=
 entryFor_alias (id' := "frozenset.__iter__") (by kernel_rfl) rfl ⋯ (by kernel_rfl)
theorem tf : Manifest.owners.lookup (String.ofList ['r','o','t','a','r','e','t','i','_','t','e','s'].reverse) = Sm Manifest.sig_set_iterator := by kernel_rfl
theorem gD(a:B_):argsOk "set_iterator.__next__" #[[a],[]]:=by
 unfold argsOk;rw [signature?_of (id := "set_iterator.__next__") (n:=['_','_','t','x','e','n','_','_']) (o:=['r','o','t','a','r','e','t','i','_','t','e','s']) (by kernel_rfl) tf];kernel_rfl
section
variable{prog:L_}{w:K_}{A:Me}{E:LZ}{s:so}
noncomputable def g_(w:K_)(a:o_)(ep:Nat)(es:Array (Int×B_)):MF:=((if w.params.followText "set-order" then pickOrder (w.params.setOrder a ep) es else es).toList.map (·.2))
noncomputable def dZ(w:K_)(t:Mf)(i:Nat):Nat:=if w.params.followText "set-order" then 0 else if i=0 then 0 else t.place.getD (i-1) 0+1
theorem ke(a:o_)(ep:Nat)(es:Array (Int×B_)):(g_ w a ep es).Perm (es.toList.map (·.2)):=by
 unfold g_;split
 .exact(AI _ _).map _
 .exact .rfl
theorem pZ{a:o_}{o:Obj}{es:Array (Int×B_)}{ep:Nat}{t:Mf}{i:Nat}{Q:Option (B_×Nat)->so->Prop}(W:s.heap.get? a=Sm o)(hd:o.data = .set es ep t)(hf:t.fits es.size=true)(hg:cQ (c_ w) t)(hi:i<=es.size)
  (Y:w.params.followText "set-order" = true\/(!t.plain&&decide (es.size>1))=false) (h:Q (((g_ w a ep es)[i]?).map λx=>(x,dZ w t (i+1))) s):I_ (model prog w) A (setNext a (dZ w t i) i ep) Q E s:=by
 have Z:t.place.size=es.size:=by
  unfold Mf.fits at hf;simp only[Ld,beq_iff_eq]at hf;exact hf.1
 unfold setNext;refine Lo (Ny W hd hf ?_);refine Lo ?_;unfold setsByText;refine Lo (Ow (Lp ?_));show I_ _ _ (if w.params.followText "set-order" = true then _ else _) _ _ _;unfold g_ dZ at h;unfold dZ;cases hb:w.params.followText "set-order" with
 | true=>
  rw[hb]at h;simp only[if_true]at h |-
  rw[Lu '~'];refine Lo ?_;unfold setWalk;refine Lo (Ny W hd hf ?_);refine Lo ?_;unfold setsByText;refine Lo (Ow (Lp ?_));show I_ _ _ (if w.params.followText "set-order" = true then _ else _) _ _ _;rw[Lz hb];refine Lo (Ow (Lp ?_));refine Lp ?_;rw[zz,Option.map_map,JB]at h;exact h
 | false=>
  rw[hb]at h;simp only[sJ,if_false]at h |-
  have J:t.led=true:=by rw[hg.led];unfold c_;rw[hb];rfl
  refine Oj (λU=>?_) (λ_=>?_)
  .rcases Y with z | z
   .rw[hb]at z;cases z
   .exact absurd (z.symm.trans U) ∅
  refine Lo ?_;show I_ _ _ (if (!t.led && !es.isEmpty)=true then unsupported "set:maker-not-led" else pure Unit.unit) _ _ _;rw[Lu (by rw[J];simp)];refine Lp (Lp ?_);have O:M7 t.place (if i=0 then 0 else t.place.getD (i-1) 0+1)=i:=by
   by_cases h0:i=0
   .rw[Lz h0,yK hg.rise,h0]
   .have S:i-1<t.place.size:=()
    rw[Lu h0,show t.place.getD (i-1) 0=t.place[i-1] by simp[Array.getD,S],xS hg.rise S];lia
  rw[O];rw[zz,JB,Lu (),Nat.add_sub_cancel]at h;by_cases hlt:i<es.size
  .have F:i<t.place.size:=()
   rw[IC hlt,IC F];rw[IC hlt,show t.place.getD i 0=t.place[i] by simp[Array.getD,F]]at h;exact h
  .rw[zbj ()];rw[zbj ()]at h;exact h
end
section
variable{prog:L_}{w:K_}{A:Me}{E:LZ}{s:so}
def G4(h:LY)(it:o_)(first:B_)(i:Nat)(a:o_)(n ep:Nat):Prop:=∃o,h.get? it=Sm o/\o.cls = .type "set_iterator" /\ o.data = .fields #v[first,.int i 0,.ref a,.int n 0,.int ep 0]
theorem G4.typeIs{first:B_}(x:G4 s.heap it first i a n ep):s.TypeIs (.ref it) "set_iterator" := let ⟨o,ho,hc,_⟩:=x;#[o,ho,hc]
theorem Fd{t:Mf}{v:B_}{Q:MG->so->Prop}(S:G4 s.heap it (.int (dZ w t i) 0) i a es.size ep)(ho:s.heap.get? a=Sm o)(hd:o.data = .set es ep t)(hf:t.fits es.size=true)(hg:cQ (c_ w) t)
  (hn:w.params.followText "set-order" = true\/(!t.plain&&decide (es.size>1))=false) (hi:i<es.size) (hv:(g_ w a ep es)[i]?=Sm v)
  (hQ:∀h',G4 h' it (.int (dZ w t (i+1)) 0) (i+1) a es.size ep->M5 it s.heap h'->Q (Sm v) {s with heap:=h'}):I_ (model prog w) A (pyNext (.ref it)) Q E s:=by
 refine yE1 (id S) λoi=>yB3 λW Z U=>?_;unfold pyNext;refine Lo (NK (Nu (name:=Str.ofString "__next__") S.typeIs B6 (MW B6 S.typeIs fX ?_ (gD _))));unfold Mv.«set_iterator.__next__»;refine Lo (Lp ?_);refine Lo (Ol W U ?_);dsimp only;refine Lo (Ox ho hd hf ?_);rw[Lu '~'];simp only[uv];refine Lo (pZ ho hd hf hg () hn ?_);rw[hv];show I_ _ _ (setField (.ref it) 0 (rawInt (dZ w t (i+1):Nat)) >>= λ_=>setField (.ref it) 1 (rawInt ((i:Int)+1)) >>= λ_=>ret v) _ _ _;refine Lo (NC W U '~' ?_);have F:=J1 U (λxs=>xs.setIfInBounds 0 (rawInt (dZ w t (i+1):Nat)));have J:=JC (On (λxs=>xs.setIfInBounds 0 (rawInt (dZ w t (i+1):Nat)))) W (zaU F);refine Lo (NC J F '~' ?_);have O:=J1 F (λxs=>xs.setIfInBounds 1 (rawInt ((i:Int)+1)));have Y:=JC (On (λxs=>xs.setIfInBounds 1 (rawInt ((i:Int)+1)))) J (zaU O);refine Lp #[_,rfl,Lp (hQ _ #[_,Y,?_,?_] ((IJ ..).trans (IJ ..)))]
 .rw[za7,za7];exact Z
 .rw[O];simp[rawInt]
theorem Ia{t:Mf}{Q:MG->so->Prop}(hh:A.handled=Nn)(F:G4 s.heap it (.int (dZ w t es.size) 0) es.size a es.size ep)(S:s.heap.get? a=Sm o)(hd:o.data = .set es ep t)(hf:t.fits es.size=true)(hg:cQ (c_ w) t)
  (U:w.params.followText "set-order" = true\/(!t.plain&&decide (es.size>1))=false)
  (Y:∀h',NU it s.heap h'->Q Nn {s with heap:=h'}):I_ (model prog w) A (pyNext (.ref it)) Q E s:=by
 refine yE1 (id F) λZ=>yB3 λO W J=>?_;have hv:(g_ w a ep es)[es.size]?=Nn:=K5 (by rw[(ke (w:=w) a ep es).length_eq];simp);unfold pyNext;refine Lo (NK (Nu (name:=Str.ofString "__next__") F.typeIs B6 (MW B6 F.typeIs fX ?_ (gD _))));unfold Mv.«set_iterator.__next__»;refine Lo (Lp ?_);refine Lo (Ol O J ?_);dsimp only;refine Lo (Ox S hd hf ?_);rw[Lu '~'];simp only[uv];refine Lo (pZ S hd hf hg (zg _) U ?_);rw[hv];show I_ _ _ (setField (.ref it) 2 .none >>= λ_=>newExc (.type "StopIteration") [] >>= λe=>raiseNew e) _ _ _;refine Lo (NC O J '~' ?_);refine Lo ?_;simp only[newExc,newTuple];refine Lo (MZ ?_ (by size_fits));refine Lo (m:=firstArgMember _ _) (Ov (a:=MQ) (by first | rfl | (simp only[firstArgMember];rfl)) ?_);refine MZ ?_ (by size_fits);simp only[raiseNew];refine Lo (wpAny_handled ?_);rw[show A.in1.handled=Nn from hh];refine Lo (Lp (wpAny_throw ?_));refine Lo (N4 (T := "StopIteration") (b:=true) #[_,yQ _ rfl,rfl] OK ?_);exact Lp (Y _ (((IJ ..).extBut.push _).push _))
end
section
variable{prog:L_}{w:K_}{A:Me}{E:LZ}{s:so}
theorem za{t:Mf}{Q:Bool->so->Prop}(F:s.heap.get? a=Sm o)(hd:o.data = .set es ep t)(hf:t.fits es.size=true)
  (h:Q (!(w.params.followText "set-order")&&(!t.plain&&decide (es.size>1))) s):I_ (model prog w) A (setDrawn a) Q E s:=by
 unfold setDrawn;refine Lo (Ny F hd hf ?_);refine Lo ?_;unfold setsByText;refine Lo (Ow (Lp ?_));exact Lp h
theorem E_{t:Mf}{Q:LZ}(J:s.heap.get? a=Sm o)(hx:o.ExactSet)(hd:o.data = .set es ep t)(hf:t.fits es.size=true)(O:es.size<scanBound)
  (h1:(!(w.params.followText "set-order")&&(!t.plain&&decide (es.size>1)))=false->Q (.ref s.heap.objs.size) {s with heap:=s.heap.push {cls:=.type "set_iterator",data:=.fields #v[.int 0 0,.int 0 0,.ref a,.int es.size 0,.int ep 0]}})
  (h2:∀(ps:MB) d',ps.Perm (List.range es.size)->Q (.ref (s.heap.objs.size+1)) {s with heap:=(s.heap.push {cls:=.type "tuple",data:=.seq (ps.map λi:Nat=>rawInt i).toArray}).push {cls:=.type "set_iterator",data:=.fields #v[.ref s.heap.objs.size,.int 0 0,.ref a,.int es.size 0,.int ep 0]},drawn:=d'}) :
  I_ (model prog w) A (pyIter (.ref a)) Q E s:=by
 have U:s.TypeIs (.ref a) "set" := #[o,J,hx.1];refine wpAny_pyIter_slot U F.slot_set_iter (MW F.slot_set_iter U pA ?_ (F.args_set_iter_1 _));unfold Mv.«frozenset.__iter__»;refine Lo (Lp ?_);refine Lo ?_;unfold Mv.Frozenset.sizeOf;refine Lo (Ox J hd hf (Lp ?_));refine Lo (za J hd hf ?_);dsimp only;refine Oj (λS=>?_) (λS=>?_)
 .refine Lo (p9 _ _ _ _ '~' λps d' Y=>?_);have W:ps.length=es.size:=by rw[Y.length_eq];simp
  refine Lo ?_;unfold newTuple;have hz:=OJ O;refine MZ ?_ (by show (List.map _ ps).toArray.size<=L9;simp;lia);refine Lo ?_;unfold setEpoch;refine Lo (Ny (yc _ J) hd hf (Lp ?_));refine Lo ?_;unfold newFields;refine MZ (Lp #[_,rfl,yI2 ("set_iterator") _ #[#[_,yQ _ rfl,rfl],B6.lookup,?_]]);rw[sK];exact h2 ps d' Y
 .refine Lo (Lp ?_);refine Lo ?_;unfold setEpoch;refine Lo (Ny J hd hf (Lp ?_));refine Lo ?_;unfold newFields;refine MZ (Lp #[_,rfl,yI2 ("set_iterator") _ #[#[_,yQ _ rfl,rfl],B6.lookup,?_]]);exact h1 (by simpa using S)
end
section
variable{prog:L_}{w:K_}{A:Me}{E:LZ}{s:so}
theorem FN{W:o_}{ot:Obj}{ct:Nat}{t:Mf}{k:Nat}{v:B_}{hh:Int}{Q:MG->so->Prop}(J:G4 s.heap it (.ref W) i a es.size ep)(ho:s.heap.get? a=Sm o)(hd:o.data = .set es ep t)(hf:t.fits es.size=true)
  (Z:s.heap.get? W=Sm ot) (Y:ot.data = .seq (ps.map λi:Nat=>rawInt i).toArray ct) (hk:ps[i]?=Sm k) (hv:es[k]?=Sm (hh,v))
  (hQ:∀h',G4 h' it (.ref W) (i+1) a es.size ep->M5 it s.heap h'->Q (Sm v) {s with heap:=h'}):I_ (model prog w) A (pyNext (.ref it)) Q E s:=by
 refine yE1 (id J) λoi=>yB3 λS ab O=>?_;unfold pyNext;refine Lo (NK (Nu (name:=Str.ofString "__next__") J.typeIs B6 (MW B6 J.typeIs fX ?_ (gD _))));unfold Mv.«set_iterator.__next__»;refine Lo (Lp ?_);refine Lo (Ol S O ?_);dsimp only;refine Lo (Ox ho hd hf ?_);rw[Lu '~'];refine Lo (Ni Z Y ?_);simp only[uv];have e1:(List.map (λi:Nat=>rawInt (i:Int)) ps).toArray[i]?=Sm (.int (k:Int) 0):=by
  rw[List.getElem?_toArray,zz,hk];rfl
 rw[e1];dsimp only;refine Lo ?_;unfold setNextDrawn;refine Lo (Ny ho hd hf ?_);dsimp only;simp only[uv];rw[Lu '~'];rw[hv];refine Lp ?_;refine Lo (NC S O '~' ?_);have F:=J1 O (λxs=>xs.setIfInBounds 1 (rawInt ((i:Int)+1)));have U:=JC (On (λxs=>xs.setIfInBounds 1 (rawInt ((i:Int)+1)))) S (zaU F);refine Lp #[_,rfl,Lp (hQ _ #[_,U,?_,?_] (IJ ..))]
 .rw[za7];exact ab
 .rw[F];simp[rawInt]
theorem Hx{Z:o_}{ot:Obj}{ct:Nat}{t:Mf}{Q:MG->so->Prop}(hh:A.handled=Nn)(J:G4 s.heap it (.ref Z) es.size a es.size ep)(ho:s.heap.get? a=Sm o)(hd:o.data = .set es ep t)(hf:t.fits es.size=true)
  (Y:s.heap.get? Z=Sm ot) (W:ot.data = .seq (ps.map λi:Nat=>rawInt i).toArray ct) (hp:ps.length=es.size)
  (hQ:∀h',NU it s.heap h'->Q Nn {s with heap:=h'}):I_ (model prog w) A (pyNext (.ref it)) Q E s:=by
 refine yE1 (id J) λoi=>yB3 λS ab O=>?_;unfold pyNext;refine Lo (NK (Nu (name:=Str.ofString "__next__") J.typeIs B6 (MW B6 J.typeIs fX ?_ (gD _))));unfold Mv.«set_iterator.__next__»;refine Lo (Lp ?_);refine Lo (Ol S O ?_);dsimp only;refine Lo (Ox ho hd hf ?_);rw[Lu '~'];refine Lo (Ni Y W ?_);simp only[uv];have e1:(List.map (λi:Nat=>rawInt (i:Int)) ps).toArray[es.size]?=Nn:=by
  rw[List.getElem?_toArray,K5 (by simp;lia)]
 rw[e1];dsimp only;refine Lo (NC S O '~' ?_);have F:=J1 O (λxs=>xs.setIfInBounds 0 (rawInt 0));have U:=JC (On (λxs=>xs.setIfInBounds 0 (rawInt 0))) S (zaU F);refine Lo (NC U F '~' ?_);refine Lo ?_;simp only[newExc,newTuple];refine Lo (MZ ?_ (by size_fits));refine Lo (m:=firstArgMember _ _) (Ov (a:=MQ) (by first | rfl | (simp only[firstArgMember];rfl)) ?_);refine MZ ?_ (by size_fits);simp only[raiseNew];refine Lo (wpAny_handled ?_);rw[show A.in1.handled=Nn from hh];refine Lo (Lp (wpAny_throw ?_));refine Lo (N4 (T := "StopIteration") (b:=true) #[_,yQ _ rfl,rfl] OK ?_);exact Lp (hQ _ ((((IJ ..).trans (IJ ..)).extBut.push _).push _))
end
theorem k5:Slot "set_iterator" "__iter__" "set_iterator.__iter__" :=
 .of (owner := "set_iterator") (n := "__iter__") (by rw[typeLookup_type,builtinLookup_eq_fast];kernel_rfl) ⋯ ⋯ ⋯
  (by first | exact .inl ⋯ | exact .inr ⋯) (by rw[isSubtype_type];kernel_rfl)
theorem qK:entryFor table "set_iterator.__iter__" = Sm Mv.«dict_keyiterator.__iter__»:=
 entryFor_alias (id' := "dict_keyiterator.__iter__") (by kernel_rfl) rfl ⋯ (by kernel_rfl)
theorem ut(a:B_):argsOk "set_iterator.__iter__" #[[a],[]]:=by
 unfold argsOk;rw [signature?_of (id := "set_iterator.__iter__") (n:=['_','_','r','e','t','i','_','_']) (o:=['r','o','t','a','r','e','t','i','_','t','e','s']) (by kernel_rfl) tf];kernel_rfl
section
variable{prog:L_}{w:K_}{A:Me}{E:LZ}{s:so}
theorem wR{first:B_}{Q:LZ}(F:G4 s.heap it first i a n ep)(h:Q (.ref it) s):I_ (model prog w) A (pyIter (.ref it)) Q E s:=
 wpAny_pyIter_slot F.typeIs k5 (MW k5 F.typeIs qK (Lo (Lp (Lp #[_,rfl,yI2 ("set_iterator") _ #[F.typeIs,B6.lookup,h]]))) (ut _))
theorem G4.at'{h h':LY}{first:B_}(x:G4 h it first i a n ep)(e:∀o,h.get? it=Sm o->h'.get? it=Sm o):G4 h' it first i a n ep:=let ⟨o,ho,r⟩:=x;#[o,e _ ho,r]
theorem Ki(hh:A.handled=Nn)(I a:o_)(U:a≠I){t:Mf}(hd:o.data = .set es ep t)(hf:t.fits es.size=true)(hg:cQ (c_ w) t)(Y:w.params.followText "set-order" = true\/(!t.plain&&decide (es.size>1))=false) :
  Walks prog w A I [I,a] [I] es.size (λi v=>(g_ w a ep es)[i]?=Sm v) (λi h=>G4 h I (.int (dZ w t i) 0) i a es.size ep/\h.get? a=Sm o) where
 sub:=λb F=>by simp at F;simp[F]
 frame:=λ_ _ _ st Z=>#[st.1.at' λo e=>Z I '~' o e,Z a '~' o st.2]
 item:=λi s Q E hi st J=>by
  have hl:(g_ w a ep es).length=es.size:=by rw[(ke (w:=w) a ep es).length_eq];simp
  have hv:(g_ w a ep es)[i]?=Sm (g_ w a ep es)[i]:=zd ();refine Fd st.1 st.2 hd hf hg Y hi hv λh' S O=>?_;exact J _ h' s.toks hv #[S,O.extBut a o U st.2] (λb o F e=>O.extBut b o (λh=>F (by simp[h])) e)
 done:=λs Q E st J=>Ia hh st.1 st.2 hd hf hg Y λh' W=>J h' s.toks λb o F e=>W b o (λh=>F (by simp[h])) e
 self:=λ_ _ _ _ st J=>wR st.1 J
theorem J4(hh:A.handled=Nn)(I a O:o_)(ab:a≠I)(ad:O≠I){ot:Obj}{ct:Nat}{t:Mf}(hd:o.data = .set es ep t)(hf:t.fits es.size=true)(Y:ot.data = .seq (ps.map λi:Nat=>rawInt i).toArray ct)(hp:ps.Perm (List.range es.size)) :
  Walks prog w A I [I,a,O] [I] es.size (λi v=>(ps.map λk=>(es.getD k (0,.none)).2)[i]?=Sm v) (λi h=>G4 h I (.ref O) i a es.size ep/\h.get? a=Sm o/\h.get? O=Sm ot) where
 sub:=λb U=>by simp at U;simp[U]
 frame:=λ_ _ _ st S=>#[st.1.at' λo e=>S I '~' o e,S a '~' o st.2.1,S O '~' ot st.2.2]
 item:=λi s Q E hi st W=>by
  have hl:ps.length=es.size:=by rw[hp.length_eq];simp
  have S:ps[i]?=Sm (ps[i]'()):=zd ();have F:ps[i]'()<es.size:=LK.mp (hp.mem_iff.mp (gV _));have hv:(ps.map λk=>(es.getD k (0,.none)).2)[i]?=Sm (es[ps[i]'()]'F).2:=by
   rw[zz,S];simp[Array.getD,F]
  refine FN st.1 st.2.1 hd hf st.2.2 Y S (hh:=(es[ps[i]'()]'F).1) (v:=(es[ps[i]'()]'F).2) (IC F) λh' Z J=>?_;exact W _ h' s.toks hv #[Z,J.extBut a o ab st.2.1,J.extBut O ot ad st.2.2] (λb o U e=>J.extBut b o (λh=>U (by simp[h])) e)
 done:=λs Q E st W=>Hx hh st.1 st.2.1 hd hf st.2.2 Y (by rw[hp.length_eq];simp) λh' ac=>W h' s.toks λb o U e=>ac b o (λh=>U (by simp[h])) e
 self:=λ_ _ _ _ st W=>wR st.1 W
end
section
variable{prog:L_}{w:K_}{A:Me}{E:LZ}{s:so}
theorem se{Q:Bool->so->Prop}(O:s.TypeIs (.ref a) "set") (h:Q false s):I_ (model prog w) A (O2 (.ref a)) Q E s:=by
 unfold O2;refine Lo (NR O F.slot_set_len.lookup ?_);generalize hid:("set.__len__" : String)=S
 wp_delta
 rw[show splitId S=Sm ("set","__len__") from by subst hid;decide +kernel];subst hid;refine Lo (N4 (T := "set") (b:=true) O (by rw[isSubtype_type];kernel_rfl) ?_);refine Oj (λJ=>absurd J ∅) (λ_=>?_);refine Oj (λ_=>?_) (λJ=>absurd ⋯ J);refine Lo (NQ O ?_);exact Lp h
theorem DU{l:MF}{acc:MM}(h:ItemsOf (λi v=>l[i]?=Sm v) acc l.length):acc.toList=l:=by
 refine List.ext_getElem? λi=>?_;rw[JB];cases e:acc[i]? with
 | some v=>exact(h.2 i v e).symm
 | none=>
  have:acc.size<=i:=by simpa using e
  exact(K5 (by have:=h.1;lia)).symm
theorem vv(F:ps.Perm (List.range es.size)):(ps.map λk=>(es.getD k (0,.none)).2).Perm (es.toList.map (·.2)):=by
 refine(F.map _).trans ?_;refine List.Perm.of_eq ?_;refine List.ext_getElem '~' λi h1 h2=>?_;have hi:i<es.size:=by simpa using h1
 simp[Array.getD,hi]
theorem yN{R:Nw->so->Prop}{a:o_}{o:Obj}{es:Array (Int×B_)}{ep:Nat}{t:Mf}(hh:A.handled=Nn)(ho:s.heap.get? a=Sm o)(hx:o.ExactSet)(hd:o.data = .set es ep t)(hf:t.fits es.size=true)(ad:es.size<scanBound)(hg:cQ (c_ w) t)
  (S:o_) (res:B_) (c₀ : Nat) (hS:s.heap.get? S=Sm {cls:=.type "list",data:=.seq #[] c₀})
  (hR:∀h' d' tk O c',(∀b o,b≠S->s.heap.get? b=Sm o->h'.get? b=Sm o)->h'.get? S=Sm {cls:=.type "list",dict:=Nn,data:=.seq O c',slots:=#[]}->O.toList.Perm (es.toList.map (·.2))->R (.ok (.ret res)) {s with heap:=h',drawn:=d',toks:=tk}) :
  I_ (model prog w) A.in1 (OL (.ref S) (.ref a) res)
   (λbc s'=>match bc with | .done f=>R (.ok f) s' | .again c'=>c'.quiet=true/\codeAny (model prog w) A c' R s') (λe s'=>R (.error e) s') s:=by
 have hz:=OJ ad;have ac:a<s.heap.objs.size:=vg ho;have Z:S<s.heap.objs.size:=vg hS;have ag:S≠a:=λe=>by
  rw[e,ho]at hS;cases hS;cases hd
 have hT:s.TypeIs (.ref a) "set" := #[o,ho,hx.1];have e1:Mv.List.listSameRef (.ref S) (.ref a)=false:=by simp[Mv.List.listSameRef,ag]
 have a8:∀(h2:LY) (d2:Drawn) (c tk:Nat) (I:o_) (fp:MD) (l:MF) (St:Nat->LY->Prop),l.length=es.size->l.Perm (es.toList.map (·.2))->Walks prog w A.in1 I fp [I] es.size (λi v=>l[i]?=Sm v) St->S∉fp->s.heap.objs.size<=I->
   (∀b o,b≠S->s.heap.get? b=Sm o->h2.get? b=Sm o)->h2.get? S=Sm {cls:=.type "list",data:=.seq #[] c}->St 0 h2->codeAny (model prog w) A (.builtin "list.extend.loop" #[[.ref S,.ref I,res],[]]) R {s with heap:=h2,drawn:=d2,toks:=tk}:=by
  intro h2 d2 c tk I fp l St hl hp W ab hI hk bg J;refine codeAny_extend_loopS W.toS hz S ab res es.size 0 _ #[] c rfl (mw _) J bg (ItemsOf.nil _) λs' O c' hm a9 a6=>?_;rw[Moved.eq_with hm];refine hR s'.heap d2 s'.toks O c' (λb o hb e=>hm.heap b o (λU=>?_) (hk b o hb e)) a9 (by rw[DU (by rw[hl];exact a6)];exact hp);rcases LH.mp U with e' | U
  .exact hb e'
  .have:=vg e;rw[Lv.mp U]at this;exact absurd this (Nat.not_lt.mpr hI)
 unfold OL;refine Lo (NQ hT ?_);rw[Lu (by rw[e1];decide)];have Y:∀(h2:LY) (d2:Drawn) (I:o_) (fp:MD) (l:MF) (St:Nat->LY->Prop),l.length=es.size->l.Perm (es.toList.map (·.2))->Walks prog w A.in1 I fp [I] es.size (λi v=>l[i]?=Sm v) St->S∉fp->s.heap.objs.size<=I->
   (∀b o,s.heap.get? b=Sm o->h2.get? b=Sm o)->St 0 h2->
   I_ (model prog w) A.in1 (updateSeq S (·.push .none) >>= λ_=>updateSeq S (·.pop)) (λ_ s'=>codeAny (model prog w) A (.builtin "list.extend.loop" #[[.ref S,.ref I,res],[]]) R s') (λe s'=>R (.error e) s') {s with heap:=h2,drawn:=d2}:=by
  intro h2 d2 I fp l St hl hp W ab hI hk J;have a7:=hk _ _ hS;refine Lo (wpAny_updateSeq a7 rfl ?_);have a4:=JC (Ng (·.push MQ)) a7 rfl;refine wpAny_updateSeq (hz:=by seq_fits) a4 rfl ?_;have be:=JC (Ng (·.pop)) a4 rfl;have a5:∀b o,b≠S->h2.get? b=Sm o->((h2.update S (Ng (·.push MQ))).update S (Ng (·.pop))).get? b=Sm o:=λb o hb e=>
   (za4 _ _ (u6 hb)).trans ((za4 _ _ (u6 hb)).trans e)
  exact a8 _ d2 _ s.toks I fp l St hl hp W ab hI (λb o hb e=>a5 b o hb (hk b o e)) be (W.frame 0 _ _ J λb hb o e=>a5 b o (λz=>ab (z ▸ hb)) e)
 refine Lo (E_ ho hx hd hf ad (λa3=>?_) λps d' hp=>?_)
 .have as:so.TypeIs {s with heap:=s.heap.push {cls:=.type "set_iterator",data:=.fields #v[.int 0 0,.int 0 0,.ref a,.int es.size 0,.int ep 0]}} (.ref a) "set" := #[o,yc _ ho,hx.1];refine Lo (My (se as ?_));have hn:w.params.followText "set-order" = true\/(!t.plain&&decide (es.size>1))=false:=by
   cases hb:w.params.followText "set-order" with
   | true=>exact .inl rfl
   | false=>rw[hb]at a3;exact .inr (by simpa using a3)
  have J:G4 (s.heap.push {cls:=.type "set_iterator",data:=.fields #v[.int 0 0,.int 0 0,.ref a,.int es.size 0,.int ep 0]}) s.heap.objs.size (.int (dZ w t 0) 0) 0 a es.size ep:=by
   refine#[_,yQ _ rfl,rfl,?_];unfold dZ;split<;>simp
  refine Oj (λ_=>?_) (λal=>absurd ⋯ al);refine Lo (M_ ?_);refine Lo (Nb (Y _ s.drawn _ _ _ _ (by rw[(ke (w:=w) a ep es).length_eq];simp) (ke a ep es) (Ki (A:=A.in1) hh s.heap.objs.size a (yG ac) hd hf hg hn) (λhm=>?_) (zg _) (λb o e=>yc _ e) #[J,yc _ ho]) (λ_ s' hc=>Lp #[N7 F.plain_extend_loop _,hc]) (λ_ _ he=>he));rcases LH.mp hm with z | z
  .exact absurd z (yG Z)
  .exact ag (Lv.mp z)
 .have as:so.TypeIs {s with heap:=(s.heap.push {cls:=.type "tuple",data:=.seq (ps.map λi:Nat=>rawInt i).toArray}).push {cls:=.type "set_iterator",data:=.fields #v[.ref s.heap.objs.size,.int 0 0,.ref a,.int es.size 0,.int ep 0]},drawn:=d'} (.ref a) "set" := #[o,yc _ (yc _ ho),hx.1];refine Lo (My (se as ?_));refine Oj (λ_=>?_) (λal=>absurd ⋯ al);refine Lo (M_ ?_);have J:G4 ((s.heap.push {cls:=.type "tuple",data:=.seq (ps.map λi:Nat=>rawInt i).toArray}).push {cls:=.type "set_iterator",data:=.fields #v[.ref s.heap.objs.size,.int 0 0,.ref a,.int es.size 0,.int ep 0]}) (s.heap.objs.size+1) (.ref s.heap.objs.size) 0 a es.size ep:=by
   have:=yQ (s.heap.push {cls:=.type "tuple",data:=.seq (ps.map λi:Nat=>rawInt i).toArray}) (rfl:Obj.isFreed {cls:=.type "set_iterator",data:=.fields #v[.ref s.heap.objs.size,.int 0 0,.ref a,.int es.size 0,.int ep 0]}=false);rw[sK]at this;exact#[_,this,rfl,rfl]
  refine Lo (Nb (Y _ d' _ _ _ _ (by rw[zb,hp.length_eq];simp) (vv hp) (J4 (A:=A.in1) hh (s.heap.objs.size+1) a s.heap.objs.size (yG (K0 ac)) (yG (za2 _)) hd hf rfl hp) (λhm=>?_) (Nat.le_succ _) (λb o e=>yc _ (yc _ e)) #[J,yc _ (yc _ ho),yc _ (yQ _ rfl)]) (λ_ s' hc=>Lp #[N7 F.plain_extend_loop _,hc]) (λ_ _ he=>he));rcases LH.mp hm with z | z
  .exact absurd z (yG (K0 Z))
  .rcases LH.mp z with z | z
   .exact ag z
   .exact absurd (Lv.mp z) (yG Z)
theorem jQ{t:Mf}{Q:MF->so->Prop}(hh:A.handled=Nn)(ho:s.heap.get? a=Sm o)(hx:o.ExactSet)(hd:o.data = .set es ep t)(hf:t.fits es.size=true)(U:es.size<scanBound)(hg:cQ (c_ w) t)
  (hQ:∀h' d' S acc,(∀b o,s.heap.get? b=Sm o->h'.get? b=Sm o)->s.heap.objs.size<h'.objs.size->acc.Perm (es.toList.map (·.2))->Q acc {s with heap:=h',drawn:=d',toks:=S}):I_ (model prog w) A (collect (.ref a)) Q E s:=by
 have ext:∀R:Nw->so->Prop,(∀h' d' S J W,(∀b o,s.heap.get? b=Sm o->h'.get? b=Sm o)->h'.get? s.heap.objs.size=Sm {cls:=.type "list",dict:=Nn,data:=.seq J W,slots:=#[]}->J.toList.Perm (es.toList.map (·.2))->R (.ok (.ret (.ref s.heap.objs.size))) {s with heap:=h',drawn:=d',toks:=S})->
   codeAny (model prog w) A (.builtin "proto.collect" #[[.ref a],[]]) R s:=λR hR=>by
  refine NB F.entry_proto_collect ?_;rw[JN F.plain_proto_collect _];show I_ _ A.in1 (newList [] >>= λl=>again (.builtin "list.__iadd__" #[[l,.ref a],[]])) _ _ s;refine Lo (MZ ?_);refine Lp #[N7 zbk _,NB F.entry_list_iadd ?_];rw[JN zbk _];show I_ _ A.in1 (OL (.ref s.heap.objs.size) (.ref a) (.ref s.heap.objs.size)) _ _ _;refine yN (R:=R) (s:={s with heap:=s.heap.push {cls:=.type "list",data:=.seq ([]:MF).toArray}}) hh (yc _ ho) hx hd hf U hg s.heap.objs.size _ 0 (yQ _ rfl) λh' d' S J W Y O Z=>?_;exact hR h' d' S J W (λb o e=>Y b o (yG (vg e)) (yc _ e)) O Z
 unfold collect;refine Lo (wpAny_runValue (ext _ λh' d' S J W Y O Z=>?_));show I_ _ A (load s.heap.objs.size >>= _) _ _ _;refine Lo (wpAny_load O ?_);exact Lp (hQ h' d' S J.toList Y (vg O) Z)
noncomputable def oq(v:B_):Int:=match v with
 | .int d _=>d
 | _=>0
theorem xb:∀(l:MF),(∀v∈l,∃F,v = .int (oq v) F)->Nx l (l.map oq)
 | [],_=>.nil
 | v::l,h=>by
  let#[F,e]:=h v yd;have r:=xb l λu J=>h u (yh _ J);rw[yR];generalize oq v=d at e |-;subst e;exact .cons d F r
theorem zQ{t:Mf}{Q:LZ}(hh:A.handled=Nn)(ho:s.heap.get? a=Sm o)(hx:o.ExactSet)(hd:o.data = .set es ep t)(hf:t.fits es.size=true)(ab:es.size<64)(hg:cQ (c_ w) t)
  (hint:∀e∈es.toList,∃S,e.2 = .int (j5 e) S)
  (hQ:∀h' d' S q out c F,(∀b o,s.heap.get? b=Sm o->h'.get? b=Sm o)->s.heap.objs.size<=q->h'.get? q=Sm (seqObj "list" out c)->Nx out.toList F->F.Perm (es.toList.map j5)->F.Pairwise (· <= ·)->Q (.ref q) {s with heap:=h',drawn:=d',toks:=S}) :
  I_ (model prog w) A (call (.builtin "sorted") [.ref a]) Q E s:=by
 refine zbB kind_sorted plain_sorted entry_sorted (args_sorted1 _) ?_;unfold Mv.«sorted»;refine Lo (m:=checkCount "sorted" 1 1 _) (Lp ?_);refine Lo (jQ hh ho hx hd hf (by unfold scanBound;lia) hg λh' d' S acc hk W Y=>?_);have U:acc.length=es.size:=by rw[Y.length_eq];simp
 have hI:Nx acc (acc.map oq):=xb acc λv hv=>by
  let#[e,he,rfl]:=LD.mp (Y.mem_iff.mp hv);exact hint e he
 have O:(acc.map oq).Perm (es.toList.map j5):=by
  have:=Y.map oq;rw[td]at this;exact this
 refine Lo (wpAny_newList ?_ (by rw[U,Np];lia));have J:(h'.push (seqObj "list" acc.toArray 0)).get? h'.objs.size=Sm (seqObj "list" acc.toArray 0):=yQ _ rfl;show I_ _ _ _ _ _ {s with heap:=h'.push (seqObj "list" acc.toArray 0),drawn:=d',toks:=S};refine Lo (My (MW slot_list_sort #[_,J,rfl] entry_list_sort (list_sort_tree J hI () λout F a1 a2 a3=>#[_,rfl,?_]) (args_list_sort _)));let#[c,hc]:=sortedHeap_at (out:=out) J;refine Lp #[_,rfl,hQ _ d' S h'.objs.size out c F (λb o e=>?_) (xx W) hc a1 (a2.trans O) a3];have Z:=vg (hk b o e);rw[sortedHeap_old (yG Z) (by rw[sK];exact K0 Z)];exact yc _ (hk b o e)
end
section
variable{X:Cx}
theorem u3{m:Nat}(hr:CC m X.A):Ck X (.builtin "sorted") (uf (pj X.w)):=by
 intro pins s σ H xs us Q I r h;revert h;refine yF2 λp ds=>yB4 ?_;rintro rfl e S q;let#[u,rfl,ru]:=dg r;cases ru;refine yE4 ((show B3 X.prog X.w H s.heap p (pj X.w p ds) from I.hok p _ e).1) λo es ep t=>yB8 λho hx hd Y hf hg hint O=>?_;have hz:es.size<=60:=by rw[<-O,zb,og]at S;exact S
 have hs:L9=16777216:=Np;refine zQ hr.hd ho hx hd hf () hg hint λh' d' Z U out c J hk W hc a1 a2 a3=>?_;have hl:J.length<=60:=by rw[a2.length_eq,zb,og];exact hz
 have F:=I.laid (t':=Z) (a:=U) (o:=.lst (J.map V.int)) hk W (show B3 X.prog X.w _ h' _ (.lst (J.map V.int)) from #[by rw[zb];lia,yI2 out.toList c #[kU a1,by simpa using hc]]);refine yI2 (.ref U) _ #[?_,rfl,q _ J (I.hok.fresh W) (by rw[<-O];exact a2) a3];exact#[F.ok,F.os,F.bare,F.base,F.loc,F.cell,F.free,F.freeC,F.pin,F.hok,F.len]
theorem xL{m:Nat}(K:KE)(w:K_)(J:CC m X.A)(F:X.K=K:=by rfl)(hw:X.w=w:=by rfl):Ck X (.type "set") (EE K (pj w)):=hw ▸ Bk J F
theorem qM{m:Nat}(w:K_)(F:CC m X.A)(J:X.w=w:=by rfl):Ck X (.builtin "sorted") (uf (pj w)):=J ▸ u3 F
end
end L2
namespace L2
open PySem PySem.Spec PyProof PyProof.Rows
variable{H:Hp}{Q:VK}{xs:MC}
inductive IZ (w:K_):List NE->List (Str×V)->Prop
 | nil:IZ w [] []
 | cons {x:Str} {t:Tok} {y:V} {v:B_} {es:List NE} {kvs:List (Str×V)}:RelV y v->IZ w es kvs->IZ w (⟨Mz w.params x,.str x t,v⟩::es) ((x,y)::kvs)
theorem IZ.vs{P:L_}{w:K_}{es:List NE}{kvs:List (Str×V)}(h:IZ w es kvs):∃vs:List (Str×B_),KV kvs vs/\PySem.Pairs (PySem.strKind P w) es vs/\vs.map (·.1)=kvs.map (·.1)/\∀e∈es,∃k,(PySem.strKind P w).is k e.key=true/\e.hash=(PySem.strKind P w).hash k:=by
 induction h with
 | nil=>exact#[[],.nil,.nil,rfl,λ_ h=>nomatch h]
 | @cons x t y v es kvs r _ ih=>
  revert ih;refine yF1 λvs=>yB4 λh1 h2 J O=>?_;have hx:(PySem.strKind P w).is x (.str x t)=true:=by show NF x (.str x t)=true;simp[NF]
  refine#[(x,v)::vs,.cons #[rfl,r] h1,.cons hx rfl h2,by rw[yR,yR,J],λe F=>?_];rcases LH.mp F with rfl | F
  .exact#[x,hx,rfl]
  .exact O e F
structure Ic (w:K_) (K:KE) (d:o_) (kvs:List (Str×V)):Prop where
 low:(d==sysModules)=false
 nd:(kvs.map (·.1)).Nodup
 at':∃(o:Obj) (es:List NE) (ep:Nat),K.lookup d=Sm o/\o.ExactDict/\o.data = .dict es.toArray ep/\IZ w es kvs
section
variable{X:Cx}{pins:List (o_×Obj)}{σ:St}{H:Hp}{s:so}{d:o_}{kvs:List (Str×V)}
theorem Ic.dict(h:Ic X.w X.K d kvs)(I:Inv X pins σ H s):∃vs:List (Str×B_),KV kvs vs/\s.heap.DictOf (PySem.strKind X.prog X.w) d vs/\∃ob,s.heap.get? d=Sm ob/\ob.dict=Nn:=by
 refine yE3 h.at' λo es ep=>yB4 λh1 h2 J W=>?_;refine yE1 (W.vs (P:=X.prog)) λvs=>yB4 λF S O U=>?_;have e:=I.kIn d o h1;exact#[vs,F,yI3 o es.toArray ep #[e,h2,J,λx hx=>U x (by simpa using hx),by simpa using S,by rw[O];exact h.nd],o,e,h2.2.1]
theorem Bq{P:L_}{w:K_}{k:Str}{u:B_}(r:RelV (.str k) u):(PySem.strKind P w).is k u=true:=by
 let#[t,rfl]:=r;show NF k (.str k t)=true;simp[NF]
end
section
variable{X:Cx}
def Mo(w:K_)(K:KE):R2:=λx y H Q=>∃d kvs k z,x = .ref d/\y = .str k/\Ic w K d kvs/\bY kvs k=Sm z/\Q z H
theorem PD(w:K_)(K:KE)(O:X.w=w:=by rfl)(hK:X.K=K:=by rfl):IG X (Mo w K):=by
 subst O hK;intro value J pins s σ H x y v u Q I Z ry h hs;revert h;refine yF4 λd kvs k z=>yB5 ?_;rintro rfl rfl m l q;cases Z;refine yE1 (m.dict I) λvs=>yB3 λS dd _=>?_;let#[Y,O,U]:=Hd.some_of (v:=z) (o:=valueAt vs k) (by rw[<-l];exact S.val k);have hl:typeLookup (.type "dict") "__getitem__" = pure (Sm (.builtin "dict.__getitem__")):=F.slot_dict_getitem.lookup;exact OG (x:=Y) dd.typeIs hl (wpAny_getItem_of (Bq ry) dd.mapOf O #[rfl,yI2 z H #[I.tok _,U,q]]) hs
def Kv(w:K_)(K:KE):V->MC->Hp->VK->Prop:=λx xs H Q=>∃d kvs k z,x = .ref d/\xs=[.str k,z]/\Ic w K d kvs/\Q ((bY kvs k).getD z) H
theorem F0(w:K_)(K:KE)(U:X.w=w:=by rfl)(hK:X.K=K:=by rfl):Iy X "dict.get" (Kv w K):=by
 subst U hK;intro pins s σ H x vs v us Q I O S h;revert h;refine yF4 λd kvs k z=>yB4 ?_;rintro rfl rfl m q;cases O;refine yE2 (yZ S) λu r=>yB3 ?_;rintro rfl Y Z;refine yE1 (m.dict I) λvs=>yB3 λJ dd _=>?_;refine call_meetsIn F.slot_dict_get dd.typeIs F.entry_dict_get (F.args_dict_get_3 _ _ _) (meets_dict_get_default (PySem.strKind X.prog X.w) d (Bq Y) m.low r) #[_,dd.mapOf,yI2 _ H #[I.tok _,?_,q]];exact(J.val k).getD Z
def JQ(w:K_)(K:KE)(r:V->MC->Hp->VK->Prop)(to:TE)(t:TA):TE:=λσ H Q=>to σ H λx H1=>(∃d kvs,x = .ref d/\Ic w K d kvs)/\t σ H1 λxs H2=>r x xs H2 Q
theorem Iq{o e:Expr}{es:ML}{to:TE}{t:TA}{name:Str}{apos cpos:Pos}{id:String}{r:V->MC->Hp->VK->Prop}(w:K_)(K:KE)(Y:PlainAttrs "dict") (slot:Slot "dict" name id) (J:typeOf (.builtin id)=pure (.type "method_descriptor")) (Z:Iy X id r) (ho:PE X o to) (ha:PA X (e::es) t)
  (F:attributeBase o name X.env (eval o X.env)=eval o X.env:=by rfl)
  (hfew:((backTo cpos (Mj (e::es) X.env)).all (λx=>!x.1)&&(backToKw cpos (keywordEach [] X.env)).all (λx=>x.1.isSome)&&decide ((e::es).length+([]:List Keyword).length+(if ([]:List Keyword).isEmpty then 0 else 1)<30))=true:=by rfl)
  (hline:(apos.endLine==cpos.line)=true:=by rfl) (hs:Mj (e::es) X.env=(false,eval e X.env)::Mj es X.env:=by rfl) (hplain:(backTo cpos (Mj es X.env)).any (·.1)=false:=by rfl) (hw:X.w=w:=by rfl) (hK:X.K=K:=by rfl) :
  PE X (.Call (.Attribute o name apos) (e::es) [] cpos) (JQ w K r to t):=by
 subst hw hK;intro pins s σ H Q I h;refine wpAny_Call_method_late F hfew hline rfl (bA (ho pins s σ H _ I h) λv s1 ⟨x,H1,O,S,ty,q1⟩=>?_);revert ty;refine yF2 λd kvs=>yB2 ?_;rintro rfl m;have e1:v = .ref d:=S;subst e1;refine yE1 (m.dict O) λvs=>yB3 λab dd=>yF1 λob=>yB2 λeo en=>?_;refine yI2 ("dict") id #[Y,slot,J,dd.typeIs,λa ea=>#[ob,by cases ea;exact eo,en],?_];have U:=ha cpos pins s1 σ H1 _ O q1;rw[hs]at U |-
 refine zbw (by show (false||(backTo cpos (Mj es X.env)).any (·.1))=false;rw[hplain]<;>rfl) (Calls.evalArgs_plain ?_);exact bA U λus s2 ⟨vs,H2,I2,r2,q2⟩=>Z pins s2 σ H2 _ vs _ us Q I2 S r2 q2
end
theorem wB{w:K_}{K:KE}{r:V->MC->Hp->VK->Prop}{to:TE}{t:TA}{σ:St}:JQ w K r to t σ H Q=to σ H λx H1=>(∃d kvs,x = .ref d/\Ic w K d kvs)/\t σ H1 λxs H2=>r x xs H2 Q:=rfl
section
variable{prog:L_}{w:K_}{A:Me}{E:LZ}{s:so}
def HV(i t:o_)(zs:MM)(k:Nat)(h:LY):Prop:=h.IsTupleIter i t k/\h.IsTuple t zs
theorem HV.ext{i t b:o_}{zs:MM}{k:Nat}{h h':LY}(x:HV i t zs k h)(F:NU b h h')(n1:i≠b)(J:t≠b):HV i t zs k h':=#[x.1.extBut F n1,x.2.extBut F J]
theorem mP{i t:o_}{k:Nat}{zs:MM}{v:B_}{Q:LZ}(st:HV i t zs k s.heap)(S:t≠i)(hv:zs[k]?=Sm v)
  (q:∀h',HV i t zs (k+1) h'->M5 i s.heap h'->Q v {s with heap:=h'}):I_ (model prog w) A (NW (.ref i)) Q E s:=by
 let#[hi,W]:=id st;refine yE1 (id hi) λob=>yB3 λO Y J=>?_;refine yE1 (id W) λot=>yB3 λf1 _=>yF1 λm Z=>?_;unfold NW;refine Lo (Nu (name:=Str.ofString "__next__") hi.typeIs zbl (MW zbl hi.typeIs F.entry_tuple_iterator_next ?_ (F.args_tuple_iterator_next_1 _)));show I_ _ _ (field (.ref i) 0 >>= _) _ _ s;refine Lo (Nd O J (x:=.ref t) rfl ?_);show I_ _ _ (if (Md t==MQ)=true then _ else _) _ _ s;have U:¬ ((Md t==MQ)=true):=xV;rw[Lu U];show I_ _ _ (field (.ref i) 1 >>= _) _ _ s;refine Lo (Nd O J (x:=.int k 0) rfl ?_);show I_ _ _ (seqItems? (.ref t) >>= _) _ _ s;refine Lo (Ni f1 Z ?_);simp only[uv,hv];refine Lo (NC O J '~' (Lp #[v,rfl,Lp (q _ #[?_,?_] (IJ ..))]))
 .exact#[_,JC _ O (zaU (J1 J _)),(za7 ..).trans Y,by rw[J1 J];simp[rawInt]]
 .exact W.extBut (IJ ..).extBut S
theorem wf{i t:o_}{k:Nat}{zs:MM}{Q:LZ}(hh:A.handled=Nn)(st:HV i t zs k s.heap)(hv:zs[k]?=Nn)
  (q:∀h' e,NU i s.heap h'->(∃o,h'.get? e=Sm o/\o.cls = .type "StopIteration")->E (.ref e) {s with heap:=h'}):I_ (model prog w) A (NW (.ref i)) Q E s:=by
 let#[hi,Z]:=id st;refine yE1 (id hi) λob=>yB3 λO e2 J=>?_;refine yE1 (id Z) λot=>yB3 λY _=>yF1 λm W=>?_;unfold NW;refine Lo (Nu (name:=Str.ofString "__next__") hi.typeIs zbl (MW zbl hi.typeIs F.entry_tuple_iterator_next ?_ (F.args_tuple_iterator_next_1 _)));show I_ _ _ (field (.ref i) 0 >>= _) _ _ s;refine Lo (Nd O J (x:=.ref t) rfl ?_);show I_ _ _ (if (Md t==MQ)=true then _ else _) _ _ s;have S:¬ ((Md t==MQ)=true):=xV;rw[Lu S];show I_ _ _ (field (.ref i) 1 >>= _) _ _ s;refine Lo (Nd O J (x:=.int k 0) rfl ?_);show I_ _ _ (seqItems? (.ref t) >>= _) _ _ s;refine Lo (Ni Y W ?_);simp only[uv,hv];refine Lo (M_ (Lo (NC O J '~' ?_)));show I_ _ _ (newExc (.type "StopIteration") [] >>= λz=>_) _ _ _;refine Lo ?_;simp only[newTuple,newExc];refine Lo (MZ (hd:=by size_fits) ?_);refine Lo (m:=firstArgMember _ _) (Ov (a:=MQ) (by first | (simp only[firstArgMember];rfl) | rfl) ?_);refine MZ (hd:=by size_fits) ?_;simp only[raiseNew];refine Lo (wpAny_handled ?_);have U:A.in1.handled=Nn:=hh
 first | rw[U] | rw[hh]
 refine Lo (Lp (wpAny_throw (q _ _ (((IJ ..).extBut.push _).push _) #[_,yQ _ rfl,rfl])))
variable{z TI TO i1 i2 t1 t2:o_}{xs ys:MM}{k1 k2:Nat}{a b:B_}
theorem Bi{x y:B_}{Q:LZ}(D:ZipApart z TI TO i1 i2 t1 t2)(Y:M9 s.heap z TI TO .none)(gI:MR s.heap TI (.ref i1) (.ref i2))(gO:MR s.heap TO a b)
  (g1:HV i1 t1 xs k1 s.heap) (g2:HV i2 t2 ys k2 s.heap) (hx:xs[k1]?=Sm x) (hy:ys[k2]?=Sm y)
  (q:∀h',M9 h' z TI TO (rawInt s.heap.objs.size)->MR h' TO x y->HV i1 t1 xs (k1+1) h'->HV i2 t2 ys (k2+1) h'->MR h' s.heap.objs.size x y->h'.objs.size=s.heap.objs.size+1->
   (∀c o,c≠z->c≠TO->c≠i1->c≠i2->s.heap.get? c=Sm o->h'.get? c=Sm o)->Q (.ref s.heap.objs.size) {s with heap:=h'}) :
  I_ (model prog w) A (Mv.«zip.__next__» #[[.ref z],[]]) (λac s'=>∃v,ac = .done (.ret v)/\Q v s') E s:=by
 show I_ _ _ (field (.ref z) 2 >>= λ_=>_) _ _ _;refine Lo (Nd Y rfl (x:=.bool false) rfl ?_);show I_ _ _ (field (.ref z) 3 >>= λ_=>_) _ _ _;refine Lo (Nd Y rfl (x:=.ref TI) rfl (Lo (Ni gI rfl ?_)));show I_ _ _ (OM (.ref z) >>= λ_=>_) _ _ _;refine Lo ?_;unfold OM;refine Lo (Nd Y rfl (x:=.none) rfl (Lp ?_));simp only[if_true];refine Lo (M_ (Lo (Nd Y rfl (x:=.ref TO) rfl (Lo (Oo Y '~' λha z1 m1=>?_)))))
 replace z1:M9 ha z TI TO .ellipsis:=z1
 refine Lo ?_;simp only[List.zipIdx_nil,zbm,List.forIn_nil,List.forIn_cons];refine Lo (Lo (wpAny_onRaise ?_));show I_ _ _ (NW (.ref i1) >>= λ_=>_) _ _ _;refine Lo (mP (g1.ext m1.extBut D.i1z D.l1z) D.l1i1 hx λhb r1 W=>Lp ?_);have o2:MR hb TO a b:=W.extBut _ _ D.TOi1 (m1.extBut _ _ D.TOz gO);refine Lo (Ni o2 rfl (Lo (OY o2 λhc o3 O=>Lo (wpAny_letGo (Lp ?_)))))
 replace o3:MR hc TO x b:=o3
 refine Lo (Lo (wpAny_onRaise ?_));show I_ _ _ (NW (.ref i2) >>= λ_=>_) _ _ _;refine Lo (mP (((g2.ext m1.extBut D.i2z D.l2z).ext W.extBut D.i12.symm D.l2i1).ext O.extBut D.TOi2.symm D.l2TO) D.l2i2 hy λhd r2 Z=>Lp ?_);have o4:MR hd TO x b:=Z.extBut _ _ D.TOi2 o3;refine Lo (Ni o4 rfl (Lo (OY o4 λF o5 U=>Lo (wpAny_letGo (Lp (Lp ?_))))))
 replace o5:MR F TO x y:=o5
 refine Lo (Ni o5 rfl (Lo (wpAny_newTuple ?_)));have hsz:F.objs.size=s.heap.objs.size:=by rw[U.1,Z.1,O.1,W.1,m1.1]
 have z5:M9 F z TI TO .ellipsis:=U.extBut _ _ D.TOz.symm (Z.extBut _ _ D.i2z.symm (O.extBut _ _ D.TOz.symm (W.extBut _ _ D.i1z.symm z1)));have kp:∀c o,c≠z->c≠TO->c≠i1->c≠i2->s.heap.get? c=Sm o->F.get? c=Sm o:=λc o J c2 c3 c4 e=>U.extBut _ _ c2 (Z.extBut _ _ c4 (O.extBut _ _ c2 (W.extBut _ _ c3 (m1.extBut _ _ J e))));have ad:HV i1 t1 xs (k1+1) F:=((r1.ext O.extBut D.TOi1.symm D.l1TO).ext Z.extBut D.i12 D.l1i2).ext U.extBut D.TOi1.symm D.l1TO;have ab:HV i2 t2 ys (k2+1) F:=r2.ext U.extBut D.TOi2.symm D.l2TO;have S:z<F.objs.size:=vg z5;show I_ _ _ (O3 (.ref z) (.ref F.objs.size) >>= λ_=>_) _ _ _;refine Lo ?_;unfold O3;have z6:M9 (F.push {cls:=.type "tuple",data:=.seq #v[x,y]}) z TI TO .ellipsis:=yc _ z5;refine Lo (Oo z6 '~' λhf z7 m7=>?_)
 replace z7:M9 hf z TI TO (rawInt F.objs.size):=z7
 refine Oo z7 '~' λhg z8 m8=>?_
 replace z8:M9 hg z TI TO (rawInt F.objs.size):=z8
 have up:∀c o,c≠z->F.get? c=Sm o->hg.get? c=Sm o:=λc o J e=>m8.extBut _ _ J (m7.extBut _ _ J (yc _ e));have t8:MR hg F.objs.size x y:=m8.extBut _ _ (JX S) (m7.extBut _ _ (JX S) (yQ _ rfl));have s8:hg.objs.size=F.objs.size+1:=by rw[m8.1,m7.1,sK]
 rw[hsz]at z8 t8 s8;refine Lp #[_,rfl,?_];show Q (.ref F.objs.size) _;rw[hsz];have ex:NU z F hg:=λc o J e=>up c o J e;exact q hg z8 (up _ _ D.TOz o5) (ad.ext ex D.i1z D.l1z) (ab.ext ex D.i2z D.l2z) t8 s8 λc o J c2 c3 c4 e=>up c o J (kp c o J c2 c3 c4 e)
theorem DM{Q:Fin->so->Prop}(hh:A.handled=Nn)(D:ZipApart z TI TO i1 i2 t1 t2)(W:M9 s.heap z TI TO .none)(gI:MR s.heap TI (.ref i1) (.ref i2))(gO:MR s.heap TO a b)
  (g1:HV i1 t1 xs k1 s.heap) (g2:HV i2 t2 ys k2 s.heap) (S:xs[k1]?=Nn\/ys[k2]?=Nn)
  (q:∀h' e,(∀c o,c≠z->c≠TO->c≠i1->c≠i2->s.heap.get? c=Sm o->h'.get? c=Sm o)->(∃o,h'.get? e=Sm o/\o.cls = .type "StopIteration")->E (.ref e) {s with heap:=h'}) :
  I_ (model prog w) A (Mv.«zip.__next__» #[[.ref z],[]]) Q E s:=by
 show I_ _ _ (field (.ref z) 2 >>= λ_=>_) _ _ _;refine Lo (Nd W rfl (x:=.bool false) rfl ?_);show I_ _ _ (field (.ref z) 3 >>= λ_=>_) _ _ _;refine Lo (Nd W rfl (x:=.ref TI) rfl (Lo (Ni gI rfl ?_)));show I_ _ _ (OM (.ref z) >>= λ_=>_) _ _ _;refine Lo ?_;unfold OM;refine Lo (Nd W rfl (x:=.none) rfl (Lp ?_));simp only[if_true];refine Lo (M_ (Lo (Nd W rfl (x:=.ref TO) rfl (Lo (Oo W '~' λha z1 O=>?_)))))
 replace z1:M9 ha z TI TO .ellipsis:=z1
 refine Lo ?_;simp only[List.zipIdx_nil,zbm,List.forIn_nil,List.forIn_cons];refine Lo (Lo (wpAny_onRaise ?_));show I_ _ _ (NW (.ref i1) >>= λ_=>_) _ _ _;have stop:∀ {h':LY} {e:o_},M9 h' z TI TO .ellipsis->(∃o,h'.get? e=Sm o/\o.cls = .type "StopIteration")->e≠z:=λ{h' e} hz ⟨o,ho,Z⟩ n=>by
  subst n;rw[hz]at ho;cases ho;simp at Z
 rcases hx:xs[k1]? with _ | x
 .refine Lo (wf hh (g1.ext O.extBut D.i1z D.l1z) hx λhb e F Y=>?_);have z2:M9 hb z TI TO .ellipsis:=F _ _ D.i1z.symm z1;have nz:=stop z2 Y;let#[oe,p1,p2]:=Y;exact Oo z2 '~' λZ _ J=>q Z e (λc o U _ c3 _ x=>J.extBut _ _ U (F _ _ c3 (O.extBut _ _ U x))) #[oe,J.extBut _ _ nz p1,p2]
 .have hy:ys[k2]?=Nn:=by
   rcases S with h | h
   .rw[hx]at h;cases h
   .exact h
  refine Lo (mP (g1.ext O.extBut D.i1z D.l1z) D.l1i1 hx λhb r1 F=>Lp ?_);have o2:MR hb TO a b:=F.extBut _ _ D.TOi1 (O.extBut _ _ D.TOz gO);refine Lo (Ni o2 rfl (Lo (OY o2 λZ o3 J=>Lo (wpAny_letGo (Lp ?_)))));refine Lo (Lo (wpAny_onRaise ?_));show I_ _ _ (NW (.ref i2) >>= λ_=>_) _ _ _;refine Lo (wf hh (((g2.ext O.extBut D.i2z D.l2z).ext F.extBut D.i12.symm D.l2i1).ext J.extBut D.TOi2.symm D.l2TO) hy λhd e m4 Y=>?_);have z4:M9 hd z TI TO .ellipsis:=m4 _ _ D.i2z.symm (J.extBut _ _ D.TOz.symm (F.extBut _ _ D.i1z.symm z1));have nz:=stop z4 Y;let#[oe,p1,p2]:=Y;exact Oo z4 '~' λhg _ m5=>q hg e (λc o U c2 c3 c4 x=>m5.extBut _ _ U (m4 _ _ c4 (J.extBut _ _ c2 (F.extBut _ _ c3 (O.extBut _ _ U x))))) #[oe,m5.extBut _ _ nz p1,p2]
end
section
variable{prog:L_}{w:K_}{A:Me}{E:LZ}{s:so}{z TI TO i1 i2 t1 t2:o_}{xs ys:MM}{k1 k2:Nat}{a b:B_}
theorem yj{x y:B_}{Q:MG->so->Prop}(D:ZipApart z TI TO i1 i2 t1 t2)(J:M9 s.heap z TI TO .none)(Y:MR s.heap TI (.ref i1) (.ref i2))(Z:MR s.heap TO a b)
  (O:HV i1 t1 xs k1 s.heap) (W:HV i2 t2 ys k2 s.heap) (hx:xs[k1]?=Sm x) (S:ys[k2]?=Sm y)
  (q:∀h',M9 h' z TI TO (rawInt s.heap.objs.size)->MR h' TO x y->HV i1 t1 xs (k1+1) h'->HV i2 t2 ys (k2+1) h'->MR h' s.heap.objs.size x y->h'.objs.size=s.heap.objs.size+1->
   (∀c o,c≠z->c≠TO->c≠i1->c≠i2->s.heap.get? c=Sm o->h'.get? c=Sm o)->Q (Sm (.ref s.heap.objs.size)) {s with heap:=h'}):I_ (model prog w) A (pyNext (.ref z)) Q E s:=by
 have ty:s.TypeIs (.ref z) "zip" := #[_,J,rfl];unfold pyNext;exact Lo (NK (Nu (name:=Str.ofString "__next__") ty zbn (MW zbn ty F.entry_zip_next
  (Bi D J Y Z O W hx S λh' a1 a2 a3 a4 a5 U a7=>Lp (q h' a1 a2 a3 a4 a5 U a7)) (F.args_zip_next_1 _))))
theorem AS{Q:MG->so->Prop}(hh:A.handled=Nn)(D:ZipApart z TI TO i1 i2 t1 t2)(O:M9 s.heap z TI TO .none)(gI:MR s.heap TI (.ref i1) (.ref i2))(gO:MR s.heap TO a b)
  (S:HV i1 t1 xs k1 s.heap) (W:HV i2 t2 ys k2 s.heap) (J:xs[k1]?=Nn\/ys[k2]?=Nn)
  (q:∀h',(∀c o,c≠z->c≠TO->c≠i1->c≠i2->s.heap.get? c=Sm o->h'.get? c=Sm o)->Q Nn {s with heap:=h'}):I_ (model prog w) A (pyNext (.ref z)) Q E s:=by
 have ty:s.TypeIs (.ref z) "zip" := #[_,O,rfl];unfold pyNext;refine Lo (NK (Nu (name:=Str.ofString "__next__") ty zbn (MW zbn ty F.entry_zip_next
  (DM hh D O gI gO S W J λh' e kk Z=>?_) (F.args_zip_next_1 _))))
 let#[o,Y,U]:=Z;exact Lo (N4 (T := "StopIteration") (b:=true) #[o,Y,U] OK (Lp (q _ kk)))
noncomputable abbrev Ep (h:LY) (t1:o_):LY:=h.push {cls:=.type "tuple_iterator",data:=.fields #v[.ref t1,.int 0 0]}
noncomputable abbrev Ei (h:LY) (t1 t2:o_):LY:=(Ep h t1).push {cls:=.type "tuple_iterator",data:=.fields #v[.ref t2,.int 0 0]}
noncomputable abbrev EB (h:LY) (t1 t2:o_):LY:=(Ei h t1 t2).push {cls:=.type "tuple",data:=.seq #v[.ref h.objs.size,.ref (Ep h t1).objs.size]}
noncomputable abbrev Ej (h:LY) (t1 t2:o_):LY:=(EB h t1 t2).push {cls:=.type "tuple",data:=.seq #v[.none,.none]}
noncomputable abbrev pR (h:LY) (t1 t2:o_):LY:=(Ej h t1 t2).push {cls:=.type "zip",data:=.fields #v[.none,.bool false,.bool false,.ref (Ei h t1 t2).objs.size,.ref (EB h t1 t2).objs.size]}
theorem zj(t1 t2:o_)(xs ys:MM):Meets (Mv.«zip.__new__» #[[.type "zip",.ref t1,.ref t2],[]]) (λ_ R s=>s.heap.IsTuple t1 xs/\s.heap.IsTuple t2 ys/\
   R (.ok (.ret (.ref (Ej s.heap t1 t2).objs.size))) {s with heap:=pR s.heap t1 t2}):=
 .of_wp λprog w A R s q=>by
  let#[J,g,d,F,os]:=s;let#[Y,S,q]:=q;have O:=sub_zip;have W:LY.IsTuple (so.heap #[J,g,d,F,os]) t1 xs:=Y;have U:LY.IsTuple (so.heap #[J.push {cls:=.type "tuple_iterator",data:=.fields #v[.ref t1,.int 0 0]},g,d,F,os]) t2 ys:=LY.IsTuple.push S _
  wp_walk using wpAny_pyIter_tuple W,wpAny_pyIter_tuple U
  exact#[_,rfl,q]
theorem zG{Q:LZ}(e1:s.heap.IsTuple t1 xs)(W:s.heap.IsTuple t2 ys)
  (q:∀h',M9 h' (s.heap.objs.size+4) (s.heap.objs.size+2) (s.heap.objs.size+3) .none->MR h' (s.heap.objs.size+2) (.ref s.heap.objs.size) (.ref (s.heap.objs.size+1))->
   MR h' (s.heap.objs.size+3) .none .none->HV s.heap.objs.size t1 xs 0 h'->HV (s.heap.objs.size+1) t2 ys 0 h'->
   (∀c o,s.heap.get? c=Sm o->h'.get? c=Sm o)->Q (.ref (s.heap.objs.size+4)) {s with heap:=h'}):I_ (model prog w) A (call (.type "zip") [.ref t1,.ref t2]) Q E s:=by
 refine callType_new F.called_zip ∅ (F.typeCall_zip_2 _ _) (F.newCall_zip_2 _ _) (λobj=>F.args_object_init_3 obj _ _) F.entry_zip_new (zj t1 t2 xs ys) #[e1,W,?_];have S:(Ep s.heap t1).objs.size=s.heap.objs.size+1:=sK ..;have O:(Ei s.heap t1 t2).objs.size=s.heap.objs.size+2:=by rw[sK,S]
 have U:(EB s.heap t1 t2).objs.size=s.heap.objs.size+3:=by rw[sK,O]
 have z4:(Ej s.heap t1 t2).objs.size=s.heap.objs.size+4:=by rw[sK,U]
 have p:∀ {h:LY} {o:Obj} {c:o_} {u:Obj},h.get? c=Sm u->(h.push o).get? c=Sm u:=λe=>yc _ e;have kk:∀c o,s.heap.get? c=Sm o->(pR s.heap t1 t2).get? c=Sm o:=λc o e=>p (p (p (p (p e))));have J:(pR s.heap t1 t2).get? (Ej s.heap t1 t2).objs.size=Sm _:=yQ _ rfl;have Y:(pR s.heap t1 t2).get? (EB s.heap t1 t2).objs.size=Sm _:=p (yQ _ rfl);have Z:(pR s.heap t1 t2).get? (Ei s.heap t1 t2).objs.size=Sm _:=p (p (yQ _ rfl));have g2:(pR s.heap t1 t2).get? (Ep s.heap t1).objs.size=Sm _:=p (p (p (yQ _ rfl)));have g1:(pR s.heap t1 t2).get? s.heap.objs.size=Sm _:=p (p (p (p (yQ _ rfl))));show _/\_;rw[O,U,z4]at J;rw[S,O]at Z;rw[U]at Y;rw[S]at g2;rw[z4];have tt:∀ {t zs},s.heap.IsTuple t zs->(pR s.heap t1 t2).IsTuple t zs:=λ⟨o,e,r⟩=>#[o,kk _ _ e,r];exact#[#[_,J,rfl],q _ J Z Y #[#[_,g1,rfl,rfl],tt e1] #[#[_,g2,rfl,rfl],tt W] kk]
end
def Es(K:KE)(a b:o_):It:=
  ⟨λi H=>∃xs ys x y,uc K H a xs/\uc K H b ys/\xs[i]?=Sm x/\ys[i]?=Sm y,
   λi H v H'=>∃t x y,H t=Nn/\v = .ref t/\H'=upd H t (.tup [x,y])/\(∀xs,uc K H a xs->xs[i]?=Sm x)/\∀ys,uc K H b ys->ys[i]?=Sm y,
   λi H=>∃xs ys,uc K H a xs/\uc K H b ys/\(xs.length<=i\/ys.length<=i)⟩
def UZ(z TI TO i1 i2 l1 l2:o_)(i:Nat)(h:LY):Prop:=
 M9 h z TI TO .none/\MR h TI (.ref i1) (.ref i2)/\(∃a b,MR h TO a b)/\h.IsTupleIter i1 l1 i/\h.IsTupleIter i2 l2 i
theorem uc.apart{X:Cx}{pins:List (o_×Obj)}{σ:St}{s:so}{a c:o_}(I:Inv X pins σ H s)(hf:iR X pins H c)(h:uc X.K H a xs):a≠c:=by
 rintro rfl;rcases h with h | ⟨o,J,n,F,_⟩
 .rcases h with e | ⟨o,e⟩<;>(rw[hf.1]at e;cases e)
 .have e:=I.ok.mod.kin a o F;rcases hf.2.2.2.1 with z | z
  .exact I.ok.noex a o e z
  .exact absurd (rN (vg (I.ok.bs a o e).1) z) (Lc _)
theorem AE{P:L_}{w:K_}{K:KE}{a7:ML}{k:Nat}{pos:Pos}{z TI TO i1 i2 l1 l2:o_}(D:BB z TI TO i1 i2):mH P w K (.Tuple a7 k pos) (Es K l1 l2) [z,TI,TO,i1,i2] z (UZ z TI TO i1 i2 l1 l2) where
 mem:='~'
 obj:=λi h st b J=>by
  revert st;refine yB5 ?_;rintro S s2 ⟨_,_,s3⟩ ⟨o4,Z,c4,d4⟩ ⟨o5,Y,c5,d5⟩;simp only[yg,Je,or_false]at J;rcases J with rfl | rfl | rfl | rfl | rfl
  .exact#[_,S,λv e=>by cases e]
  .exact#[_,s2,λv e=>by cases e]
  .exact#[_,s3,λv e=>by cases e]
  .exact#[_,Z,λv e=>by rw[d4]at e;cases e]
  .exact#[_,Y,λv e=>by rw[d5]at e;cases e]
 keep:=λi h h' st kk=>by
  revert st;refine yB5 ?_;rintro S s2 ⟨a,b,s3⟩ Z Y;exact#[kk z '~' _ S,kk TI '~' _ s2,yI2 a b (kk TO '~' _ s3),Z.at λo e=>kk i1 '~' o e,Y.at λo e=>kk i2 '~' o e]
 item:=by
  intro X hP hw hK hc i pins s σ H E I hf st hg;subst hP hw hK;revert hg;refine yF4 λxs ys x y=>yB4 λq1 q2 hx hy=>?_;refine yE1 (I.tuple q1) λal=>yB3 λac p1 _=>?_;refine yE1 (I.tuple q2) λad=>yB3 λab p2 _=>?_;let#[u1,bt,bh]:=ac.get hx;let#[u2,bp,bc]:=ab.get hy;have n1:∀c∈[z,TI,TO,i1,i2],l1≠c:=λc F=>uc.apart I (hf c F) q1;have U:∀c∈[z,TI,TO,i1,i2],l2≠c:=λc F=>uc.apart I (hf c F) q2;have D':ZipApart z TI TO i1 i2 l1 l2:=#[D.TIz,D.TOz,D.i1z,D.i2z,D.TITO,D.TIi1,D.TIi2,D.TOi1,D.TOi2,D.i12,n1 _ '~',n1 _ '~',n1 _ '~',n1 _ '~',U _ '~',U _ '~',U _ '~',U _ '~'];revert st;refine yB5 ?_;rintro S s2 ⟨a,b,s3⟩ Z Y;have e1:s.heap.IsTuple l1 al.toArray:=p1;have e2:s.heap.IsTuple l2 ad.toArray:=p2;refine yj D' S s2 s3 #[Z,e1] #[Y,e2] (x:=u1) (y:=u2) (by simpa using bt) (by simpa using bp) λh' a1 a2 a3 a4 a5 a6 kk=>?_;refine#[_,rfl,wpAny_letOwnedTupleGo_zip a1 λa9 be O=>?_];have lt:∀ {c o},s.heap.get? c=Sm o->s.heap.objs.size≠c:=λe=>JX (vg e);have b0:s.heap.objs.size≠z:=lt S;have ag:∀b o,b∉[z,TI,TO,i1,i2]->s.heap.get? b=Sm o->a9.get? b=Sm o:=λb o J e=>by
   simp only[yg,Je,or_false,not_or]at J;exact O.extBut _ _ J.1 (kk b o J.1 J.2.2.1 J.2.2.2.1 J.2.2.2.2 e)
  have hsz:H s.heap.objs.size=Nn:=I.hok.fresh (zg _);have a8:MR a9 s.heap.objs.size u1 u2:=O.extBut _ _ b0 a5;have bg:∀c∈[z,TI,TO,i1,i2],c≠s.heap.objs.size:=λc F=>by
   let#[o4,e4,_]:=id Z;let#[o5,e5,_]:=id Y;simp only[yg,Je,or_false]at F;rcases F with rfl | rfl | rfl | rfl | rfl
   .exact(lt S).symm
   .exact(lt s2).symm
   .exact(lt s3).symm
   .exact(lt e4).symm
   .exact(lt e5).symm
  refine⟨.ref s.heap.objs.size,upd H s.heap.objs.size (.tup [x,y]),I.turnedLaid (t':=s.toks) ag hf (zg _) ⟨aH (by show 2<=1000000;decide),[u1,u2],.cons bh (.cons bc .nil),⟨_,a8,rfl,rfl,0,rfl⟩⟩,rfl,yI3 _ x y ⟨hsz,rfl,rfl,λb2 q'=>?_,λb1 q'=>?_⟩,
   ⟨be,O.extBut _ _ D.TIz (kk _ _ D.TIz D.TITO D.TIi1 D.TIi2 s2),yI2 _ _ (O.extBut _ _ D.TOz a2),a3.1.extBut O.extBut D.i1z,a4.1.extBut O.extBut D.i2z⟩,λc F=>?_⟩
  .rw[I.tuple_inj q' q1];exact hx
  .rw[I.tuple_inj q' q2];exact hy
  .rw[au (bg c F)];exact(hf c F).1
 done:=by
  intro X hP hw hK hc i pins s σ H E I hf st hg;subst hP hw hK;revert hg;refine yF2 λxs ys=>yB3 λq1 q2 as=>?_;refine yE1 (I.tuple q1) λal=>yB3 λac p1 _=>?_;refine yE1 (I.tuple q2) λad=>yB3 λab p2 _=>?_;have l1:=ac.length;have l2:=ab.length;have n1:∀c∈[z,TI,TO,i1,i2],_≠c:=λc F=>uc.apart I (hf c F) q1;have U:∀c∈[z,TI,TO,i1,i2],_≠c:=λc F=>uc.apart I (hf c F) q2;have D':ZipApart z TI TO i1 i2 _ _:=#[D.TIz,D.TOz,D.i1z,D.i2z,D.TITO,D.TIi1,D.TIi2,D.TOi1,D.TOi2,D.i12,n1 _ '~',n1 _ '~',n1 _ '~',n1 _ '~',U _ '~',U _ '~',U _ '~',U _ '~'];revert st;refine yB5 ?_;rintro S s2 ⟨a,b,s3⟩ Z Y;have e1:s.heap.IsTuple _ al.toArray:=p1;have e2:s.heap.IsTuple _ ad.toArray:=p2;refine AS (I.ok.hd hc) D' S s2 s3 #[Z,e1] #[Y,e2] ?_ λh' kk=>#[rfl,I.turnedL (t':=s.toks) (λb o J e=>?_) hf]
  .rcases as with z | z
   .exact .inl (by simp;lia)
   .exact .inr (by simp;lia)
  .simp only[yg,Je,or_false,not_or]at J;exact kk b o J.1 J.2.2.1 J.2.2.2.1 J.2.2.2.2 e
 self:=λA i s Q E st h=>wpAny_pyIter_zip st.1 h
def Eo(K:KE)(ta:TA):TI:=λσ H R=>ta σ H λvs H1=>∃a b:o_,vs=[.ref a,.ref b]/\(∃xs,uc K H1 a xs)/\(∃ys,uc K H1 b ys)/\R (Es K a b) H1
theorem rA(K:KE)(ta:TA){σ:St}{R:It->Hp->Prop}:Eo K ta σ H R=ta σ H λvs H1=>∃a b:o_,vs=[.ref a,.ref b]/\(∃xs,uc K H1 a xs)/\(∃ys,uc K H1 b ys)/\R (Es K a b) H1:=rfl
theorem wg(K:KE){X:Cx}{J:ML}{k:Nat}{S:Pos}{a b:Expr}{ta:TA}{p pos:Pos}(hg:Gl X "zip") (hm:X.mg "zip" = Nn) (ha:PA X [a,b] ta) (hs:Mj [a,b] X.env=[(false,eval a X.env),(false,eval b X.env)]:=by rfl) (hs2:Mj [b] X.env=[(false,eval b X.env)]:=by rfl) (hK:X.K=K:=by rfl) :
  PI X (.Tuple J k S) (.Call (.Name "zip" p) [a,b] [] pos) (Eo K ta):=by
 subst hK;intro pins s σ H R I h;refine Call_ (jI I hg hm CH (zbb (bA (ha pos pins s σ H _ I h) λus F ⟨vs,H1,O,r1,q1⟩=>?_) (by rw[hs,hs2]) (by rw[hs2];rfl)));revert q1;refine yF2 λl1 l2=>yB4 ?_;rintro e ⟨xs,h1⟩ ⟨ys,h2⟩ q;subst e;refine yE2 (yZ r1) λu1 u2=>yB3 ?_;rintro rfl r1 r2;cases r1;cases r2;refine yE1 (O.tuple h1) λZ=>yB3 λ_ p1 _=>?_;refine yE1 (O.tuple h2) λY=>yB3 λ_ p2 _=>?_;refine zG (show F.heap.IsTuple l1 Z.toArray from p1) (show F.heap.IsTuple l2 Y.toArray from p2) λh' a1 a2 a3 a4 a5 kk=>?_;refine wpAny_pyIter_zip a1 ⟨_,[F.heap.objs.size+4,F.heap.objs.size+2,F.heap.objs.size+3,F.heap.objs.size,F.heap.objs.size+1],_,_,H1,rfl,O.kept (t':=F.toks) kk,
  AE (z:=F.heap.objs.size+4) (TI:=F.heap.objs.size+2) (TO:=F.heap.objs.size+3) (i1:=F.heap.objs.size) (i2:=F.heap.objs.size+1) (Qq _),⟨a1,a2,yI2 _ _ a3,a4.1,a5.1⟩,λb hb=>?_,q⟩
 have U:F.heap.objs.size<=b:=by
  simp only[yg,Je,or_false]at hb;rcases hb with rfl | rfl | rfl | rfl | rfl<;>first | exact zg _ | exact zbf _ _
 exact O.fpOk U (O.hok.fresh U)
section
variable{prog:L_}{w:K_}{A:Me}{E:LZ}{s:so}
theorem qJ{t O:o_}{items:MM}{W Y:B_}{lo hi:MI}{Q:LZ}(J:IsTup s.heap t items)(S:s.heap.IsSliceOf O W Y .none)(pl:PySem.IsPart W lo)(pu:PySem.IsPart Y hi)
  (U:HT.sIx items.size 0 lo=0/\HT.sIx items.size items.size hi=items.size) (q:Q (.ref t) s):I_ (model prog w) A (getItem (.ref t) (.ref O)) Q E s:=by
 refine yE1 (id S) λos=>yB3 λZ g2 g3=>?_;have ty:s.TypeIs (.ref O) "slice" := #[os,Z,g2];unfold getItem
 try with_reducible refine My ?_
 first | refine Lo (Lp ?_) | skip
 refine Lo (wpAny_sequenceKey J.typeIs ∅ (Lo (Nu (name:=Str.ofString "__getitem__") J.typeIs zbD (MW zbD J.typeIs entry_tuple_getitem ?_ (args_tuple_getitem _ _)))));show I_ _ _ (OU (.ref t) >>= λ_=>_) _ _ s;refine Lo (tupleItemsOf_ J (Lo (NQ ty ?_)));rw[Lz ∅];refine Lo (HT.sliceApplied_gen S pl pu ?_);have F:((((HT.sIx items.size 0 lo:Nat):Int)==0&&(1:Int)==1&&(HT.sIx items.size items.size hi-HT.sIx items.size 0 lo)==items.size)=true):=by
  rw[U.1,U.2];simp
 show I_ _ _ (if (((HT.sIx items.size 0 lo:Nat):Int)==0&&(1:Int)==1&&(HT.sIx items.size items.size hi-HT.sIx items.size 0 lo)==items.size)=true then _ else _) _ _ s;rw[Lz F];refine Lo (m:=Mv.Tuple.tupleIsExact _) (Lo (NQ J.typeIs (Lp ?_)));have hb:(N1 "tuple" == N1 "tuple")=true:=∅;rw[hb,Lz rfl];exact Lo (M_ (Lp #[_,rfl,Lp q]))
end
section
variable{X:Cx}
def yE(K:KE):V->MI->MI->Hp->VK->Prop:=λx lo hi H Q=>∃a xs,x = .ref a/\uc K H a xs/\
 (HT.sIx xs.length 0 lo=0/\HT.sIx xs.length xs.length hi=xs.length->Q (.ref a) H)/\(¬ (HT.sIx xs.length 0 lo=0/\HT.sIx xs.length xs.length hi=xs.length)->∀p,H p=Nn->Q (.ref p) (upd H p (.tup (dQ xs lo hi))))
theorem gS(K:KE)(hK:X.K=K:=by rfl):DQ X (yE K):=by
 subst hK;intro pins s σ H x v vl vu lo hi sl Q I S U pl Z h;revert h;refine yF2 λa xs=>yB4 ?_;rintro rfl hx q1 q2;by_cases hw:HT.sIx xs.length 0 lo=0/\HT.sIx xs.length xs.length hi=xs.length
 .have J:=S;cases S;refine yE1 (I.tuple hx) λO=>yB3 λr Y hz=>?_;have F:O.toArray.size=xs.length:=by rw[xq];exact r.length.symm
  exact yI2 ("tuple") _ #[PyProof.Rows.slot_tuple_getitem.lookup,Y.typeIs,qJ Y U pl Z (by rw[F];exact hw) (yI2 (.ref a) H #[I,J,q1 hw])]
 .exact JE pins s σ H _ v vl vu lo hi sl Q I S U pl Z (yI2 a xs #[rfl,hx,hw,q2 hw])
theorem gb{K:KE}{a:o_}{lo hi:MI}(h:uc K H a xs)(q:∀p H',su H H'->uc K H' p (dQ xs lo hi)->Q (.ref p) H'):yE K (.ref a) lo hi H Q:=by
 refine yI2 a xs #[rfl,h,λF=>?_,λ_ p J=>q p _ (ak J _) (uc.of ai)];have e:dQ xs lo hi=xs:=by unfold dQ;rw[F.1,F.2];simp
 exact q a H (λ_ _ e=>e) (by rw[e];exact h)
theorem vJ(xs:MC)(k:Nat):dQ xs Nn (Sm (k:Int))=xs.take k:=by
 unfold dQ;rw[HT.sIx_none,HT.sIx_nat,List.drop_zero,Nat.sub_zero];exact List.take_eq_take_min.symm
theorem jd(xs:MC)(k:Nat):dQ xs (Sm (k:Int)) Nn=xs.drop k:=by
 unfold dQ;rw[HT.sIx_none,HT.sIx_nat];rcases Nat.le_total k xs.length with h | h
 .rw[Nat.min_eq_left h,IH (by rw[Lm];lia)]
 .rw[Nat.min_eq_right h,Lk,List.take_zero,List.drop_eq_nil_of_le h]
def x5:MC->Hp->VK->Prop:=λxs H Q=>(∃i,xs=[.int i]/\i.natAbs.log2<1920/\Q (.str (toString i)) H)\/∃y,xs=[.str y]/\Q (.str y) H
theorem zI:Ck X (.type "str") x5:=by
 intro pins s σ H xs F Q I r h;rcases h with h | ⟨y,rfl,q⟩
 .exact uI pins s σ H xs F Q I r h
 .refine yE1 (dg r) λu=>yB2 ?_;rintro rfl;refine yF1 ?_;rintro t rfl;exact P.str_of_str (yI2 (.str y) H #[I,#[t,rfl],q])
theorem qh(i:Int):x5 [.int i] H Q=(i.natAbs.log2<1920/\Q (.str (toString i)) H):=
 propext #[λh=>by rcases h with ⟨_,e,h⟩ | ⟨_,e,_⟩<;>cases e;exact h,λh=>.inl #[i,rfl,h]]
theorem pQ(y:Str):x5 [.str y] H Q=Q (.str y) H:=
 propext #[λh=>by rcases h with ⟨_,e,h⟩ | ⟨_,e,h⟩<;>cases e;exact h,λh=>.inr #[y,rfl,h]]
theorem wN{x:Str}{d:o_}{pos:Pos}(h:X.mg x=Sm (.ref d))(hg:Gl X x:=by first | exact vGg ⋯ | rfl)(hd:(x==("__debug__" : Str))=false:=by decide):PE X (.Name x pos) (tC (.ref d)):=F6 hg h rfl hd
theorem eJ:Iy X "list.extend" lH:=z9
theorem gC(l b:o_):lH (.ref l) [.ref b] H Q=∃xs zs,H l=Sm (.lst xs)/\H b=Sm (.lst zs)/\xs.length+zs.length<=L9/\Q .non (upd H l (.lst (xs++zs))):=
 propext #[λ⟨_,_,xs,zs,F,J,q⟩=>by cases F;cases J;exact yI2 xs zs q,λ⟨xs,zs,q⟩=>yI4 l b xs zs #[rfl,rfl,q]]
theorem iH(K:KE){tg l:Expr}{tl:TE}(hl:PE X l tl)(F:X.K=K:=by rfl):PI X tg l (CY K tl):=F ▸ Gy hl
theorem wI(K:KE)(tl:TE){σ:St}{R:It->Hp->Prop}:CY K tl σ H R=tl σ H λx H1=>∃a,x = .ref a/\(∃xs,uc K H1 a xs)/\R (vK K a) H1:=rfl
end
section
variable{K:KE}{a b:o_}{xs ys:MC}{g:TG}{te:TE}{nT:Nat}{σ:St}{D:o_}{Q:VK}{H:Hp}
theorem uV{tb:TS}{D:eI}(F:Nat->St->Hp->Prop)(J:F 0 σ H)(hl:∀i σ H,i<=xs.length->F i σ H->uc K H a xs)
  (U:∀i x σ H,xs[i]?=Sm x->F i σ H->g x σ H λS H2=>tb {D with nx:=F (i+1),ct:=F (i+1),bk:=D.nx} S H2) (hd:∀σ H,F xs.length σ H->D.nx σ H):mL (vK K a) g tb D σ H:=by
 refine oV xs.length F J (λi σ H hi p=>yI2 xs (xs[i]) #[hl i σ H (xx hi) p,by simp[hi]]) (λσ H p=>#[xs,hl _ σ H (zg _) p,zg _]) (λi σ H x H' hi p O=>?_) hd;let#[rfl,y]:=O;exact U i x σ _ (y xs (hl i σ _ (xx hi) p)) p
theorem k_(F:Nat->MC->Hp->Prop)(O:F 0 [] H)(hl:∀i ys H,i<=xs.length->F i ys H->uc K H a xs)
  (S:∀i ys H x,xs[i]?=Sm x->i<xs.length->F i ys H->g x (σ++List.replicate nT Nn) H (jh xs.length i F D ys te))
  (hd:∀ys H,F xs.length ys H->Q (.ref D) H):fG (vK K a) g j3 te nT σ D Q H:=by
 refine jW xs.length F O (λi ys H hi p=>yI2 xs (xs[i]) #[hl i ys H (xx hi) p,by simp[hi]]) (λys H p=>#[xs,hl _ ys H (zg _) p,zg _]) (λi ys H x H' hi p J=>?_) hd;let#[rfl,y]:=J;exact S i ys _ x (y xs (hl i ys _ (xx hi) p)) hi p
theorem qB{tb:TS}{D:eI}(F:Nat->St->Hp->Prop)(O:xs.length=ys.length)(J:F 0 σ H)(hl:∀i σ H,i<=xs.length->F i σ H->uc K H a xs/\uc K H b ys)
  (hs:∀i x y t σ H,xs[i]?=Sm x->ys[i]?=Sm y->F i σ H->H t=Nn->g (.ref t) σ (upd H t (.tup [x,y])) λZ H2=>tb {D with nx:=F (i+1),ct:=F (i+1),bk:=D.nx} Z H2) (hd:∀σ H,F xs.length σ H->D.nx σ H):mL (Es K a b) g tb D σ H:=by
 refine oV xs.length F J (λi σ H hi p=>yI4 xs ys (xs[i]) (ys[i]) #[(hl i σ H (xx hi) p).1,(hl i σ H (xx hi) p).2,by simp[hi],by simp[O ▸ hi]]) (λσ H p=>yI2 xs ys #[(hl _ σ H (zg _) p).1,(hl _ σ H (zg _) p).2,.inl (zg _)]) (λi σ H v H' hi p S=>?_) hd;revert S;refine yF3 λt x y=>yB5 ?_;rintro Y rfl rfl U W;exact hs i x y t σ H (U xs (hl i σ H (xx hi) p).1) (W ys (hl i σ H (xx hi) p).2) p Y
end
theorem uc.same{K:KE}{H':Hp}{a:o_}(h:uc K H a xs)(sm:su H H'):uc K H' a xs:=by
 rcases h with (h | ⟨o,h⟩) | h
 .exact .inl (.inl (sm _ _ h))
 .exact .inl (.inr #[o,sm _ _ h])
 .exact .inr h
theorem kr{α:Type}{x:α}{xs:List α}:cJ (x::xs) 0=Sm x:=aq (j:=0) rfl
theorem uc.updL{K:KE}{a l:o_}{ys:MC}{o:HO}(h:uc K H a xs)(hl:H l=Sm (.lst ys)):uc K (upd H l o) a xs:=by
 rcases h with (h | ⟨o',h⟩) | h
 .exact .inl (.inl (by rw[au (dh h hl (λz=>nomatch z))];exact h))
 .exact .inl (.inr #[o',by rw[au (dh h hl (λz=>nomatch z))];exact h])
 .exact .inr h
theorem Kq{P:L_}{w:K_}{k:aP}{u:B_}(h:(de P w).is k u=true):RelV (kV k) u:=by
 cases k with
 | inl i=>
  let#[t,rfl]:=La (show Ot i u=true from h);exact#[t,rfl]
 | inr x=>
  let#[t,rfl]:=OS (show NF x u=true from h);exact#[t,rfl]
section
variable{X:Cx}
def Aj:MC->Hp->VK->Prop:=λxs H Q=>∃d kvs,xs=[.ref d]/\H d=Sm (.dK kvs)/\kvs.length<=60000/\∀l,H l=Nn->Q (.ref l) (upd H l (.lst (kvs.map λkv=>kV kv.1)))
theorem pS(d:o_):Aj [.ref d] H Q=∃kvs,H d=Sm (.dK kvs)/\kvs.length<=60000/\∀l,H l=Nn->Q (.ref l) (upd H l (.lst (kvs.map λkv=>kV kv.1))):=
 propext #[λ⟨_,kvs,e,q⟩=>by cases e;exact#[kvs,q],λ⟨kvs,q⟩=>yI2 d kvs #[rfl,q]]
theorem xP{m:Nat}(hr:CC m X.A):Ck X (.type "list") Aj:=by
 intro pins s σ H xs us Q I r h;revert h;refine yF2 λd kvs=>yB4 ?_;rintro rfl ed hn q;let#[u,rfl,ru]:=dg r;cases ru;refine yA3 (rj I.hok (.inl ed)) λ_ hd=>yF1 λvs=>yB2 λJ dd=>?_;let#[ep,hm]:=dd.dictAt;have hs:L9=16777216:=Np;have hl:kvs.length=vs.length:=zaP J;refine W.kdl_call (W.kdl_dict (knd:=de X.prog X.w) (kvs:=vs) (ep:=ep) hd) hr.hd hm () λh' tk S c' hk hS F=>?_;refine yI2 (.ref s.heap.objs.size) _ #[I.laid hk (zg _) (show B3 X.prog X.w _ h' _ (.lst (kvs.map λkv=>kV kv.1)) from #[by simp;lia,yI2 S.toList c' #[?_,by simpa using hS]]),rfl,q _ (I.hok.fresh (zg _))];refine wb _ _ (by simp[F.1,hl]) λj x Z O e2=>?_;refine yE2 (F.2 j Z (by rw[<-JB];exact e2)) λk y=>yB2 λY U=>?_;rw[zz]at O;cases hkv:kvs[j]? with
 | none=>rw[hkv]at O;cases O
 | some kv=>
  rw[hkv]at O;cases O;have:=(iA J hkv Y).1;show RelV (kV kv.1) Z;rw[this];exact Kq U
end
end L2
namespace L2
open PySem PySem.Spec PyProof.Rows PySem.SeqAt
variable{f:Str}{v:V}
structure Fl (K:KE) (C:o_) (f:Str):Prop where
 c:Ln K C
 n:HU K C f
structure Im (K:KE) (mg:Str->MG) (x:Str) (C:o_) (qual:Str) (st:Ma):Prop where
 ex:∃f fd,JY K "__init__" qual st f fd/\Mk K C f/\mg x=Sm (.ref C)
structure rL (P:L_) (w:K_) (K:KE) (mg:Str->MG) (base:LY) (k:Nat) (x:Str) (C:o_) (ps:MA) (sp:Sp):Prop where
 ex:∃f fd,GZ P w K mg base kE k f fd ps sp/\Binds K fd ps []/\Mk K C f/\mg x=Sm (.ref C)
section
variable{P:L_}{w:K_}{K:KE}{mg:Str->MG}{base:LY}
theorem Im.mkal{x:Str}{C:o_}{J:Str}{st:Ma}{N ps:MA}{k:Nat}{sp:Sp}(D:Im K mg x C J st)(S:aC N ps (sg st))
  (hb:∀(kV Y pm:B_) (an:MN) (O ct:B_) (Z:MF),Z.length=ps.length->bindArgs (Nr "__init__" J (Dt st) (CZ st) (sg st) .none kV Y pm an O ct) #[Z,[]]=pure (ps.zip Z))
  (len:∀vs H Q E,sp vs H Q E->vs.length=ps.length)
  (U:∀(f:o_) (O:B_) (A:Me) (outer:List Env) (s:so) (H:Hp) (vs:MC) (Q:VK) (E:XK),CC k (A.deeper (envOfC J (sg st) s.heap.objs.size f O))->sp vs H Q E->
   ∃t,Iz (kI kE P w K mg base N J (sg st) f O A outer s H E).nox (CZ st) t/\t {nx:=λ_ H'=>Q .non H',rt:=Q} (start N vs) H):rL P w K mg base (k+1) x C ps sp:=by
 refine yE2 D.ex λf fd=>yB3 λF m g=>?_;exact#[f,fd,F.ok S len λO A outer s H vs Q E hr h=>U f O A outer s H vs Q E hr h,F.binds hb,m,g]
end
def Eu(C:o_)(f:Str)(ta:TE):TE:=λσ H Q=>ta σ H λx H1=>∃a,x = .ref a/\∃dx fs v,H1 a=Sm (.ins C dx fs)/\fs.lookup f=Sm v/\Q v H1
def EU(C:o_)(f:Str)(ta tv:TE):TS:=λD σ H=>tv σ H λy H1=>ta σ H1 λx H2=>∃a,x = .ref a/\∃dx fs,H2 a=Sm (.ins C dx fs)/\fs.length<1000/\D.nx σ (upd H2 a (.ins C dx (bz f y fs)))
def Ac(C:o_)(sp:Sp)(t:TA):TE:=λσ H Q=>t σ H λvs H1=>∀x dx,H1 x=Nn->H1 dx=Nn->dx≠x->sp (.ref x::vs) (upd (upd H1 dx (.own x)) x (.ins C dx [])) (λv H2=>v = .non/\Q (.ref x) H2) E0
section
variable{X:Cx}{o e value:Expr}{es:ML}{f m:Str}{pos pos' apos p:Pos}{ta tv:TE}{t:TA}{C:o_}{x:Str}{ps:MA}{sp:Sp}{j k:Nat}
theorem bG(g:Fl X.K C f)(J:PE X e ta)(W:attributeBase e f X.env (eval e X.env)=eval e X.env:=by rfl):PE X (.Attribute e f pos) (Eu C f ta):=by
 intro pins s σ H Q I h;refine Fw W (bA (J pins s σ H _ I h) λu s1 ⟨x,H1,F,U,a,ex,dx,fs,v,S,l,q⟩=>?_);subst ex;obtain rfl:u=Md a:=U;exact yF F S g.c g.n l λZ s2 Y O=>yI2 v H1 #[Y,O,q]
theorem lP(g:Fl X.K C f)(ha:PE X o ta)(hv:PE X value tv)(hs:swapsWith value (Sm (.Attribute o f pos')) pos.line X.env=pure false:=by rfl):PS X (.Assign [.Attribute o f pos'] value pos) (EU C f ta tv):=by
 intro pins s σ H D I h;refine plainObj_wpAny_Assign_Attribute (bA (hv pins s σ H _ I h) λu W ⟨y,H1,O,ry,q⟩=>bA (ha pins W σ H1 _ O q) λF s2 ⟨x,H2,U,Z,a,ex,dx,fs,Y,l,J⟩=>?_) hs;subst ex;obtain rfl:F=Md a:=Z;exact yp U Y g.c g.n l ry λs3 S=>yI2 σ _ #[S,J]
theorem Kz(c:rL X.prog X.w X.K X.mg X.base j x C ps sp)(O:CC k X.A)(U:PA X (e::es) t)(hle:j+1<=k:=by decide)(hg:Gl X x:=by first | exact vGg ⋯ | rfl)(hdb:(x==("__debug__" : Str))=false:=by decide)
  (he:Mj (e::es) X.env=(false,eval e X.env)::Mj es X.env:=by rfl) (hpl:(backTo pos (Mj es X.env)).any (·.1)=false:=by rfl) :
  PE X (.Call (.Name x p) (e::es) [] pos) (Ac C sp t):=by
 refine yE2 c.ex λf fd=>yB4 λF b M S=>?_;intro pins s σ H Q I h;refine OB (pe I hg S ?_ hdb);refine W.callWith_K (h₀:=X.base) I.ok.mod.kin M.kp (bA (U pos pins s σ H _ I h) λZ Y ⟨vs,H1,J,r,q⟩=>#[J.kIn,?_]) he hpl;exact DV M F (O.mono hle) b .nil Er J r (by simpa only[Jg] using q)
end
section
variable{C:o_}{f m:Str}{sp:Sp}{ta tv:TE}{t:TA}{σ:St}{H:Hp}{Q:VK}
theorem sZ:Eu C f ta σ H Q=ta σ H λx H1=>∃a,x = .ref a/\∃dx fs v,H1 a=Sm (.ins C dx fs)/\fs.lookup f=Sm v/\Q v H1:=rfl
theorem rY{D:eI}:EU C f ta tv D σ H=tv σ H λy H1=>ta σ H1 λx H2=>∃a,x = .ref a/\∃dx fs,H2 a=Sm (.ins C dx fs)/\fs.length<1000/\D.nx σ (upd H2 a (.ins C dx (bz f y fs))):=rfl
theorem qG:Ac C sp t σ H Q=t σ H λvs H1=>∀x dx,H1 x=Nn->H1 dx=Nn->dx≠x->sp (.ref x::vs) (upd (upd H1 dx (.own x)) x (.ins C dx [])) (λv H2=>v = .non/\Q (.ref x) H2) E0:=rfl
end
theorem JJ{fs:List (Str×V)}:List.lookup f ((f,v)::fs)=Sm v:=by simp[List.lookup]
theorem FM{g:Str}{fs:List (Str×V)}(h:(f==g)=false):List.lookup f ((g,v)::fs)=List.lookup f fs:=by simp[List.lookup,h]
theorem Jq:List.lookup f ([]:List (Str×V))=Nn:=rfl
theorem Bs{g:Str}{x:V}{r:List (Str×V)}(h:¬ g=f):bz f v ((g,x)::r)=(g,x)::bz f v r:=by simp[bz,h]
theorem BO:bz f v []=[(f,v)]:=rfl
theorem sO{c:Nat}:∀ {p q t u:MB},c∉p->c∉q->p++c::t=q++c::u->p=q/\t=u
 | [],[],_,_,_,_,e=>#[rfl,(List.cons.inj e).2]
 | [],b::q,_,_,_,hq,e=>absurd ((List.cons.inj e).1 ▸ yd) hq
 | a::p,[],_,_,hp,_,e=>absurd ((List.cons.inj e).1 ▸ yd) hp
 | a::p,b::q,t,u,hp,hq,e=>by
  let#[J,O]:=List.cons.inj e;let#[S,F]:=sO (p:=p) (q:=q) (λz=>hp (yh _ z)) (λz=>hq (yh _ z)) O;exact#[by rw[J,S],F]
theorem vC{x y:Str}(h:x.cps.toList=y.cps.toList):x=y:=by
 cases x;cases y;exact congrArg _ (Array.toList_inj.mp h)
theorem gn(x y:Str):(x++y).cps.toList=x.cps.toList++y.cps.toList:=rW
theorem nU(m:Nat):NumText.AllDigits ((Nat.toDigits 10 m).map Char.toNat)/\(Nat.toDigits 10 m).map Char.toNat≠[]:=by
 constructor
 .intro c J;let#[ch,F,e]:=LD.mp J;rw[<-e];exact digit_range (Nat.isDigit_of_mem_toDigits ∅ ∅ F)
 .intro e;have h:=tDigits_len_ge 10 m;rw[List.map_eq_nil_iff.mp e]at h;exact absurd h ∅
end L2
namespace L2
open PySem PySem.Spec PyProof.Rows
section
variable{X:Cx}{tg e:Expr}
theorem zV:Iy X "list.clear" Aw:=Du
end
end L2
namespace L2
open PySem PySem.Spec PyProof.Rows PySem.SeqAt
theorem xc:∀ {vs:MF} {F:MA},StrsAre vs F->∀(i:Nat) (v:B_),vs[i]?=Sm v->∃t,v = .str (F.getD i "") t
 | _,_,.nil,i,v,h=>by simp at h
 | _,_,.cons n t hr,0,v,h=>by simp at h;exact#[t,by rw[<-h];rfl]
 | _,_,.cons n t hr,i+1,v,h=>by
  simp only[zaV]at h;let#[t',e]:=xc hr i v h;exact#[t',by rw[e];rfl]
theorem wX(prog:L_)(w:K_)(x:Str)(t:Tok):(strKind prog w).is x (.str x t)=true:=by
 show NF x (.str x t)=true;simp[NF]
def Ef(K:KE)(SO:o_->MA->HO):MC->Hp->VK->Prop:=λxs H Q=>∃p,∃ns:MA,xs=[.ref p]/\ud K H p (ns.map V.str)/\ns.length<=60/\∀(l:o_) (ds:MA),H l=Nn->ds.Nodup->(∀x,x∈ds ↔ x∈ns)->ds.length<=ns.length->Q (.ref l) (upd H l (SO l ds))
def pW(SO:o_->MA->HO):MC->Hp->VK->Prop:=λxs H Q=>∃p,∃ds:MA,xs=[.ref p]/\H p=Sm (SO p ds)/\ds.length<=60/\∀(l:o_) (ts:MA),H l=Nn->ts.Perm ds->sortedS ts=true->Q (.ref l) (upd H l (.lst (ts.map V.str)))
noncomputable def gR(e:Int×B_):Str:=match e.2 with
 | .str d _=>d
 | _ => ""
def KQ(w:K_)(h:LY)(a:o_)(ds:MA):Prop:=∃o es ep t,h.get? a=Sm o/\o.ExactSet/\o.data = .set es ep t/\es.size<scanBound/\t.fits es.size=true/\cQ (c_ w) t/\(∀e∈es.toList,∃tk,e.2 = .str (gR e) tk)/\es.toList.map gR=ds
noncomputable def lK(w:K_)(a:o_)(ds:MA):HO:=.ext λh=>KQ w h a ds
theorem Il{prog:L_}{w:K_}{h:LY}{a:o_}{S:Str->Bool}{n:Nat}(x:Hk (strKind prog w) (cQ (c_ w)) h a S n):∃ds,KQ w h a ds/\ds.Nodup/\(∀k,k∈ds ↔ S k=true)/\ds.length=n:=by
 let#[o,es,ep,t,h1,h2,Y,h4,h5,W,U,h8,Z,O]:=ED (Sh:=λe=>∃F,e.2 = .str (gR e) F) gR (λe k hk=>by
  let#[F,J]:=OS hk;have:gR e=k:=by unfold gR;rw[J]
  rw[this];exact⟨⟨F,J⟩,rfl⟩) (λe ⟨F,J⟩=>by rw[J];exact wX _ _ _ _) x
 exact#[_,yI4 o es ep t #[h1,h2,Y,h4,h5,W,U,rfl],h8,Z,O]
section
variable{X:Cx}
theorem yS{m:Nat}(hr:CC m X.A){K:KE}(hK:X.K=K):Ck X (.type "set") (Ef K (lK X.w)):=by
 subst hK;intro pins s σ H xs us Q I r h;revert h;refine yF2 λp ns=>yB4 ?_;rintro rfl hq ab q;let#[u,rfl,ru]:=dg r;cases ru;refine yE1 (I.list hq) λU=>yB3 λrv pl hz=>?_;have F:U.length=ns.length:=by rw[<-rv.length,zb]
 refine qu (knd:=strKind X.prog X.w) (λi=>ns.getD i "") hr.hd pl.isList (λi v hv=>by
  let#[t,rfl]:=xc (by simpa using kG rv) i v (by simpa using hv);exact⟨wX _ _ _ _,rfl⟩) (by simp only[xq];unfold scanBound;lia) λh' tk ⟨m,hm,hS⟩ hk=>?_
 refine yE1 (Il hS) λds=>yB4 λhg O J Y=>?_;refine yE4 (id hg) λo es ep t=>yB2 λZ S=>?_;refine yI2 (.ref s.heap.objs.size) _ #[I.laid (λb o e=>hk b o (vg e) e) (zg _) (show B3 X.prog X.w _ h' _ (lK X.w s.heap.objs.size ds) from #[hg,#[o,Z],λh1 h2 g k=>?_]),rfl,q _ ds (I.hok.fresh (zg _)) O (λx=>?_) ?_]
 .revert g;refine yF4 λo es ep t=>yB2 λZ BY=>?_;exact yI4 o es ep t #[k o Z,BY]
 .rw[J,xq,F];exact w6 ("" : Str) x
 .rw[Y,<-F];simpa using hm
end
noncomputable def lC(v:B_):Str:=match v with
 | .str d _=>d
 | _ => ""
theorem vE:∀(l:MF),(∀v∈l,∃F,v = .str (lC v) F)->StrsAre l (l.map lC)
 | [],_=>.nil
 | v::l,h=>by
  let#[F,e]:=h v yd;have r:=vE l λu J=>h u (yh _ J);rw[yR];generalize lC v=d at e |-;subst e;exact .cons d F r
section
variable{prog:L_}{w:K_}{A:Me}{E:LZ}{s:so}
theorem xZ{a:o_}{o:Obj}{es:Array (Int×B_)}{ep:Nat}{t:Mf}{Q:LZ}(hh:A.handled=Nn)(ho:s.heap.get? a=Sm o)(hx:o.ExactSet)(hd:o.data = .set es ep t)(hf:t.fits es.size=true)(ab:es.size<64)(hg:cQ (c_ w) t)
  (hint:∀e∈es.toList,∃S,e.2 = .str (gR e) S)
  (hQ:∀h' d' S q out c F,(∀b o,s.heap.get? b=Sm o->h'.get? b=Sm o)->s.heap.objs.size<=q->h'.get? q=Sm (seqObj "list" out c)->StrsAre out.toList F->F.Perm (es.toList.map gR)->sortedS F=true->Q (.ref q) {s with heap:=h',drawn:=d',toks:=S}) :
  I_ (model prog w) A (call (.builtin "sorted") [.ref a]) Q E s:=by
 refine zbB kind_sorted plain_sorted entry_sorted (args_sorted1 _) ?_;unfold Mv.«sorted»;refine Lo (m:=checkCount "sorted" 1 1 _) (Lp ?_);refine Lo (jQ hh ho hx hd hf (by unfold scanBound;lia) hg λh' d' S acc hk Y hp=>?_);have U:acc.length=es.size:=by rw[hp.length_eq];simp
 have W:StrsAre acc (acc.map lC):=vE acc λv hv=>by
  let#[e,he,rfl]:=LD.mp (hp.mem_iff.mp hv);exact hint e he
 have O:(acc.map lC).Perm (es.toList.map gR):=by
  have:=hp.map lC;rw[td]at this;exact this
 refine Lo (wpAny_newList ?_ (by rw[U,Np];lia));have J:(h'.push (seqObj "list" acc.toArray 0)).get? h'.objs.size=Sm (seqObj "list" acc.toArray 0):=yQ _ rfl;show I_ _ _ _ _ _ {s with heap:=h'.push (seqObj "list" acc.toArray 0),drawn:=d',toks:=S};refine Lo (My (MW slot_list_sort #[_,J,rfl] entry_list_sort (list_sort_treeK strKind_oneLt J W.keysOf (λv₁ v₂ BY e=>keyKind_strs (by rw[<-e];exact W)) () λZ b1 b2=>#[_,rfl,?_]) (args_list_sort _)));refine yE1 (sorted_out_str W b1 b2) λF=>yB3 λa1 a2 a3=>?_;generalize (Mm Z).map (·.2)=out at a1 |-;let#[c,hc]:=sortedHeap_at (out:=out) J
 refine Lp #[_,rfl,hQ _ d' S h'.objs.size out c F (λb o e=>?_) (xx Y) hc a1 (a2.trans O) a3];have hb:=vg (hk b o e);rw[sortedHeap_old (yG hb) (by rw[sK];exact K0 hb)];exact yc _ (hk b o e)
end
section
variable{X:Cx}
theorem qO{m:Nat}(hr:CC m X.A):Ck X (.builtin "sorted") (pW (lK X.w)):=by
 intro pins s σ H xs us Q I r h;revert h;refine yF2 λp ds=>yB4 ?_;rintro rfl e S q;let#[u,rfl,ru]:=dg r;cases ru;refine yE4 ((show B3 X.prog X.w H s.heap p (lK X.w p ds) from I.hok p _ e).1) λo es ep t=>yB8 λho hx hd Y hf hg hint O=>?_;have hz:es.size<=60:=by rw[<-O,zb,og]at S;exact S
 have hs:L9=16777216:=Np;refine xZ hr.hd ho hx hd hf () hg hint λh' d' Z U out c J hk W hc a1 a2 a3=>?_;have hl:J.length<=60:=by rw[a2.length_eq,zb,og];exact hz
 have F:=I.laid (t':=Z) (a:=U) (o:=.lst (J.map V.str)) hk W (show B3 X.prog X.w _ h' _ (.lst (J.map V.str)) from #[by rw[zb];lia,yI2 out.toList c #[qp a1,by simpa using hc]]);refine yI2 (.ref U) _ #[?_,rfl,q _ J (I.hok.fresh W) (by rw[<-O];exact a2) a3];exact#[F.ok,F.os,F.bare,F.base,F.loc,F.cell,F.free,F.freeC,F.pin,F.hok,F.len]
theorem vx{m:Nat}(K:KE)(w:K_)(J:CC m X.A)(F:X.K=K:=by rfl)(hw:X.w=w:=by rfl):Ck X (.type "set") (Ef K (lK w)):=hw ▸ yS J F
theorem oE{m:Nat}(w:K_)(F:CC m X.A)(J:X.w=w:=by rfl):Ck X (.builtin "sorted") (pW (lK w)):=J ▸ qO F
end
end L2
namespace L2
open PySem PySem.Spec PyProof.Rows PySem.SeqAt PySem.Builtin PySem.Builtin.Str PySem.StrLaws
def sS:V->MC->Hp->VK->Prop:=λx xs H Q=>∃s y,x = .str s/\xs=[.str y]/\Q (.bl (decide (0+y.length<=s.length)&&subAt s y 0)) H
theorem ma{H:Hp}{Q:VK}(s y:Str):sS (.str s) [.str y] H Q=Q (.bl (decide (0+y.length<=s.length)&&subAt s y 0)) H:=
 propext #[λ⟨_,_,F,J,q⟩=>by cases F;cases J;exact q,λq=>yI2 s y #[rfl,rfl,q]]
theorem qS{X:Cx}:Iy X "str.startswith" sS:=by
 intro pins s σ H x xs v S Q I J r h;revert h;refine yF2 λz y=>yB3 ?_;rintro rfl rfl q;let#[t,rfl]:=J;let#[u,rfl,O]:=dg r;let#[u,rfl]:=O;exact call_gives F.slot_str_startswith (typeIs_str _ _ _) F.entry_str_startswith (F.args_str_startswith_2 _ _) (gives_str_startswith z y t u) (yI2 (.bl _) H #[I,rfl,q])
theorem gU{X:Cx}(K:KE)(F:X.K=K:=by rfl):Gw X (binaryOp .Add) (qZ K):=F ▸ FW
theorem uZ{K:KE}{H:Hp}{Q:VK}(a b:o_):qZ K (.ref a) (.ref b) H Q=∃xs ys,uc K H a xs/\uc K H b ys/\xs≠[]/\xs.length+ys.length<=L9/\(ys=[]->Q (.ref a) H)/\(ys≠[]->∀p,H p=Nn->Q (.ref p) (upd H p (.tup (xs++ys)))):=
 propext #[λ⟨_,_,xs,ys,F,J,q⟩=>by cases F;cases J;exact yI2 xs ys q,λ⟨xs,ys,q⟩=>yI4 a b xs ys #[rfl,rfl,q]]
end L2
namespace L2
open PySem PySem.Spec PyProof.Rows
abbrev k8:=List MI
noncomputable def MO(P:L_)(w:K_):HeapKind P w (k8):=El (fv P w) (show 0<=7 from ∅)
noncomputable def KF(P:L_)(w:K_)(a:o_)(xs:List (k8×o_×B_)):HO:=
 .ext λh=>∃o es ep,h.get? a=Sm o/\o.ExactDict/\o.data = .dict es ep/\es.toList=xs.map (entryOfKey (MO P w))/\(xs.map (·.1)).Nodup
def Nz(H:Hp)(k:k8)(b:o_):Prop:=H b=Sm (.tup (k.map jT))
def ME(H:Hp)(p:k8×V)(q:k8×o_×B_):Prop:=q.1=p.1/\Nz H p.1 q.2.1/\RelV p.2 q.2.2
def DO(P:L_)(w:K_)(H:Hp)(a:o_)(kvs:List (k8×V)):Prop:=
 ∃xs,H a=Sm (KF P w a xs)/\(a==sysModules)=false/\xs.length<=L9/\L8 (ME H) kvs xs
end L2
namespace L2
open PySem PySem.Spec PyProof PyProof.Rows
section
variable{K:KE}{a b:o_}{xs ys:MC}{g:TG}{te:TE}{nT:Nat}{σ:St}{D:o_}{Q:VK}{H:Hp}
theorem ze{tc:TT}(F:Nat->MC->Hp->Prop)(J:F 0 [] H)(hl:∀i zs H,i<=xs.length->F i zs H->ud K H a xs)
  (W:∀i zs H x t,xs[i]?=Sm x->i<xs.length->F i zs H->H t=Nn->g (.ref t) (σ++List.replicate nT Nn) (upd H t (.tup [.int i,x])) (n_ xs.length i F D zs tc te))
  (hd:∀zs H,F xs.length zs H->Q (.ref D) H):fG (wt K a) g tc te nT σ D Q H:=by
 refine mD xs.length F J (λi zs H hi p=>yI2 xs (xs[i]) #[hl i zs H (xx hi) p,by simp[hi]]) (λzs H p=>#[xs,hl _ zs H (zg _) p,zg _]) (λi zs H v H' hi p O=>?_) hd;revert O;refine yF2 λt x=>yB4 ?_;rintro U rfl rfl S;exact W i zs H x t (S xs (hl i zs H (xx hi) p)) hi p U
end
theorem F2{α:Type}{xs:List α}{v:α}(h:xs[xs.length-1]?=Sm v):cJ xs (-1)=Sm v:=by
 have hl:0<xs.length:=by
  refine zbA λF=>?_;rw[K5 ()]at h;cases h
 unfold cJ lb;rw[Lu ∅,Lz ()];show xs[(-1+(xs.length:Int)).toNat]?=Sm v;rw[show (-1+(xs.length:Int)).toNat=xs.length-1 from ()];exact h
section
variable{prog:L_}{w:K_}{A:Me}{E:LZ}{s:so}
variable{z TI TO i1 i2 t1 t2:o_}{xs ys:MM}{k1 k2:Nat}{a b:B_}
abbrev KN (h:LY) (t1:o_):LY:=h.push {cls:=.type "list_iterator",data:=.fields #v[.ref t1,.int 0 0]}
noncomputable abbrev QF (h:LY) (t1 t2:o_):LY:=(KN h t1).push {cls:=.type "tuple_iterator",data:=.fields #v[.ref t2,.int 0 0]}
end
section
variable{X:Cx}
def E6:R2:=λx y H Q=>∃a b kvs k,y = .ref a/\x = .ref b/\H a=Sm (.dT kvs)/\H b=Sm (.tup (k.map kV))/\Q (.bl (!(bY kvs k).isSome)) H
theorem Bu{n:Nat}(F:CC n X.A):Gw X (Mr .NotIn) E6:=by
 intro pins s σ H x y v u Q I O U h;revert h;refine yF4 λa b kvs k=>yB5 ?_;rintro rfl rfl e S q;cases U;exact Fn (by have:=F.un;lia) I (JS.t e S) O λs' J=>yI2 (.bl _) H #[J,rfl,q]
def Hq:oP:=λo i v H Q=>∃a b kvs k,o = .ref a/\i = .ref b/\H a=Sm (.dT kvs)/\H b=Sm (.tup (k.map kV))/\kvs.length<L9/\Q (upd H a (.dT (du kvs k v)))
theorem Ip{n:Nat}(F:CC n X.A):IP X Hq:=by
 intro pins s σ H o i v Y Z u Q I O J S h;revert h;refine yF4 λa b kvs k=>yB6 ?_;rintro rfl rfl e W hl q;cases O;exact p7 (by have:=F.un;lia) I (IA.t e W hl) J S λs' U=>#[_,U,q]
end
open PySem.SeqAt
end L2
namespace L2
open PySem PySem.Spec PyProof.Rows
abbrev jF:=Sum Str (List MI)
def x9(prog:L_)(w:K_)(h:LY):jF->B_->Prop
 | .inl u,v=>∃t,v=Nl u t
 | .inr l,v=>CM (fv prog w) h l v
theorem KH(i j:Str):decide (i=j)=decide ((Sum.inl i:jF)=Sum.inl j):=by
 by_cases z:i=j
 .subst z;simp
 .have F:¬ ((Sum.inl i:jF)=Sum.inl j):=λq=>z (Sum.inl.inj q);rw[decide_eq_false F,decide_eq_false z]
theorem Ka(l F:List MI):decide (l=F)=decide ((Sum.inr l:jF)=Sum.inr F):=by
 by_cases z:l=F
 .subst z;simp
 .have J:¬ ((Sum.inr l:jF)=Sum.inr F):=λq=>z (Sum.inr.inj q);rw[decide_eq_false J,decide_eq_false z]
theorem J5(i:Str)(l:List MI):decide ((Sum.inl i:jF)=Sum.inr l)=false:=decide_eq_false (λq=>nomatch q)
theorem KC(i:Str)(l:List MI):decide ((Sum.inr l:jF)=Sum.inl i)=false:=decide_eq_false (λq=>nomatch q)
theorem KI{prog:L_}{w:K_}{A:Me}{E:LZ}{s:so}{u v:B_}{Q:Bool->so->Prop}(F:A.units+1<cLine):∀(x y:jF),x9 prog w s.heap x u->x9 prog w s.heap y v->Q (decide (x=y)) s->
  I_ (model prog w) A (PySem.eqBool u v) Q E s
 | .inl i,.inl j,⟨t,e1⟩,⟨t',e2⟩,h=>by
  subst e1 e2;rw[<-KH]at h;exact wpAny_eqBool_str h
 | .inl i,.inr l,⟨t,e1⟩,hy,h=>by
  subst e1;refine yE2 (CM.tup (K:=fv prog w) hy) λb O=>yB2 ?_;rintro rfl J;rw[J5]at h;exact SeqAt.EqAt.str_tuple i t J (Nat.lt_of_succ_lt F) prog w E Q h
 | .inr l,.inl j,hx,⟨t,e1⟩,h=>by
  subst e1;refine yE2 (CM.tup (K:=fv prog w) hx) λb O=>yB2 ?_;rintro rfl J;rw[KC]at h;exact SeqAt.EqAt.tuple_str j t J (Nat.lt_of_succ_lt F) prog w E Q h
 | .inr l,.inr l',hx,hy,h=>by
  rw[<-Ka]at h;exact pF (K:=fv prog w) (xg F) hx hy h
noncomputable def Nq(prog:L_)(w:K_):IK prog w jF where
 is:=x9 prog w
 hash:=λk=>match k with
  | .inl u=>hashStr w u
  | .inr l=>rH (fv prog w) l
 draws:=λk=>match k with
  | .inl _=>1
  | .inr l=>jr (fv prog w) l+1
 deep:=1
 inj:=λ{h v x y} a b=>by
  cases x with
  | inl i=>
   let#[t,rfl]:=(show ∃t,v=Nl i t from a)
   cases y with
   | inl j=>let#[t',e]:=(show ∃t',Nl i t=Nl j t' from b);injection e with e1 _;rw[e1]
   | inr l=>refine yE2 (CM.tup (show CM (fv prog w) h l _ from b)) λa _=>yB2 λe _=>?_;cases e
  | inr l=>
   cases y with
   | inl j=>
    let#[t,rfl]:=(show ∃t,v=Nl j t from b)
    refine yE2 (CM.tup (show CM (fv prog w) h l _ from a)) λa _=>yB2 λe _=>?_;cases e
   | inr l'=>rw[(tupK (fv prog w)).inj (show CM (fv prog w) h l v from a) (show CM (fv prog w) h l' v from b)]
 keeps:=λ{h h' k v d o es ep} a ho hd hs=>by
  cases k with
  | inl i=>exact a
  | inr l=>exact(tupK (fv prog w)).keeps (show CM (fv prog w) h l v from a) ho hd hs
 pyHash:=λ{A E s k v Q} hu hk h=>by
  cases k with
  | inl i=>
   let#[t,rfl]:=(show ∃t,v=Nl i t from hk)
   exact wpAny_pyHash_str h
  | inr l=>exact lg (K:=fv prog w) (xg hu) hk h
 eqBool:=λ{A E s x y u v Q} hu hx hy h=>KI hu x y hx hy h
 quiet:=λ{A E s k v n Q} hk h=>by
  cases k with
  | inl i=>
   let#[t,rfl]:=(show ∃t,v=Nl i t from hk)
   rw[eqIsQuiet_byValue _ rfl];exact Lp h
  | inr l=>exact j4 (K:=fv prog w) hk h
abbrev oB:=Str×List MI
noncomputable def sk(k:oB):List jF:=[.inl k.1,.inr k.2]
noncomputable def MS(P:L_)(w:K_):HeapKind P w (List jF):=El (Nq P w) (show 1<=7 from ∅)
noncomputable def Kn(P:L_)(w:K_)(a:o_)(xs:List (List jF×o_×B_)):HO:=
 .ext λh=>∃o es ep,h.get? a=Sm o/\o.ExactDict/\o.data = .dict es ep/\es.toList=xs.map (entryOfKey (MS P w))/\(xs.map (·.1)).Nodup
def Qc(H:Hp)(k:oB)(b:o_):Prop:=∃t,H b=Sm (.tup [.str k.1,.ref t])/\H t=Sm (.tup (k.2.map jT))
def Mx(H:Hp)(p:oB×V)(q:List jF×o_×B_):Prop:=q.1=sk p.1/\Qc H p.1 q.2.1/\RelV p.2 q.2.2
def DS(P:L_)(w:K_)(H:Hp)(a:o_)(kvs:List (oB×V)):Prop:=
 ∃xs,H a=Sm (Kn P w a xs)/\(a==sysModules)=false/\xs.length<=L9/\L8 (Mx H) kvs xs
section
variable{prog:L_}{w:K_}{A:Me}{E:LZ}{s:so}
theorem qt{it t:o_}{items:MM}(S:t≠it):∀(n i:Nat) (s:so) (Q:MF->so->Prop),s.heap.IsListIter it t i->s.heap.IsList t items->i+n<=items.size->
  (∀h',h'.IsListIter it t (i+n)->M5 it s.heap h'->Q ((items.toList.drop i).take n) {s with heap:=h'})->I_ (model prog w) A (draw (.ref it) n) Q E s
 | 0,i,s,Q,hit,_,_,hQ=>by
  show I_ _ _ (pure []) Q E s;exact Lp (by simpa using hQ s.heap hit (OX ..))
 | n+1,i,s,Q,hit,ht,hle,hQ=>by
  have O:i<items.size:=()
  show I_ _ _ (pyNext (.ref it) >>= _) Q E s;refine Lo (wpAny_pyNext_list_item hit ht (x:=items[i]) (by simp[O]) λZ J F=>?_);refine Lo (My (qt S n (i+1) _ _ J (ht.extBut F.extBut S) () λY U W=>Lp ?_));have hd:items.toList.drop i=items[i]::items.toList.drop (i+1):=by simp[zbo,O]
  have:=hQ Y (by rw[show i+(n+1)=i+1+n from ()];exact U) (F.trans W);rw[hd,Ll]at this;exact this
theorem my{t:o_}{items:MM}{Q:MF->so->Prop}(hh:A.handled=Nn)(W:s.heap.IsList t items)
  (hQ:∀h',NU s.heap.objs.size s.heap h'->Q items.toList {s with heap:=h'}):I_ (model prog w) A (unpackItems (.ref t) items.size Nn) Q E s:=by
 refine yE1 (id W) λo=>yB3 λho hc hd=>?_;have U:t≠s.heap.objs.size:=yG (vg ho);unfold unpackItems;refine Lo ?_
 .unfold notIterableAtAll;refine Lo (NR (show s.TypeIs (.ref t) "list" from #[o,ho,hc]) F.slot_list_iter.lookup ?_);refine Lp ?_;simp only[sJ,if_false];refine Lo (My (Oz W ?_));refine Lo (My (qt U items.size 0 _ _ #[_,yQ _ rfl,rfl,rfl] (LY.IsList.push W _) () λh₁ S J=>?_));have O:List.take items.size (List.drop 0 items.toList)=items.toList:=by
   rw[List.drop_zero];exact IH '~'
  rw[O];rw[Lu '~'];have Z:h₁.IsList t items:=(LY.IsList.push W _).extBut J.extBut U;refine Lo (My (wpAny_pyNext_list_end hh S Z '~' λh₂ Y=>?_));simp only[Option.isSome_none,sJ,if_false];refine Lp (hQ h₂ λb o hb e=>Y b o hb (J.extBut b o hb (yc _ e)))
theorem lQ{env:Env}{F:ML}{x1}{pos:Pos}{t:o_}{items:MM}{Q:Unit->so->Prop}(hh:A.handled=Nn)(S:s.heap.IsList t items)
  (O:(assignEach F env).length=items.size) (J:(assignEach F env).findIdx? (·.1)=Nn)
  (h:∀h',NU s.heap.objs.size s.heap h'->I_ (model prog w) A (assignInOrder ((assignEach F env).map (·.2)) items.toList) Q E {s with heap:=h'}) :
  I_ (model prog w) A (assign (.Tuple F x1 pos) env (.ref t)) Q E s:=by
 rw[assign_Tuple];refine Lo (wpAny_standAt ?_);unfold unpack;rw[O,J];exact Lo (My (my hh S h))
end
section
variable{X:Cx}
def Jk(K:KE)(n:Nat)(t:gP):TG:=λv σ H Q=>∃a xs,v = .ref a/\ud K H a xs/\xs.length=n/\t xs σ H Q
theorem Ft(K:KE)(n:Nat)(t:gP)(v:V){σ:St}{H:Hp}{G:St->Hp->Prop}:Jk K n t v σ H G=∃a xs,v = .ref a/\ud K H a xs/\xs.length=n/\t xs σ H G:=rfl
theorem EZ(K:KE){es:ML}{k n:Nat}{t:gP}{pos:Pos}(h:Lj X es t)(S:(assignEach es X.env).length=n:=by rfl)(hst:(assignEach es X.env).findIdx? (·.1)=Nn:=by rfl)(hK:X.K=K:=by rfl)(hc:X.calm=true:=by rfl):PG X (.Tuple es k pos) (Jk K n t):=by
 subst hK;intro pins s σ H v u Q I r F;revert F;refine yF2 λa xs=>yB4 λZ O hl F=>?_;subst Z;cases r;refine yE1 (I.list O) λU=>yB3 λJ pl hz=>?_;refine lQ (I.ok.hd hc) pl.isList (by simp[S,<-hl,J.length]) hst λh' hx=>?_;have Y:Inv X pins σ H {s with heap:=h'}:=I.kept (t':=s.toks) λb o e=>hx b o (yG (vg e)) e;exact h pins _ σ H xs _ Q Y (by simpa using J) F
end
noncomputable def bq(n s:Nat):Bool:=n.testBit s
theorem jA(n s:Nat):bq n s=decide (n/2^s%2=1):=Nat.testBit_eq_decide_div_mod_eq
theorem FF(n s:Nat):n &&& 2^s=(if bq n s=true then 2^s else 0):=by
 unfold bq;refine Nat.eq_of_testBit_eq λi=>?_;rw[Nat.testBit_and,za8];by_cases c:s=i
 .subst c;cases h:n.testBit s<;>simp
 .rw[decide_eq_false c,Bool.and_false];split
  .rw[za8,decide_eq_false c]
  .rw[Nat.zero_testBit]
noncomputable def bZ(n s:Nat):Nat:=if bq n s=true then n-2^s else n
noncomputable def kO(n s:Nat):Nat:=if bq n s=true then n else n+2^s
theorem kf{n s:Nat}(h:bq n s=true):2^s<=n:=Nat.ge_two_pow_of_testBit h
theorem tS(n s:Nat):n ||| 2^s=kO n s:=by
 unfold kO;by_cases c:bq n s=true
 .rw[Lz c];refine Nat.eq_of_testBit_eq λi=>?_;rw[Nat.testBit_or,za8];by_cases d:s=i
  .subst d;have:n.testBit s=true:=c;rw[this];rfl
  .rw[decide_eq_false d,Bool.or_false]
 .rw[Lu c];have J:n/2^s%2=0:=by
   rw[jA,decide_eq_true_eq]at c;lia
  have O:n%2^(s+1)=n%2^s:=by rw[Nat.mod_pow_succ,J];lia
  have F:n%2^(s+1)<2^s:=by rw[O];exact Nat.mod_lt _ (Nat.two_pow_pos s)
  have e:=Nat.div_add_mod n (2^(s+1));generalize n%2^(s+1)=b at F e;generalize n/2^(s+1)=a at e;have p2:2^(s+1)=2^s+2^s:=by rw[Nat.pow_succ];lia
  have h1:=Nat.two_pow_add_eq_or_of_lt (i:=s+1) (b:=b) () a;have h2:=Nat.two_pow_add_eq_or_of_lt (i:=s+1) (b:=b+2^s) () a;rw[<-e,h1,Nat.or_assoc,Nat.or_two_pow_eq_add_of_lt F,<-h2];lia
theorem iE(x:Int):Nc (Nc x)=x:=by unfold Nc;lia
theorem pE(n:Nat):decide (0<=Nc (n:Int))=false:=decide_eq_false (by unfold Nc;lia)
theorem vi(n s:Nat):Ou (n:Int) (Nc ((2^s:Nat):Int))=(bZ n s:Int):=by
 unfold Ou;rw[pE,decide_eq_true (Int.natCast_nonneg n)];show (n:Int)-(((n:Int).toNat &&& (Nc (Nc ((2^s:Nat):Int))).toNat:Nat):Int)=_;rw[iE,uv,uv,FF];unfold bZ;split
 .rename_i h;have:=kf h;lia
 .simp
theorem JR(n s:Nat):OA (n:Int) ((2^s:Nat):Int)=(kO n s:Int):=by
 unfold OA Ou;rw[pE,pE];show Nc (Nc (((Nc (Nc (n:Int))).toNat ||| (Nc (Nc ((2^s:Nat):Int))).toNat:Nat):Int))=_;rw[iE,iE,iE,uv,uv,tS]
theorem Js(n s:Nat):Ou ((n:Int)/2^s) 1=if bq n s=true then 1 else 0:=by
 rw[PyProof.Rows.bitAnd_m1,jA];have e:(n:Int)/2^s%2=((n/2^s%2:Nat):Int):=by push_cast;rfl
 rw[e];split
 .rename_i h;rw[of_decide_eq_true h];rfl
 .rename_i h;rw[decide_eq_true_eq]at h;have:n/2^s%2=0:=()
  rw[this];rfl
end L2
namespace L2
open PySem PySem.Spec PyProof PyProof.Rows
def HR(h:LY)(d:o_)(es:Array NE)(ep:Nat):Prop:=∃o,h.get? d=Sm o/\o.ExactDict/\o.data = .dict es ep
section
variable{prog:L_}{w:K_}{A:Me}{E:LZ}{s:so}{d:o_}{es:Array NE}{ep:Nat}
theorem HR.ty(x:HR s.heap d es ep):s.TypeIs (.ref d) "dict" := let ⟨o,eo,ex,_⟩:=x;#[o,eo,ex.1]
theorem HR.by{h h':LY}(x:HR h d es ep)(k:∀o,h.get? d=Sm o->h'.get? d=Sm o):HR h' d es ep:=let ⟨o,eo,r⟩:=x;#[o,k o eo,r]
theorem DY{Q:LZ}(nd:(d==sysModules)=false)(x:HR s.heap d es ep)
  (q:Q (.ref s.heap.objs.size) {s with heap:=s.heap.push {cls:=.type "dict_keyiterator",data:=.fields #v[.ref d,.int 0 0,.int es.size 0,.int ep 0]}}):I_ (model prog w) A (pyIter (.ref d)) Q E s:=by
 refine yE1 (id x) λo=>yB3 λO ex J=>?_;have ty:=x.ty;refine wpAny_pyIter_slot ty F.slot_dict_iter (MW F.slot_dict_iter ty F.entry_dict_iter ?_ (F.args_dict_iter_1 _));unfold Mv.«dict.__iter__» Mv.Dict.dictSlotNone;refine Lo (Lo (wpAny_notOrdered_dict ty ?_));show I_ _ _ (pure (Md d)) _ _ s;refine Lp ?_;show I_ _ _ (Mv.Dict.showsAll d >>= _) _ _ s;unfold Mv.Dict.showsAll;rw[Lu (by rw[nd];decide)];refine Lo (Lp (Lo (wpAny_dictEntries O J (Lo (wpAny_dictEpoch O J ?_)))));refine Lo (MZ (Lp #[_,rfl,yI2 ("dict_keyiterator") _ #[#[_,yQ _ rfl,rfl],F.slot_dict_keyiterator_next.lookup,?_]]));simpa [rawInt] using q
theorem DP{it:o_}{i:Nat}{Q:MG->so->Prop}(Y:s.heap.IsKeyIter it d i es.size ep)(x:HR s.heap d es ep)(hi:i<es.size)
  (q:∀h',h'.IsKeyIter it d (i+1) es.size ep->M5 it s.heap h'->Q (Sm es[i].key) {s with heap:=h'}):I_ (model prog w) A (pyNext (.ref it)) Q E s:=by
 refine yE1 (id Y) λu=>yB3 λO Z J=>?_;refine yE1 (id x) λo=>yB3 λW ex U=>?_;have ty:=Y.typeIs;unfold pyNext;refine Lo (NK (Nu (name:=Str.ofString "__next__") ty zbp (MW zbp ty F.entry_dict_keyiterator_next ?_ (F.args_dict_keyiterator_next_1 _))));refine Lo (Lp (Lo (Lo ?_)));refine Lo (ON ty (Lp (Lo (Ol O J ?_))));have ow:O4 "dict_keyiterator" = false:=∅;simp only[ow,sJ,if_false];show I_ _ _ (if (Md d==MQ)=true then _ else _) _ _ s;rw[Lu (show ¬ (Md d==MQ)=true from λz=>xV z)];refine Lo (Lp (Lo (wpAny_dictEntries W U ?_)));rw[Lu '~'];refine Lo (Lp (Lo (wpAny_dictEpoch W U ?_)));rw[Lu '~'];refine Lp ?_;simp only[show ¬ ((i:Int)<0) from (),if_false,uv,IC hi];refine Lo (Lo (ON ty (Lp (Lo (wpAny_isOneOf_keyiter ty ?_)))));show I_ _ _ (setField (.ref it) 1 (rawInt ((i:Int)+1)) >>= _) _ _ s;refine Lo (NC O J '~' ?_);have S:(s.heap.update it (On (·.setIfInBounds 1 (rawInt ((i:Int)+1))))).IsKeyIter it d (i+1) es.size ep:=
  #[_,JC _ O (zaU (J1 J _)),(za7 ..).trans Z,by rw[J1 J];simp[rawInt]]
 generalize hz:s.heap.update it (On (·.setIfInBounds 1 (rawInt ((i:Int)+1))))=h2 at S |-;refine Lo (My (Lo (wpAny_isOneOf_keyiter (s:={s with heap:=h2}) S.typeIs ?_)))
 show I_ _ _ (pure es[i].key) _ _ _;exact Lp (Lp #[_,rfl,Lp (q h2 S (hz ▸ IJ ..))])
theorem FB{it:o_}{i:Nat}{Q:MG->so->Prop}(hh:A.handled=Nn)(U:s.heap.IsKeyIter it d i es.size ep)(x:HR s.heap d es ep)(hi:es.size<=i)
  (q:∀h',NU it s.heap h'->Q Nn {s with heap:=h'}):I_ (model prog w) A (pyNext (.ref it)) Q E s:=by
 refine yE1 (id U) λu=>yB3 λO Z W=>?_;refine yE1 (id x) λo=>yB3 λS ex J=>?_;have ty:=U.typeIs;unfold pyNext;refine Lo (NK (Nu (name:=Str.ofString "__next__") ty zbp (MW zbp ty F.entry_dict_keyiterator_next ?_ (F.args_dict_keyiterator_next_1 _))));refine Lo (Lp (Lo (Lo ?_)));refine Lo (ON ty (Lp (Lo (Ol O W ?_))));have Y:O4 "dict_keyiterator" = false:=∅;simp only[Y,sJ,if_false];show I_ _ _ (if (Md d==MQ)=true then _ else _) _ _ s;rw[Lu (show ¬ (Md d==MQ)=true from λz=>xV z)];refine Lo (Lp (Lo (wpAny_dictEntries S J ?_)));rw[Lu '~'];refine Lo (Lp (Lo (wpAny_dictEpoch S J ?_)));rw[Lu '~'];refine Lp ?_;simp only[show ¬ ((i:Int)<0) from (),if_false,uv,zbj hi];refine Lo (Lo (ON ty (Lp ?_)));show I_ _ _ (setField (.ref it) 0 .none >>= _) _ _ s;refine Lo (NC O W '~' ?_);show I_ _ _ (newExc (.type "StopIteration") [] >>= _) _ _ _;simp only[newExc,newTuple];refine Lo (Lo (MZ (Lo (m:=firstArgMember _ _) (Ov (a:=MQ) (by first | rfl | (simp only[firstArgMember];rfl)) ?_)) (by size_fits)));refine MZ ?_ (by size_fits);simp only[raiseNew];refine Lo (wpAny_handled ?_);rw[show A.in1.handled=Nn from hh];refine Lo (Lp (wpAny_throw ?_));refine Lo (N4 (b:=true) (T := "StopIteration") #[_,yQ _ rfl,rfl] OK ?_);exact Lp (q _ (((IJ ..).extBut.push _).push _))
theorem BE(hh:A.handled=Nn)(I:o_)(ne:d≠I):Walks prog w A I [I,d] [I] es.size (λi v=>∃e,es[i]?=Sm e/\v=e.key) (λi h=>h.IsKeyIter I d i es.size ep/\HR h d es ep) where
 sub:=λb F=>by simp at F;simp[F]
 frame:=λi h h' st k=>#[let ⟨o,e,r⟩:=st.1;#[o,k I '~' o e,r],st.2.by λo e=>k d '~' o e]
 item:=λi s Q E hi st q=>DP st.1 st.2 hi λh' S J=>q _ h' s.toks #[_,IC hi,rfl] #[S,st.2.by λo e=>J.extBut d o ne e] λb o F e=>J.extBut b o (λz=>F (by simp[z])) e
 done:=λs Q E st q=>FB hh st.1 st.2 (zg _) λh' O=>q h' s.toks λb o F e=>O b o (λz=>F (by simp[z])) e
 self:=λi s Q E st q=>wpAny_pyIter_keyiter st.1 q
theorem E8(nd:(d==sysModules)=false):W.KdlSrc prog w "dict" d d es.size (λi v=>∃e,es[i]?=Sm e/\v=e.key) (λh=>HR h d es ep) where
 type:=λ_ x=>x.ty
 there:=λ_ x=>let ⟨_,e,_⟩:=x;#[vg e,vg e]
 keep:=λ_ _ x k=>x.by λo e=>k d (.inl rfl) o e
 notList:=∅
 notTuple:=∅
 hint:=λ_ _ _ _ x q=>W.kdl_hint_dict x.ty q
 iter:=λ_ s hh x=>yI2 _ _ #[λ_ _ q=>DY nd x q,BE hh _ (let ⟨_,e,_⟩:=x;yG (vg e)),#[_,yQ _ rfl,rfl,rfl],x.by λo e=>yc _ e]
end
section
variable{X:Cx}
theorem FH{H:Hp}{kvs:List (List aP×V)}{ys:List (List aP×o_×B_)}(h:L8 (λ(p:List aP×V) (q:List aP×o_×B_)=>p.1=q.1/\H q.2.1=Sm (.tup (p.1.map kV))/\RelV p.2 q.2.2) kvs ys):L8 (λ(p:List aP×V) b=>H b=Sm (.tup (p.1.map kV))) kvs (ys.map (·.2.1)):=by
 induction h with
 | nil=>exact .nil
 | cons a b ih=>exact .cons a.2.1 ih
end
end L2
namespace L2
open PySem
theorem Fc(h:Int):OO h<2^64:=by
 unfold OO;lia
structure RT (mask:Nat) (owner:Array MH) (k:Nat):Prop where
 sz:owner.size=mask+1
 pm:((List.range (mask+1)).filterMap (λj=>owner.getD j Nn)).Perm (List.range k)
end L2
namespace L2
open PySem PySem.Spec PyProof.Rows PySem.SeqAt
section
variable{prog:L_}{w:K_}{K:Type}[DecidableEq K]{knd:KeyKind prog w K}{A:Me}{E:LZ}{s:so}{L:Bool}
theorem E9{t:Mf}{n:Nat}(h1:t.place.size=n)(h2:t.dummies = #[])(F:n<=t.mask):t.fits n=true:=by
 unfold Mf.fits Mf.fill;rw[h1,h2];simp;lia
end
variable{α β:Type}{i m ia ib na nb:Nat}{st:Mg}{a b out:Array Mi}
def ui(i q:Nat):Oh:=#[i,0,i,q,Nn]
theorem Gu(i:Nat):Mf.runEnd 7 i-i=0:=by unfold Mf.runEnd;rw[Lu ()];lia
theorem JL{t:Mf}(h:t.mask=7)(i q:Nat):t.advance (ui i q)=ui ((i*5+1+q/32)%8) (q/32):=by
 unfold OW ui Mf.leap;rw[h,Lu '~'];dsimp only;rw[Gu]
def Fr(t:Mf):Nat->Oh->Prop
 | 0,p=>t.slot p.j = .empty
 | n+1,p=>t.slot p.j = .empty\/Fr t n (t.advance p)
def Iv:Nat->Nat->Nat
 | 0,i=>i
 | k+1,i=>Iv k ((i*5+1)%8)
theorem Li:∀i<8,∀e<8,∃k<8,Iv k i=e:=∅
theorem EJ{t:Mf}(h:t.mask=7):∀(k n i:Nat),k<=n->t.slot (Iv k i) = .empty->Fr t n (ui i 0)
 | 0,0,_,_,e=>e
 | 0,_+1,_,_,e=>.inl e
 | k+1,n+1,i,hk,e=>.inr (by rw[JL h];exact EJ h k n _ () e)
theorem K7{t:Mf}(h:t.mask=7){e:Nat}(J:e<8)(F:t.slot e = .empty):∀(n i q:Nat),i<8->q<32^n->Fr t (n+8) (ui i q)
 | 0,i,q,hi,hq=>by
  let#[k,O,rfl]:=Li i hi e J;obtain rfl:q=0:=()
  exact EJ h k _ i () F
 | n+1,i,q,hi,hq=>by
  rw[show n+1+8=n+8+1 from ()];refine .inr ?_;rw[JL h];exact K7 h J F n _ _ (Nat.mod_lt _ ∅) (by rw[Nat.pow_succ]at hq;lia)
theorem Et{t:Mf}(hd:t.dummies = #[])(j:Nat):t.slot j = .empty\/∃(i:Nat) (hi:i<t.place.size),t.slot j = .live i/\t.place[i]=j:=by
 unfold Mf.slot;dsimp only;split
 .rename_i q;rcases iu (M7 t.place j) t.place.size with z | z
  .rw[IC z]at q;exact .inr #[_,z,rfl,by simpa using q]
  .rw[zbj z]at q;cases q
 .rw[hd];exact .inl rfl
theorem EK{t:Mf}(hd:t.dummies = #[])(f:Nat->Int)(h:Int):∀(n F:Nat) (p:Oh),p.dummy=Nn->Fr t n p->n<F->(∃j,Oi t f h F p=Sm (.empty j Nn)/\t.slot j = .empty)\/∃j i O n',Oi t f h F p=Sm (.candidate j i O)/\t.slot j = .live i/\i<t.place.size/\O.dummy=Nn/\Fr t n' O/\n'<n
 | _,0,_,_,_,hf=>absurd hf (KP _)
 | n,F+1,p,hp,J,hf=>by
  unfold Oi;rcases Et hd p.j with e | ⟨i,hi,e,_⟩
  .rw[e];exact .inl #[p.j,by dsimp only;rw[hp],e]
  .rw[e];dsimp only;cases n with
   | zero=>rw[show t.slot p.j=_ from J]at e;cases e
   | succ n=>
    have J:Fr t n (t.advance p):=J.resolve_left λz=>by rw[z]at e;cases e
    have S:(t.advance p).dummy=Nn:=by unfold OW;split<;>exact hp
    split
    .exact .inr (yI4 _ _ _ n #[rfl,e,hi,S,J,()])
    .rcases EK hd f h n F _ S J () with z | ⟨j,Y,O,n',z1,U,z3,Z,W,z6⟩
     .exact .inl z
     .exact .inr (yI4 j Y O n' #[z1,U,z3,Z,W,()])
theorem iG{α:Type}[DecidableEq α]:∀ {l m:List α},l.Nodup->(∀x∈l,x∈m)->l.length<=m.length
 | [],m,_,_=>mw _
 | a::l,m,nd,h=>by
  rw[JG]at nd;have h1:=h a yd;have:=iG (m:=m.erase a) nd.2 λx hx=>(List.mem_erase_of_ne (by rintro rfl;exact nd.1 hx)).mpr (h x (yh _ hx));rw[List.length_erase_of_mem h1]at this;have:=List.length_pos_of_mem h1;rw[zy];lia
theorem B7{t:Mf}(hd:t.dummies = #[])(J:t.mask=7)(hz:t.place.size<8)(h:Int):Fr t 21 (t.probeStart h):=by
 have O:∃e,e<8/\t.slot e = .empty:=zbA λS=>by
  have:=iG (m:=t.place.toList) (List.nodup_range (n:=8)) λe F=>by
   rcases Et hd e with z | ⟨i,hi,_,z⟩
   .exact absurd #[e,LK.mp F,z] S
   .rw[<-z];exact tL hi
  rw[zaW,og]at this;lia
 let#[e,F,W]:=O;have U:t.probeStart h=ui (OO h%8) (OO h):=by
  unfold Mf.probeStart ui;rw[J];dsimp only;rw[Gu]
 rw[U];exact K7 J F W 13 _ _ (Nat.mod_lt _ ∅) (rN (Fc h) ∅)
section
variable{prog:L_}{w:K_}{A:Me}{E:LZ}{s:so}
theorem uM(n:Nat){v:B_}(h:carriedByValue v=true):ofAClassStatement n v=pure false:=by
 cases v<;>first | (cases h;done) | (cases n<;>rfl)
theorem jw{ks:MJ}{a:o_}{Q:Bool->so->Prop}(S:MT (Mh prog w) s.heap ks a)(h:Q false s):I_ (model prog w) A (ofAClassStatement 8 (.ref a)) Q E s:=by
 have U:=S.typeIs;revert S;refine yF3 λo items n=>yB4 λW _ hd hi=>?_;unfold ofAClassStatement;refine Lo (NQ U ?_);dsimp only;refine Lo ?_;refine Lp ?_;simp only[zaR,sJ,if_false];refine Lo (Ni W hd ?_);dsimp only;refine Lo ?_;rw[<-zbg];refine Og _ (λBY r s'=>r.1=Nn/\s'=s/\∀v∈BY,carriedByValue v=true) _ ?_ ?_ _ _ #[rfl,rfl,hi.byValue]
 .rintro v BY r s' ⟨J,rfl,F⟩;rw[uM _ (F v yd)];refine Lo (Lp ?_);simp only[sJ,if_false];exact Lp #[rfl,rfl,λu O=>F u (yh _ O)]
 .rintro⟨Y,Z⟩ s' ⟨J,rfl,_⟩;simp only at J;subst J;exact Lp h
theorem rn{ks:MJ}{a:o_}{Q:Bool->so->Prop}(S:MT (Mh prog w) s.heap ks a)(h:∀b,Q b s):I_ (model prog w) A (hashByValue 8 (.ref a)) Q E s:=by
 have U:=S.typeIs;revert S;refine yF3 λo items n=>yB4 λW _ hd hi=>?_;unfold hashByValue;refine Lo (NR U F.slot_tuple_hash.lookup ?_);dsimp only;refine Lo (Ni W hd ?_);refine Lo ?_;show I_ _ _ (forIn items _ _) _ _ s;rw[<-zbg];refine Og _ (λBY r s'=>r.1=Nn/\s'=s/\∃ks,ItemsAre (Mh prog w) ks BY) _ ?_ ?_ _ _ #[rfl,rfl,_,hi]
 .intro v BY r s';refine yB3 ?_;rintro O rfl;refine yF1 λ_ J=>?_;cases J with
  | cons q J=>
   let#[t,rfl]:=La q;refine Lo (Lp ?_);exact Lp #[rfl,rfl,_,J]
 .rintro⟨Y,Z⟩ s' ⟨O,rfl,_⟩;simp only at O;subst O;exact Lp (h true)
theorem yO{κ:o_->MJ}{p:o_}{Q:Bool->so->Prop}(W:MT (Mh prog w) s.heap (κ p) p)(st:MF)(O:∀v∈st,∃q,v = .ref q/\MT (Mh prog w) s.heap (κ q) q)(h:Q false s):I_ (model prog w) A (searchCouldBeSeen (.ref p) st) Q E s:=by
 unfold searchCouldBeSeen;refine Lo ?_;refine Og _ (λBY r s'=>r.1=Nn/\s'=s/\∀v∈BY,∃q,v = .ref q/\MT (Mh prog w) s.heap (κ q) q) _ ?_ ?_ _ _ #[rfl,rfl,O]
 .rintro v BY r s' ⟨J,rfl,F⟩;let#[q,rfl,U]:=F v yd;have go:=λu S=>F u (yh _ S);dsimp only;split
  .exact Lp #[rfl,rfl,go]
  .refine Lo (wpAny_eqIsQuiet_tuple W ?_);refine Lo (wpAny_eqIsQuiet_tuple U ?_);refine Lo (jw W ?_);refine Lo (jw U ?_);exact Lp #[rfl,rfl,go]
 .rintro⟨Y,Z⟩ s' ⟨J,rfl,_⟩;simp only at J;subst J;exact Lp h
end
section
variable{prog:L_}{w:K_}{A:Me}{E:LZ}{s:so}{f:o_->Int}{L:Bool}{κ:o_->MJ}{a p:o_}{o:Obj}{es:Array (Int×B_)}{ep:Nat}{t:Mf}{qs:MD}
structure Jf (f:o_->Int) (L:Bool) (o:Obj) (es:Array (Int×B_)) (ep:Nat) (t:Mf) (qs:MD):Prop where
 ex:o.ExactSet
 dat:o.data = .set es ep t
 el:es.toList=qs.map λq=>(f q,.ref q)
 rise:gH t.place
 psz:t.place.size=qs.length
 nod:t.dummies = #[]
 m7:t.mask=7
 led:t.led=L
 few:qs.length<=4
theorem Jf.sz(T:Jf f L o es ep t qs):es.size=qs.length:=by rw[<-og,T.el,zb]
theorem Jf.fit(T:Jf f L o es ep t qs):t.fits es.size=true:=E9 (T.psz.trans T.sz.symm) T.nod (by rw[T.sz,T.m7];have:=T.few;lia)
theorem J7{b:Bool}{m:Sem Bool}{u k:Sem α}{Q:α->so->Prop}(F:∀ {Q:Bool->so->Prop},Q false s->I_ (model prog w) A m Q E s)(h:I_ (model prog w) A k Q E s):I_ (model prog w) A (if b=true then m >>= λr=>if r=true then u else k else k) Q E s:=by
 split
 .exact Lo (F h)
 .exact h
theorem F7{Q:SetFound->so->Prop}(ho:s.heap.get? a=Sm o)(T:Jf (λq=>M1 (Mh prog w) (κ q)) L o es ep t qs)(hq:∀q∈qs,MT (Mh prog w) s.heap (κ q) q)(hx:MT (Mh prog w) s.heap (κ p) p)(hu:A.units<cLine)
  (ab:(∃q∈qs,κ q=κ p)->Q (.there Nn) s) (W:∀j,t.slot j = .empty->Q (.free j false) s) :
  ∀(n F:Nat) (J:Option Oh),(J.getD (t.probeStart (M1 (Mh prog w) (κ p)))).dummy=Nn->Fr t n (J.getD (t.probeStart (M1 (Mh prog w) (κ p))))->n<F->n<200->I_ (model prog w) A (setSearchFrom a (.ref p) (M1 (Mh prog w) (κ p)) true F J) Q E s:=by
 intro n
 induction n using Nat.strongRecOn with
 | _ n ih=>
  intro F J h1 h2 h3 h4;obtain⟨F,rfl⟩ : ∃g,F=g+1:=⟨F-1,()⟩
  unfold setSearchFrom;refine Lo (Ny ho T.dat T.fit ?_);dsimp only;have hg:t.gaveWay=false:=by unfold Mf.gaveWay;rw[T.m7];rfl
  rw[hg];simp only[sJ,if_false];generalize hp:Mf.probe t _ (M1 (Mh prog w) (κ p)) _=r;have G:=EK T.nod (λi=>(es[i]?.map (·.1)).getD 0) (M1 (Mh prog w) (κ p)) n (10*Mf.turns t.mask) _ h1 h2 (by rw[T.m7];show n<220;lia);rcases G with ⟨j,e,hj⟩ | ⟨j,i,p',n',e,hs,hi,hd,Y,hl⟩
  .obtain rfl:=hp.symm.trans e;exact Lp (W j hj)
  .obtain rfl:=hp.symm.trans e;dsimp only;have O:i<qs.length:=by rw[<-T.psz];exact hi
   have S:es[i]?=Sm (M1 (Mh prog w) (κ qs[i]),.ref qs[i]):=by rw[<-JB,T.el,zz,zd O];rfl
   refine J7 (λz=>yO hx _ (λv hv=>?_) z) ?_
   .let#[e1,h5,rfl]:=LD.mp hv;have h6:=LL.mpr (Array.mem_filter.mp (LL.mp h5)).1;rw[T.el]at h6;let#[q,Z,rfl]:=LD.mp h6;exact#[q,rfl,hq q Z]
   rw[S];dsimp only;refine Lo (My (wpAny_eqBool_tuple hu (hq _ (gV O)) hx ?_));refine Lo (Ny ho T.dat T.fit ?_);by_cases hk:κ qs[i]=κ p
   .rw[Lz (by simp[hk])];exact Lp (ab #[_,gV O,hk])
   .rw[Lu (by simp[hk])];dsimp only;have U:t.sameMemory t.moves t.mask=Sm true:=by unfold Mf.sameMemory;rw[Lz '~']
    rw[U];dsimp only;rw[Lz rfl,hs];dsimp only;rw[S];dsimp only;refine Lo (wpAny_isSame_ref_self ?_);refine Lo (Lp ?_);simp only[if_true];rw[Lu (by simp[hk])];exact ih n' hl F _ hd Y () ()
def CA(f:o_->Int)(L:Bool)(h:LY)(a:o_)(qs:MD):Prop:=∃o es ep t,h.get? a=Sm o/\Jf f L o es ep t qs
theorem ua(xs:Array α)(p:Nat)(x:α)(F:p<=xs.size):(M8 xs p x).toList=xs.toList.take p++x::xs.toList.drop p:=by
 unfold M8;rw[rW,KS,zbq,zbq];simp[List.extract];rw[IH '~']
theorem Pp{Q:Bool->so->Prop}(hS:CA (λq=>M1 (Mh prog w) (κ q)) L s.heap a qs)(Y:∀q∈qs,MT (Mh prog w) s.heap (κ q) q)(hx:MT (Mh prog w) s.heap (κ p) p)(hu:A.units<cLine)(h3:qs.length<=3)
  (h:∀h' F b,M5 a s.heap h'->CA (λq=>M1 (Mh prog w) (κ q)) L h' a F->(∀q∈F,q∈p::qs)->(∀k,k∈F.map κ ↔ k∈qs.map κ\/k=κ p)->F.length<=qs.length+1->Q b {s with heap:=h'}) :
  I_ (model prog w) A (setAddHashed a (.ref p) (M1 (Mh prog w) (κ p))) Q E s:=by
 revert hS;refine yF4 λo es ep t=>yB2 λU T=>?_;unfold setAddHashed setAddHashedIn;refine My (Lo (Ny U T.dat T.fit ?_));dsimp only;have al:byScan (.ref p) es=false:=rfl;rw[al];simp only[sJ,if_false];refine Lo ?_;unfold setSearch;refine F7 U T Y hx hu (λz=>?_) (λj hj=>?_) 21 100000 Nn rfl (B7 T.nod T.m7 (by rw[T.psz];lia) _) ∅ ∅
 .let#[q,a3,ag]:=z;refine Lp (h s.heap qs _ (OX a s.heap) (yI4 o es ep t #[U,T]) (λq Y=>yh _ Y) (λk=>#[.inl,λz=>z.elim id λe=>?_]) ());rw[e,<-ag];exact List.mem_map_of_mem a3
 .dsimp only;refine Lo (Ny U T.dat T.fit ?_);dsimp only;have ac:=(gF T.rise j).1;have as:=qr T.rise λi z=>by rw[hj]at z;cases z
  have S:∀b:Bool,I_ (model prog w) A (do
    storeSet a (M8 es (t.put j).2 (M1 (Mh prog w) (κ p),Md p)) { (t.put j).1 with plain:=b}
    if (!false&&({ (t.put j).1 with plain:=b}:Mf).tooFull)=true then do
      setRelay a (NS (es.size+1))
      pure true
     else pure true) Q E s:=by
   intro b;have ab:(t.put j).1.dummies = #[]:=by
    show (if Mf.has t.dummies j then _ else t.dummies) = #[];rw[T.nod];rfl
   have Z:(M8 t.place (M7 t.place j) j).size=qs.length+1:=by
    rw[<-og,ua _ _ _ ac,zq,zy,lj,Lm,og,T.psz];lia
   have O:(M8 es (t.put j).2 (M1 (Mh prog w) (κ p),Md p)).toList=(qs.take (t.put j).2++p::qs.drop (t.put j).2).map λq=>(M1 (Mh prog w) (κ q),Md q):=by
    rw[ua es _ _ (by rw[T.sz,<-T.psz];exact ac),T.el];simp
   have J:(qs.take (t.put j).2++p::qs.drop (t.put j).2).Perm (p::qs):=List.perm_middle.trans (by rw[JF]);generalize qs.take (t.put j).2++p::qs.drop (t.put j).2=F at O J;have ad:F.length=qs.length+1:=J.length_eq;have W:(M8 es (t.put j).2 (M1 (Mh prog w) (κ p),Md p)).size=qs.length+1:=by rw[<-og,O,zb,ad]
   generalize M8 es (t.put j).2 (M1 (Mh prog w) (κ p),Md p)=es' at O W;refine Lo (wpAny_storeSet_of U T.dat ?_ (by rw[W];have hs:L9=16777216:=Np;lia));have hp:=putSet_of es' { (t.put j).1 with plain:=b} T.dat;have hg:=JC (Obj.putSet es' { (t.put j).1 with plain:=b}) U (by rw[hp];rfl);rw[hp]at hg;have hf:({ (t.put j).1 with plain:=b}:Mf).tooFull=false:=by
    show decide (((M8 t.place (M7 t.place j) j).size+(t.put j).1.dummies.size)*5>=t.mask*3)=false;rw[Z,ab,T.m7];exact decide_eq_false (by show ¬ ((qs.length+1+0)*5>=7*3);lia)
   rw[hf];exact Lp (h _ F _ (IJ s.heap a _) (yI4 _ es' (ep+1) _ #[hg,T.ex,rfl,O,kK T.rise as,Z.trans ad.symm,ab,T.m7,T.led,()]) (λq Y=>J.mem_iff.mp Y) (λk=>by rw[(J.map κ).mem_iff];simp[or_comm]) ())
  split
  .refine Lo (rn hx λb=>?_);cases b with
   | true=>exact S _
   | false=>exact S _
  .refine Lo (Lp ?_);exact S _
end
theorem iX{prog:L_}{w:K_}{h h':LY}{k:MJ}{q:o_}(x:MT (Mh prog w) h k q)(e:∀o,h.get? q=Sm o->h'.get? q=Sm o):MT (Mh prog w) h' k q:=by
 revert x;refine yF3 λo items n=>yB2 λF r=>?_;exact yI3 o items n #[e o F,r]
def IY(f:o_->Int)(κ : o_->MJ)(L:Bool)(S:o_)(ds:MD)(i:Nat)(h:LY):Prop:=∃qs,CA f L h S qs/\(∀q∈qs,q∈ds)/\(∀k,k∈qs.map κ ↔ k∈(ds.take i).map κ)/\qs.length<=i
theorem IY.mv{f:o_->Int}{κ:o_->MJ}{L:Bool}{S:o_}{ds:MD}{h h':LY}(x:IY f κ L S ds i h)(F:∀o,h.get? S=Sm o->h'.get? S=Sm o):IY f κ L S ds i h':=by
 let#[qs,#[o,es,ep,t,J,T],r]:=x;exact#[qs,yI4 o es ep t #[F o J,T],r]
section
variable{prog:L_}{w:K_}{A:Me}{R:Nw->so->Prop}{I:o_}{fp wr:MD}{Gm:Array NN->Array NN->Prop}{P:Nat->B_->Prop}{St:Nat->so->Prop}{L:Bool}
theorem CU{ds:MD}(W:WalksS prog w A.in1 I fp wr Gm ds.length P St)(S:o_)(a6:S∉fp)(κ : o_->MJ)(ag:∀i v,P i v->∃q,ds[i]?=Sm q/\v = .ref q)(hD:∀q∈ds,q∉S::wr)(hn:ds.length<=4)(hu:A.in1.units<cLine) :
  ∀(k i:Nat) (s:so),ds.length-i=k->i<=ds.length->St i s->(∀q∈ds,MT (Mh prog w) s.heap (κ q) q)->IY (λq=>M1 (Mh prog w) (κ q)) κ L S ds i s.heap->
   (∀s',Moved (S::wr) Gm s s'->IY (λq=>M1 (Mh prog w) (κ q)) κ L S ds ds.length s'.heap->R (.ok (.ret .none)) s')->
   codeAny (model prog w) A (.builtin "set.update.loop" #[[.ref S,.ref I],[]]) R s:=by
 have a7:S∉wr:=λh=>a6 (W.sub _ h);have F:∀b∈wr,b∈S::wr:=λb hb=>yh _ hb;intro k
 induction k with
 | zero=>
  intro i s hk hi ab hT hS hR;obtain rfl:i=ds.length:=()
  refine NB zbi ?_;rw[JN zaS _];show I_ _ A.in1 (pyNext (.ref I) >>= _) _ _ s;refine Lo (W.done s _ _ ab λs' hm=>?_);show I_ _ A.in1 (ret MQ) _ _ s';exact Lp (hR s' (hm.mono F) (hS.mv λo e=>hm.heap S _ a7 e))
 | succ k ih=>
  intro i s hk hi ab hT hS hR;have a3:i<ds.length:=()
  refine NB zbi ?_;rw[JN zaS _];show I_ _ A.in1 (pyNext (.ref I) >>= _) _ _ s;refine Lo (W.item i s _ _ a3 ab λv s' hP ac hm=>?_);let#[p,hp,rfl]:=ag i v hP;have Z:=xO hp;have J:∀q∈ds,MT (Mh prog w) s'.heap (κ q) q:=λq O=>iX (hT q O) λo e=>hm.heap q o (λz=>hD q O (F q z)) e;refine yE1 (hS.mv (h':=s'.heap) λo e=>hm.heap S _ a7 e) λqs=>yB4 λa8 a5 ad hle=>?_;show I_ _ A.in1 (holding [Md p] (setAdd S (.ref p)) >>= _) _ _ s';refine Lo (My ?_);unfold setAdd;refine My ?_;refine Lo (wpAny_pyHash_tuple hu (J _ Z) ?_);refine Pp (s:={s' with toks:=s'.toks+((κ p).length+1)}) a8 (λq O=>J q (a5 q O)) (J _ Z) hu () λh' bc b Y be as U bg=>?_;refine Lp #[N7 zaS _,ih (i+1) _ () a3 (W.frame _ s' _ _ ac (zbf _ _) λb hb o e=>?_) (λq O=>iX (J q O) λo e=>?_) #[bc,be,λq O=>?_,λk'=>?_,()] λa9 a4 al=>?_]
  .rw[Y.2 b (λh:b=S=>a6 (by rw[<-h];exact hb))];exact e
  .show h'.get? q=Sm o;rw[Y.2 q (λz=>hD q O (by rw[z];exact yd))];exact e
  .rcases LH.mp (as q O) with rfl | z
   .exact Z
   .exact a5 q z
  .rw[U,ad,sR,hp,yb,KR];simp
  .refine hR a9 (Moved.trans W.gtrans ((hm.mono F).then_heap (zbf _ _) λb o hb e=>?_) a4) al;rw[Y.2 b (λh:b=S=>hb (by rw[h];exact yd))];exact e
end
def QH(w:K_)(h:LY)(a:o_)(qs:MD):Prop:=∃o es ep t,h.get? a=Sm o/\o.ExactSet/\o.data = .set es ep t/\es.size<scanBound/\t.fits es.size=true/\cQ (c_ w) t/\es.toList.map (·.2)=qs.map Md
noncomputable def iD(w:K_)(a:o_)(qs:MD):HO:=.ext λh=>QH w h a qs
theorem ul(prog:L_)(w:K_):∀ {vs:MF} {ns:MJ},Nx vs ns->ItemsAre (Mh prog w) ns vs
 | _,_,.nil=>.nil
 | _,_,.cons n t h=>.cons (by show Ot n (.int n t)=true;simp[Ot]) (ul prog w h)
def zu(K:KE)(SO:o_->MD->HO):MC->Hp->VK->Prop:=λxs H Q=>∃(p:o_) (qs:MD) (κ : o_->MJ),xs=[.ref p]/\ud K H p (qs.map V.ref)/\(∀q∈qs,uc K H q ((κ q).map V.int))/\qs.length<=4/\
 ∀(l:o_) (qs':MD),H l=Nn->(∀q∈qs',q∈qs)->(∀k,k∈qs'.map κ ↔ k∈qs.map κ)->qs'.length<=qs.length->Q (.ref l) (upd H l (SO l qs'))
section
variable{X:Cx}
theorem Inv.tupK{pins:List (o_×Obj)}{s:so}{σ:St}{H:Hp}(I:Inv X pins σ H s){q:o_}{ns:MJ}(h:uc X.K H q (ns.map V.int)):MT (Mh X.prog X.w) s.heap ns q:=by
 refine yE1 (I.tuple h) λF=>yB3 ?_;rintro J ⟨o,e,c,n,d⟩ hz;exact yI3 o F.toArray n #[e,c,d,ul _ _ (by simpa using mV J)]
theorem xQ(hr:CC m X.A){K:PySem.W.Frag}(Z:X.K=K):Ck X (.type "set") (zu K (iD X.w)):=by
 subst Z;intro pins s σ H xs us Q I r h;revert h;refine yF3 λp qs κ=>yB5 ?_;rintro rfl F hT ad q;let#[u,rfl,ru]:=dg r;cases ru;refine yE1 (I.list F) λS=>yB3 λrv pl hz=>?_;have Y:S.length=qs.length:=by rw[<-rv.length,zb]
 have Z:∀q∈qs,MT (Mh X.prog X.w) s.heap (κ q) q:=λq F=>I.tupK (hT q F);have ag:∀q∈qs,q<s.heap.objs.size:=λq F=>by refine yE3 (Z q F) λo _ _=>yB2 λU _=>?_;exact vg U
 have a4:=hr.un;refine qz (items:=S.toArray) (Po:=IY (λq=>M1 (Mh X.prog X.w) (κ q)) κ (c_ X.w) s.heap.objs.size qs qs.length) hr.hd pl.isList (λR s1 J St hJ hS ac W h0 as hR=>?_) λh' tk hS hk=>?_
 .rw[show S.toArray.size=qs.length by simpa using Y]at W;refine CU (L:=c_ X.w) W _ as κ (λi v hv=>?_) (λq F z=>?_) ad (by show X.A.units+1+1+1<cLine;lia) _ 0 s1 rfl (mw _) h0 (λq F=>iX (Z q F) λo e=>ac q o e) #[[],yI4 _ #[] 0 (.fresh 0 0 (c_ X.w)) #[hS,#[rfl,rfl,rfl],rfl,rfl,λa b ha=>absurd ha (KP _),rfl,rfl,rfl,rfl,mw _],λq F=>(by cases F),λk=>Iff.rfl,zg _] hR
  .let#[x,hx,rx]:=rv.of (i:=i) (u:=v) (by simpa using hv);rw[zz]at hx;let#[q0,a3,rfl]:=LI.mp hx;cases rx;exact#[q0,a3,rfl]
  .have:=ag q F;simp only[yg,yu,or_false]at z;exact z.elim (yG this) (by rw[hJ];exact yG (K0 this))
 .revert hS;refine yF1 λds=>yB4 ?_;rintro ⟨o,es,ep,t,U,T⟩ al O ab;rw[ir]at O;refine yI2 (.ref s.heap.objs.size) _ #[I.laid (λb o e=>hk b o (vg e) e) (zg _) (show B3 X.prog X.w _ h' _ (iD X.w s.heap.objs.size ds) from #[yI4 o es ep t #[U,T.ex,T.dat,by rw[T.sz];unfold scanBound;lia,T.fit,#[T.led,T.rise],by rw[T.el,td];rfl],#[o,U],λh1 h2 g k=>?_]),rfl,q _ ds (I.hok.fresh (zg _)) al O ab];revert g;refine yF4 λo es ep t=>yB2 λU BY=>?_;exact yI4 o es ep t #[k o U,BY]
theorem xu(K:KE)(w:K_)(J:CC m X.A)(F:X.K=K:=by rfl)(hw:X.w=w:=by rfl):Ck X (.type "set") (zu K (iD w)):=hw ▸ xQ J F
end
noncomputable def Bo:MJ->MJ->Bool
 | [],[]=>false
 | [],_::_=>true
 | _::_,[]=>false
 | a::x,b::y=>if a=b then Bo x y else decide (a<b)
section
variable{prog:L_}{w:K_}{A:Me}{E:LZ}{s:so}
theorem qN(b:Bool)(x y:B_):keyLt' (tuples' b) x y=(do
  let xs <-OZ x;let ys <-OZ y
  for ((p,q),i) in (xs.toList.zip ys.toList).zipIdx do
   if !(<-eqBool p q) then return <-oneLt' (b&&i==0) p q
  return decide (xs.size<ys.size)):=rfl
theorem rcLt_int{a b:Int}{t u:Tok}{Q:LZ}(h:Q (.bool (decide (a<b))) s):I_ (model prog w) A (richCompare .Lt (.int a t) (.int b u)) Q E s:=by
 exact HT.rcLt_int A s a t b u prog w E Q h
theorem xG{c:Bool}{a b:Int}{t u:Tok}{Q:Bool->so->Prop}(h:Q (decide (a<b)) s):I_ (model prog w) A (oneLt' c (.int a t) (.int b u)) Q E s:=by
 cases c with
 | true=>exact oneLt_int h
 | false=>
  rw[oneLt'_eq];simp only[sJ,if_false];exact Lo (rcLt_int (Oa h))
theorem Bp{b:Bool}:∀ {x y:MJ} {J vs:MF} (i1:ItemsAre (Mh prog w) x J) (i2:ItemsAre (Mh prog w) y vs) (k:Nat),
  I_ (model prog w) A (forIn ((J.zip vs).zipIdx k) ((Nn,Unit.unit):Option Bool×Unit) λx (O:Option Bool×Unit)=>
      match x with
      | ((p,q),i)=>do
       let __do_lift <-eqBool p q
       if (!__do_lift)=true then do
         let __do_lift <-oneLt' (b&&i==0) p q
         pure (ForInStep.done (Sm __do_lift,Unit.unit))
        else pure (ForInStep.yield (Nn,Unit.unit))) (λr s'=>s'=s/\(r.1=Sm (Bo x y)\/(r.1=Nn/\Bo x y=decide (x.length<y.length)))) E s:=by
 intro x y J vs i1
 induction i1 generalizing y vs with
 | nil=>
  intro i2 k;rw[List.zip_nil_left,List.zipIdx_nil,List.forIn_nil];cases i2<;>exact Lp #[rfl,.inr #[rfl,rfl]]
 | @cons m _ x _ h1 i1 ih=>
  intro i2 k;cases i2 with
  | nil=>
   rw[List.zip_nil_right,List.zipIdx_nil,List.forIn_nil];exact Lp #[rfl,.inr #[rfl,rfl]]
  | @cons n _ y _ h2 i2=>
   let#[t,rfl]:=La h1;let#[u,rfl]:=La h2;rw[zbh,zbm,List.forIn_cons];refine Lo ?_;dsimp only;refine Lo (wpAny_eqBool_int ?_);unfold Bo;by_cases e:m=n
   .subst e;rw[Lz rfl,Lu '~'];refine Lp ?_;refine Nb (ih i2 (k+1)) (λr s' F=>?_) λ_ _ e=>e;obtain⟨rfl,F | ⟨F,e⟩⟩:=F
    .exact#[rfl,.inl F]
    .refine#[rfl,.inr #[F,?_]];rw[e,zy,zy];exact decide_eq_decide.mpr ()
   .rw[Lu e,Lz (by simpa using e)];refine Lo (xG ?_);refine Lp ?_;exact Lp #[rfl,.inl rfl]
theorem yI{b:Bool}{x y:MJ}{p q:o_}{Q:Bool->so->Prop}(hx:MT (Mh prog w) s.heap x p)(W:MT (Mh prog w) s.heap y q)(h:Q (Bo x y) s) :
  I_ (model prog w) A (keyLt' (tuples' b) (.ref p) (.ref q)) Q E s:=by
 revert hx;refine yF3 λZ xs n1=>yB4 λJ c1 O i1=>?_;revert W;refine yF3 λo2 ys n2=>yB4 λS c2 U i2=>?_;rw[qN];refine Lo (listItems_at J O ?_);refine Lo (listItems_at S U ?_);have hsz:decide (xs.size<ys.size)=decide (x.length<y.length):=by
  rw[i1.length,i2.length,og,og]
 rw[hsz];clear J S O U hsz;generalize xs.toList=Y at i1 |-;generalize ys.toList=vs at i2 |-;refine Lo (Nb (Bp (b:=b) i1 i2 0) (λr s' F=>?_) λ_ _ e=>e)
 obtain⟨rfl,F | ⟨F,e⟩⟩:=F
 .dsimp only;rw[F];exact M0 h
 .dsimp only;rw[F,<-e];exact M0 h
end
section
variable{prog:L_}{w:K_}{A:Me}{E:LZ}{s:so}
theorem xH{α β : Type}(f:α->Sem β)(g:α->β):∀(l:List α),(∀a∈l,∀Q:β->so->Prop,Q (g a) s->I_ (model prog w) A (f a) Q E s)->∀Q:List β->so->Prop,Q (l.map g) s->I_ (model prog w) A (l.mapM f) Q E s
 | [],_,Q,h=>by rw[List.mapM_nil];exact Lp h
 | a::l,hf,Q,h=>by
  rw[List.mapM_cons];refine Lo (hf a yd _ ?_);refine Lo (xH f g l (λb F=>hf b (yh _ F)) _ ?_);exact Lp h
theorem vt(v:B_):firstOfTuple' v=(do
  if (<-typeOf v) != .type "tuple" then return Nn
  return (<-OZ v)[0]?):=rfl
theorem Kx{qs:MD}{κ:o_->MJ}{Q:NX->so->Prop}(hT:∀q∈qs,MT (Mh prog w) s.heap (κ q) q/\κ q≠[])(h:∀b,Q (tuples' b) s):I_ (model prog w) A (keyKind' (qs.map Md).toArray) Q E s:=by
 have F:∀v∈qs.map Md,∃n t,∀Q:MG->so->Prop,Q (Sm (.int n t)) s->I_ (model prog w) A (firstOfTuple' v) Q E s:=by
  intro v hv;let#[q,Z,rfl]:=LD.mp hv;let#[Y,J]:=hT q Z;have U:=Y.typeIs;revert Y;refine yF3 λo items n=>yB4 λho hc hd hi=>?_;have:∃n t,items[0]?=Sm (.int n t):=by
   rw[<-JB];revert hi J;generalize κ q=ks;generalize items.toList=l;intro J hi;cases hi with
   | nil=>exact absurd rfl J
   | cons h1 _=>let#[t,rfl]:=La h1;exact yI2 _ t rfl
  let#[m,t,e]:=this;refine yI2 m t λQ h=>?_;rw[vt];refine Lo (NQ U ?_);simp only[bne_self_eq_false,sJ,if_false];refine Lo (listItems_at ho hd ?_);rw[e];exact Lp h
 classical
 let g:B_->MG:=λv=>if hv:v∈qs.map Md then Sm (.int (Classical.choose (F v hv)) (Classical.choose (zbr (F v hv)))) else Nn
 have hg:∀v∈qs.map Md,∀Q:MG->so->Prop,Q (g v) s->I_ (model prog w) A (firstOfTuple' v) Q E s:=λv hv Q h=>by
  refine zbr (zbr (F v hv)) Q ?_;have:g v=Sm (.int (Classical.choose (F v hv)) (Classical.choose (zbr (F v hv)))):=dif_pos hv;rw[<-this];exact h
 have O:∀v∈qs.map Md,∃n t,g v=Sm (.int n t):=λv hv=>yI2 _ _ (dif_pos hv);generalize g=g at hg O;rw[keyKind'_eq,List.mapM_toArray];refine Lo ?_;rw[map_eq_pure_bind];refine Lo (xH _ g _ hg _ (Lp ?_));have S:((qs.map Md).map g).toArray.all (·.isSome)=true:=by
  rw[List.all_toArray,zbx];intro x hx;let#[v,hv,rfl]:=LD.mp hx;let#[n,t,e]:=O v hv;rw[e];rfl
 rw[Lz S];refine Lo (M_ ?_);rw[oneTypeOnly'_eq];have W:((qs.map Md).map g).toArray.filterMap id=(((qs.map Md).map g).filterMap id).toArray:='~';rw[W,List.mapM_toArray];refine Lo ?_;refine Lo ?_;rw[map_eq_pure_bind];refine Lo (xH _ (λ_=>N1 "int") _ (λv hv Q h=>?_) _ (Lp ?_))
 .let#[x,hx,e]:=List.mem_filterMap.mp hv;let#[u,hu,rfl]:=LD.mp hx;let#[n,t,e2]:=O u hu;rw[e2]at e;obtain rfl:=Option.some.inj e;exact NQ (typeIs_int s n t) h
 .split
  .exact Lp (Lp (h _))
  .exact Lp (Lp (h _))
def jo(p:Mi):o_:=match p.2 with
 | .ref q=>q
 | _=>0
theorem kZ{qs:MD}{p:Mi}(h:p∈(pairsOf (qs.map Md)).toList):jo p∈qs/\p=(.ref (jo p),.ref (jo p)):=by
 rw[pairsOf_toList,List.zip_map,LD]at h;let#[#[a,b],F,rfl]:=h;have e:a=b:=by
  have:∀(l:MD),(a,b)∈l.zip l->a=b:=by
   intro l
   induction l with
   | nil=>intro h;cases h
   | cons x l ih=>
    intro h;rw[zbh]at h;rcases LH.mp h with z | z
    .injection z with z1 z2;rw[z1,z2]
    .exact ih z
  exact this qs F
 subst e;exact#[(List.of_mem_zip F).1,rfl]
theorem zW(qs:MD):(pairsOf (qs.map Md)).toList.map jo=qs:=by
 rw[pairsOf_toList]
 induction qs with
 | nil=>rfl
 | cons q qs ih=>rw[yR,zbh,yR,ih];rfl
end
theorem la:∀(qs:MD),A1 (qs.map V.ref) (qs.map Md)
 | []=>.nil
 | q::qs=>.cons rfl (la qs)
section
variable{prog:L_}{w:K_}{A:Me}{E:LZ}{s:so}{kd:NX}{a0:Array Mi}
def kR(prog:L_)(w:K_)(s:so)(kd:NX)(a0:Array Mi):Prop:=
 ∀(A:Me) (E:LZ) (x y:Mi) (Q:Bool->so->Prop),x∈a0.toList->y∈a0.toList->(∀b,Q b s)->I_ (model prog w) A (keyLt' kd x.1 y.1) Q E s
structure iS (kd:NX) (a0:Array Mi) (st:Mg):Prop where
 perm:(Mm st).Perm a0
 kind:kindOf st=kd
 fail:NZ st=Nn
theorem jz(S:kR prog w s kd a0){x y:Mi}{Q:Option Bool->Mg->Prop}(F:kindOf st=kd)(hx:x∈a0.toList)(J:y∈a0.toList)(O:∀b,Q (Sm b) st):wpS (model prog w) A E s (lt' x y) Q st:=by
 rw[lt'_eq];refine L6 (NA ?_);rw[F];refine L6 (N8 (NK (S _ _ _ _ _ hx J λb=>#[rfl,?_])));exact Mb (O b)
theorem dW{arr:Array Mi}{Q:Mi->Mg->Prop}(h:i<arr.size)(F:Q arr[i] st):wpS (model prog w) A E s (elem' arr i) Q st:=by
 rw[elem'_eq,IC h];exact Mb F
def Ec(prog:L_)(w:K_)(A:Me)(E:LZ)(s:so)(kd:NX)(a0:Array Mi)(G:Bool->Mi->Array Mi->Nat->Nat->Nat->StateT Mg Sem MH):Prop:=
 ∀(left:Bool) (key:Mi) (arr:Array Mi) (base n hint:Nat) (Q:MH->Mg->Prop) (st:Mg),key∈a0.toList->(∀x∈arr.toList,x∈a0.toList)->base+n<=arr.size->hint<n->kindOf st=kd->(∀k,k<=n->Q (Sm k) st)->wpS (model prog w) A E s (G left key arr base n hint) Q st
theorem BF{F:Mg}{Q:PUnit->Mg->Prop}(h:Q ⟨⟩ F):wpS (model prog w) A E s (set F) Q st:=Nk (f:=λ_=>F) h
structure G0 (st st':Mg):Prop where
 kind:kindOf st'=kindOf st
 arr:Mm st'=Mm st
 pend:Ms st'=Ms st
 fail:NZ st'=NZ st
theorem G0.rfl'(st:Mg):G0 st st:=#[rfl,rfl,rfl,rfl]
theorem G0.trans{a b c:Mg}(h:G0 a b)(g:G0 b c):G0 a c:=#[g.1.trans h.1,g.2.trans h.2,g.3.trans h.3,g.4.trans h.4]
def J6(prog:L_)(w:K_)(A:Me)(E:LZ)(s:so)(kd:NX)(a0:Array Mi)(F:Array Mi->Array Mi->StateT Mg Sem (Array Mi)):Prop:=
 ∀(a b:Array Mi) (Q:Array Mi->Mg->Prop) (st:Mg),(∀x∈a.toList,x∈a0.toList)->(∀x∈b.toList,x∈a0.toList)->0<a.size->0<b.size->kindOf st=kd->(∀out st',out.toList.Perm (a.toList++b.toList)->G0 st st'->Q out st')->wpS (model prog w) A E s (F a b) Q st
theorem xN(p q r t:List α):((p++q)++(r++t)).Perm ((p++r)++(q++t)):=by
 rw[oU,oU];exact(List.perm_append_left_iff p).mpr (by rw[<-oU,<-oU];exact List.perm_append_comm.append_right t)
theorem Dw{o p q m:List α}(h:o.Perm (p++q)):(o++m).Perm ((p++m)++q):=by
 refine(h.append_right m).trans ?_;have:=xN p q m [];simpa using this
theorem Dy{o p q m:List α}(h:o.Perm (p++q)):(o++m).Perm (p++(q++m)):=by
 rw[<-oU];exact h.append_right m
theorem EQ{α:Type}(o:Nat):∀(l:List α) (n:Nat) (arr:Array α),o+n+l.length<=arr.size->((l.zipIdx n).foldl (λa x=>a.setIfInBounds (o+x.2) x.1) arr).toList=arr.toList.take (o+n)++l++arr.toList.drop (o+n+l.length)
 | [],n,arr,h=>'~'
 | x::l,n,arr,h=>by
  rw[zbm,zaX,EQ o l (n+1) _ (by simp at h |-;lia)];have F:o+n<arr.toList.length:=by simp at h |-;lia
  rw[Array.toList_setIfInBounds,List.drop_set_of_lt (),show o+(n+1)=o+n+1 from (),List.take_set,zy];have e:(arr.toList.take (o+n+1)).set (o+n) x=arr.toList.take (o+n)++[x]:=by
   rw[Lb F,List.set_append_right _ _ (by simp;lia)];simp;rw[show o+n-min (o+n) arr.size=0 by simp at F;lia];rfl
  rw[e];simp[show o+n+1+l.length=o+n+(l.length+1) from ()]
theorem zc{arr:Array Mi}{l:List Mi}{o:Nat}(h:o+l.length<=arr.size)(F:l.Perm ((arr.toList.drop o).take l.length)):((l.zipIdx 0).foldl (λa x=>a.setIfInBounds (o+x.2) x.1) arr).Perm arr:=by
 rw[LM,EQ o l 0 arr ()];refine((F.append_left _).append_right _).trans ?_;rw[Nat.add_zero,<-List.drop_drop,oU,JF,JF]
theorem cR{c:Prop}[Decidable c]{F J:StateT Mg Sem β}{Q:β->Mg->Prop}{st:Mg}(h1:wpS (model prog w) A E s F Q st)(h2:wpS (model prog w) A E s J Q st):wpS (model prog w) A E s (if c then F else J) Q st:=by
 by_cases h:c
 .rw[Lz h];exact h1
 .rw[Lu h];exact h2
def r_(a b out:Array Mi)(ia ib:Nat):Prop:=out.toList.Perm (a.toList.take ia++b.toList.take ib)/\ia+1<a.size/\ib<b.size
theorem fh(a:Array Mi)(i j:Nat):(a.extract i j).toList=(a.toList.drop i).take (j-i):=by simp[List.extract_eq_drop_take]
theorem vM(a:Array Mi)(i:Nat):(a.extract i).toList=a.toList.drop i:=by
 rw[fh,IH '~']
theorem mF(l:List α)(i k:Nat):l.take (i+k)=l.take i++(l.drop i).take k:=by rw[List.take_add]
theorem oY(h:out.toList.Perm (a.toList.take ia++b.toList.take ib)):(out++a.extract ia++b.extract ib).toList.Perm (a.toList++b.toList):=by
 rw[rW,rW,vM,vM,oU];refine(h.append_right _).trans ((xN _ _ _ _).trans ?_);rw[JF,JF]
theorem zw(h:out.toList.Perm (a.toList.take ia++b.toList.take ib)):(out++b.extract ib++a.extract ia).toList.Perm (a.toList++b.toList):=by
 refine List.Perm.trans ?_ (oY h);rw[rW,rW,rW,rW,oU,oU];exact List.perm_append_comm.append_left _
theorem D_(h:out.toList.Perm (a.toList.take ia++b.toList.take ib))(hi:ia<a.size):(out.push a[ia]).toList.Perm (a.toList.take (ia+1)++b.toList.take ib):=by
 rw[KS,Lb (by simpa using hi)];exact Dw h
theorem xJ(h:out.toList.Perm (a.toList.take ia++b.toList.take ib))(hi:ib<b.size):(out.push b[ib]).toList.Perm (a.toList.take ia++b.toList.take (ib+1)):=by
 rw[KS,Lb (by simpa using hi)];exact Dy h
theorem PC(k:Nat)(h:out.toList.Perm (a.toList.take ia++b.toList.take ib)):(out++a.extract ia (ia+k)).toList.Perm (a.toList.take (ia+k)++b.toList.take ib):=by
 rw[rW,fh,mF,zbs];exact Dw h
theorem Ho(k:Nat)(h:out.toList.Perm (a.toList.take ia++b.toList.take ib)):(out++b.extract ib (ib+k)).toList.Perm (a.toList.take ia++b.toList.take (ib+k)):=by
 rw[rW,fh,mF,zbs];exact Dy h
def tR(a b out:Array Mi)(na nb:Nat):Prop:=out.toList.Perm (a.toList.drop na++b.toList.drop nb)/\0<na/\1<nb/\na<=a.size/\nb<=b.size
theorem vV(a:Array Mi)(i:Nat):(a.extract 0 i).toList=a.toList.take i:=by rw[fh];rfl
theorem oK(h:out.toList.Perm (a.toList.drop na++b.toList.drop nb)):(a.extract 0 na++b.extract 0 nb++out.reverse).toList.Perm (a.toList++b.toList):=by
 rw[rW,rW,vV,vV,Array.toList_reverse];refine(((List.reverse_perm _).trans h).append_left _).trans ((xN _ _ _ _).trans ?_);rw[JF,JF]
theorem yy(h:out.toList.Perm (a.toList.drop na++b.toList.drop nb)):(b.extract 0 nb++a.extract 0 na++out.reverse).toList.Perm (a.toList++b.toList):=by
 refine List.Perm.trans ?_ (oK h);rw[rW,rW,rW,rW];exact List.perm_append_comm.append_right _
theorem GH{o p q m m':List α}(h:o.Perm (p++q))(e:m'.Perm m):(o++m').Perm ((m++p)++q):=(Dw h).trans (((e.append_left p).trans List.perm_append_comm).append_right q)
theorem Hg{o p q m m':List α}(h:o.Perm (p++q))(e:m'.Perm m):(o++m').Perm (p++(m++q)):=(Dy h).trans (((e.append_left q).trans List.perm_append_comm).append_left p)
theorem xD(h:out.toList.Perm (a.toList.drop na++b.toList.drop nb))(F:0<na)(hi:na-1<a.size):(out.push a[na-1]).toList.Perm (a.toList.drop (na-1)++b.toList.drop nb):=by
 have e:a.toList.drop (na-1)=[a[na-1]]++a.toList.drop na:=by rw[zbo (by simpa using hi),show na-1+1=na from ()];rfl
 rw[KS,e];exact GH h (.refl _)
theorem EC(h:out.toList.Perm (a.toList.drop na++b.toList.drop nb))(F:0<nb)(hi:nb-1<b.size):(out.push b[nb-1]).toList.Perm (a.toList.drop na++b.toList.drop (nb-1)):=by
 have e:b.toList.drop (nb-1)=[b[nb-1]]++b.toList.drop nb:=by rw[zbo (by simpa using hi),show nb-1+1=nb from ()];rfl
 rw[KS,e];exact Hg h (.refl _)
theorem tX(l:List α){j:Nat}(h:i<=j):l.drop i=(l.drop i).take (j-i)++l.drop j:=by
 have:=(JF (j-i) (l.drop i)).symm;rw[List.drop_drop,show i+(j-i)=j from ()]at this;exact this
theorem Mt{k:Nat}(h:out.toList.Perm (a.toList.drop na++b.toList.drop nb))(F:k<=na):(out++(a.extract k na).reverse).toList.Perm (a.toList.drop k++b.toList.drop nb):=by
 rw[rW,Array.toList_reverse,fh];refine(GH h (List.reverse_perm _)).trans ?_;rw[<-tX a.toList F]
theorem Om{k:Nat}(h:out.toList.Perm (a.toList.drop na++b.toList.drop nb))(F:k<=nb):(out++(b.extract k nb).reverse).toList.Perm (a.toList.drop na++b.toList.drop k):=by
 rw[rW,Array.toList_reverse,fh];refine(Hg h (List.reverse_perm _)).trans ?_;rw[<-tX b.toList F]
theorem iK{G:Bool->Mi->Array Mi->Nat->Nat->Nat->StateT Mg Sem MH}{f:MH->StateT Mg Sem β}{left:Bool}{F:Mi}{arr:Array Mi}{base n hint:Nat}{Q:β->Mg->Prop}(J:Ec prog w A E s kd a0 G)(h1:F∈a0.toList)(h2:∀x∈arr.toList,x∈a0.toList)(O:base+n<=arr.size)(W:hint<n)(U:kindOf st=kd)
  (r:Ec prog w A E s kd a0 G->∀k,k<=n->wpS (model prog w) A E s (f (Sm k)) Q st):wpS (model prog w) A E s (G left F arr base n hint >>= f) Q st:=
 L6 (J left F arr base n hint _ st h1 h2 O W U λk S=>r J k S)
theorem v7{F:Array Mi->Array Mi->StateT Mg Sem (Array Mi)}{f:Array Mi->StateT Mg Sem β}{Q:β->Mg->Prop}(m:J6 prog w A E s kd a0 F)(h1:∀x∈a.toList,x∈a0.toList)(h2:∀x∈b.toList,x∈a0.toList)(J:0<a.size)(S:0<b.size)(O:kindOf st=kd)
  (r:∀out st',out.toList.Perm (a.toList++b.toList)->G0 st st'->wpS (model prog w) A E s (f out) Q st'):wpS (model prog w) A E s (F a b >>= f) Q st:=
 L6 (m a b _ st h1 h2 J S O r)
theorem ug{c:Prop}[Decidable c]{F J:StateT Mg Sem β}{Q:β->Mg->Prop}{st:Mg}(h1:c->wpS (model prog w) A E s F Q st)(h2:¬ c->wpS (model prog w) A E s J Q st):wpS (model prog w) A E s (if c then F else J) Q st:=by
 by_cases h:c
 .rw[Lz h];exact h1 h
 .rw[Lu h];exact h2 h
theorem d_{x y:Nat}{F J:StateT Mg Sem β}{Q:β->Mg->Prop}(h1:x=y->wpS (model prog w) A E s F Q st)(h2:¬ x=y->wpS (model prog w) A E s J Q st):wpS (model prog w) A E s (if (x==y)=true then F else J) Q st:=
 ug (λh=>h1 (by simpa using h)) λh=>h2 (by simpa using h)
theorem EA{P:α->Mg->Prop}{K:α->StateT Mg Sem β}{m:StateT Mg Sem β}{Q:β->Mg->Prop}(h2:(∀x st',P x st'->wpS (model prog w) A E s (K x) Q st')->wpS (model prog w) A E s m Q st)(h1:∀x st',P x st'->wpS (model prog w) A E s (K x) Q st'):wpS (model prog w) A E s m Q st:=h2 h1
theorem q_{γ: Type}{P:α->γ->Prop}{K:α->γ->StateT Mg Sem β}{m:StateT Mg Sem β}{Q:β->Mg->Prop}(h2:(∀x y,P x y->wpS (model prog w) A E s (K x y) Q st)->wpS (model prog w) A E s m Q st)(h1:∀x y,P x y->wpS (model prog w) A E s (K x y) Q st):wpS (model prog w) A E s m Q st:=h2 h1
theorem IR(hC:kR prog w s kd a0){sa p sb p2:Nat}(h:iS kd a0 st)(h1:(Ms st)[i]?=Sm (sa,na,p))(h2:(Ms st)[i+1]?=Sm (sb,nb,p2))(bh:sb=sa+na)(a9:0<na)(b1:0<nb)(hsz:sb+nb<=a0.size){Q:Bool->Mg->Prop}
  (hq:∀F,iS kd a0 F->Ms F=((Ms st).setIfInBounds i (sa,na+nb,p)).eraseIdxIfInBounds (i+1)->Q true F):wpS (model prog w) A E s (mergeAt' i) Q st:=by
 have hs:(Mm st).size=a0.size:=h.perm.size_eq;have O:∀x∈(Mm st).toList,x∈a0.toList:=λx hx=>(LM.mp h.perm).mem_iff.mp hx;have a5:∀j (hj:j<(Mm st).size),(Mm st)[j]∈a0.toList:=λj hj=>O _ (tL hj);refine L6 (NA ?_);rw[h1,h2];refine L6 (BF ?_);refine L6 (dW (arr:=Mm st) () ?_);refine iK (arr:=Mm st) (base:=sa) (n:=na) (hint:=0) ?gal (a5 _ _) O () a9 h.kind λas k hk=>?_
 .clear a5 O hs hq hsz b1 a9 bh h2 h1 h;intro left ce arr base n hint Q J hk O h3 h4 h5 hq;have cd:∀i,i<n->∀x,arr[base+i]?=Sm x->x∈a0.toList:=λi hi x hx=>O x (LL.mpr (Array.mem_of_getElem? hx));refine L6 (Mq (Q:=λr F=>J=F/\∃b:Bool,r=Sm b) ?_ ?_)
  .exact L6 (dW (arr:=arr) () (cR (jz hC h5 (O _ (tL _)) hk λb=>#[rfl,b,rfl]) (L6 (jz hC h5 hk (O _ (tL _)) λb=>Mb #[rfl,!b,rfl]))))
  rintro r F ⟨rfl,b,rfl⟩;dsimp only;by_cases c0:b=true
  .rw[Lz c0];refine L6 (Mq (M3 (I:=λx c F=>J=F/\∃l o,c=(Nn,l,o)/\hint+l<n) (Q:=λc F=>J=F/\∃l o,c=(Nn,l,o)/\hint+l<n) ?_ (λ_ _ z=>z) #[rfl,yI2 0 1 #[rfl,()]]) ?_)
   .intro x c F _ hx;refine yB2 ?_;rintro rfl;refine yF2 λl o=>yB2 ?_;rintro rfl hl;refine ug (λ_=>Mb #[rfl,yI2 l o #[rfl,hl]]) λc1=>?_;refine L6 (Mq (Q:=λr U=>J=U/\∃b:Bool,r=Sm b) ?_ ?_)
    .exact L6 (dW (arr:=arr) () (cR (jz hC h5 (O _ (tL _)) hk λb=>#[rfl,b,rfl]) (L6 (jz hC h5 hk (O _ (tL _)) λb=>Mb #[rfl,!b,rfl]))))
    rintro r U ⟨rfl,b,rfl⟩;exact cR (Mb #[rfl,yI2 l o #[rfl,hl]]) (Mb #[rfl,yI2 _ _ #[rfl,()]])
   intro c F;refine yB2 ?_;rintro rfl;refine yF2 λl o=>yB2 ?_;rintro rfl hl;refine L6 (Mq (M3 (I:=λx c F=>J=F/\∃l o,c=(Nn,l,o)/\o<=n) (Q:=λc F=>J=F/\∃l o,c=(Nn,l,o)/\o<=n) ?_ (λ_ _ z=>z) #[rfl,yI2 _ _ #[rfl,()]]) ?_)
   .intro x c F _ hx;refine yB2 ?_;rintro rfl;refine yF2 λl o=>yB2 ?_;rintro rfl hl;refine ug (λ_=>Mb #[rfl,yI2 l o #[rfl,hl]]) λc1=>?_;refine L6 (Mq (Q:=λr U=>J=U/\∃b:Bool,r=Sm b) ?_ ?_)
    .exact L6 (dW (arr:=arr) () (cR (jz hC h5 (O _ (tL _)) hk λb=>#[rfl,b,rfl]) (L6 (jz hC h5 hk (O _ (tL _)) λb=>Mb #[rfl,!b,rfl]))))
    rintro r U ⟨rfl,b,rfl⟩;exact cR (Mb #[rfl,yI2 _ _ #[rfl,hl]]) (Mb #[rfl,yI2 _ _ #[rfl,()]])
   intro c F;refine yB2 ?_;rintro rfl;refine yF2 λl o=>yB2 ?_;rintro rfl hl;exact Mb (hq o hl)
  .rw[Lu c0];refine L6 (Mq (M3 (I:=λx c F=>J=F/\∃l o,c=(Nn,l,o)/\l<=hint) (Q:=λc F=>J=F/\∃l o,c=(Nn,l,o)/\l<=hint) ?_ (λ_ _ z=>z) #[rfl,yI2 0 1 #[rfl,()]]) ?_)
   .intro x c F _ hx;refine yB2 ?_;rintro rfl;refine yF2 λl o=>yB2 ?_;rintro rfl hl;refine ug (λ_=>Mb #[rfl,yI2 l o #[rfl,hl]]) λc1=>?_;refine L6 (Mq (Q:=λr U=>J=U/\∃b:Bool,r=Sm b) ?_ ?_)
    .exact L6 (dW (arr:=arr) () (cR (jz hC h5 (O _ (tL _)) hk λb=>#[rfl,b,rfl]) (L6 (jz hC h5 hk (O _ (tL _)) λb=>Mb #[rfl,!b,rfl]))))
    rintro r U ⟨rfl,b,rfl⟩;exact cR (Mb #[rfl,yI2 l o #[rfl,hl]]) (Mb #[rfl,yI2 _ _ #[rfl,()]])
   intro c F;refine yB2 ?_;rintro rfl;refine yF2 λl o=>yB2 ?_;rintro rfl hl;refine L6 (Mq (M3 (I:=λx c F=>J=F/\∃l o,c=(Nn,l,o)/\o<=n) (Q:=λc F=>J=F/\∃l o,c=(Nn,l,o)/\o<=n) ?_ (λ_ _ z=>z) #[rfl,yI2 _ _ #[rfl,()]]) ?_)
   .intro x c F _ hx;refine yB2 ?_;rintro rfl;refine yF2 λl o=>yB2 ?_;rintro rfl hl;refine ug (λ_=>Mb #[rfl,yI2 l o #[rfl,hl]]) λc1=>?_;refine L6 (Mq (Q:=λr U=>J=U/\∃b:Bool,r=Sm b) ?_ ?_)
    .exact L6 (dW (arr:=arr) () (cR (jz hC h5 (O _ (tL _)) hk λb=>#[rfl,b,rfl]) (L6 (jz hC h5 hk (O _ (tL _)) λb=>Mb #[rfl,!b,rfl]))))
    rintro r U ⟨rfl,b,rfl⟩;exact cR (Mb #[rfl,yI2 _ _ #[rfl,hl]]) (Mb #[rfl,yI2 _ _ #[rfl,()]])
   intro c F;refine yB2 ?_;rintro rfl;refine yF2 λl o=>yB2 ?_;rintro rfl hl;exact Mb (hq o hl)
 .dsimp only;refine d_ (λ_=>Mb (hq _ #[h.perm,h.kind,h.fail] rfl)) λc1=>?_;refine L6 (dW (arr:=Mm st) () ?_);refine iK (arr:=Mm st) (base:=sb) (n:=nb) (hint:=nb-1) as (a5 _ _) O () () h.kind λ_ k2 ab=>?_;refine d_ (λ_=>Mb (hq _ #[h.perm,h.kind,h.fail] rfl)) λc2=>?_;have hx:∀o e x,x∈((Mm st).extract o e).toList->x∈a0.toList:=λo e x hx=>O x (LL.mpr (by let#[j,hj,e]:=Array.mem_iff_getElem.mp (LL.mp hx);rw[Array.getElem_extract]at e;rw[<-e];exact Array.getElem_mem _));have b0:∀(out:Array Mi) (F:Mg),out.toList.Perm (((Mm st).extract (sa+k) sb).toList++((Mm st).extract sb (sb+k2)).toList)->(out.toList.zipIdx.foldl (λa x=>a.setIfInBounds (sa+k+x.2) x.1) (Mm st)).Perm a0:=λout F hp=>by
   have hl:out.toList.length=sb-(sa+k)+k2:=by rw[hp.length_eq,zq,og,og,KZ,KZ];lia
   refine(zc () ?_).trans h.perm;rw[hl,mF,List.drop_drop,show sa+k+(sb-(sa+k))=sb from ()];rw[fh,fh,zbs]at hp;exact hp
  have al:∀(out:Array Mi) (F:Mg),out.toList.Perm (((Mm st).extract (sa+k) sb).toList++((Mm st).extract sb (sb+k2)).toList)->G0 (setPending st (((Ms st).setIfInBounds i (sa,na+nb,p)).eraseIdxIfInBounds (i+1))) F->Q (NZ F).isNone (Mg.mk' (kindOf F) (out.toList.zipIdx.foldl (λa x=>a.setIfInBounds (sa+k+x.2) x.1) (Mm F)) (Ms F) (gallopOf F) (NZ F)):=λout F hp J=>by
   rw[show NZ F=Nn from J.fail.trans h.fail];refine hq _ #[?_,J.kind.trans h.kind,rfl] J.pend;show (List.foldl _ (Mm F) _).Perm a0;rw[show Mm F=Mm st from J.arr];exact b0 out F hp
  by_cases c3:na-k<=k2
  .rw[Lz c3];refine v7 (a:=(Mm st).extract (sa+k) sb) (b:=(Mm st).extract sb (sb+k2)) ?mlo (hx _ _) (hx _ _) (by rw[KZ];lia) (by rw[KZ];lia) h.kind λout F hp J=>?_
   .clear al b0 hx c3 c2 ab c1 hk a5 O hs hq hsz b1 a9 bh h2 h1 h;intro a b Q J ha hb h3 h4 h5 hq;refine L6 (N8 (M_ #[rfl,?_]));refine L6 (dW (arr:=b) h4 ?_);have p0:(#v[b[0]]:Array Mi).toList.Perm (a.toList.take 0++b.toList.take (0+1)):=xJ (a:=a) (b:=b) (out:=#[]) (ia:=0) (ib:=0) '~' h4;refine d_ (λ_=>Mb (hq _ _ (oY p0) (G0.rfl' _))) λd1=>?_;refine d_ (λ_=>Mb (hq _ _ (zw p0) (G0.rfl' _))) λd2=>?_;refine L6 (NA ?_);refine L6 (Mq (M3 (I:=λx c F=>G0 J F/\∃out ia ib mg,c=(Nn,out,ia,ib,mg)/\r_ a b out ia ib/\x<=ia+ib) (Q:=λc F=>G0 J F/\∃r BY,c=(Sm r,BY)/\r.toList.Perm (a.toList++b.toList)) ?_ ?_ #[G0.rfl' _,yI4 _ 0 1 _ #[rfl,#[p0,(),()],mw _]]) ?_)
    .intro x c a8 _ hx;refine yB2 λg1=>yF4 λout ia ib mg=>yB3 ?_;rintro rfl i1 bg;refine L6 (Mq (M3 (I:=λy c F=>G0 J F/\∃o2 Z jb ac bc,c=(Nn,o2,Z,jb,ac,bc)/\r_ a b o2 Z jb/\ia+ib+y<=Z+jb)
      (Q:=λc F=>G0 J F/\((∃r BY,c=(Sm r,BY)/\r.toList.Perm (a.toList++b.toList))\/∃o2 Z jb ac bc,c=(Nn,o2,Z,jb,ac,bc)/\r_ a b o2 Z jb/\ia+ib+1<=Z+jb)) ?_ ?_ ⟨g1,yI5 out ia ib 0 0 ⟨rfl,i1,zg _⟩⟩) ?_)
     .intro y c a4 _ hy;refine yB2 λg2=>yF5 λo2 Z jb ac bc=>yB3 ?_;rintro rfl ⟨q1,q2,q3⟩ ad;refine L6 (dW (arr:=b) q3 ?_);refine L6 (dW (arr:=a) (show Z<a.size from ()) ?_);refine L6 (jz hC (g2.kind.trans h5) (hb _ (tL _)) (ha _ (tL _)) λa3=>?_);dsimp only;by_cases d3:a3=true
      .rw[Lz d3];refine L6 (dW (arr:=b) q3 ?_);have pb:=xJ q1 q3;refine d_ (λ_=>Mb #[g2,.inl (yI2 _ _ #[rfl,oY pb])]) λd4=>?_;exact cR (Mb #[g2,.inr (yI5 _ _ _ _ _ #[rfl,#[pb,q2,()],()])]) (Mb #[g2,yI5 _ _ _ _ _ #[rfl,#[pb,q2,()],()]])
      .rw[Lu d3];refine L6 (dW (arr:=a) (show Z<a.size from ()) ?_);have pa:=D_ q1 (show Z<a.size from ());refine d_ (λ_=>Mb #[g2,.inl (yI2 _ _ #[rfl,zw pa])]) λd4=>?_;exact cR (Mb #[g2,.inr (yI5 _ _ _ _ _ #[rfl,#[pa,(),q3],()])]) (Mb #[g2,yI5 _ _ _ _ _ #[rfl,#[pa,(),q3],()]])
     .intro c a4;refine yB2 λg2=>yF5 λo2 Z jb ac bc=>yB3 ?_;rintro rfl i2 ad;exact#[g2,.inr (yI5 _ _ _ _ _ #[rfl,i2,()])]
     rintro c a4 ⟨g2,(⟨r,BY,rfl,hr⟩ | ⟨o2,Z,jb,ac,bc,rfl,i2,ad⟩)⟩
     .exact Mb #[g2,yI2 r _ #[rfl,hr]]
     refine L6 (N8 (M_ #[rfl,?_]));refine L6 (Mq (M3 (I:=λy c F=>G0 J F/\∃o3 Y S mg' ac bc,c=(Nn,o3,Y,S,mg',ac,bc)/\r_ a b o3 Y S/\ia+ib+1<=Y+S)
      (Q:=λc F=>G0 J F/\((∃r BY,c=(Sm r,BY)/\r.toList.Perm (a.toList++b.toList))\/∃o3 Y S mg' ac bc,c=(Nn,o3,Y,S,mg',ac,bc)/\r_ a b o3 Y S/\ia+ib+1<=Y+S)) ?_ (λc F z=>⟨z.1,.inr z.2⟩) ⟨g2,yI6 _ _ _ _ _ _ ⟨rfl,i2,ad⟩⟩) ?_)
     .intro y c b3 _ hy;refine yB2 λg3=>yF6 λo3 Y S a7 bp be=>yB3 ?_;rintro rfl ⟨q1,q2,q3⟩ b2;apply EA (P:=λ(_:Nat) F=>G0 J F)
      case h2=>
       intro hK;generalize a7=a6;refine cR ?_ ?_;rotate_left
       .exact L6 (Mq (Q:=λ_ F=>G0 J F) (Nk (g3.trans #[rfl,rfl,rfl,rfl])) λ_ ag W=>hK a6 _ W)
       exact L6 (Mq (Q:=λ_ F=>G0 J F) (Nk (g3.trans #[rfl,rfl,rfl,rfl])) λ_ ag W=>hK (a6-1) _ W)
      intro ca ag W;refine L6 (dW (arr:=b) q3 ?_);refine iK (arr:=a) (base:=Y) (n:=a.size-Y) (hint:=0) as (hb _ (tL _)) ha () () (W.kind.trans h5) λ_ k1 bt=>?_;apply q_ (P:=λ(o:Array Mi) (k:Nat)=>o.toList.Perm (a.toList.take k++b.toList.take S)/\k+1<a.size/\Y<=k)
      case h2=>
       intro hK;refine cR ?_ ?_;rotate_left
       .have r1:=q1;have r2:=q2;generalize hk:Y=k4 at r1 r2 |-;generalize o3=o4 at r1 |-;exact hK o4 k4 #[r1,r2,()]
       have pa:=PC k1 q1;exact d_ (λ_=>Mb #[W,.inl (yI2 _ _ #[rfl,zw pa])]) λd4=>d_ (λ_=>Mb #[W,.inl (yI2 _ _ #[rfl,oY pa])]) λd5=>hK _ _ #[pa,(),()]
      intro o4 k4 z;let#[pa,q5,cc]:=z;refine L6 (dW (arr:=b) q3 ?_);have pb:=xJ pa q3;refine d_ (λ_=>Mb #[W,.inl (yI2 _ _ #[rfl,oY pb])]) λd6=>?_;refine L6 (dW (arr:=a) (show k4<a.size from ()) ?_);refine iK (arr:=b) (base:=S+1) (n:=b.size-(S+1)) (hint:=0) as (ha _ (tL _)) hb () () (W.kind.trans h5) λ_ k2 ab=>?_;have q6:S<S+1/\S+1<b.size:=()
      generalize o4.push b[S]=o5 at pb |-;generalize S+1=kc at pb ab q6 |-
      apply q_ (P:=λ(o:Array Mi) (k:Nat)=>o.toList.Perm (a.toList.take k4++b.toList.take k)/\k<b.size/\kc<=k)
      case h2=>
       intro hK;refine cR ?_ ?_;rotate_left
       .have r1:=pb;generalize hk:kc=k6 at r1 |-;generalize o5=o6 at r1 |-;exact hK o6 k6 #[r1,(),()]
       exact d_ (λ_=>Mb #[W,.inl (yI2 _ _ #[rfl,oY (Ho k2 pb)])]) λd8=>hK _ _ #[Ho k2 pb,(),()]
      intro o6 k6 z;let#[pc,q7,cb]:=z;refine L6 (dW (arr:=a) (show k4<a.size from ()) ?_);have pd:=D_ pc (show k4<a.size from ());refine d_ (λ_=>Mb #[W,.inl (yI2 _ _ #[rfl,zw pd])]) λd9=>?_;exact cR (Mb #[W,.inr (yI6 _ _ _ _ _ _ #[rfl,#[pd,(),()],()])]) (Mb #[W,yI6 _ _ _ _ _ _ #[rfl,#[pd,(),()],()]])
     rintro c b3 ⟨g3,(⟨r,BY,rfl,hr⟩ | ⟨o3,Y,S,a7,bp,be,rfl,i3,b2⟩)⟩
     .exact Mb #[g3,yI2 r _ #[rfl,hr]]
     refine L6 (Mq (Q:=λ_ F=>G0 J F) (Nk (g3.trans #[rfl,rfl,rfl,rfl])) ?_);rintro _ ag W;exact Mb #[W,yI4 _ _ _ _ #[rfl,i3,()]]
    .intro c a8;refine yB2 λg1=>yF4 λout ia ib mg=>yB3 ?_;rintro rfl ⟨_,i2,i3⟩ bg;lia
    .intro c a8;refine yB2 λg1=>yF2 λr BY=>yB2 ?_;rintro rfl hr;exact Mb (hq _ _ hr g1)
   .refine L6 (Nk ?_);refine L6 (NA ?_);exact Mb (al out F hp J)
  .rw[Lu c3];refine v7 (a:=(Mm st).extract (sa+k) sb) (b:=(Mm st).extract sb (sb+k2)) ?mhi (hx _ _) (hx _ _) (by rw[KZ];lia) (by rw[KZ];lia) h.kind λout F hp J=>?_
   .clear al b0 hx c3 c2 ab c1 hk a5 O hs hq hsz b1 a9 bh h2 h1 h;intro a b Q J ha hb h3 h4 h5 hq;refine L6 (N8 (M_ #[rfl,?_]));refine L6 (dW (arr:=a) (i:=a.size-1) () ?_);have p0:(#v[a[a.size-1]]:Array Mi).toList.Perm (a.toList.drop (a.size-1)++b.toList.drop b.size):=xD (a:=a) (b:=b) (out:=#[]) (na:=a.size) (nb:=b.size) '~' h3 ();refine d_ (λ_=>Mb (hq _ _ (oK p0) (G0.rfl' _))) λd1=>?_;refine d_ (λ_=>Mb (hq _ _ (yy p0) (G0.rfl' _))) λd2=>?_;refine L6 (NA ?_);refine L6 (Mq (M3 (I:=λx c F=>G0 J F/\∃na nb out mg,c=(Nn,na,nb,out,mg)/\tR a b out na nb/\x+(na+nb)<=a.size+b.size) (Q:=λc F=>G0 J F/\∃r BY,c=(Sm r,BY)/\r.toList.Perm (a.toList++b.toList)) ?_ ?_ #[G0.rfl' _,yI4 _ _ _ _ #[rfl,#[p0,(),(),(),()],()]]) ?_)
    .intro x c a8 _ hx;refine yB2 λg1=>yF4 λia ib out mg=>yB3 ?_;rintro rfl i1 bg;refine L6 (Mq (M3 (I:=λy c F=>G0 J F/\∃Z jb o2 ac bc,c=(Nn,Z,jb,o2,ac,bc)/\tR a b o2 Z jb/\y+(Z+jb)<=ia+ib)
      (Q:=λc F=>G0 J F/\((∃r BY,c=(Sm r,BY)/\r.toList.Perm (a.toList++b.toList))\/∃Z jb o2 ac bc,c=(Nn,Z,jb,o2,ac,bc)/\tR a b o2 Z jb/\1+(Z+jb)<=ia+ib)) ?_ ?_ ⟨g1,yI5 ia ib out 0 0 ⟨rfl,i1,()⟩⟩) ?_)
     .intro y c a4 _ hy;refine yB2 λg2=>yF5 λZ jb o2 ac bc=>yB3 ?_;rintro rfl ⟨q1,q2,q3,q4,q5⟩ ad;refine L6 (dW (arr:=b) (i:=jb-1) () ?_);refine L6 (dW (arr:=a) (i:=Z-1) () ?_);refine L6 (jz hC (g2.kind.trans h5) (hb _ (tL _)) (ha _ (tL _)) λa3=>?_);dsimp only;by_cases d3:a3=true
      .rw[Lz d3];refine L6 (dW (arr:=a) (i:=Z-1) () ?_);have pa:=xD q1 q2 ();refine d_ (λ_=>Mb #[g2,.inl (yI2 _ _ #[rfl,oK pa])]) λd4=>?_;exact cR (Mb #[g2,.inr (yI5 _ _ _ _ _ #[rfl,#[pa,(),(),(),()],()])]) (Mb #[g2,yI5 _ _ _ _ _ #[rfl,#[pa,(),(),(),()],()]])
      .rw[Lu d3];refine L6 (dW (arr:=b) (i:=jb-1) () ?_);have pb:=EC q1 () ();refine d_ (λ_=>Mb #[g2,.inl (yI2 _ _ #[rfl,yy pb])]) λd4=>?_;exact cR (Mb #[g2,.inr (yI5 _ _ _ _ _ #[rfl,#[pb,(),(),(),()],()])]) (Mb #[g2,yI5 _ _ _ _ _ #[rfl,#[pb,(),(),(),()],()]])
     .intro c a4;refine yB2 λg2=>yF5 λZ jb o2 ac bc=>yB3 ?_;rintro rfl i2 ad;exact#[g2,.inr (yI5 _ _ _ _ _ #[rfl,i2,()])]
     rintro c a4 ⟨g2,(⟨r,BY,rfl,hr⟩ | ⟨Z,jb,o2,ac,bc,rfl,i2,ad⟩)⟩
     .exact Mb #[g2,yI2 r _ #[rfl,hr]]
     refine L6 (N8 (M_ #[rfl,?_]));refine L6 (Mq (M3 (I:=λy c F=>G0 J F/\∃Y S o3 mg' ac bc,c=(Nn,Y,S,o3,mg',ac,bc)/\tR a b o3 Y S/\1+(Y+S)<=ia+ib)
      (Q:=λc F=>G0 J F/\((∃r BY,c=(Sm r,BY)/\r.toList.Perm (a.toList++b.toList))\/∃Y S o3 mg' ac bc,c=(Nn,Y,S,o3,mg',ac,bc)/\tR a b o3 Y S/\1+(Y+S)<=ia+ib)) ?_ (λc F z=>⟨z.1,.inr z.2⟩) ⟨g2,yI6 _ _ _ _ _ _ ⟨rfl,i2,ad⟩⟩) ?_)
     .intro y c b3 _ hy;refine yB2 λg3=>yF6 λY S o3 a7 bp be=>yB3 ?_;rintro rfl ⟨q1,q2,q3,q4,q5⟩ b2;apply EA (P:=λ(_:Nat) F=>G0 J F)
      case h2=>
       intro hK;generalize a7=a6;refine cR ?_ ?_;rotate_left
       .exact L6 (Mq (Q:=λ_ F=>G0 J F) (Nk (g3.trans #[rfl,rfl,rfl,rfl])) λ_ ag W=>hK a6 _ W)
       exact L6 (Mq (Q:=λ_ F=>G0 J F) (Nk (g3.trans #[rfl,rfl,rfl,rfl])) λ_ ag W=>hK (a6-1) _ W)
      intro ca ag W;refine L6 (dW (arr:=b) (i:=S-1) () ?_);refine iK (arr:=a) (base:=0) (n:=Y) (hint:=Y-1) as (hb _ (tL _)) ha () () (W.kind.trans h5) λ_ k1 bt=>?_;dsimp only;generalize Y-k1=cn;apply q_ (P:=λ(o:Array Mi) (k:Nat)=>o.toList.Perm (a.toList.drop k++b.toList.drop S)/\0<k/\k<=Y)
      case h2=>
       intro hK;refine cR ?_ ?_;rotate_left
       .have r1:=q1;have r2:=q2;generalize hk:Y=k4 at r1 r2 |-;generalize o3=o4 at r1 |-;exact hK o4 k4 #[r1,r2,()]
       have pa:=Mt q1 bt;exact d_ (λ_=>Mb #[W,.inl (yI2 _ _ #[rfl,oK pa])]) λd4=>hK _ _ #[pa,(),bt]
      intro o4 k4 z;let#[pa,q6,cc]:=z;refine L6 (dW (arr:=b) (i:=S-1) () ?_);have pb:=EC pa () (show S-1<b.size from ());refine d_ (λ_=>Mb #[W,.inl (yI2 _ _ #[rfl,yy pb])]) λd6=>?_;refine L6 (dW (arr:=a) (i:=k4-1) () ?_);refine iK (arr:=b) (base:=0) (n:=S-1) (hint:=S-1-1) as (ha _ (tL _)) hb () () (W.kind.trans h5) λ_ k2 ab=>?_;dsimp only;have q7:S-1<S/\1<S-1:=()
      generalize o4.push b[S-1]=o5 at pb |-;generalize S-1=kc at pb ab q7 |-;generalize kc-k2=cq
      apply q_ (P:=λ(o:Array Mi) (k:Nat)=>o.toList.Perm (a.toList.drop k4++b.toList.drop k)/\1<k/\k<=kc)
      case h2=>
       intro hK;refine cR ?_ ?_;rotate_left
       .have r1:=pb;generalize hk:kc=k6 at r1 |-;generalize o5=o6 at r1 |-;exact hK o6 k6 #[r1,(),()]
       have pc:=Om pb ab;exact d_ (λ_=>Mb #[W,.inl (yI2 _ _ #[rfl,yy pc])]) λd8=>d_ (λ_=>Mb #[W,.inl (yI2 _ _ #[rfl,oK pc])]) λd9=>hK _ _ #[pc,(),ab]
      intro o6 k6 z;let#[pc,q8,cb]:=z;refine L6 (dW (arr:=a) (i:=k4-1) () ?_);have pd:=xD pc () (show k4-1<a.size from ());refine d_ (λ_=>Mb #[W,.inl (yI2 _ _ #[rfl,oK pd])]) λcv=>?_;exact cR (Mb #[W,.inr (yI6 _ _ _ _ _ _ #[rfl,#[pd,(),(),(),()],()])]) (Mb #[W,yI6 _ _ _ _ _ _ #[rfl,#[pd,(),(),(),()],()]])
     rintro c b3 ⟨g3,(⟨r,BY,rfl,hr⟩ | ⟨Y,S,o3,a7,bp,be,rfl,i3,b2⟩)⟩
     .exact Mb #[g3,yI2 r _ #[rfl,hr]]
     refine L6 (Mq (Q:=λ_ F=>G0 J F) (Nk (g3.trans #[rfl,rfl,rfl,rfl])) ?_);rintro _ ag W;exact Mb #[W,yI4 _ _ _ _ #[rfl,i3,()]]
    .intro c a8;refine yB2 λg1=>yF4 λna nb out mg=>yB3 ?_;rintro rfl ⟨_,i2,i3,i4,i5⟩ bg;lia
    .intro c a8;refine yB2 λg1=>yF2 λr BY=>yB2 ?_;rintro rfl hr;exact Mb (hq _ _ hr g1)
   .refine L6 (Nk ?_);refine L6 (NA ?_);exact Mb (al out F hp J)
end
section
variable{prog:L_}{w:K_}{A:Me}{E:LZ}{s:so}{kd:NX}{a0:Array Mi}
def jl(kd:NX)(a0:Array Mi)(pd:Array (Nat×Nat×Nat))(st:Mg):Prop:=iS kd a0 st/\Ms st=pd
theorem lF(S:kR prog w s kd a0)(h:iS kd a0 st){j:Nat}{Q:Option Bool->Mg->Prop}(hi:i<a0.size)(U:j<a0.size)(O:∀b,Q (Sm b) st):wpS (model prog w) A E s (ltAt' i j) Q st:=by
 have W:(Mm st).size=a0.size:=h.perm.size_eq;have F:∀k (J:k<(Mm st).size),(Mm st)[k]∈a0.toList:=λk J=>(LM.mp h.perm).mem_iff.mp (tL J);rw[ltAt'_eq];refine L6 (NA ?_);exact L6 (dW (arr:=Mm st) () (L6 (dW (arr:=Mm st) () (jz S h.kind (F _ _) (F _ _) O))))
theorem tT{F:Array (Nat×Nat×Nat)}(h:jl kd a0 F st){j:Nat}{Q:PUnit->Mg->Prop}(J:∀st',jl kd a0 F st'->Q ⟨⟩ st'):wpS (model prog w) A E s (reverseSlice' i j) Q st:=by
 rw[reverseSlice'_eq];exact Nk (J _ #[#[(mirror_perm _ _ _ _).trans h.1.perm,h.1.kind,h.1.fail],h.2])
theorem Ig(hC:kR prog w s kd a0){W:Array (Nat×Nat×Nat)}(h:jl kd a0 W st){lo J:Nat}{Q:MH->Mg->Prop}(hn:lo+J<=a0.size)(h1:1<=J)
  (hq:∀m F,jl kd a0 W F->1<=m->m<=J->Q (Sm m) F):wpS (model prog w) A E s (countRun' lo J) Q st:=by
 refine L6 (Mq (M3 (I:=λx c F=>jl kd a0 W F/\c=(Nn,x)) (Q:=λc F=>jl kd a0 W F/\∃m,c=(Nn,m)/\1<=m/\m<=J) ?_ ?_ #[h,rfl]) ?_)
 .rintro x c S ab hx2 ⟨O,rfl⟩;dsimp only;refine L6 (lF hC O.1 () () λb=>?_);exact cR (Mb #[O,x,rfl,ab,()]) (Mb #[O,rfl])
 .rintro c S ⟨O,rfl⟩;exact#[O,_,rfl,(),()]
 intro c S;refine yB2 λO=>yF1 λn=>yB3 ?_;rintro rfl n1 n2;dsimp only;by_cases c1:n=J
 .rw[Lz (by simpa using c1)];exact Mb (hq n S O n1 n2)
 rw[Lu (by simpa using c1)];by_cases c2:n>1
 case' pos=>
  rw[Lz c2];refine L6 (lF hC O.1 () () λb=>?_);dsimp only;refine cR (Mb (hq n S O n1 n2)) (L6 (tT O λal g2=>?_))
 case' neg=>
  rw[Lu c2];have g2:=O;generalize S=al at g2 |-
 all_goals
  refine L6 (N8 (M_ #[rfl,?_]));refine L6 (Mq (M3 (I:=λx c F=>jl kd a0 W F/\∃q,c=(Nn,x,q)) (Q:=λc F=>jl kd a0 W F/\∃m q,c=(Nn,m,q)/\1<=m/\m<=J) ?_ ?_ #[g2,0,rfl]) ?_)
  .rintro x c ac ab hx2 ⟨U,q,rfl⟩;dsimp only;refine L6 (lF hC U.1 () () λb=>?_);dsimp only;refine cR (cR (L6 (tT U λag g4=>Mb #[g4,_,rfl])) (Mb #[U,_,rfl])) ?_;refine L6 (lF hC U.1 () () λb=>?_);exact cR (Mb #[U,yI2 x _ #[rfl,(),()]]) (Mb #[U,_,rfl])
  .rintro c ac ⟨U,q,rfl⟩;exact#[U,yI2 _ _ #[rfl,(),()]]
  intro c ac;refine yB2 λU=>yF2 λm q=>yB3 ?_;rintro rfl m1 m2;dsimp only;refine cR (L6 (tT U λag g4=>L6 (tT g4 λad g5=>?_))) (L6 (tT U λad g5=>?_))
  all_goals
   refine L6 (Mq (M3 (I:=λx c F=>jl kd a0 W F/\c=(Nn,x)) (Q:=λc F=>jl kd a0 W F/\∃m,c=(Nn,m)/\1<=m/\m<=J) ?_ ?_ #[g5,rfl]) ?_)
   .rintro x c Z ab hx2 ⟨Y,rfl⟩;dsimp only;refine L6 (lF hC Y.1 () () λb=>?_);exact cR (Mb #[Y,x,rfl,(),()]) (Mb #[Y,rfl])
   .rintro c Z ⟨Y,rfl⟩;exact#[Y,_,rfl,(),()]
   intro c Z;refine yB2 λY=>yF1 λn=>yB3 ?_;rintro rfl n1 n2;exact Mb (hq n Z Y n1 n2)
theorem LC(hC:kR prog w s kd a0){S:Array (Nat×Nat×Nat)}(h:jl kd a0 S st){lo n ok:Nat}{Q:Bool->Mg->Prop}(hn:lo+n<=a0.size)(h0:0<n)
  (Y:∀F,jl kd a0 S F->Q true F):wpS (model prog w) A E s (binarySort' lo n ok) Q st:=by
 rw[binarySort'_eq];refine L6 (Mq (M3 (I:=λx c F=>jl kd a0 S F/\c=(Nn,Unit.unit)) (Q:=λc F=>jl kd a0 S F/\c=(Nn,Unit.unit)) ?_ (λ_ _ z=>z) #[h,rfl]) ?_)
 .rintro k c J Z ab ⟨O,rfl⟩;refine L6 (Mq (M3 (I:=λx c F=>J=F/\∃l r,c=(Nn,l,r)/\r<=k) (Q:=λc F=>J=F/\∃l r,c=(Nn,l,r)/\r<=k) ?_ (λ_ _ z=>z) #[rfl,yI2 0 k #[rfl,zg _]]) ?_)
  .intro x c U _ hx;refine yB2 ?_;rintro rfl;refine yF2 λl r=>yB2 ?_;rintro rfl W;dsimp only;by_cases z:l>=r
   .rw[Lz z];exact Mb #[rfl,yI2 l r #[rfl,W]]
   rw[Lu z];refine L6 (lF hC O.1 () () λb=>?_);exact cR (Mb #[rfl,yI2 _ _ #[rfl,()]]) (Mb #[rfl,yI2 _ _ #[rfl,W]])
  .intro c U;refine yB2 ?_;rintro rfl;refine yF2 λl r=>yB2 ?_;rintro rfl W;dsimp only;rw[moveDown'_eq];refine L6 (Nk ?_);exact Mb #[#[#[(bubble_perm _ _ _).trans O.1.perm,O.1.kind,O.1.fail],O.2],rfl]
 .rintro c J ⟨O,rfl⟩;exact Mb (Y J O)
def CQ:List (Nat×Nat×Nat)->Nat->Nat->Prop
 | [],x,y=>x=y
 | r::l,x,y=>r.1=x/\0<r.2.1/\CQ l (x+r.2.1) y
theorem CQ.le:∀ {l:List (Nat×Nat×Nat)} {x y:Nat},CQ l x y->x<=y
 | [],x,y,h=>by cases h;exact zg _
 | _::_,x,y,h=>by have:=h.2.2.le;lia
theorem CQ.at_:∀ {l:List (Nat×Nat×Nat)} {x y i:Nat} {a b:Nat×Nat×Nat},CQ l x y->l[i]?=Sm a->l[i+1]?=Sm b->b.1=a.1+a.2.1/\0<a.2.1/\0<b.2.1/\b.1+b.2.1<=y/\CQ ((l.set i (a.1,a.2.1+b.2.1,a.2.2)).eraseIdx (i+1)) x y
 | [],x,y,i,a,b,h,h1,h2=>by cases h1
 | [r],x,y,i,a,b,h,h1,h2=>by cases h2
 | r::t::l,x,y,0,a,b,h,h1,h2=>by
  cases h1;cases h2;revert h;refine yB5 λJ F O Y S=>?_;refine#[(),F,Y,by have:=S.le;lia,J,by show 0<_+_;lia,?_];show CQ l (x+(r.2.1+t.2.1)) y;rw[<-i9];exact S
 | r::t::l,x,y,i+1,a,b,h,h1,h2=>by
  let#[J,F,O]:=h;refine yA5 (O.at_ (i:=i) h1 h2) λf1 Z W f4 U=>?_;exact#[f1,Z,W,f4,J,F,U]
theorem CQ.pow:∀ {l:List (Nat×Nat×Nat)} {x y:Nat} (i p:Nat),CQ l x y->CQ (l.modify i λr=>(r.1,r.2.1,p)) x y
 | [],x,y,i,p,h=>by cases i<;>exact h
 | r::l,x,y,0,p,h=>h
 | r::l,x,y,i+1,p,h=>#[h.1,h.2.1,h.2.2.pow i p]
theorem CQ.snoc:∀ {l:List (Nat×Nat×Nat)} {x y:Nat} {n p:Nat},CQ l x y->0<n->CQ (l++[(y,n,p)]) x (y+n)
 | [],x,y,n,p,h,hn=>by cases h;exact#[rfl,hn,rfl]
 | r::l,x,y,n,p,h,hn=>#[h.1,h.2.1,h.2.2.snoc hn]
theorem AR(hC:kR prog w s kd a0){lo:Nat}(h:iS kd a0 st)(U:CQ (Ms st).toList 0 lo)(J:lo<=a0.size)(hi:i+1<(Ms st).size){Q:Bool->Mg->Prop}(W:∀F,iS kd a0 F->CQ (Ms F).toList 0 lo->Q true F):wpS (model prog w) A E s (mergeAt' i) Q st:=by
 have S:(Ms st)[i]?=Sm (Ms st)[i]:=IC ();have O:(Ms st)[i+1]?=Sm (Ms st)[i+1]:=IC hi;refine yA5 (U.at_ (i:=i) (by rw[JB];exact S) (by rw[JB];exact O)) λf1 f2 Z f4 Y=>?_;refine IR hC h S O f1 f2 Z (mn f4 J) λF h' hp=>W F h' ?_;rw[hp,Array.toList_eraseIdxIfInBounds,Array.toList_setIfInBounds];exact Y
theorem KA(hC:kR prog w s kd a0)(h:iS kd a0 st)(hp:Ms st = #[]){Q:Unit->Mg->Prop}
  (hq:∀F,(Mm F).Perm a0->NZ F=Nn->Q Unit.unit F):wpS (model prog w) A E s sortRuns' Q st:=by
 rw[sortRuns'_eq];refine L6 (NA ?_);have hs:(Mm st).size=a0.size:=h.perm.size_eq;simp only[hs];generalize minRun' a0.size a0.size 0=mr;refine L6 (Mq (M3 (I:=λx c F=>∃lo,c=(Nn,lo)/\lo<=a0.size/\iS kd a0 F/\CQ (Ms F).toList 0 lo) (Q:=λc F=>∃lo,c=(Nn,lo)/\lo<=a0.size/\iS kd a0 F/\CQ (Ms F).toList 0 lo) ?_ (λ_ _ z=>z) #[0,rfl,mw _,h,by rw[hp];rfl]) ?_)
 .intro x c ad _ hx;refine yF1 λlo=>yB4 ?_;rintro rfl U g1 r1;dsimp only;by_cases c1:lo>=a0.size
  .rw[Lz c1];exact Mb #[lo,rfl,U,g1,r1]
  rw[Lu c1];refine L6 (Ig hC #[g1,rfl] () () λm ac g2 m1 m2=>?_);dsimp only;by_cases c2:m<mr
  case' pos=>
   rw[Lz c2];refine L6 (N8 (M_ #[rfl,?_]));refine L6 (LC hC g2 () () λab g3=>?_);rw[Lu '~'];have n1:0<min (a0.size-lo) mr:=()
   have n2:lo+min (a0.size-lo) mr<=a0.size:=()
   generalize min (a0.size-lo) mr=n at n1 n2 |-
  case' neg=>
   rw[Lu c2];have g3:=g2;have n1:0<m:=m1;have n2:lo+m<=a0.size:=()
   generalize ac=ab at g3 |-;generalize m=n at n1 n2 |-
  all_goals
   let#[g3,e3]:=g3;have r3:CQ (Ms ab).toList 0 lo:=by rw[e3];exact r1
   refine L6 (NA ?_);have push:∀J,iS kd a0 J->CQ (Ms J).toList 0 lo->wpS (model prog w) A E s (modify λs=>setPending s ((Ms s).push (lo,n,0))) (λ_ F=>iS kd a0 F/\CQ (Ms F).toList 0 (lo+n)) J:=λJ O S=>Nk #[#[O.perm,O.kind,O.fail],by show CQ ((Ms J).push (lo,n,0)).toList 0 (lo+n);rw[KS];exact S.snoc n1];split
   .refine L6 (Mq (M3 (I:=λx c F=>c=(Nn,Unit.unit)/\iS kd a0 F/\CQ (Ms F).toList 0 lo) (Q:=λc F=>c=(Nn,Unit.unit)/\iS kd a0 F/\CQ (Ms F).toList 0 lo) ?_ (λ_ _ z=>z) #[rfl,g3,r3]) ?_)
    .rintro y c J _ hy ⟨rfl,O,S⟩;refine L6 (NA ?_);by_cases c3:(Ms J).size>1
     .rw[Lz c3,IC ()];dsimp only;refine cR (Mb #[rfl,O,S]) ?_;refine L6 (AR hC O S U () λW Z Y=>?_);rw[Lu '~'];exact Mb #[rfl,Z,Y]
     .rw[Lu c3];exact Mb #[rfl,O,S]
    .rintro c J ⟨rfl,O,S⟩;dsimp only;refine L6 (Nk ?_);refine L6 (Mq (push _ #[O.perm,O.kind,O.fail] ?_) ?_)
     .show CQ (Array.modify _ _ _).toList 0 lo;rw[Array.toList_modify];exact S.pow _ _
     .rintro _ W ⟨Z,Y⟩;exact Mb #[_,rfl,n2,Z,Y]
   .refine L6 (Mq (push _ g3 r3) ?_);rintro _ W ⟨Z,Y⟩;exact Mb #[_,rfl,n2,Z,Y]
 intro c ad;refine yF1 λlo=>yB4 ?_;rintro rfl U g1 r1;dsimp only;refine L6 (Mq (M3 (I:=λx c F=>c=(Nn,Unit.unit)/\iS kd a0 F/\CQ (Ms F).toList 0 lo) (Q:=λc F=>c=(Nn,Unit.unit)/\iS kd a0 F/\CQ (Ms F).toList 0 lo) ?_ (λ_ _ z=>z) #[rfl,g1,r1]) ?_)
 .rintro y c J _ hy ⟨rfl,O,S⟩;refine L6 (NA ?_);by_cases c3:(Ms J).size<=1
  .rw[Lz c3];exact Mb #[rfl,O,S]
  rw[Lu c3];have hle:∀(c:Prop) [Decidable c] (n:Nat),(if c then n-1 else n)<=n:=λc _ n=>by split<;>lia
  refine L6 (AR hC O S U (Nat.lt_of_le_of_lt (Nat.add_le_add_right (hle _ _) 1) ()) λW Z Y=>?_);rw[Lu '~'];exact Mb #[rfl,Z,Y]
 .rintro c J ⟨rfl,O,S⟩;exact Mb (hq J O.perm O.fail)
end
section
variable{prog:L_}{w:K_}{A:Me}{E:LZ}{s:so}
theorem Kj{qs:MD}{xs:Array Mi}(J:xs.Perm (pairsOf (qs.map Md))):∃qs':MD,qs'.Perm qs/\xs.map (·.2)=(qs'.map Md).toArray:=by
 have hl:=LM.mp J;refine#[xs.toList.map jo,?_,?_]
 .have:=hl.map jo;rw[zW]at this;exact this
 .apply Array.toList_inj.mp;rw[Array.toList_map];show xs.toList.map (·.2)=(xs.toList.map jo).map Md;rw[td];refine List.map_congr_left λp F=>?_;have:=(kZ (hl.mem_iff.mp F)).2;show p.2=Md (jo p);exact congrArg Prod.snd this
theorem J2{a:o_}{qs:MD}{κ:o_->MJ}{n:Nat}{P:Fin->so->Prop}(Z:s.heap.get? a=Sm (seqObj "list" (qs.map Md).toArray n)) (hT:∀q∈qs,MT (Mh prog w) s.heap (κ q) q/\κ q≠[]) (hz:qs.length<=L9)
  (h:∀O:MD,O.Perm qs->P (.done (.ret .none)) {s with heap:=sortedHeap s.heap a (qs.map Md) (O.map Md).toArray}) :
  I_ (model prog w) A (Mv.«list.sort» #[[.ref a],[]]) P E s:=by
 rw[list_sort_plain];have ha:a<s.heap.objs.size:=vg Z;refine Lo (listItems_at Z rfl (Lo (listUpdate_at Z rfl ?_)));have ab:=get?_update_seq Z (λ_=>#[]);refine Lo (seqEpoch_at ab rfl (Lo (wpAny_newTuple (Lo (wpAny_newList (My ?_))))));have keep:∀q o,q≠a->s.heap.get? q=Sm o->(((s.heap.update a (Ng λ_=>#[])).push (seqObj "tuple" (qs.map Md).toArray 0)).push (seqObj "list" #[] 0)).get? q=Sm o:=λq o Y e=>
  yc _ (yc _ (by rw[za4 _ _ (u6 Y)];exact e))
 have J:=yc (seqObj "list" #[] 0) (yc (seqObj "tuple" (qs.map Md).toArray 0) ab);have S:∀q∈qs,MT (Mh prog w) (((s.heap.update a (Ng λ_=>#[])).push (seqObj "tuple" (qs.map Md).toArray 0)).push (seqObj "list" #[] 0)) (κ q) q/\κ q≠[]:=λq Y=>by
  let#[hk,ac]:=hT q Y;refine#[iX hk λo e=>keep q o (λz=>?_) e,ac];revert hk;refine yF3 λo1 _ _=>yB3 λg1 c1 _=>?_;rw[z,Z]at g1;obtain rfl:=Option.some.inj g1;have U:("list" : String) = "tuple" := by injection c1
  exact absurd U ∅
 show I_ (model prog w) A _ P E {s with heap:=((s.heap.update a (Ng λ_=>#[])).push (seqObj "tuple" (qs.map Md).toArray 0)).push (seqObj "list" #[] 0)};have W:∀F:Mg,(Mm F).Perm (pairsOf (qs.map Md))->P (.done (.ret .none)) {s with heap:=sortedHeap s.heap a (qs.map Md) ((Mm F).map (·.2))}:=λF hp=>by
  let#[O,q1,q3]:=Kj hp;rw[q3];exact h O q1
 have ad:(pairsOf (qs.map Md)).size=qs.length:=by rw[pairsOf_size,zb]
 dsimp only;by_cases U:(qs.map Md).toArray.size<2
 .rw[Lz U,Lz U];refine Lo (Lp ?_);rw[StateT.run_pure];refine Lo (Lp ?_);dsimp only;refine Lo (seqEpoch_at J rfl (Lo (listUpdate_at J rfl ?_ (hsz2:=by rw[Array.size_map];show (pairsOf (qs.map Md)).size<=_;lia))));simp only[bne_self_eq_false,sJ,if_false];exact Lp (W (Mg.mk' general' (pairsOf (qs.map Md)) #[] 7 Nn) (Array.Perm.refl _))
 .rw[Lu U,Lu U];refine Lo (Kx (s:={s with heap:=((s.heap.update a (Ng λ_=>#[])).push (seqObj "tuple" (qs.map Md).toArray 0)).push (seqObj "list" #[] 0)}) S λb=>?_);have hC:kR prog w {s with heap:=((s.heap.update a (Ng λ_=>#[])).push (seqObj "tuple" (qs.map Md).toArray 0)).push (seqObj "list" #[] 0)} (tuples' b) (pairsOf (qs.map Md)):=λA E x y Q hx hy Y=>by
   let#[x1,x2]:=kZ hx;let#[y1,y2]:=kZ hy;have e1:x.1 = .ref (jo x):=congrArg Prod.fst x2;have e2:y.1 = .ref (jo y):=congrArg Prod.fst y2;rw[e1,e2];exact yI (S _ x1).1 (S _ y1).1 (Y _)
  refine Lo (Nb (KA (Q:=λ_ F=>(Mm F).Perm (pairsOf (qs.map Md))/\NZ F=Nn) hC (st:=Mg.mk' (tuples' b) ((qs.map Md).toArray.zip (qs.map Md).toArray) #[] 7 Nn) #[Array.Perm.refl _,rfl,rfl] rfl λF a1 a2=>#[a1,a2]) ?_ λ_ _ e=>e);rintro⟨⟨⟩,F⟩ s' ⟨rfl,a1,a2⟩;dsimp only;refine Lo (seqEpoch_at J rfl (Lo (listUpdate_at J rfl ?_ (hsz2:=by rw[Array.size_map,a1.size_eq];lia))));rw[a2];simp only[bne_self_eq_false,sJ,if_false];exact Lp (W F a1)
theorem BK{T:String}{r d:o_}{n:Nat}{P:Nat->B_->Prop}{Z:LY->Prop}{Q:MF->so->Prop}(ab:W.KdlSrc prog w T r d n P Z)(hh:A.handled=Nn)(hok:Z s.heap)(U:Z (s.heap.push {cls:=.type "list",data:=.seq ([]:MF).toArray})) (hr:r<s.heap.objs.size) (hd:d<s.heap.objs.size) (hn:n<=L9)
  (hQ:∀h' S acc,(∀b o,s.heap.get? b=Sm o->h'.get? b=Sm o)->s.heap.objs.size<h'.objs.size->ItemsOf P acc n->Q acc.toList {s with heap:=h',toks:=S}):I_ (model prog w) A (collect (.ref r)) Q E s:=by
 have ext:∀R:Nw->so->Prop,(∀h' S J Y,(∀b o,s.heap.get? b=Sm o->h'.get? b=Sm o)->h'.get? s.heap.objs.size=Sm {cls:=.type "list",dict:=Nn,data:=.seq J Y,slots:=#[]}->ItemsOf P J n->R (.ok (.ret (.ref s.heap.objs.size))) {s with heap:=h',toks:=S})->
   codeAny (model prog w) A (.builtin "proto.collect" #[[.ref r],[]]) R s:=λR hR=>by
  refine NB F.entry_proto_collect ?_;rw[JN F.plain_proto_collect _];show I_ _ A.in1 (newList [] >>= λl=>again (.builtin "list.__iadd__" #[[l,.ref r],[]])) _ _ s;refine Lo (MZ ?_);refine Lp #[N7 zbk _,NB F.entry_list_iadd ?_];rw[JN zbk _];show I_ _ A.in1 (OL (.ref s.heap.objs.size) (.ref r) (.ref s.heap.objs.size)) _ _ _;refine W.kdl_extend (R:=R) (s:={s with heap:=s.heap.push {cls:=.type "list",data:=.seq ([]:MF).toArray}}) ab hh U s.heap.objs.size (JX hr) (JX hd) _ 0 (yQ _ rfl) (λh' S J Y hk O hp=>?_) hn;exact hR h' S J Y (λb o e=>hk b o (yG (vg e)) (yc _ e)) O hp
 unfold collect;refine Lo (wpAny_runValue (ext _ λh' S J Y hk O hp=>?_));show I_ _ A (load s.heap.objs.size >>= _) _ _ _;refine Lo (wpAny_load O ?_);exact Lp (hQ h' S J hk (vg O) hp)
theorem vZ{a:o_}{qs:MD}{κ:o_->MJ}{Q:LZ}(hh:A.handled=Nn)(hz:qs.length<=L9)(hT:∀q∈qs,MT (Mh prog w) s.heap (κ q) q/\κ q≠[])
  (U:∀(A:Me) (E:LZ) (R:MF->so->Prop),A.handled=Nn->(∀h' d' S (rs:MD),(∀b o,s.heap.get? b=Sm o->h'.get? b=Sm o)->s.heap.objs.size<h'.objs.size->rs.Perm qs->R (rs.map Md) {s with heap:=h',drawn:=d',toks:=S})->I_ (model prog w) A (collect (.ref a)) R E s)
  (hQ:∀h' d' S q c (F:MD),(∀b o,s.heap.get? b=Sm o->h'.get? b=Sm o)->s.heap.objs.size<=q->h'.get? q=Sm (seqObj "list" (F.map Md).toArray c)->F.Perm qs->Q (.ref q) {s with heap:=h',drawn:=d',toks:=S}) :
  I_ (model prog w) A (call (.builtin "sorted") [.ref a]) Q E s:=by
 refine zbB kind_sorted plain_sorted entry_sorted (args_sorted1 _) ?_;unfold Mv.«sorted»;refine Lo (m:=checkCount "sorted" 1 1 _) (Lp ?_);refine Lo (U _ _ _ hh λh' d' S rs Y W J=>?_);refine Lo (wpAny_newList ?_ (by rw[zb,J.length_eq];exact hz));have O:(h'.push (seqObj "list" (rs.map Md).toArray 0)).get? h'.objs.size=Sm (seqObj "list" (rs.map Md).toArray 0):=yQ _ rfl;show I_ _ _ _ _ _ {s with heap:=h'.push (seqObj "list" (rs.map Md).toArray 0),drawn:=d',toks:=S};refine Lo (My (MW slot_list_sort #[_,O,rfl] entry_list_sort (J2 (κ:=κ) O (λq hq=>?_) (by rw[J.length_eq];exact hz) λF b1=>#[_,rfl,?_]) (args_list_sort _)))
 .let#[k1,k2]:=hT q (J.mem_iff.mp hq);exact#[iX k1 λo e=>yc _ (Y q o e),k2]
 .let#[c,U]:=sortedHeap_at (out:=(F.map Md).toArray) O;refine Lp #[_,rfl,hQ _ d' S h'.objs.size c F (λb o e=>?_) (xx W) U (b1.trans J)];have Z:=vg (Y b o e);rw[sortedHeap_old (yG Z) (by rw[sK];exact K0 Z)];exact yc _ (Y b o e)
end
def Eg(v:V):Int:=match v with
 | .int i=>i
 | _=>0
def mY(H:Hp)(q:o_):MJ:=match H q with
 | some (.tup xs)=>xs.map Eg
 | _=>[]
def GR(K:KE):MC->Hp->VK->Prop:=λxs H Q=>∃(d:o_) (kvs:List (List aP×V)),xs=[.ref d]/\H d=Sm (.dT kvs)/\(∀p∈kvs,p.1≠[]/\∃ks:MJ,p.1=ks.map Sum.inl)/\kvs.length<=60000/\∀(l:o_) (bs bs':MD),H l=Nn->L8 (λ(p:List aP×V) b=>H b=Sm (.tup (p.1.map kV))) kvs bs->bs'.Perm bs->Q (.ref l) (upd H l (.lst (bs'.map V.ref)))
def kF(K:KE)(SO:o_->MD->HO):MC->Hp->VK->Prop:=λxs H Q=>∃(p:o_) (qs:MD) (κ : o_->MJ),xs=[.ref p]/\H p=Sm (SO p qs)/\qs.length<=60/\(∀q∈qs,uc K H q ((κ q).map V.int)/\κ q≠[])/\
 ∀(l:o_) (qs':MD),H l=Nn->qs'.Perm qs->Q (.ref l) (upd H l (.lst (qs'.map V.ref)))
section
variable{X:Cx}
theorem zn(K:KE)(hr:CC m X.A)(hK:X.K=K:=by rfl):Ck X (.builtin "sorted") (GR K):=by
 subst hK;intro pins s σ H xs us Q I r h;revert h;refine yF2 λd kvs=>yB5 ?_;rintro rfl ed ad hn q;let#[u,rfl,ru]:=dg r;cases ru;refine yA3 (show B3 X.prog X.w H s.heap d (.dT kvs) from I.hok d _ ed) λ_ nd=>yF1 λys=>yB2 λY=>yF3 λo es ep=>yB5 λeo ex od he _=>?_;have hs:L9=16777216:=Np;have hl:kvs.length=ys.length:=zaP Y;have hz:es.size=ys.length:=by rw[<-og,he,zb]
 have hb:=FH Y;have hT:∀a∈ys.map (·.2.1),MT (Mh X.prog X.w) s.heap (mY H a) a/\mY H a≠[]:=λa ha=>by
  let#[j,Z,rfl]:=LJ.mp ha;have U:j<kvs.length:=by rw[hl];simpa using Z
  have hp:=iA hb (zd U) (zd Z);let#[h1,ks,h2]:=ad _ (gV U);rw[h2]at hp h1;have e:mY H (ys.map (·.2.1))[j]=ks:=by
   unfold mY;rw[hp];show ((ks.map Sum.inl).map kV).map Eg=ks;rw[td,td];exact List.map_id ks
  rw[e];refine#[I.tupK (uc.of (hp.trans ?_)),λz=>h1 (by rw[z];rfl)];rw[td];rfl
 refine vZ (κ:=mY H) hr.hd (by rw[zb];lia) hT (λA E R hh hR=>?_) λh' d' tk qa c F hk hq hc a1=>?_
 .have ab:HR s.heap d es ep:=#[o,eo,ex,od];refine BK (E8 (es:=es) (ep:=ep) nd) hh ab (ab.by λo e=>yc _ e) (vg eo) (vg eo) () λh' tk acc hk ac O=>?_;have e:acc.toList=(ys.map (·.2.1)).map Md:=by
   refine List.ext_getElem? λj=>?_;by_cases Z:j<ys.length
   .have S:j<acc.size:=by rw[O.1];lia
    let#[e,z1,z2]:=O.2 j acc[j] (IC S);rw[<-JB,he,zz,zd Z]at z1;cases z1;rw[JB,IC S,zz,zz,zd Z,z2];rfl
   .rw[K5 (by rw[og,O.1];lia),K5 (by simp;lia)]
  have:=hR h' s.drawn tk (ys.map (·.2.1)) hk ac (.refl _);rw[<-e]at this;exact this
 .have ag:F.length=ys.length:=by rw[a1.length_eq,zb]
  have J:=I.laid (t':=tk) (a:=qa) (o:=.lst (F.map V.ref)) hk hq (show B3 X.prog X.w _ h' _ (.lst (F.map V.ref)) from #[by rw[zb];lia,yI2 (F.map Md) c #[la F,by simpa using hc]]);refine yI2 (.ref qa) _ #[?_,rfl,q _ _ F (I.hok.fresh hq) hb a1];exact#[J.ok,J.os,J.bare,J.base,J.loc,J.cell,J.free,J.freeC,J.pin,J.hok,J.len]
theorem qT(hr:CC m X.A){K:KE}(hK:X.K=K):Ck X (.builtin "sorted") (kF K (iD X.w)):=by
 subst hK;intro pins s σ H xs us Q I r h;revert h;refine yF3 λp qs κ=>yB5 ?_;rintro rfl e Z hT q;let#[u,rfl,ru]:=dg r;cases ru;refine yE4 ((show B3 X.prog X.w H s.heap p (iD X.w p qs) from I.hok p _ e).1) λo es ep t=>yB7 λho hx hd ad hf hg O=>?_;have hz:es.size=qs.length:=by have:=congrArg List.length O;simpa using this
 have hs:L9=16777216:=Np;refine vZ (κ:=κ) hr.hd () (λq S=>#[I.tupK (hT q S).1,(hT q S).2]) (λA E R hh hR=>?_) λh' d' tk qa c F hk S hc a1=>?_
 .refine jQ hh ho hx hd hf (by unfold scanBound;lia) hg λh' d' tk acc hk ab hp=>?_;rw[O]at hp;have U:∃rs:MD,rs.Perm qs/\acc=rs.map Md:=by
   have hv:∀v∈acc,∃q,v=Md q:=λv hv=>by
    let#[q,_,rfl]:=LD.mp (hp.mem_iff.mp hv);exact#[q,rfl]
   let f:B_->o_:=λv=>match v with | .ref q=>q | _=>0
   refine#[acc.map f,?_,?_]
   .have:=hp.map f;rw[td]at this;have e:(qs.map (f ∘ Md))=qs:=by rw[show (f ∘ Md)=id from rfl,List.map_id]
    rw[e]at this;exact this
   .rw[td];have:acc.map (Md ∘ f)=acc.map id:=List.map_congr_left λv Y=>by let#[q,rfl]:=hv v Y;rfl
    rw[this,List.map_id]
  let#[rs,ac,rfl]:=U;exact hR h' d' tk rs hk ab ac
 .have hl:F.length<=60:=by rw[a1.length_eq];exact Z
  have J:=I.laid (t':=tk) (a:=qa) (o:=.lst (F.map V.ref)) hk S (show B3 X.prog X.w _ h' _ (.lst (F.map V.ref)) from #[by rw[zb];lia,yI2 (F.map Md) c #[la F,by simpa using hc]]);refine yI2 (.ref qa) _ #[?_,rfl,q _ F (I.hok.fresh S) a1];exact#[J.ok,J.os,J.bare,J.base,J.loc,J.cell,J.free,J.freeC,J.pin,J.hok,J.len]
theorem oQ(K:KE)(w:K_)(J:CC m X.A)(F:X.K=K:=by rfl)(hw:X.w=w:=by rfl):Ck X (.builtin "sorted") (kF K (iD w)):=hw ▸ qT J F
end
theorem X1{K:KE}{H:Hp}{p:o_}{xs:List V}{i:Int}{v:V}{R:V->Prop}(h:uc K H p xs)(e:cJ xs i=Sm v)(k:R v):∃xs v,(ud K H p xs\/uc K H p xs)/\cJ xs i=Sm v/\R v:=#[xs,v,.inr h,e,k]
theorem X2{K:KE}{H:Hp}{p:o_}{xs:List V}{i:Int}{v:V}{R:V->Prop}(h:ud K H p xs)(e:cJ xs i=Sm v)(k:R v):∃xs v,(ud K H p xs\/uc K H p xs)/\cJ xs i=Sm v/\R v:=#[xs,v,.inl h,e,k]
end L2
section
open PySem PySem.Spec PyProof.Rows L2
seal L2.PE L2.PT L2.PW L2.PA L2.PS L2.Iz L2.PG L2.Lj L2.IP L2.PI L2.Jm L2.Gw L2.UnR L2.Ck L2.IG L2.Iy L2.DQ L2.PO L2.PPs
local macro_rules | `(tactic| walk_at "z")=>`(tactic| exact fun _ _ _ _ _ _ us hl=>by first | (obtain ⟨_,e⟩:=L2.zu1 us hl;subst e;rfl) | (obtain ⟨_,_,e⟩:=L2.zu2 us hl;subst e;rfl) | (obtain ⟨_,_,_,e⟩:=L2.zu3 us hl;subst e;rfl) | (obtain ⟨_,_,_,_,e⟩:=L2.zu4 us hl;subst e;rfl) | (obtain ⟨_,_,_,_,_,e⟩:=L2.zu5 us hl;subst e;rfl))
local macro_rules | `(tactic| walk_at "v")=>`(tactic| exact fun _ _ _ _ h=>by repeat first | (obtain ⟨e,_⟩:=h;subst e;exact rfl) | obtain ⟨_,h⟩:=h)
local macro_rules | `(tactic| walk_at "r")=>do
 let f:=λ(p:Lean.Name) (s:String)=>(s.splitOn " ").toArray.mapM λx=>`(Lean.Parser.Tactic.simpLemma| $(Lean.mkCIdent (p++x.toName)):term)
 `(tactic| try simp only [$((<-f `L2 "ww mU lS uK vL w9 si xk tU vY uY v1 xh wG EV AO Ay tY EI vB Ak vW uD zZ Aq t0 wk vS xm sI Ab wV sZ rY qG ma uZ Br rO nc rG wZ tK uO vD rK w_ vd tO pN u7 uH sf sE wy mE Bl EG qd qv kJ pO pY wn tm rR nZ qD wW ER wC wF nh rE rT rB uJ lW mf qF pI tH tM rC mT tF wD wM wB qh pQ gC wI pS rA tz u0 uU vF wQ v4 start V.int.injEq V.ref.injEq V.str.injEq V.bl.injEq Ad v5")++(<-f .anonymous "List.map_cons List.map_nil List.length_cons List.length_nil List.replicate List.cons_append List.nil_append List.append_nil List.getElem?_cons_zero List.getElem?_cons_succ List.set_cons_zero List.set_cons_succ Nat.reduceAdd Nat.reduceSub Option.some.injEq exists_eq_left' exists_eq_left and_true true_and decide_eq_true_eq Bool.not_true Bool.not_false if_true Bool.false_eq_true if_false ite_true ite_false")),*])
local macro_rules | `(tactic| walk_at "g")=>`(tactic| (generalize hG:upd _ _ _=HG; have sG:=FJ hG (by assumption); have eG:=Ku hG; clear hG))
local macro_rules | `(tactic| walk_at "n")=>`(tactic| ((first | rw [ou] | (dsimp only; rw [ou])); walk_at "r"))
local macro_rules | `(tactic| walk_at "lk")=>`(tactic| repeat (first | exact JJ | exact Jq | rw [FM (by decide +kernel)]))
local macro_rules | `(tactic| walk_at "pf")=>`(tactic| repeat (first | rw [putF_hit] | rw [BO] | rw [Bs (by decide +kernel)]))
namespace K65
open PySem L2
variable{α:Type}{i d n a l m j N:Nat}{S:o_->Prop}{H H':Hp}{p q J:o_}{xs:MC}{o:HO}{K:KE}{nm:MA}{y:Str}{Q:VK}{ts:MB}{sd:Int}
abbrev wAK(mg:Str->Option B_):=mg "len"=Nn
variable{P:L_}{w:K_}{K:KE}{mg:Str->MG}{base:LY}
noncomputable abbrev qAA:List Str:=["_law_script","_law_second","_law_words_here","_law_cells","_law_sides","_law_rule_here","_law_code_here","_law_kept","_law_due_here","_law_found"]
abbrev qAB:List Str:=["code","rule","at","tokens"]
abbrev qAC:List Str:=["code","rule","at","token"]
abbrev qAD:List Str:=["_law_script","_law_start","_law_sides","_law_words_here","_law_first","_law_second","_law_names","_law_program_here"]
abbrev qAE:List Str:=["_law_cell","_law_many","_law_letters","_law_size","_law_at","_law_rest","_law_base","_law_k","_law_words_here"]
abbrev qAF:List Str:=["_law_code_here","_law_rule_here","_law_at","_law_tokens"]
abbrev qAG:List Str:=["code","rule","found","waiting","at","place"]
abbrev qAH:List Str:=["_law_code_here","_law_rule_here","_law_paper","_law_column","_law_at"]
abbrev qAI:List Str:=["_law_rule_here","_law_room_here","_law_text"]
abbrev qAJ:List Str:=["code","rule","paper","column"]
abbrev qAK:List Str:=["open","lend","back","end"]
abbrev qAL:List Str:=["code","rule","at","token","row","count","behind","room"]
abbrev qAM:List Str:=["one","other","tokens","unlike"]
abbrev qAN:List Str:=["steps","at","slots","turned"]
abbrev qAO:List Str:=["_law_code_here","_law_rule_here","_law_at","_law_tokens","_law_token"]
abbrev qAP:List Str:=["_law_cells","_law_names","_law_words_here","_law_lends","_law_deep"]
abbrev qAQ:List Str:=["step","at","slots","turned"]
abbrev qAR:List Str:=["_law_script","_law_start","_law_sides","_law_words_here"]
abbrev qAS:List Str:=["program","lines","step","block","closer"]
abbrev qAT:List Str:=["_law_cells","_law_sides","_law_words_here","_law_most"]
abbrev qAU:List Str:=["_law_rule_here","_law_row","_law_token"]
abbrev qAV:List Str:=["slot","held"]
abbrev qAW:List Str:=["self","head","lines","blocks"]
noncomputable abbrev qAX:List Str:=["steps","line"]
abbrev qAY:List Str:=["_law_row","_law_token","_law_sides"]
noncomputable abbrev qAZ:List Str:=["_law_pile","_law_step_here"]
abbrev qAa:List Str:=["_law_code_here","_law_rule_here","_law_paper"]
abbrev qAb:List Str:=["_law_cell","_law_names","_law_words_here"]
abbrev qAc:List Str:=["_law_script","_law_k"]
abbrev qAd:List Str:=["row","token","slot","word"]
abbrev qAe:List Str:=["rule","room","text"]
abbrev qAf:List Str:=["rule","row","token"]
abbrev qAg:List Str:=["row","token"]
noncomputable abbrev qAh:List Str:=["code","rule"]
abbrev qAi:List Str:=["_law_cell","_law_many"]
noncomputable abbrev qAj:List Str:=["_law_held","_law_slot"]
abbrev qAk:List Str:=["step","slots","line"]
abbrev qAl:List Str:=["code","rule","paper","column","at","tokens"]
abbrev qAm:List Str:=["open","copy","drop"]
abbrev qAn:List Str:=["lend","if","while"]
abbrev qAo:List Str:=["one","other","tokens","unlike","token"]
noncomputable abbrev qAp:List Str:=["program","turned"]
abbrev qAq:List Str:=["found","rows","tokens"]
abbrev qAr:List Str:=["code","rule","at","tokens","token"]
abbrev qAs:List Str:=["rule","slot","tokens"]
abbrev qAt:List Str:=["one","other","tokens"]
abbrev qAu:List Str:=["open","do","copy","drop","tie"]
abbrev qAv:List Str:=["rule","room","row"]
abbrev qAw:List Str:=["step","at","slots"]
noncomputable abbrev qAx:List Str:=["name","name"]
noncomputable abbrev qAy:List Str:=["row","held"]
abbrev qAz:List Str:=["1.end","2.end"]
abbrev qBA:List Str:=["2.end","1.end"]
abbrev dA:Ma:=top 1
theorem Hi:aC ["rule","room","text","words"] qAe (sg dA):=DB
abbrev JI (s : Ma) (n : Str) : Prop:=(sg s).names.lookup n=Sm .globalImplicit
theorem oIn {a b : Prop} (h : a) : a \/ b:=.inl h
abbrev Lh(s:Ma)(n:Str):Prop:=aI (sg s) n
abbrev cS:Ma:=top 2
theorem GQ:aC ["rule","room","row","text"] qAv (sg cS):=DB
abbrev jK:Ma:=top 4
theorem Cd:aC qAV qAV (sg jK):=DB
abbrev ik:Ma:=top 5
theorem xw:aC qAV qAV (sg ik):=DB
abbrev dq:Ma:=top 6
theorem oj:aC qAy qAy (sg dq):=DB
noncomputable abbrev fU:Ma:=top 7
theorem sT:aC ["token"] ["token"] (sg fU):=DB
abbrev gA:Ma:=top 8
theorem vm:aC ["token"] ["token"] (sg gA):=DB
abbrev bn:Ma:=top 9
theorem GK:aC qAd qAg (sg bn):=DB
theorem K4:ao (sg bn) "token" := Or.inr (Or.inl ⋯)
theorem Re:ao (sg bn) "slot" := Or.inr (Or.inl ⋯)
theorem QQ:Lh bn "slot" := Or.inr ⋯
theorem RA:ao (sg bn) "word" := Or.inr (Or.inl ⋯)
theorem QN:Lh bn "word" := Or.inr ⋯
abbrev eO:Ma:=top 10
theorem vA:aC qAg qAg (sg eO):=DB
abbrev c8:Ma:=top 11
theorem o0:aC qAf qAf (sg c8):=DB
abbrev aW:Ma:=top 12
theorem Cr:aC ["rule","slot","tokens","new","room","begun","token","held"] qAs (sg aW):=DB
abbrev aO:Ma:=top 13
theorem GY:aC qAM qAt (sg aO):=DB
theorem QV:(sg aO).names.lookup ("unlike" : Str)=Sm .local:=⋯
abbrev bO:Ma:=top 14
theorem Gn:aC ["code","rule","at","tokens","row","begun"] qAB (sg bO):=DB
abbrev aZ:Ma:=top 15
theorem EX:aC qAL qAC (sg aZ):=DB
theorem Jt:ao (sg aZ) "row" := Or.inr (Or.inl ⋯)
theorem Rh:Lh aZ "row" := Or.inr ⋯
abbrev cG:Ma:=top 16
theorem Hm:aC ["code","rule","at","token","row"] qAC (sg cG):=DB
abbrev dB:Ma:=top 17
theorem rP:aC qAC qAC (sg dB):=DB
abbrev di:Ma:=top 18
theorem Hn:aC ["code","rule","at","token","rooms"] qAC (sg di):=DB
abbrev bX:Ma:=top 19
theorem qL:aC qAB qAB (sg bX):=DB
abbrev ck:Ma:=top 20
theorem uW:aC qAB qAB (sg ck):=DB
abbrev cH:Ma:=top 21
theorem G1:aC ["code","at","row"] ["code","at"] (sg cH):=DB
abbrev cO:Ma:=top 23
theorem He:aC ["code","rule","at","token","begun","behind"] qAC (sg cO):=DB
abbrev fW:Ma:=top 24
theorem Ir:aC ["found","rows","tokens","new","at","token"] qAq (sg fW):=DB
abbrev a_:Ma:=top 25
theorem DN:aC qAG qAh (sg a_):=DB
theorem QP:(sg a_).names.lookup ("found" : Str)=Sm .local:=⋯
theorem M2:JI a_ "range":=⋯
abbrev dO:Ma:=top 27
theorem yD:aC qAB qAB (sg dO):=DB
abbrev bi:Ma:=top 28
theorem GU:aC qAJ qAh (sg bi):=DB
theorem PN:ao (sg bi) "code" := Or.inr (Or.inl ⋯)
theorem OD:ao (sg bi) "rule" := Or.inr (Or.inl ⋯)
theorem RI:(sg bi).names.lookup ("column" : Str)=Sm .local:=⋯
theorem N6:JI bi "enumerate":=⋯
abbrev ft:Ma:=top 32
theorem qV:aC ["kind"] ["kind"] (sg ft):=DB
abbrev gf:Ma:=top 33
theorem x3:aC ["step"] ["step"] (sg gf):=DB
abbrev eZ:Ma:=top 34
theorem sQ:aC ["step"] ["step"] (sg eZ):=DB
abbrev bL:Ma:=top 35
theorem C8:aC ["program","steps","step","block"] ["program"] (sg bL):=DB
abbrev b8:Ma:=top 36
theorem Gs:aC ["steps","names","step","part","kind"] ["steps"] (sg b8):=DB
theorem LQ:JI b8 "zip":=⋯
abbrev bw:Ma:=top 37
theorem DC:aC qAS ["program"] (sg bw):=DB
theorem OQ:JI bw "zip":=⋯
abbrev fJ:Ma:=top 38
theorem vk:aC ["program"] ["program"] (sg fJ):=DB
abbrev bb:Ma:=inClass (top 40) 0
theorem iZ:aC qAW qAW (sg bb):=DB
abbrev dI:Ma:=top 41
theorem oN:aC qAX qAX (sg dI):=DB
abbrev aX:Ma:=top 42
theorem CD:aC ["step","line","lines","blocks","block","steps"] ["step","line"] (sg aX):=DB
abbrev bI:Ma:=top 43
theorem Dc:aC ["steps","line","numbered","step"] qAX (sg bI):=DB
abbrev bU:Ma:=top 45
theorem qU:aC ["program"] ["program"] (sg bU):=DB
theorem Mn:JI bU "enumerate":=⋯
abbrev cx:Ma:=top 46
theorem GF:aC ["program","slots","slot","holder"] ["program"] (sg cx):=DB
theorem LS:JI cx "enumerate":=⋯
abbrev bM:Ma:=top 47
theorem Ha:aC qAk ["step","slots"] (sg bM):=DB
theorem PB:ao (sg bM) "slots" := Or.inr (Or.inl ⋯)
abbrev bf:Ma:=top 48
theorem Cu:aC ["step","at","slots","turned","line","back","giver","taker","lent","ahead","within"] qAQ (sg bf):=DB
abbrev bJ:Ma:=top 49
theorem Gp:aC ["step","at","slots","turned","more","jump","rest","behind","test"] qAQ (sg bJ):=DB
abbrev cj:Ma:=top 50
theorem GT:aC ["step","at","slots","within","behind"] qAw (sg cj):=DB
abbrev bD:Ma:=top 51
theorem Gr:aC ["step","at","slots","turned","first","loop","behind"] qAQ (sg bD):=DB
abbrev bS:Ma:=top 52
theorem GE:aC ["steps","at","slots","turned","rows","step","place"] qAN (sg bS):=DB
abbrev bV:Ma:=top 53
theorem GX:aC ["program","turned","steps"] qAp (sg bV):=DB
abbrev hZ:Ma:=top 54
theorem zv:aC ["program"] ["program"] (sg hZ):=DB
abbrev eT:Ma:=top 55
theorem o9:aC ["program"] ["program"] (sg eT):=DB
abbrev dJ:Ma:=top 57
theorem pq:aC qAc qAc (sg dJ):=DB
abbrev aV:Ma:=top 58
theorem Cp:aC qAE qAi (sg aV):=DB
theorem Lf:Lh aV "_law_letters" := Or.inr ⋯
theorem Mc:Lh aV "_law_at" := Or.inr ⋯
theorem Qa:ao (sg aV) "_law_base" := Or.inr (Or.inl ⋯)
theorem PY:Lh aV "_law_base" := Or.inr ⋯
theorem IL:Lh aV "_law_k" := Or.inr ⋯
theorem DE:JI aV "range":=⋯
abbrev bN:Ma:=top 59
theorem CT:aC ["_law_cell","_law_names","_law_words_here","_law_x","_law_y","_law_word","_law_bound","_law_some"] qAb (sg bN):=DB
abbrev iq:Ma:=top 60
theorem xY:aC qAZ qAZ (sg iq):=DB
abbrev cw:Ma:=top 61
theorem DX:aC ["_law_pile","_law_head","_law_first","_law_second","_law_side"] ["_law_pile"] (sg cw):=DB
abbrev bj:Ma:=top 62
theorem Df:aC ["_law_cells","_law_names","_law_words_here","_law_lends","_law_deep","_law_pile","_law_cell","_law_step_here"] qAP (sg bj):=DB
abbrev aU:Ma:=top 63
theorem Bd:aC ["_law_cells","_law_sides","_law_words_here","_law_most","_law_texts_here","_law_k","_law_bits","_law_many","_law_share","_law_rooms","_law_rest","_law_room_here","_law_text","_law_digit"] qAT (sg aU):=DB
theorem Gx:JI aU "range":=⋯
abbrev ic:Ma:=top 64
theorem x8:aC qAj qAj (sg ic):=DB
abbrev fK:Ma:=top 65
theorem vj:aC qAI qAI (sg fK):=DB
abbrev dS:Ma:=top 66
theorem sw:aC qAY qAY (sg dS):=DB
abbrev cI:Ma:=top 67
theorem GG:aC ["_law_rule_here","_law_row","_law_token","_law_room_here","_law_text"] qAU (sg cI):=DB
abbrev bo:Ma:=top 68
theorem DF:aC qAD qAR (sg bo):=DB
abbrev cf:Ma:=top 69
theorem G6:aC qAO qAF (sg cf):=DB
abbrev cu:Ma:=top 70
theorem Hj:aC qAO qAF (sg cu):=DB
abbrev b6:Ma:=top 71
theorem Hb:aC qAH qAa (sg b6):=DB
theorem Pq:JI b6 "range":=⋯
abbrev bu:Ma:=top 72
theorem GN:aC qAA ["_law_script"] (sg bu):=DB
theorem Hy:ao (sg bu) "_law_script" := Or.inr (Or.inl ⋯)
theorem Qs:(sg bu).names.lookup ("_law_cells" : Str)=Sm .local:=⋯
theorem Nm:JI bu "range":=⋯
noncomputable def bE(k:Str):MA:=if k = "lend" then ["back"] else if k = "if" then ["else","fi"] else if k = "while" then ["done"] else []
def lv:V->Str->Prop
 | .str y,x=>x=y
 | .int i,x=>i.natAbs.log2<1920/\x=Str.ofString (toString i)
 | _,_=>False
noncomputable def b_:List MA->MA->MA
 | i::is,c::cs=>(i++[c])++b_ is cs
 | _,_=>[]
structure JV (LA:o_->MA->Prop) (H:Hp) (a:o_) (kind:Str) (hs:MC) (ws:MA) (bs:MD) (ins:List MA):Prop where
 at':H a=Sm (.tup (.str kind::hs++bs.map V.ref))
 parts:L8 lv hs ws
 size:((kind::ws).map (·.length)).sum+(kind::ws).length<=10000
 bl:bs.length=(bE kind).length
 inn:L8 LA bs ins
def nQ(LA:o_->MA->Prop)(H:Hp)(a:o_)(ls:MA):Prop:=∃kind hs ws bs ins,JV LA H a kind hs ws bs ins/\ls=Ml " " (kind::ws)::b_ ins (bE kind)
def EW:Nat->Hp->o_->MA->Prop
 | 0=>λ_ _ _=>False
 | d+1=>λH p L=>∃(as:MD) (Ls:List MA),H p=Sm (.lst (as.map V.ref))/\L8 (nQ (EW d H) H) as Ls/\L=Ls.flatten
theorem EW.mono:∀(d:Nat) {H H':Hp} {p:o_} {L:MA},EW d H p L->su H H'->EW d H' p L
 | 0,_,_,_,_,h,_=>h.elim
 | d+1,H,H',p,L,⟨as,Ls,h1,h2,h3⟩,sm=>by
  refine yI2 as Ls #[sm _ _ h1,L8.imp' (λa S z=>?_) h2,h3];revert z;refine yF5 λkind O ws bs ins=>yB2 λF J=>?_;exact yI5 kind O ws bs ins #[#[sm _ _ F.at',F.parts,F.size,F.bl,L8.imp' (λb i y=>EW.mono d y sm) F.inn],J]
theorem cD{α β : Type}{R:α->β->Prop}:∀ {xs:List α} {ys:List β} {i:Nat} {x:α},L8 R xs ys->xs[i]?=Sm x->∃y,ys[i]?=Sm y/\R x y
 | _,_,_,_,.nil,e=>by simp at e
 | _,_,0,_,.cons (b:=b) h _,e=>#[b,rfl,by have:=Option.some.inj e;subst this;exact h]
 | _,_,i+1,_,.cons _ t,e=>by
  rw[zaV]at e;let#[y,h1,h2]:=cD t e;exact#[y,by rw[zaV];exact h1,h2]
theorem aK{α β : Type}{R:α->β->Prop}:∀ {xs:List α} {ys:List β},L8 R xs ys->xs.length=ys.length
 | _,_,.nil=>rfl
 | _,_,.cons _ t=>by rw[zy,zy,aK t]
theorem l8:∀ {ins:List MA} {cs:MA} {j:Nat} {i:MA} {c:Str},ins[j]?=Sm i->cs[j]?=Sm c->b_ (ins.take (j+1)) (cs.take (j+1))=b_ (ins.take j) (cs.take j)++(i++[c])
 | [],_,_,_,_,h,_=>by simp at h
 | _::_,[],_,_,_,_,h=>by simp at h
 | a::ins,b::cs,0,i,c,h,h'=>by
  have F:a=i:=by simpa using h
  have J:b=c:=by simpa using h'
  subst F J;show (a++[b])++b_ [] []=b_ [] []++(a++[b])
  simp[b_]
 | a::ins,b::cs,j+1,i,c,h,h'=>by
  have ih:=l8 (ins:=ins) (cs:=cs) (j:=j) (i:=i) (c:=c) (by simpa using h) (by simpa using h');show (a++[b])++b_ (ins.take (j+1)) (cs.take (j+1))=((a++[b])++b_ (ins.take j) (cs.take j))++(i++[c])
  rw[ih,oU (a++[b])]
theorem nY:∀ {ins:List MA} {cs:MA} (j:Nat),(b_ (ins.take j) (cs.take j)).length<=(b_ ins cs).length
 | [],_,j=>by simp[b_]
 | _::_,[],j=>by cases j<;>simp[b_]
 | a::ins,b::cs,0=>by simp[b_]
 | a::ins,b::cs,j+1=>by
  have ih:=nY (ins:=ins) (cs:=cs) j;show ((a++[b])++b_ (ins.take j) (cs.take j)).length<=((a++[b])++b_ ins cs).length;simp only[zq];lia
theorem ph{α:Type}:∀(F:List (List α)) (i:Nat),(F.take i).flatten.length<=F.flatten.length
 | [],i=>'~'
 | a::F,0=>'~'
 | a::F,i+1=>by
  have ih:=ph F i;rw[Ll,List.flatten_cons,List.flatten_cons,zq,zq];lia
theorem Bx{F:List (List α)}{l:List α}(h:F[i]?=Sm l):(F.take (i+1)).flatten=(F.take i).flatten++l:=by
 rw[sR,h,List.flatten_append];simp
def kW(K:KE):Sp:=λvs H Q _=>∃k:Str,vs=[.str k]/\∀(p:o_) (H':Hp),su H H'->uc K H' p ((bE k).map V.str)->Q (.ref p) H'
def kD(K:KE):Sp:=λvs H Q _=>∃(a:o_) (k:Str) (xs:MC),vs=[.ref a]/\uc K H a (.str k::xs)/\(bE k).length<=xs.length+1/\
 ∀(p:o_) (H':Hp),su H H'->uc K H' p ((V.str k::xs).take (xs.length+1-(bE k).length))->Q (.ref p) H'
def i_(K:KE):Sp:=λvs H Q _=>∃(a:o_) (k:Str) (xs:MC),vs=[.ref a]/\uc K H a (.str k::xs)/\(bE k).length<=xs.length+1/\
 ∀(p:o_) (H':Hp),su H H'->uc K H' p ((V.str k::xs).drop (xs.length+1-(bE k).length))->Q (.ref p) H'
def xl(d:Nat):Sp:=λvs H Q _=>∃(p:o_) (L:MA),vs=[.ref p]/\EW d H p L/\L.length<=10000/\∀(q:o_) (H':Hp),su H H'->H q=Nn->H' q=Sm (.lst (L.map V.str))->Q (.ref q) H'
theorem zf(D:xn K mg "closers_of" ft) {d a0 a1 a2:o_} (J:mg "CLOSERS" = Sm (.ref d)) (m:Ic w K d [("lend",.ref a0),("if",.ref a1),("while",.ref a2)])
  (W:∀H:Hp,uc K H a0 [.str "back"]) (S:∀H:Hp,uc K H a1 [.str "else",.str "fi"]) (O:∀H:Hp,uc K H a2 [.str "done"]):aD P w K mg base 1 "closers_of" ["kind"] (kW K):=by
 refine D.cal qV (λf U A outer s H vs Q E hr h=>?_);let#[k,rfl,q]:=h;refine#[_,(aj (az (Iq w K F.plainAttrs_dict F.slot_dict_get F.type_dict_get (F0 w K) (wN J) (aa (pv 0) (aa (aR ae) ae))))),?_];cbv;refine#[yI2 d _ #[rfl,m],∅,λp Z=>?_];refine yI4 d _ k (.ref p) #[rfl,rfl,m,?_];have sm:=ak Z (.tup []);unfold bE at q;by_cases h0:k = "lend"
 .subst h0;exact q _ _ sm (W _)
 rw[Lu h0]at q;by_cases h1:k = "if"
 .subst h1;exact q _ _ sm (S _)
 rw[Lu h1]at q;by_cases h2:k = "while"
 .subst h2;exact q _ _ sm (O _)
 rw[Lu h2]at q;have e:bY [(("lend" : Str),V.ref a0),("if",.ref a1),("while",.ref a2)] k=Nn:=by simp[bY,u6 h0,u6 h1,u6 h2]
 rw[e];exact q _ _ sm (uc.of ai)
theorem E2(D:xn K mg "head_of" gf) (J:wAK mg) (F:aD P w K mg base 1 "closers_of" ["kind"] (kW K)):aD P w K mg base 2 "head_of" ["step"] (kD K):=by
 refine D.cal x3 (λf Y A outer s H vs Q E W h=>?_);revert h;refine yF3 λa k xs=>yB4 ?_;rintro rfl U hl q;refine#[_,(aj (az (fw (gS K) (pv 0) gY (fE (ar gv (bx (ba K) J bK (aa (pv 0) ae)) (bx (ba K) J bK (aa (aw F W (aa (am (ax K) (pv 0) af) ae)) ae))))))),?_];cbv;refine#[_,.inr U,?_];refine yI2 _ _ #[.inr U,kr,?_];refine#[k,rfl,λp H1 O hp=>?_];cbv;refine#[_,.inr hp,?_];cbv;have e:((xs.length+1:Nat):Int)-((((bE k).map V.str).length:Nat):Int)=((xs.length+1-(bE k).length:Nat):Int):=by
  rw[zb];lia
 rw[e];refine gb (U.same O) λp2 H2 S h2=>q p2 H2 (O.trans S) ?_;rw[vJ]at h2;exact h2
theorem AY(D:xn K mg "blocks_of" eZ) (J:wAK mg) (F:aD P w K mg base 2 "head_of" ["step"] (kD K)):aD P w K mg base 3 "blocks_of" ["step"] (i_ K):=by
 refine D.cal sQ (λf Z A outer s H vs Q E W h=>?_);revert h;refine yF3 λa k xs=>yB4 ?_;rintro rfl U hl q;refine#[_,(aj (az (fw (gS K) (pv 0) (fE (bx (ba K) J bK (aa (aw F W (aa (pv 0) ae)) ae))) gY))),?_];cbv;refine yI3 a k xs #[rfl,U,hl,λp H1 O Y=>?_];cbv;refine#[_,.inr Y,?_];have e:(((V.str k::xs).take (xs.length+1-(bE k).length)).length:Int)=((xs.length+1-(bE k).length:Nat):Int):=by
  rw[lj,zy];lia
 rw[e];refine gb (U.same O) λp2 H2 S h2=>q p2 H2 (O.trans S) ?_;rw[jd]at h2;exact h2
theorem uF(D:xn K mg "lines_of" bw) (ac:mg "str" = Nn) (al:mg "zip" = Nn) (J:aD P w K mg base 1 "closers_of" ["kind"] (kW K)) (S:aD P w K mg base 2 "head_of" ["step"] (kD K)) (O:aD P w K mg base 3 "blocks_of" ["step"] (i_ K)) :
  ∀d:Nat,aD P w K mg base (d+4) "lines_of" ["program"] (xl d)
 | 0=>D.cal (k:=3) DC (λf c9 A outer s H vs Q E hr h=>by revert h;refine yF2 λp L=>yB3 ?_;rintro rfl z _;exact z.elim)
 | d+1=>by
  have U:=uF D ac al J S O d;refine D.cal (k:=d+4) DC (λf c9 A outer s H vs Q E hr h=>?_);revert h;refine yF2 λp L=>yB4 ?_;rintro rfl ⟨as,Ls,h1,h2,rfl⟩ hL q;have d2:=aK h2;refine⟨_,(ah (ay 1 DC.nd (aG ae))
   (ah (cg pD rfl (bF K (pv 0)) (aS 2 DC.nd) (ah (bm (bB K yY ux uC br (pv 1) (aa (bB K zbC F.slot_str_join F.type_str_join (sV K) av (aa (dn (CO.to (fsc:=(sg bw)) (N:=qAS) (N0:=qAS) (T:=["part"])) rfl (iH K (aw S hr (aa (pv 2) ae) (hle:=()))) (λ_ _ _ _=>(aS 5 (show (["program","lines","step","block","closer","part"]:MA).Nodup from ⋯))) (bW (show (qAS:MA).length<=5 from ∅)) (λ_ _ _ _=>cX) (λ_ _ _ _=>(eQ zI ac G9 (aa (pv 5) ae)))) ae)) ae)))
   (aj (cg pD rfl (wg K OQ al (aa (aw O hr (aa (pv 2) ae) (hle:=())) (aa (aw J hr (aa (am (ax K) (pv 2) af) ae) (hle:=())) ae))) (jv K (n:=2) (cW (aS 3 DC.nd) (cW (aS 4 DC.nd) iJ))) (ah (bm (bB K yY Lg K6 eJ (pv 1) (aa (aw U hr (aa (pv 3) ae) (hle:=())) ae)))
   (aj (bm (bB K yY ux uC br (pv 1) (aa (pv 4) ae)))))))))
   (aj (az (pv 1))))),?_⟩
  cbv;refine#[∅,λlp a5=>?_];∎;rename_i H1 sm1 e1;rw?;refine#[#[_,ud.of (sm1 _ _ h1)],?_];refine cL (xs:=as.map V.ref) (λi σ H'=>∃o2 o3 o4:MK,σ=[Sm (.ref p),Sm (.ref lp),o2,o3,o4]/\su H H'/\H' lp=Sm (.lst ((Ls.take i).flatten.map V.str)))
   (yI3 Nn Nn Nn #[rfl,sm1,e1]) (λi σ H' _ h=>by revert h;refine yF3 λ_ _ _=>yB3 λ_ sm _=>?_;exact ud.of (sm _ _ h1)) ?_ ?_
  .intro i v σ H' hv;refine yF3 λo2 o3 o4=>yB3 ?_;rintro rfl sm hl;have hi:i<as.length:=by have:=(Lq.mp hv).1;simpa using this
   rw[zz,zd hi]at hv;cases hv;refine yE1 (cD h2 (zd hi)) λls=>yB2 λc1=>yF5 λkind W ws bs ins=>yB2 ?_;rintro st rfl;have ag:=Bx c1;have b1:=ph Ls (i+1);rw[ag]at b1 |-
   generalize (Ls.take i).flatten=pre at hl b1 ag |-;rw[zq,zy]at b1
   have dc:uc K H' as[i] (.str kind::(W++bs.map V.ref)):=uc.of (sm _ _ st.at');have cc:(bE kind).length<=(W++bs.map V.ref).length+1:=by rw[zq,zb,st.bl];lia
   have bg:(W++bs.map V.ref).length+1-(bE kind).length=W.length+1:=by rw[zq,zb,st.bl];lia
   have c2:=aK st.parts;have hsz:=st.size;cbv;refine#[#[_,ud.of hl],yI3 (as[i]) kind (W++bs.map V.ref) #[rfl,dc,cc,λhp H2 d1 a4=>?_]];rw[bg]at a4;have dm:(V.str kind::(W++bs.map V.ref)).take (W.length+1)=V.str kind::W:=by rw[Ll,List.take_left'];rfl
   rw[dm]at a4;cbv;refine#[#[_,a4],λC hC=>?_];refine k_ (xs:=V.str kind::W) (λj ys H3=>su H2 H3/\H3 C=Sm (.lst ys)/\ys=((kind::ws).take j).map V.str) #[ak hC _,ai,rfl] (λj ys H3 _ h=>a4.same h.1) ?_ ?_
   .rintro j ys H3 x hx hj ⟨b0,b2,rfl⟩;let#[y,hy,a3]:=cD (R:=lv) (.cons (show lv (.str kind) kind from rfl) st.parts) hx;have c4:j<(kind::ws).length:=(Lq.mp hy).1;have cd:iB (V.str kind::W).length j (λj ys H3=>su H2 H3/\H3 C=Sm (.lst ys)/\ys=((kind::ws).take j).map V.str) C (((kind::ws).take j).map V.str) (.str y) H3:=by
     refine fD hj (by rw[zb,lj];lia) (aH (by simp only[zy]at hsz c4 |-;lia)) b2 #[b0.upd hC _,ai,?_];rw[sR,hy,yb];rfl
    match x,a3 with
    | .str z,a3=>
     have e:y=z:=a3;subst e;cbv;exact cd
    | .int z,a3=>
     let#[g1,rfl]:=a3;cbv;exact#[g1,cd]
   rintro ys H3 ⟨b0,b2,rfl⟩;have ca:H3 C=Sm (.lst ((kind::ws).map V.str)):=by
    rw[b2,zy,c2,IH '~']
   have cv:=d1.trans b0;have dV:(Str.ofString " ").length=1:=∅;cbv;refine#[kind::ws,ud.of ca,by rw[dV];lia,?_];refine#[_,cv _ _ hl,by rw[zb];exact cC (),?_];generalize hH4:upd H3 lp _=H4;have cA:su H H4:=λb o e=>by
    have nb:b≠lp:=λz=>by subst z;rw[a5]at e;cases e
    rw[<-hH4,au nb];exact cv _ _ (sm _ _ e)
   have e4:H4 lp=Sm (.lst ((pre++[Ml " " (kind::ws)]).map V.str)):=by rw[<-hH4,ai,yb];rfl
   have bh:uc K H4 as[i] (.str kind::(W++bs.map V.ref)):=uc.of (cA _ _ st.at');rw?;refine yI3 (as[i]) kind (W++bs.map V.ref) #[rfl,bh,cc,λbp H5 b3 a9=>?_];rw[bg]at a9;have dt:(V.str kind::(W++bs.map V.ref)).drop (W.length+1)=bs.map V.ref:=by rw[List.drop_succ_cons,List.drop_left'];rfl
   rw[dt]at a9;cbv;refine yI2 _ _ #[.inr (bh.same b3),kr,kind,rfl,λcp H6 bt cz=>?_];cbv;refine#[#[_,a9.same bt],#[_,cz],?_];have bc:=b3.trans bt;have d5:=aK st.inn;have c5:=st.bl;refine qB (xs:=bs.map V.ref) (ys:=(bE kind).map V.str) (λj σ H'=>∃o3 o4:MK,σ=[Sm (.ref p),Sm (.ref lp),Sm (.ref as[i]),o3,o4]/\su H H'/\uc K H' bp (bs.map V.ref)/\uc K H' cp ((bE kind).map V.str)/\
     H' lp=Sm (.lst ((pre++([Ml " " (kind::ws)]++b_ (ins.take j) ((bE kind).take j))).map V.str)))
    (by rw[zb,zb];exact c5) (yI2 o3 o4 #[rfl,cA.trans bc,a9.same bt,cz,by rw[bc _ _ e4];simp[b_]]) (λj σ H' _ h=>by revert h;refine yF2 λ_ _=>yB5 λ_ _ z1 z2 _=>?_;exact#[z1,z2]) ?_ ?_
   .intro j x y t σ H7 hx hy;refine yF2 λo3 o4=>yB5 ?_;rintro rfl a8 dP dl a7;intro ht;have hj:j<bs.length:=by have:=(Lq.mp hx).1;simpa using this
    have ce:j<(bE kind).length:=()
    rw[zz,zd hj]at hx;cases hx;rw[zz,zd ce]at hy;cases hy;let#[il,cq,c3]:=cD st.inn (zd hj);have cB:=l8 cq (zd ce);have ab:=nY (ins:=ins) (cs:=bE kind) (j+1);rw[cB]at ab |-
    rw[zq,zq]at ab;generalize b_ (ins.take j) ((bE kind).take j)=Y at a7 cB ab |-;∎
    rename_i H8 st7 et7;have a6:=st7 _ _ a7;cbv;refine yI2 t _ #[rfl,uc.of et7,rfl,?_];cbv;refine#[#[_,ud.of a6],yI2 (bs[j]) il #[rfl,EW.mono d c3 (a8.trans st7),(),λr H9 Z d4 da=>?_]];cbv;refine yI2 _ _ #[Z _ _ a6,da,aH (by simp only[zb,zq,zy,yz];lia),?_];have cb:=((dP.same st7).same Z).updL (Z _ _ a6) (o:=.lst ((pre++([Ml " " (kind::ws)]++Y)).map V.str++il.map V.str));have cn:=((dl.same st7).same Z).updL (Z _ _ a6) (o:=.lst ((pre++([Ml " " (kind::ws)]++Y)).map V.str++il.map V.str));have be:su H (upd H9 lp (.lst ((pre++([Ml " " (kind::ws)]++Y)).map V.str++il.map V.str))):=((a8.trans st7).trans Z).upd a5 _;have ad:upd H9 lp (.lst ((pre++([Ml " " (kind::ws)]++Y)).map V.str++il.map V.str)) lp=Sm (.lst ((pre++([Ml " " (kind::ws)]++Y)).map V.str++il.map V.str)):=ai;generalize upd H9 lp (.lst ((pre++([Ml " " (kind::ws)]++Y)).map V.str++il.map V.str))=d3 at cb cn be ad |-;rw?;refine#[#[_,ud.of ad],_,ad,cC (by simp only[zb,zq,zy,yz];lia),?_]
    refine yI2 _ _ #[rfl,be.upd a5 _,cb.updL ad,cn.updL ad,?_];rw[ai];simp only[yb,yR,JO,oU,IW,List.nil_append]
   .intro σ H7;refine yF2 λo3 o4=>yB5 ?_;rintro rfl a8 _ _ a7;refine yI3 _ _ _ #[rfl,a8,?_];rw[a7,zb,IH (),IH ()];rfl
  .intro σ H';refine yF3 λo2 o3 o4=>yB3 ?_;rintro rfl sm hl;rw?;rw[zb,IH ()]at hl;exact q lp H' sm a5 hl
abbrev GJ:Str := "abcdefghijklmnopqrstuvwxyz"
def rf(K:KE):Sp:=λvs H Q _=>∃(a:o_) (ns:MJ),vs=[.ref a]/\ud K H a (ns.map V.int)/\ns.length<=63/\∀H',Q (.bl true) H'
def uS(K:KE):Sp:=λvs H Q _=>∃(a:o_) (ns:MJ) (k:Int),vs=[.ref a,.int k]/\ud K H a (ns.map V.int)/\0<=k/\Q (.int (ns.getD k.toNat 0)) H
theorem rS:∀(cs:MB) (acc:MP),((cs.map λc=>(#[#v[c]] : Str)).foldl (λacc p=>acc++(Str.ofString "").cps++p.cps) acc).toList=acc.toList++cs
 | [],acc=>'~'
 | c::cs,acc=>by
  rw[yR,zaX,rS cs];have e:(Str.ofString "").cps = #[]:=⋯;rw[e];simp
theorem rz(cs:MB):(Ml "" (cs.map λc=>(#[#v[c]] : Str))).cps.toList=cs:=by
 cases cs with
 | nil=>rfl
 | cons c cs=>
  show (((c::cs).map λc=>(#[#v[c]] : Str)).drop 1 |>.foldl (λacc p=>acc++(Str.ofString "").cps++p.cps) (((c::cs).map λc=>(#[#v[c]] : Str)).headD NP).cps).toList=c::cs;rw[yR,List.drop_one,List.tail_cons,rS];rfl
theorem B5(cs:MB):(Ml "" (cs.map λc=>(#[#v[c]] : Str))).length=cs.length:=by
 have e:=congrArg List.length (rz cs);simpa [Str.length] using e
theorem jR(b:Nat):∀(F:MA),(∀s∈F,s.length<=b)->(F.map (·.length)).sum<=F.length*b
 | [],_=>'~'
 | s::F,h=>by
  have h1:=jR b F λx hx=>h x (yh _ hx);have h2:=h s yd;rw[yR,IX,zy,Nat.succ_mul];lia
theorem Bw(z:Int):∃c,GJ.length<=L9/\cJ GJ.cps.toList (z%26)=Sm c/\c∈GJ.cps.toList:=by
 have hz:(z%26).toNat<GJ.cps.toList.length:=by
  show (z%26).toNat<26;lia
 refine#[GJ.cps.toList[(z%26).toNat],∅,?_,gV hz];have q:=aq (zd hz)
 rwa [show (((z%26).toNat:Nat):Int)=z%26 from ()]at q
theorem FA(D:xn K mg "_law_cell_at" dJ) (F:wAK mg):aD P w K mg base 1 "_law_cell_at" qAc (uS K):=by
 refine D.cal pq (λf S A outer s H vs Q E W h=>?_);revert h;refine yF3 λa ns k=>yB4 ?_;rintro rfl J O q;refine⟨_,(ah (aY (aA Hw (pv 1) (bx (ba K) F bK (aa (pv 0) ae)) (aB _)) (aj (az (am (ax K) (pv 0) (pv 1)))) aN)
   (aj (az af))),?_⟩
 try simp only[ou,ww,mU,lS,uK,vL,w9,si,xk,tU,vY,uY,v1,xh,wG,EV,AO,Ay,tY,EI,vB,Ak,vW,uD,zZ,Aq,t0,wk,vS,xm,sI,Ab,wV,sZ,rY,qG,ma,uZ,Br,rO,nc,rG,wZ,tK,uO,vD,rK,w_,vd,tO,pN,u7,uH,sf,sE,wy,mE,Bl,EG,qd,qv,kJ,pO,pY,wn,tm,rR,nZ,qD,wW,ER,wC,wF,nh,rE,rT,rB,uJ,lW,mf,qF,pI,tH,tM,rC,mT,tF,wD,wM,wB,qh,pQ,gC,wI,pS,rA,tz,u0,uU,vF,wQ,v4,L2.start,yR,JO,zy,yz,List.replicate,IW,List.nil_append,Jg,List.getElem?_cons_zero,zaV,List.set_cons_zero,List.set_cons_succ,Nat.reduceAdd,Nat.reduceSub,Option.some.injEq,exists_eq_left',exists_eq_left,V.int.injEq,V.ref.injEq,V.str.injEq,V.bl.injEq,Ad,v5,and_true,true_and,decide_eq_true_eq,zaR,Bool.not_false,if_true,sJ,if_false,ite_true,ite_false]
 refine#[_,.inl J,aT (λc=>?_) (λc=>?_)]
 .rw[zb]at c;refine yI2 _ (.int (ns.getD k.toNat 0)) #[.inl J,nO O ?_,q];rw[xW,zd ()];rfl
 .rw[zb]at c;have e:ns.getD k.toNat 0=0:=by
   rw[xW,K5 ()];rfl
  rw[e]at q;exact q
theorem BD(F k:Str)(ws:MA):Ml F (k::ws)=ws.foldl (λa x=>a++F++x) k:=by
 have go:∀(ws:MA) (a:Str),(#[ws.foldl (λacc p=>acc++F.cps++p.cps) a.cps] : Str)=ws.foldl (λa x=>a++F++x) a:=by
  intro ws
  induction ws with
  | nil=>intro a;rfl
  | cons x ws ih=>intro a;rw[zaX,zaX];exact ih (a++F++x)
 exact go ws k
noncomputable def dz:MA:=["open","copy","drop","tie","do"]
structure im (ws:MA):Prop where
 two:2<=ws.length
 three:ws.length<=3
 kind:ws.headD "" ∈ dz
 len:∀x∈ws,x.length<=20
def Km(H:Hp)(a:o_)(ws:MA):Prop:=H a=Sm (.tup (ws.map V.str))/\im ws
def jX(xs:List α)(lo hi:MI):List α:=(xs.drop (HT.sIx xs.length 0 lo)).take (HT.sIx xs.length xs.length hi-HT.sIx xs.length 0 lo)
theorem FV(f:α->V)(xs:List α)(lo hi:MI):dQ (xs.map f) lo hi=(jX xs lo hi).map f:=by
 unfold dQ jX;rw[zb,List.map_take,List.map_drop]
theorem kL(x:MA):∀v∈x.map V.str,bQ v=true:=by
 intro v hv;let#[o,_,rfl]:=LD.mp hv
 rfl
theorem yU{H:Hp}{a:o_}{ws:MA}{S:o_->MA->Prop}(h:Km H a ws):nQ S H a [Ml " " ws]:=by
 let#[h1,two,three,kd,len]:=h;cases ws with
 | nil=>simp at two
 | cons k ws=>
  have F:k∈dz:=kd;have J:bE k=[]:=by
   simp only[dz,yg,Je,or_false]at F;rcases F with rfl | rfl | rfl | rfl | rfl<;>decide
  have O:∀ws:MA,L8 lv (ws.map V.str) ws:=λws=>by
   induction ws with
   | nil=>exact .nil
   | cons x ws ih=>exact .cons (show lv (.str x) x from rfl) ih
  refine yI5 k (ws.map V.str) ws ([]) ([]) #[#[by rw[JO,Jg];exact h1,O ws,?_,by rw[J];rfl,.nil],by rw[J];rfl];have:=jR 20 (k::ws) len;simp only[zy]at this two three |-
  lia
theorem eX{α β : Type}{R:α->β->Prop}{x:α}{y:β}(F:R x y):∀ {xs:List α} {ys:List β},L8 R xs ys->L8 R (xs++[x]) (ys++[y])
 | _,_,.nil=>.cons F .nil
 | _,_,.cons h t=>.cons h (eX F t)
set_option genSizeOf false in
inductive vr where
 | plain (ws:MA)
 | lend (x y:Str) (b:List vr)
 | ite (n:Int) (b c:List vr)
 | whl (n:Int) (b:List vr)
variable{T:List vr}{s:vr}
noncomputable def f_(n:Int):Str:=Str.ofString (toString n)
noncomputable def cY(f:List vr->MA):vr->MA
 | .plain ws=>[Ml " " ws]
 | .lend x y b=>Ml " " ["lend",x,y]::(f b++[("back" : Str)])
 | .ite n b c=>Ml " " ["if",f_ n]::(f b++[("else" : Str)]++(f c++[("fi" : Str)]))
 | .whl n b=>Ml " " ["while",f_ n]::(f b++[("done" : Str)])
noncomputable def dC:Nat->List vr->MA
 | 0,_=>[]
 | d+1,T=>T.flatMap (cY (dC d))
def km(f:List vr->Prop):vr->Prop
 | .plain ws=>im ws
 | .lend x y b=>x.length<=20/\y.length<=20/\f b
 | .ite n b c=>n.natAbs.log2<1920/\f b/\f c
 | .whl n b=>n.natAbs.log2<1920/\f b
def dF:Nat->List vr->Prop
 | 0,_=>False
 | d+1,T=>∀s∈T,km (dF d) s
def Da(PA:o_->List vr->Prop)(H:Hp)(a:o_):vr->Prop
 | .plain ws=>H a=Sm (.tup (ws.map V.str))
 | .lend x y b=>∃q,H a=Sm (.tup [.str "lend",.str x,.str y,.ref q])/\PA q b
 | .ite n b c=>∃q r,H a=Sm (.tup [.str "if",.int n,.ref q,.ref r])/\PA q b/\PA r c
 | .whl n b=>∃q,H a=Sm (.tup [.str "while",.int n,.ref q])/\PA q b
def BX(S:o_->Prop):Nat->Hp->o_->List vr->Prop
 | 0=>λ_ _ _=>False
 | d+1=>λH p T=>S p/\∃as:MD,H p=Sm (.lst (as.map V.ref))/\L8 (Da (BX S d H) H) as T
theorem Da.imp{PA F:o_->List vr->Prop}{H H':Hp}{a:o_}(O:∀b xs,H b=Sm (.tup xs)->H' b=Sm (.tup xs))(J:∀q b,PA q b->F q b):∀ {s:vr},Da PA H a s->Da F H' a s
 | .plain _,h=>O _ _ h
 | .lend _ _ _,⟨q,h,z⟩=>#[q,O _ _ h,J _ _ z]
 | .ite _ _ _,⟨q,r,h,z,y⟩=>yI2 q r #[O _ _ h,J _ _ z,J _ _ y]
 | .whl _ _,⟨q,h,z⟩=>#[q,O _ _ h,J _ _ z]
theorem BX.imp{S S':o_->Prop}{H H':Hp}(F:∀b xs,H b=Sm (.tup xs)->H' b=Sm (.tup xs))(hl:∀b xs,S b->H b=Sm (.lst xs)->H' b=Sm (.lst xs))(J:∀b,S b->S' b) :
  ∀(d:Nat) {p:o_} {T:List vr},BX S d H p T->BX S' d H' p T
 | 0,_,_,h=>h.elim
 | d+1,p,T,⟨h0,as,h1,h2⟩=>#[J _ h0,as,hl _ _ h0 h1,L8.imp' (λa s z=>z.imp F λq b y=>BX.imp F hl J d y) h2]
theorem BX.mono(h:BX S d H p T)(sm:su H H'):BX S d H' p T:=h.imp (λb xs e=>sm _ _ e) (λb xs _ e=>sm _ _ e) (λ_ z=>z) d
theorem vT{n:Int}(h:n.natAbs.log2<1920):(f_ n).length<=1921:=by
 have e:=int_text_length_le (k:=1920) ∅ h;unfold f_;rw[PySem.ofString_length];exact e
theorem zo{PA:o_->List vr->Prop}{J:o_->MA->Prop}{H:Hp}{a:o_}{f:List vr->MA}{g:List vr->Prop}(F:∀q b,PA q b->g b->J q (f b)):∀ {s:vr},Da PA H a s->km g s->nQ J H a (cY f s)
 | .plain ws,h,ok=>yU #[h,ok]
 | .lend x y b,⟨q,h,z⟩,⟨o1,o2,o3⟩=>by
  refine yI5 ("lend") ([.str x,.str y]) ([x,y]) ([q]) ([f b]) #[#[h,.cons rfl (.cons rfl .nil),?_,by show 1=(bE "lend").length;decide,.cons (F _ _ z o3) .nil],by show _=_::b_ [f b] ["back"];simp[cY,b_]];have:(Str.ofString "lend").length=4:=∅;simp only[yR,JO,IX,List.sum_nil,zy,yz,this];lia
 | .ite n b c,⟨q,r,h,z,y⟩,⟨o1,o2,o3⟩=>by
  refine yI5 ("if") ([.int n]) ([f_ n]) ([q,r]) ([f b,f c]) #[#[h,.cons #[o1,rfl] .nil,?_,by show 2=(bE "if").length;decide,.cons (F _ _ z o2) (.cons (F _ _ y o3) .nil)],?_]
  .have:(Str.ofString "if").length=2:=∅;have:=vT o1;simp only[yR,JO,IX,List.sum_nil,zy,yz];lia
  .show _=_::b_ [f b,f c] ["else","fi"];simp[cY,b_]
 | .whl n b,⟨q,h,z⟩,⟨o1,o2⟩=>by
  refine yI5 ("while") ([.int n]) ([f_ n]) ([q]) ([f b]) #[#[h,.cons #[o1,rfl] .nil,?_,by show 1=(bE "while").length;decide,.cons (F _ _ z o2) .nil],by show _=_::b_ [f b] ["done"];simp[cY,b_]];have:(Str.ofString "while").length=5:=∅;have:=vT o1;simp only[yR,JO,IX,List.sum_nil,zy,yz];lia
theorem mj{PA:o_->List vr->Prop}{O:o_->MA->Prop}{H:Hp}{f:List vr->MA}{g:List vr->Prop}(J:∀q b,PA q b->g b->O q (f b)) :
  ∀ {F:MD} {T:List vr},L8 (Da PA H) F T->(∀s∈T,km g s)->L8 (nQ O H) F (T.map (cY f))
 | _,_,.nil,_=>.nil
 | _,_,.cons h t,ok=>.cons (zo J h (ok _ yd)) (mj J t λs S=>ok s (yh _ S))
theorem m9{S:o_->Prop}{H:Hp}:∀(d:Nat) {p:o_} {T:List vr},BX S d H p T->dF d T->EW d H p (dC d T)
 | 0,_,_,h,_=>h.elim
 | d+1,p,T,⟨_,as,h1,h2⟩,ok=>yI2 as (T.map (cY (dC d))) #[h1,mj (λq b z o=>m9 d z o) h2 ok,List.flatMap_def]
noncomputable def bv(f:List vr->Nat):vr->Nat
 | .plain _=>1
 | .lend _ _ b=>f b+2
 | .ite _ b c=>f b+f c+3
 | .whl _ b=>f b+2
noncomputable def ap:Nat->List vr->Nat
 | 0,_=>0
 | d+1,T=>(T.map (bv (ap d))).sum
noncomputable def fO(f:vr->Nat):Nat->List vr->List (Nat×vr)
 | _,[]=>[]
 | l,s::T=>(l,s)::fO f (l+f s) T
theorem kB(f:vr->Nat)(s:vr):∀(l:Nat) (T:List vr),fO f l (T++[s])=fO f l T++[(l+(T.map f).sum,s)]
 | l,[]=>by simp[fO]
 | l,t::T=>by
  show (l,t)::fO f (l+f t) (T++[s])=(l,t)::fO f (l+f t) T++[(l+(f t+(T.map f).sum),s)]
  rw[kB f s (l+f t) T,i9];rfl
theorem gX(f:vr->Nat):∀(l:Nat) (T:List vr),(fO f l T).length=T.length
 | _,[]=>rfl
 | l,s::T=>by show (fO f (l+f s) T).length+1=T.length+1;rw[gX f _ T]
theorem wY(f:vr->Nat):∀(l:Nat) (T:List vr) (i:Nat) (s:vr),T[i]?=Sm s->(fO f l T)[i]?=Sm (l+((T.take i).map f).sum,s)
 | _,[],_,_,h=>by simp at h
 | l,t::T,0,s,h=>by
  have e:t=s:=by simpa using h
  subst e;simp[fO]
 | l,t::T,i+1,s,h=>by
  have h':T[i]?=Sm s:=by simpa using h
  have ih:=wY f (l+f t) T i s h';show (fO f (l+f t) T)[i]? = _;rw[ih,Ll,yR,IX,i9]
noncomputable def kindOf:vr->Str
 | .plain ws=>ws.headD ""
 | .lend _ _ _ => "lend"
 | .ite _ _ _ => "if"
 | .whl _ _ => "while"
noncomputable def d0:vr->MC
 | .plain ws=>(ws.drop 1).map V.str
 | .lend x y _=>[.str x,.str y]
 | .ite n _ _=>[.int n]
 | .whl n _=>[.int n]
noncomputable def cU(f:List vr->Nat)(l:Nat):vr->List (Nat×List vr)
 | .plain _=>[]
 | .lend _ _ b=>[(l+1,b)]
 | .ite _ b c=>[(l+1,b),(l+1+f b+1,c)]
 | .whl _ b=>[(l+1,b)]
noncomputable def c6(f:List vr->Nat)(l:Nat)(s:vr):MB:=l::(cU f l s).map λz=>z.1+f z.2
theorem Cs{f:List vr->Nat}{l:Nat}:∀ {s:vr} {j:Nat} {z:Nat×List vr},(cU f l s)[j]?=Sm z->∃y,(c6 f l s)[j]?=Sm y/\z.1=y+1
 | .plain _,j,z,h=>by simp[cU]at h
 | .lend _ _ b,0,z,h=>by cases h;exact#[l,rfl,rfl]
 | .lend _ _ b,j+1,z,h=>by simp[cU]at h
 | .ite _ b c,0,z,h=>by cases h;exact#[l,rfl,rfl]
 | .ite _ b c,1,z,h=>by cases h;exact#[l+1+f b,rfl,rfl]
 | .ite _ b c,j+2,z,h=>by simp[cU]at h
 | .whl _ b,0,z,h=>by cases h;exact#[l,rfl,rfl]
 | .whl _ b,j+1,z,h=>by simp[cU]at h
theorem mX{f:List vr->Nat}{l:Nat}:∀ {s:vr},(c6 f l s).getLast? = Sm (l+bv f s-1)/\1<=bv f s
 | .plain _=>by simp[c6,cU,bv]
 | .lend _ _ b=>by simp[c6,cU,bv];lia
 | .ite _ b c=>by simp[c6,cU,bv];lia
 | .whl _ b=>by simp[c6,cU,bv];lia
def hV:MH->V
 | none=>.non
 | some n=>.int n
set_option genInjectivity false in
set_option genSizeOf false in
structure RS where
 taken:Nat
 last:Int
 opened:Nat
 held:List (aP×V)
 log:List MC
noncomputable def yf(st:RS)(k:aP):MH:=match bY st.held k with
 | some (.int n)=>Sm n.toNat
 | _=>Nn
noncomputable def rh(k:aP)(h:MH)(st:RS):RS:={st with held:=du st.held k (hV h)}
noncomputable def xU(l:Nat)(h:MH)(w:Str)(st:RS):RS:=match h with
 | none=>st
 | some n=>{st with log:=st.log++[[.int l,.int n,.str w,.int st.last]]}
noncomputable def Kg(l:Nat)(k:aP)(st:RS):RS:=rh k (Sm st.opened) (xU l (Sm st.opened) "open" {st with opened:=st.opened+1})
noncomputable def Dz(l:Nat)(a b:MH)(st:RS):RS:=match a,b with
 | some n,Sm m=>if n=m then st else {st with log:=st.log++[[.int l,.int n,.int m]]}
 | _,_=>st
noncomputable def zP(l:Nat)(ws:MA)(st:RS):RS:=match ws with
 | [k,x]=>if k = "open" then Kg l (.inr x) st else rh (.inr x) Nn st
 | [k,x,y]=>if k = "do" then xU l (yf st (.inr y)) x st else if k = "copy" then rh (.inr x) (yf st (.inr y)) st else Dz l (yf st (.inr x)) (yf st (.inr y)) st
 | _=>st
inductive fR:MA->Prop
 | op (x:Str):fR ["open",x]
 | dr (x:Str):fR ["drop",x]
 | dd (u x:Str):fR ["do",u,x]
 | cp (x y:Str):fR ["copy",x,y]
 | ti (x y:Str):fR ["tie",x,y]
def GoodR(st:RS):Prop:=∀k v,bY st.held k=Sm v->∃h,v=hV h
theorem GoodR.hold{st:RS}(g:GoodR st)(k:aP)(h:MH):GoodR (rh k h st):=λj v e=>by
 have F:(if j=k then Sm (hV h) else bY st.held j)=Sm v:=by rw[<-mC];exact e
 by_cases hj:j=k
 .rw[Lz hj]at F;exact#[h,(Option.some.inj F).symm]
 .rw[Lu hj]at F;exact g j v F
theorem nJ(l:Nat)(h:MH)(w:Str)(st:RS):(xU l h w st).held=st.held:=by cases h<;>rfl
theorem Al(l:Nat)(a b:MH)(st:RS):(Dz l a b st).held=st.held:=by
 unfold Dz;split
 .split<;>rfl
 .rfl
theorem GoodR.of{st F:RS}(g:GoodR st)(e:F.held=st.held):GoodR F:=λk v h=>g k v (by rw[<-e];exact h)
theorem nW{st:RS}(g:GoodR st)(l:Nat)(ws:MA):GoodR (zP l ws st):=by
 unfold zP;split
 .split
  .exact GoodR.hold (GoodR.of g (by rw[nJ])) _ _
  .exact g.hold _ _
 .split
  .exact g.of (nJ _ _ _ _)
  .split
   .exact g.hold _ _
   .exact g.of (Al _ _ _ _)
 .exact g
noncomputable def nF(k:Str)(pp lp bp:o_):List (Str×V):=[("kind",.str k),("parts",.ref pp),("lines",.ref lp),("blocks",.ref bp)]
theorem gg(k:Str)(J O F:o_):(nF k J O F).lookup ("kind" : Str)=Sm (.str k):=by unfold nF;walk_at "lk"
theorem fg(k:Str)(F O J:o_):(nF k F O J).lookup ("parts" : Str)=Sm (.ref F):=by unfold nF;walk_at "lk"
theorem eC(k:Str)(O F J:o_):(nF k O F J).lookup ("lines" : Str)=Sm (.ref F):=by unfold nF;walk_at "lk"
theorem ij(k:Str)(J O F:o_):(nF k J O F).lookup ("blocks" : Str)=Sm (.ref F):=by unfold nF;walk_at "lk"
noncomputable def fY(ns:MB):MC:=ns.map λ(n:Nat)=>V.int (n:Int)
def CF(K:KE)(C:o_)(f:List vr->Nat)(S:o_->Prop)(PA:o_->Nat->List vr->Prop)(H:Hp)(a:o_)(l:Nat)(s:vr):Prop:=
 ∃(dx pp lp bp:o_) (bs:MD),H a=Sm (.ins C dx (nF (kindOf s) pp lp bp))/\uc K H pp (d0 s)/\S lp/\H lp=Sm (.lst (fY (c6 f l s)))/\S bp/\H bp=Sm (.lst (bs.map V.ref))/\L8 (λq (z:Nat×List vr)=>PA q z.1 z.2) bs (cU f l s)
def BQ(K:KE)(C:o_)(S:o_->Prop):Nat->Hp->o_->Nat->List vr->Prop
 | 0=>λ_ _ _ _=>False
 | d+1=>λH p l T=>S p/\∃as:MD,H p=Sm (.lst (as.map V.ref))/\L8 (λa (z:Nat×vr)=>CF K C (ap d) S (BQ K C S d H) H a z.1 z.2) as (fO (bv (ap d)) l T)
structure C5 (S:o_->Prop) (H H':Hp):Prop where
 t:∀b xs,H b=Sm (.tup xs)->H' b=Sm (.tup xs)
 z:∀b o u,H b=Sm (.frz o u)->H' b=Sm (.frz o u)
 i:∀b C dx fs,H b=Sm (.ins C dx fs)->H' b=Sm (.ins C dx fs)
 l:∀b xs,S b->H b=Sm (.lst xs)->H' b=Sm (.lst xs)
theorem C5.of(sm:su H H'):C5 S H H':=#[λb xs h=>sm _ _ h,λb o u h=>sm _ _ h,λb C dx fs h=>sm _ _ h,λb xs _ h=>sm _ _ h]
theorem C5.upd(h:H p=Sm (.lst xs))(J:¬ S p):C5 S H (upd H p o):=
  ⟨λb xs e=>by rw[au (dh e h (λz=>nomatch z))];exact e,λb o u e=>by rw[au (dh e h (λz=>nomatch z))];exact e,λb C dx fs e=>by rw[au (dh e h (λz=>nomatch z))];exact e,
   λb xs F e=>by rw[au (show b≠p from λz=>J (z ▸ F))];exact e⟩
theorem uc.stays{a:o_}(h:uc K H a xs)(st:C5 S H H'):uc K H' a xs:=by
 rcases h with (h | ⟨o,h⟩) | h
 .exact .inl (.inl (st.t _ _ h))
 .exact .inl (.inr #[o,st.z _ _ _ h])
 .exact .inr h
theorem uc.updI{a x C dx:o_}{fs:List (Str×V)}(h:uc K H a xs)(hx:H x=Sm (.ins C dx fs)):uc K (upd H x o) a xs:=by
 rcases h with (h | ⟨o',h⟩) | h
 .exact .inl (.inl (by rw[au (dh h hx (λz=>nomatch z))];exact h))
 .exact .inl (.inr #[o',by rw[au (dh h hx (λz=>nomatch z))];exact h])
 .exact .inr h
theorem CF.imp{C:o_}{f:List vr->Nat}{S':o_->Prop}{PA F:o_->Nat->List vr->Prop}{a:o_}(h:CF K C f S PA H a l s)(st:C5 S H H')(J:∀b,S b->S' b)(hp:∀q l b,PA q l b->F q l b):CF K C f S' F H' a l s:=by
 revert h;refine yF5 λdx Z lp bp bs=>yB7 λh1 h2 O h4 U h6 Y=>?_;exact yI5 dx Z lp bp bs #[st.i _ _ _ _ h1,uc.stays h2 st,J _ O,st.l _ _ O h4,J _ U,st.l _ _ U h6,L8.imp' (λq z y=>hp _ _ _ y) Y]
theorem BQ.imp{K:KE}{C:o_}{S S':o_->Prop}{H H':Hp}(st:C5 S H H')(F:∀b,S b->S' b):∀(d:Nat) {p:o_} {l:Nat} {T:List vr},BQ K C S d H p l T->BQ K C S' d H' p l T
 | 0,_,_,_,h=>h.elim
 | d+1,p,l,T,⟨h0,as,h1,h2⟩=>#[F _ h0,as,st.l _ _ h0 h1,L8.imp' (λa z y=>y.imp st F λq l b J=>BQ.imp st F d J) h2]
theorem BQ.mono{C:o_}(h:BQ K C S d H p l T)(sm:su H H'):BQ K C S d H' p l T:=h.imp (C5.of sm) (λ_ z=>z) d
theorem CF.mono{C:o_}{a:o_}(h:CF K C (ap d) S (BQ K C S d H) H a l s)(sm:su H H'):CF K C (ap d) S (BQ K C S d H') H' a l s:=
 h.imp (C5.of sm) (λ_ z=>z) λq l b y=>y.mono sm
theorem wj{xs:List α}{x:α}(h:xs.getLast? = Sm x):cJ xs (-1)=Sm x:=by
 rcases List.eq_nil_or_concat xs with rfl | ⟨ys,y,rfl⟩
 .simp at h
 .have e:y=x:=by simpa using h
  subst e;have e:lb (ys++[y]).length (-1)=Sm ys.length:=by
   unfold lb;simp only[zq,zy,yz];split<;>simp_all<;>lia
  unfold cJ;rw[List.concat_eq_append,e];simp
theorem j8{ns:MB}(h:ns.getLast? = Sm n):cJ (fY ns) (-1)=Sm (.int n):=wj (by unfold fY;rw[List.getLast?_map,h];rfl)
theorem fq{ns:MB}(h:ns[i]?=Sm n):cJ (fY ns) i=Sm (.int n):=aq (by unfold fY;rw[zz,h];rfl)
theorem xf(d:Nat):∀T:List vr,T.length<=ap (d+1) T
 | []=>mw _
 | s::T=>by
  have:=xf d T;have h1:=(mX (f:=ap d) (l:=0) (s:=s)).2;show T.length+1<=bv (ap d) s+ap (d+1) T;lia
theorem o8{d:Nat}:∀ {T:List vr} {s:vr},s∈T->bv (ap d) s<=ap (d+1) T
 | [],_,h=>by cases h
 | t::T,s,h=>by
  show bv (ap d) s<=bv (ap d) t+ap (d+1) T;rcases LH.mp h with rfl | h
  .lia
  .have:=o8 (d:=d) h;lia
theorem tI:ap (d+1) (T.take i)<=ap (d+1) T:=by
 have e:ap (d+1) T=ap (d+1) (T.take i)+ap (d+1) (T.drop i):=by
  show (T.map _).sum=((T.take i).map _).sum+((T.drop i).map _).sum;rw[<-List.sum_append,<-yb,JF]
 lia
theorem Fq{f:List vr->Nat}{l:Nat}:∀ {s:vr} {z:Nat×List vr},z∈cU f l s->f z.2<=bv f s
 | .plain _,z,h=>by cases h
 | .lend _ _ b,z,h=>by simp[cU]at h;subst h;simp[bv]
 | .ite _ b c,z,h=>by
  simp[cU]at h;rcases h with rfl | rfl<;>simp[bv]<;>lia
 | .whl _ b,z,h=>by simp[cU]at h;subst h;simp[bv]
theorem C3(f:List vr->Nat)(l:Nat)(s:vr):(cU f l s).length<=2:=by cases s<;>simp[cU]
theorem Fj{PA:o_->List vr->Prop}{H:Hp}{a:o_}{f:List vr->Nat}{g:List vr->Prop}{l:Nat}:∀ {s:vr},Da PA H a s->km g s->∃bs:MD,H a=Sm (.tup (.str (kindOf s)::(d0 s++bs.map V.ref)))/\bs.length=(bE (kindOf s)).length/\L8 (λq (z:Nat×List vr)=>PA q z.2/\g z.2) bs (cU f l s)
 | .plain ws,h,ok=>by
  have J:ws≠[]:=λe=>by have:=ok.two;rw[e]at this;simp at this
  let#[k,r,rfl]:=List.exists_cons_of_ne_nil J;have F:k∈dz:=ok.kind;refine#[[],?_,?_,.nil]
  .show H a=Sm (.tup (.str k::(r.map V.str++[])));rw[Jg];exact h
  .show 0=(bE k).length;revert F;unfold dz;intro F;simp only[yg,yu,or_false]at F;rcases F with rfl | rfl | rfl | rfl | rfl<;>decide
 | .lend x y b,⟨q,h,z⟩,⟨_,_,o⟩=>#[[q],h,by show 1=(bE "lend").length;decide,.cons #[z,o] .nil]
 | .ite n b c,⟨q,r,h,z,y⟩,⟨_,o,o'⟩=>#[[q,r],h,by show 2=(bE "if").length;decide,.cons #[z,o] (.cons #[y,o'] .nil)]
 | .whl n b,⟨q,h,z⟩,⟨_,o⟩=>#[[q],h,by show 1=(bE "while").length;decide,.cons #[z,o] .nil]
def oI(K:KE)(C:o_):Sp:=λvs H Q _=>∃(x dx hp:o_) (k:Str) (ps:MC) (lp bp:o_),vs=[.ref x,.ref hp,.ref lp,.ref bp]/\H x=Sm (.ins C dx [])/\uc K H hp (.str k::ps)/\
 ∀(pp:o_) (H':Hp),(∀b o,H b=Sm o->b≠x->H' b=Sm o)->H' x=Sm (.ins C dx (nF k pp lp bp))->uc K H' pp ps->Q .non H'
def jU(K:KE)(C:o_):Sp:=λvs H Q _=>∃(p:o_) (l d:Nat) (T:List vr) (S:o_->Prop),vs=[.ref p,.int (l:Int)]/\BQ K C S (d+1) H p l T/\ap (d+1) T<=10000/\Q (.int ((l+ap (d+1) T:Nat):Int)) H
def Kr(K:KE)(C:o_)(d:Nat):Sp:=λvs H Q _=>∃(a:o_) (l:Nat) (s:vr) (S:o_->Prop),vs=[.ref a,.int (l:Int)]/\Da (BX S d H) H a s/\km (dF d) s/\bv (ap d) s<=10000/\
 ∀(q:o_) (H':Hp),su H H'->CF K C (ap d) (λb=>H b=Nn) (BQ K C (λb=>H b=Nn) d H') H' q l s->Q (.ref q) H'
def rJ(K:KE)(C:o_)(d:Nat):Sp:=λvs H Q _=>∃(p:o_) (l:Nat) (T:List vr) (S:o_->Prop),vs=[.ref p,.int (l:Int)]/\BX S d H p T/\dF d T/\ap d T<=10000/\
 ∀(q:o_) (H':Hp),su H H'->BQ K C (λb=>H b=Nn) d H' q l T->Q (.ref q) H'
section
variable{CN:o_}
theorem Ci(D:Im K mg "NumberedStep" CN "NumberedStep.__init__" bb) (S:Fl K CN "kind") (O:Fl K CN "parts") (J:Fl K CN "lines") (F:Fl K CN "blocks") :
  rL P w K mg base 1 "NumberedStep" CN qAW (oI K CN):=by
 refine D.mkal (k:=0) iZ (by walk_at "z") (by walk_at "v") (λf ag A outer s H vs Q E hr h=>?_);revert h;refine yF7 λx dx hp k ps lp bp=>yB4 ?_;rintro rfl hx hh q;refine⟨_,(ah (lP S (pv 0) (am (ax K) (pv 1) af))
   (ah (lP O (pv 0) (fw (gS K) (pv 1) (fE af) gY))
   (ah (lP J (pv 0) (pv 2))
   (aj (lP F (pv 0) (pv 3)))))),?_⟩
 cbv;refine yI2 _ _ #[.inr hh,kr,yI2 dx _ #[hx,∅,?_]];generalize hH1:upd H x _=H1;have e1:H1 x=Sm (.ins CN dx [("kind",.str k)]):=by rw[<-hH1,ai];walk_at "pf"
 have k1:∀b o,H b=Sm o->b≠x->H1 b=Sm o:=λb o e n=>by rw[<-hH1,au n];exact e
 have ac:uc K H1 hp (.str k::ps):=by rw[<-hH1];exact uc.updI hh hx
 rw?;refine gb ac λZ H2 U W=>?_;have ec:dQ (V.str k::ps) (Sm 1) Nn=ps:=jd _ 1;rw[ec]at W;refine yI2 dx _ #[U _ _ e1,'~',?_];generalize hH3:upd H2 x _=Y;have e3:Y x=Sm (.ins CN dx [("kind",.str k),("parts",.ref Z)]):=by rw[<-hH3,ai];walk_at "pf"
 have k3:∀b o,H2 b=Sm o->b≠x->Y b=Sm o:=λb o e n=>by rw[<-hH3,au n];exact e
 have ad:uc K Y Z ps:=by rw[<-hH3];exact uc.updI W (U _ _ e1)
 rw?;refine yI2 dx _ #[e3,'~',?_];generalize hH4:upd Y x _=H4;have e4:H4 x=Sm (.ins CN dx [("kind",.str k),("parts",.ref Z),("lines",.ref lp)]):=by rw[<-hH4,ai];walk_at "pf"
 have k4:∀b o,Y b=Sm o->b≠x->H4 b=Sm o:=λb o e n=>by rw[<-hH4,au n];exact e
 have ab:uc K H4 Z ps:=by rw[<-hH4];exact uc.updI ad e3
 rw?;refine yI2 dx _ #[e4,'~',?_];refine q Z _ (λb o e n=>?_) ?_ (uc.updI ab e4)
 .rw[au n];exact k4 _ _ (k3 _ _ (U _ _ (k1 _ _ e n)) n) n
 .rw[ai];unfold nF;walk_at "pf"
theorem zU(D:xn K mg "line_behind" dI) (U:wAK mg) (J:Fl K CN "lines"):aD P w K mg base 1 "line_behind" qAX (jU K CN):=by
 refine D.cal (k:=0) oN (λf ac A outer s H vs Q E hr h=>?_);revert h;refine yF5 λp l d T S=>yB4 ?_;rintro rfl ⟨h0,as,h1,h2⟩ hz q;have F:=aK h2;rw[gX]at F;refine#[_,(aj (az (fk (aA aL (bx (ba K) U bK (aa (pv 0) ae)) af (aB _)) (pv 1) (ar aF (am (ax K) (bG J (am (ax K) (pv 0) (eh dN af))) (eh dN af)) af)))),?_];cbv;refine#[_,.inl (ud.of h1),?_];rw[zb,F];rcases List.eq_nil_or_concat T with rfl | ⟨O,t,rfl⟩
 .refine aT (λc=>?_) (λc=>absurd rfl c);exact q
 .rw[List.concat_eq_append]at *;refine aT (λc=>absurd c (by rw[zq];simp;lia)) (λc=>?_);rw[kB]at h2;rcases List.eq_nil_or_concat as with rfl | ⟨Y,a,rfl⟩
  .have:=aK h2;simp at this
  rw[List.concat_eq_append]at *;have ab:Y.length=O.length:=by simpa using F
  have h3:CF K CN (ap d) S (BQ K CN S d H) H a (l+(O.map (bv (ap d))).sum) t:=by
   let#[z,W,Z]:=cD h2 (i:=Y.length) (x:=a) '~';rw[uu (by rw[gX];lia),gX,ab]at W;simp at W;subst W;exact Z
  revert h3;refine yF5 λdx pp lp bp bs=>yB7 λg1 g2 g3 g4 g5 g6 g7=>?_;let#[g8,g9]:=mX (f:=ap d) (l:=l+(O.map (bv (ap d))).sum) (s:=t);cbv;refine X2 (ud.of h1) (wj (x:=V.ref a) '~') ?_;refine#[a,rfl,yI3 dx _ _ #[g1,eC _ _ _ _,?_]];cbv;refine X2 (ud.of g4) (j8 g8) ?_;cbv;have e:((l+(O.map (bv (ap d))).sum+bv (ap d) t-1:Nat):Int)+1=((l+ap (d+1) (O++[t]):Nat):Int):=by
   have:ap (d+1) (O++[t])=(O.map (bv (ap d))).sum+bv (ap d) t:=by show ((O++[t]).map _).sum=_;simp
   lia
  rw[e];exact q
theorem Ji(D:xn K mg "numbered_step" aX) (Y:aD P w K mg base 2 "head_of" ["step"] (kD K)) (U:aD P w K mg base 3 "blocks_of" ["step"] (i_ K)) (O:aD P w K mg base 1 "line_behind" qAX (jU K CN))
  (J:rL P w K mg base 1 "NumberedStep" CN qAW (oI K CN)) {d:Nat} (F:aD P w K mg base (2*d+4) "numbered_steps" qAX (rJ K CN d)) :
  aD P w K mg base (2*d+5) "numbered_step" ["step","line"] (Kr K CN d):=by
 refine D.cal (k:=2*d+4) CD (λf dl A outer sh H vs Q E hr h=>?_);revert h;refine yF4 λa l s S=>yB5 ?_;rintro rfl h1 ok hz q;refine yE1 (Fj (f:=ap d) (l:=l) h1 ok) λbs=>yB3 λb1 b2 b3=>?_;refine⟨_,(ah (ay 2 CD.nd (aG (aa (pv 1) ae)))
   (ah (ay 3 CD.nd (aG ae))
   (ah (cg pD rfl (iH K (aw U hr (aa (pv 0) ae) (hle:=()))) (aS 4 CD.nd) (ah (ay 5 CD.nd (aw F hr (aa (pv 4) (aa (ar aF (am (ax K) (pv 2) (eh dN af)) af) ae)) (hle:=())))
   (ah (bm (bB K yY ux uC br (pv 3) (aa (pv 5) ae)))
   (aj (bm (bB K yY ux uC br (pv 2) (aa (aw O hr (aa (pv 5) (aa (ar aF (am (ax K) (pv 2) (eh dN af)) af) ae)) (hle:=())) ae)))))))
   (aj (az (Kz J hr (aa (aw Y hr (aa (pv 0) ae) (hle:=())) (aa (pv 2) (aa (pv 3) ae))) (hle:=()))))))),?_⟩
 cbv;refine#[∅,λlp bh=>?_];∎;rename_i HA sA eA;rw?;refine#[∅,λbp al=>?_];∎;rename_i HB sB eB;have a7:=sA.trans sB;have be:(bE (kindOf s)).length<=(d0 s++bs.map V.ref).length+1:=by rw[zq,zb,b2];lia
 have a4:(d0 s++bs.map V.ref).length+1-(bE (kindOf s)).length=(d0 s).length+1:=by rw[zq,zb,b2];lia
 rw?;refine yI3 a (kindOf s) _ #[rfl,uc.of (a7 _ _ b1),be,λtp HC sC as=>?_];rw[a4]at as;have c2:(V.str (kindOf s)::(d0 s++bs.map V.ref)).drop ((d0 s).length+1)=bs.map V.ref:=by rw[List.drop_succ_cons,List.drop_left'];rfl
 rw[c2]at as;cbv;refine#[#[_,as],?_];have bt:=aK b3;have dm:=C3 (ap d) l s;have b0:lp≠bp:=λz=>by rw[<-z]at al;rw[al]at eA;cases eA
 refine uV (xs:=bs.map V.ref) (λj σ H'=>∃(o4 o5:MK) (qs:MD),σ=[Sm (.ref a),Sm (.int (l:Int)),Sm (.ref lp),Sm (.ref bp),o4,o5]/\su H H'/\uc K H' tp (bs.map V.ref)/\H' lp=Sm (.lst (fY ((c6 (ap d) l s).take (j+1))))/\H' bp=Sm (.lst (qs.map V.ref))/\
   (∀b,H' b=Nn->HC b=Nn)/\L8 (λq (z:Nat×List vr)=>BQ K CN (λb=>HC b=Nn) d H' q z.1 z.2) qs ((cU (ap d) l s).take j))
  (yI3 Nn Nn ([]) #[rfl,a7.trans sC,as,by rw[sC _ _ (sB _ _ eA)];simp[fY,c6],by rw[sC _ _ eB];rfl,λb h=>h,.nil]) (λj σ H' _ h=>by revert h;refine yF3 λ_ _ _=>yB4 λ_ _ z _=>?_;exact z) ?_ ?_
 .intro j v σ H' hv;refine yF3 λo4 o5 qs=>yB7 ?_;rintro rfl sm ca ad W a9 ac;have hj:j<bs.length:=by have:=(Lq.mp hv).1;simpa using this
  rw[zz,zd hj]at hv;cases hv;refine yE1 (cD b3 (zd hj)) λz=>yB3 λag cA c4=>?_;let#[y,cv,da]:=Cs ag;have ab:((c6 (ap d) l s).take (j+1)).getLast? = Sm y:=by
   rw[sR,cv];simp
  have c9:=Fq (xO ag);cbv;refine X2 (ud.of ad) (j8 ab) ?_;cbv;have ey:(y:Int)+1=((z.1:Nat):Int):=()
  rw[ey];refine yI4 (bs[j]) z.1 z.2 S #[rfl,cA.mono sm,c4,(),λq' HD Z cB=>?_];have bc:=aK ac;rw[lj]at bc;rw?;refine#[#[_,ud.of (Z _ _ W)],_,Z _ _ W,cC (by rw[zb];lia),?_];generalize hE:upd HD bp _=HE;have cb:C5 (λb=>H' b=Nn) HD HE:=by rw[<-hE];exact C5.upd (Z _ _ W) (λz=>by rw[W]at z;cases z)
  have a5:=BQ.imp (S':=λb=>H' b=Nn) cb (λ_ z=>z) d cB;have eE:HE bp=Sm (.lst (qs.map V.ref++[V.ref q'])):=by rw[<-hE,ai]
  have lE:HE lp=Sm (.lst (fY ((c6 (ap d) l s).take (j+1)))):=by rw[<-hE,au b0];exact Z _ _ ad
  rw?;refine#[#[_,ud.of lE],X2 (ud.of lE) (j8 ab) ?_];cbv;rw[ey];have cc:∀b,H' b=Nn->HC b=Nn:=a9;have c3:=BQ.imp (S':=λb=>HC b=Nn) (C5.of (su.refl HE)) cc d a5;cases d with
  | zero=>exact a5.elim
  | succ d=>
  refine yI5 q' z.1 d z.2 _ #[rfl,a5,(),?_];refine#[_,lE,cC (by unfold fY;rw[zb,lj];lia),?_];generalize hF:upd HE lp _=HF;have ce:HC lp=Sm (.lst (fY [l])):=by rw[sC _ _ (sB _ _ eA)];simp[fY]
  have cn:HC bp=Sm (.lst []):=sC _ _ eB;have a8:C5 (λb=>HC b=Nn) HE HF:=by rw[<-hF];exact C5.upd lE (λz=>by rw[ce]at z;cases z)
  have a3:C5 (λb=>HC b=Nn) HD HE:=by rw[<-hE];exact C5.upd (Z _ _ W) (λz=>by rw[cn]at z;cases z)
  have up:∀ {p:o_} {l:Nat} {T:List vr},BQ K CN (λb=>HC b=Nn) (d+1) H' p l T->BQ K CN (λb=>HC b=Nn) (d+1) HF p l T:=λz=>BQ.imp a8 (λ_ y=>y) _ (BQ.imp a3 (λ_ y=>y) _ (z.mono Z));refine yI3 _ _ (qs++[q']) #[rfl,?_,?_,?_,?_,?_,?_]
  .rw[<-hF,<-hE];exact((sm.trans Z).upd (sA.free al) _).upd bh _
  .exact uc.stays (uc.stays (ca.same Z) a3) a8
  .rw[<-hF,ai];have:(c6 (ap (d+1)) l s)[j+1]?=Sm (z.1+ap (d+1) z.2):=by
    unfold c6;rw[zaV,zz,ag];rfl
   unfold fY;rw[sR (i:=j+1),this,yb];rfl
  .rw[<-hF,au b0.symm,eE,yb];rfl
  .intro b hb;refine a9 b (Z.free ?_);rw[<-hF,<-hE]at hb;by_cases e1:b=lp
   .rw[e1,ai]at hb;cases hb
   .rw[au e1]at hb;by_cases e2:b=bp
    .rw[e2,ai]at hb;cases hb
    .rw[au e2]at hb;exact hb
  .rw[sR,ag];exact eX (R:=λq (z:Nat×List vr)=>BQ K CN (λb=>HC b=Nn) (d+1) HF q z.1 z.2) (BQ.imp a8 (λ_ y=>y) _ c3) (L8.imp' (λq z y=>up y) ac)
 .intro σ H';refine yF3 λo4 o5 qs=>yB7 ?_;rintro rfl sm ca ad W a9 ac;rw[zb,bt,ir]at ac;have cd:(c6 (ap d) l s).take ((bs.map V.ref).length+1)=c6 (ap d) l s:=by
   rw[IH];unfold c6;rw[zy,zb,zb,bt];exact zg _
  rw[cd]at ad;rw?;refine yI3 a (kindOf s) _ #[rfl,uc.of (sm _ _ b1),be,λhp HD Z a6=>?_];rw[a4]at a6;have bg:(V.str (kindOf s)::(d0 s++bs.map V.ref)).take ((d0 s).length+1)=V.str (kindOf s)::d0 s:=by rw[Ll,List.take_left'];rfl
  rw[bg]at a6;cbv;intro x dx hx cz dc;generalize hM:upd (upd HD dx (.own x)) x (.ins CN dx [])=HM;have sM:su HD HM:=by rw[<-hM];exact(ak cz (.own x)).upd hx _
  have eM:HM x=Sm (.ins CN dx []):=by rw[<-hM,ai]
  refine yI7 x dx hp (kindOf s) (d0 s) lp bp #[rfl,eM,a6.same sM,λpp HN kN eN c5=>#[rfl,?_]];have sN:su HD HN:=λb o e=>kN b o (sM _ _ e) (aQ e hx);have c1:su H HN:=(sm.trans Z).trans sN;have cq:∀b,HC b=Nn->H b=Nn:=λb z=>(a7.trans sC).free z;refine q x HN c1 (yI5 dx pp lp bp qs #[eN,c5,bh,sN _ _ (Z _ _ ad),sA.free al,sN _ _ (Z _ _ W),?_]);exact L8.imp' (λq z y=>BQ.imp (C5.of (Z.trans sN)) cq d y) ac
theorem vP(D0:xn K mg "numbered_step" aX) (D:xn K mg "numbered_steps" bI) (W:aD P w K mg base 2 "head_of" ["step"] (kD K)) (O:aD P w K mg base 3 "blocks_of" ["step"] (i_ K)) (F:aD P w K mg base 1 "line_behind" qAX (jU K CN))
  (J:rL P w K mg base 1 "NumberedStep" CN qAW (oI K CN)):∀d:Nat,aD P w K mg base (2*d+4) "numbered_steps" qAX (rJ K CN d)
 | 0=>D.cal (k:=3) Dc (λf a6 A outer s H vs Q E hr h=>by revert h;refine yF4 λp l T S=>yB3 ?_;rintro rfl z _;exact z.elim)
 | d+1=>by
  have U:=Ji D0 W O F J (vP D0 D W O F J d);refine D.cal (k:=2*d+5) Dc (λf a6 A outer s H vs Q E hr h=>?_);revert h;refine yF4 λp l T S=>yB5 ?_;rintro rfl ⟨h0,as,h1,h2⟩ ok hz q;have ac:=aK h2;have a9:=xf d T;refine⟨_,(ah (ay 2 Dc.nd (aG ae))
   (ah (cg pD rfl (bF K (pv 0)) (aS 3 Dc.nd) (aj (bm (bB K yY ux uC br (pv 2) (aa (aw U hr (aa (pv 3) (aa (aw F hr (aa (pv 2) (aa (pv 1) ae)) (hle:=())) ae)) (hle:=())) ae)))))
   (aj (az (pv 2))))),?_⟩
  cbv;refine#[∅,λZ ag=>?_];∎;rename_i HA sA eA;rw?;refine#[#[_,ud.of (sA _ _ h1)],?_];have a3:¬ HA Z=Nn:=λz=>by rw[eA]at z;cases z
  refine cL (xs:=as.map V.ref) (λi σ H'=>∃(o3:MK) (ns:MD),σ=[Sm (.ref p),Sm (.int (l:Int)),Sm (.ref Z),o3]/\su H H'/\H' Z=Sm (.lst (ns.map V.ref))/\(∀b,H' b=Nn->HA b=Nn)/\
    L8 (λa (z:Nat×vr)=>CF K CN (ap d) (λb=>HA b=Nn) (BQ K CN (λb=>HA b=Nn) d H') H' a z.1 z.2) ns (fO (bv (ap d)) l (T.take i)))
   (yI2 Nn ([]) #[rfl,sA,eA,λ_ z=>z,.nil]) (λi σ H' _ h=>by revert h;refine yF2 λ_ _=>yB3 λ_ sm _=>?_;exact ud.of (sm _ _ h1)) ?_ ?_
  .intro i v σ H' hv;refine yF2 λo3 ns=>yB5 ?_;rintro rfl sm n1 nf n2;have hi:i<as.length:=by have:=(Lq.mp hv).1;simpa using this
   rw[zz,zd hi]at hv;cases hv;let#[s,hs,a4]:=cD h2 (zd hi);have Y:=xO hs;have bc:=o8 (d:=d) Y;have a8:=tI (d:=d) (i:=i) (T:=T);have ad:=aK n2;rw[gX,lj]at ad;cbv;refine#[#[_,ud.of n1],?_];refine yI5 Z l d (T.take i) (λ_=>True) #[rfl,#[trivial,ns,n1,L8.imp' (λa z y=>y.imp (C5.of (su.refl H')) (λ_ _=>trivial) λq l b y'=>BQ.imp (C5.of (su.refl H')) (λ_ _=>trivial) d y') n2],(),?_];refine yI4 (as[i]) (l+ap (d+1) (T.take i)) s S #[rfl,?_,ok s Y,(),λq' HD sD a7=>?_]
   .exact Da.imp (λb xs e=>sm _ _ e) (λq b y=>y.mono sm) a4
   refine#[_,sD _ _ n1,cC (by rw[zb];lia),?_];generalize hE:upd HD Z _=HE;have eE:HE Z=Sm (.lst ((ns++[q']).map V.ref)):=by rw[<-hE,ai,yb];rfl
   have ab:C5 (λb=>HA b=Nn) HD HE:=by rw[<-hE];exact C5.upd (sD _ _ n1) a3
   have a5:CF K CN (ap d) (λb=>HA b=Nn) (BQ K CN (λb=>HA b=Nn) d HD) HD q' (l+ap (d+1) (T.take i)) s:=a7.imp (C5.of (su.refl HD)) nf λq l b y'=>BQ.imp (C5.of (su.refl HD)) nf d y';have up:∀ {a:o_} {l:Nat} {s:vr},CF K CN (ap d) (λb=>HA b=Nn) (BQ K CN (λb=>HA b=Nn) d HD) HD a l s->CF K CN (ap d) (λb=>HA b=Nn) (BQ K CN (λb=>HA b=Nn) d HE) HE a l s:=λz=>z.imp ab (λ_ y=>y) λq l b y'=>BQ.imp ab (λ_ y=>y) d y';refine yI2 _ (ns++[q']) #[rfl,?_,eE,?_,?_]
   .rw[<-hE];exact(sm.trans sD).upd ag _
   .intro b hb;refine nf b (sD.free ?_);rw[<-hE]at hb;by_cases e1:b=Z
    .rw[e1,ai]at hb;cases hb
    .rw[au e1]at hb;exact hb
   .have et:T.take (i+1)=T.take i++[s]:=by rw[sR,hs];rfl
    rw[et,kB];exact eX (R:=λa (z:Nat×vr)=>CF K CN (ap d) (λb=>HA b=Nn) (BQ K CN (λb=>HA b=Nn) d HE) HE a z.1 z.2) (up a5) (L8.imp' (λa z y=>up (CF.mono y sD)) n2)
  .intro σ H';refine yF2 λo3 ns=>yB5 ?_;rintro rfl sm n1 nf n2;rw[zb,ac,ir]at n2;rw?;have al:∀b,HA b=Nn->H b=Nn:=λb z=>sA.free z;exact q Z H' sm #[ag,ns,n1,L8.imp' (λa z y=>y.imp (C5.of (su.refl H')) al λq l b y'=>BQ.imp (C5.of (su.refl H')) al d y') n2]
end
abbrev aE:=MC
variable{r:aE}{R:List aE}
noncomputable def cy(kv:List (aP×V))(k:aP):V:=(bY kv k).getD .non
def iN(n:Nat):V:=.int (n:Int)
noncomputable def gW(kv:List (aP×V))(l:Nat)(ws:MA):aE:=
 if ws.headD "" = "do" then [.str "do",iN l,cy kv (.inr (ws.getD 2 "")),.str (ws.getD 1 "")] else .str (ws.headD "")::iN l::(ws.drop 1).map λn=>cy kv (.inr n)
section
variable(kv:List (aP×V))(f:Bool->Nat->Nat->List vr->List aE)(cnt:List vr->Nat)
noncomputable def f6(t:Bool)(a l:Nat)(x y:Str)(b:List vr):List aE:=
 [[.str "copy",iN l,cy kv (.inl l),cy kv (.inr x)],[.str "do",iN l,cy kv (.inl l),.str "lend"],[.str "copy",iN l,cy kv (.inr y),cy kv (.inl l)]]++f t (a+3) (l+1) b ++
 [[.str "do",iN (l+1+cnt b),cy kv (.inl l),.str "back"],[.str "drop",iN (l+1+cnt b),cy kv (.inr y)],[.str "drop",iN (l+1+cnt b),cy kv (.inl l)]]
noncomputable def kh(t:Bool)(a l:Nat)(n:Int)(b c:List vr):List aE:=
 [[.str "test",iN l,.int n,iN (a+1+(f t (a+1) (l+1) b).length+1)]]++f t (a+1) (l+1) b ++
 [[.str "jump",iN (l+1+cnt b),iN (a+1+(f t (a+1) (l+1) b).length+1+(f t (a+1+(f t (a+1) (l+1) b).length+1) (l+1+cnt b+1) c).length)]]++f t (a+1+(f t (a+1) (l+1) b).length+1) (l+1+cnt b+1) c
noncomputable def fF(a l:Nat)(n:Int)(b:List vr):List aE:=
 [[.str "test",iN l,.int n,iN (a+1+(f false (a+1) (l+1) b).length+1)]]++f false (a+1) (l+1) b++[[.str "jump",iN (l+1+cnt b),iN a]]
noncomputable def dX(t:Bool)(a l:Nat)(n:Int)(b:List vr):List aE:=
 if t=true then [[.str "test",iN l,.int n,iN (a+1+(f true (a+1) (l+1) b).length+(fF f cnt (a+1+(f true (a+1) (l+1) b).length) l n b).length)]]++f true (a+1) (l+1) b++fF f cnt (a+1+(f true (a+1) (l+1) b).length) l n b
 else fF f cnt a l n b
noncomputable def fc(t:Bool)(a l:Nat):vr->List aE
 | .plain ws=>[gW kv l ws]
 | .lend x y b=>f6 kv f cnt t a l x y b
 | .ite n b c=>kh f cnt t a l n b c
 | .whl n b=>dX f cnt t a l n b
end
noncomputable def cV(g:Nat->Nat->vr->List aE)(c:vr->Nat):Nat->Nat->List vr->List aE
 | _,_,[]=>[]
 | a,l,s::T=>g a l s++cV g c (a+(g a l s).length) (l+c s) T
theorem lV(g:Nat->Nat->vr->List aE)(c:vr->Nat)(s:vr):∀(T:List vr) (a l:Nat),cV g c a l (T++[s])=cV g c a l T++g (a+(cV g c a l T).length) (l+(T.map c).sum) s
 | [],a,l=>by simp[cV]
 | t::T,a,l=>by
  show g a l t++cV g c _ _ (T++[s])=(g a l t++cV g c _ _ T)++_;have e:(cV g c a l (t::T)).length=(g a l t).length+(cV g c (a+(g a l t).length) (l+c t) T).length:=zq;rw[lV g c s T,oU,e,yR,IX,i9,i9]
noncomputable def aM(kv:List (aP×V)):Nat->Bool->Nat->Nat->List vr->List aE
 | 0,_,_,_,_=>[]
 | d+1,t,a,l,T=>cV (fc kv (aM kv d) (ap d) t) (bv (ap d)) a l T
theorem j1{f:Bool->Nat->Nat->List vr->List aE}{cnt:List vr->Nat}{n:Int}{b:List vr}:(fF f cnt a l n b).length=(f false (a+1) (l+1) b).length+2:=by
 unfold fF;simp
theorem Dl{kv:List (aP×V)}{f:Bool->Nat->Nat->List vr->List aE}{cnt:List vr->Nat}{m:Nat}(F:∀a l T,(f false a l T).length<=6*cnt T)(h1:∀a l T,(f true a l T).length<=6*m*cnt T)(J:1<=m):∀(s:vr) (t:Bool) (a l:Nat),(fc kv f cnt t a l s).length<=(if t=true then 6*(m+1) else 6)*bv cnt s
 | .plain ws,t,a,l=>by
  show 1<=_*1;split<;>lia
 | .lend x y b,t,a,l=>by
  cases t with
  | false=>
   have:=F (a+3) (l+1) b;show (f6 kv f cnt false a l x y b).length<=6*(cnt b+2);unfold f6;simp only[zq,zy,yz];lia
  | true=>
   have:=h1 (a+3) (l+1) b;show (f6 kv f cnt true a l x y b).length<=6*(m+1)*(cnt b+2);unfold f6;simp only[zq,zy,yz];have e:6*(m+1)*(cnt b+2)=6*m*cnt b+6*cnt b+12*m+12:=by rw[Jh 6 m 1,Nat.add_mul,Jh,Jh];lia
   lia
 | .ite n b c,t,a,l=>by
  cases t with
  | false=>
   have:=F (a+1) (l+1) b;have:=F (a+1+(f false (a+1) (l+1) b).length+1) (l+1+cnt b+1) c;show (kh f cnt false a l n b c).length<=6*(cnt b+cnt c+3);unfold kh;simp only[zq,zy,yz];lia
  | true=>
   have:=h1 (a+1) (l+1) b;have:=h1 (a+1+(f true (a+1) (l+1) b).length+1) (l+1+cnt b+1) c;show (kh f cnt true a l n b c).length<=6*(m+1)*(cnt b+cnt c+3);unfold kh;simp only[zq,zy,yz];have e:6*(m+1)*(cnt b+cnt c+3)=6*m*cnt b+6*m*cnt c+18*m+6*cnt b+6*cnt c+18:=by rw[Jh 6 m 1,Nat.add_mul,Jh,Jh,Jh,Jh];lia
   lia
 | .whl n b,t,a,l=>by
  cases t with
  | false=>
   have:=F (a+1) (l+1) b;show (dX f cnt false a l n b).length<=6*(cnt b+2);unfold dX;rw[Lu ∅,j1];lia
  | true=>
   have:=h1 (a+1) (l+1) b;have:=F (a+1+(f true (a+1) (l+1) b).length+1) (l+1) b;show (dX f cnt true a l n b).length<=6*(m+1)*(cnt b+2);unfold dX;rw[Lz rfl];simp only[zq,zy,yz,j1];have e:6*(m+1)*(cnt b+2)=6*m*cnt b+6*cnt b+12*m+12:=by rw[Jh 6 m 1,Nat.add_mul,Jh,Jh];lia
   lia
theorem uG{g:Nat->Nat->vr->List aE}{c:vr->Nat}{k:Nat}(h:∀s a l,(g a l s).length<=k*c s):∀(T:List vr) (a l:Nat),(cV g c a l T).length<=k*(T.map c).sum
 | [],_,_=>mw _
 | s::T,a,l=>by
  have:=h s a l;have:=uG h T (a+(g a l s).length) (l+c s);show (g a l s++cV g c (a+(g a l s).length) (l+c s) T).length<=k*(c s+(T.map c).sum);rw[zq,Jh];lia
theorem mI(kv:List (aP×V)):∀(d:Nat) (a l:Nat) (T:List vr),(aM kv d false a l T).length<=6*ap d T/\(aM kv d true a l T).length<=6*(d+1)*ap d T
 | 0,_,_,_=>#[mw _,mw _]
 | d+1,a,l,T=>by
  have ih:=mI kv d;have st:=Dl (kv:=kv) (f:=aM kv d) (cnt:=ap d) (m:=d+1) (λa l T=>(ih a l T).1) (λa l T=>(ih a l T).2) ();exact#[uG (k:=6) (λs a l=>by have:=st s false a l;simpa using this) T a l,uG (k:=6*(d+1+1)) (λs a l=>by have:=st s true a l;simpa using this) T a l]
def bP(H:Hp)(c:o_)(r:aE):Prop:=H c=Sm (.tup r)
noncomputable def dj(ws:MA):MA:=if ws.headD "" = "do" then [ws.getD 2 ""] else ws.drop 1
def iT(kv:List (aP×V))(k:aP):Prop:=bY kv k=Sm (cy kv k)
def oJ(kv:List (aP×V))(f:Nat->List vr->Prop)(cnt:List vr->Nat)(l:Nat):vr->Prop
 | .plain ws=>(ws.headD "" = "do" -> ws.length=3)/\∀n∈dj ws,iT kv (.inr n)
 | .lend x y b=>iT kv (.inr x)/\iT kv (.inr y)/\iT kv (.inl (l:Int))/\f (l+1) b
 | .ite _ b c=>f (l+1) b/\f (l+1+cnt b+1) c
 | .whl _ b=>f (l+1) b
def fu(kv:List (aP×V)):Nat->Nat->List vr->Prop
 | 0,_,_=>False
 | d+1,l,T=>∀z∈fO (bv (ap d)) l T,oJ kv (fu kv d) (ap d) z.1 z.2
section
variable{CN:o_}
def DZ(K:KE)(C:o_):Sp:=λvs H Q _=>∃(a sp:o_) (l:Nat) (ws:MA) (kv:List (aP×V)) (S:o_->Prop) (PA:o_->Nat->List vr->Prop) (g:List vr->Nat) (f:Nat->List vr->Prop),vs=[.ref a,.ref sp]/\CF K C g S PA H a l (.plain ws)/\im ws/\H sp=Sm (.dK kv)/\oJ kv f g l (.plain ws)/\
 ∀(t:o_) (H':Hp),su H H'->bP H' t (gW kv l ws)->Q (.ref t) H'
theorem AA(D:xn K mg "simple_row" bM) (U:mg "tuple" = Nn) (J:Fl K CN "kind") (F:Fl K CN "parts") (O:Fl K CN "lines"):aD P w K mg base 1 "simple_row" ["step","slots"] (DZ K CN):=by
 refine D.cal (k:=0) Ha (λf a6 A outer s H vs Q E hr h=>?_);revert h;refine yF9 λa sp l ws kv S PA g ff=>yB6 ?_;rintro rfl ⟨dx,pp,lp,bp,bs,Z,g2,g3,g4,g5,g6,g7⟩ ok ab ⟨ad,W⟩ q;refine⟨_,(ah (ay 2 Ha.nd (am (ax K) (bG O (pv 0)) af))
   (ah (aY (aA aL (bG J (pv 0)) av (aB _)) (aj (az (aR (aa av (aa (pv 2) (aa (am (rZ K) (pv 1 (hv:=PB)) (am (ax K) (bG F (pv 0)) af)) (aa (am (ax K) (bG F (pv 0)) af) ae))))))) aN)
   (aj (az (ar (gU K) (aR (aa (bG J (pv 0)) (aa (pv 2) ae))) (eQ (qo K) U uw (aa (dn (CO.to (fsc:=(sg bM)) (N:=qAk) (N0:=qAk) (T:=["name"])) rfl ((iH K) (bG F (pv 0))) (λ_ _ _ _=>(aS 3 (show (["step","slots","line","name"]:MA).Nodup from ⋯))) (bW (show (qAk:MA).length<=3 from ∅)) (λ_ _ _ _=>cX) (λ_ _ _ _=>(am (rZ K) (pv 1 (hv:=(bR (sg bM) ⋯))) (pv 3)))) ae))))))),?_⟩
 cbv;refine yI3 dx _ _ #[Z,eC _ _ _ _,?_];cbv;refine X2 (ud.of g4) (fq (i:=0) (n:=l) rfl) ?_;rw?;refine yI3 dx _ _ #[Z,gg _ _ _ _,?_];cbv;unfold gW at q;unfold dj at W;refine aT (λc=>?_) (λc=>?_)
 .have Y:ws.headD "" = "do" := c;rw[Lz Y]at q W;obtain⟨k0,w0,x0,rfl⟩ : ∃k w x,ws=[k,w,x]:=by
   have:=ad Y
   match ws,this with
   | [k,w,x],_=>exact yI3 k w x rfl
  have hx:=W x0 '~';refine yI3 dx _ _ #[Z,fg _ _ _ _,?_];cbv;refine yI2 _ _ #[.inr g2,aq (j:=1) (v:=.str x0) rfl,?_];refine .inr (yI4 sp kv (.inr x0) _ #[rfl,rfl,ab,hx,?_]);refine yI3 dx _ _ #[Z,fg _ _ _ _,?_];cbv;refine yI2 _ _ #[.inr g2,aq (j:=0) (v:=.str w0) rfl,∅,λt ht=>?_];exact q t _ (ak ht _) ai
 .have Y:¬ ws.headD "" = "do" := c;rw[Lu Y]at q W;rw?;refine yI3 dx _ _ #[Z,gg _ _ _ _,∅,λt1 a4=>?_];generalize hH1:upd H t1 _=H1;have s1:su H H1:=by rw[<-hH1];exact ak a4 _
  have al:H1 t1=Sm (.tup [.str (kindOf (.plain ws)),iN l]):=by rw[<-hH1];exact ai
  refine yI3 dx _ _ #[s1 _ _ Z,fg _ _ _ _,?_];refine#[pp,rfl,#[_,g2.same s1],λL hL=>?_];have as:uc K H1 pp ((ws.drop 1).map V.str):=g2.same s1;have ac:=s1 _ _ ab;refine k_ (xs:=(ws.drop 1).map V.str) (λi ys H'=>su H1 H'/\H' L=Sm (.lst ys)/\ys=((ws.drop 1).take i).map λn=>cy kv (.inr n)) #[ak hL _,ai,rfl] (λi ys H' _ hh=>as.same hh.1) ?_ ?_
  .rintro i ys H' v hv hi ⟨sm,hl,rfl⟩;rw[zb]at hi;rw[zz,zd hi]at hv;cases hv;have hn:=W _ (gV hi);have h3:=ok.three;have ag:(ws.drop 1).length<=3:=by rw[Lm];lia
   cbv;refine .inr (yI4 sp kv (.inr (ws.drop 1)[i]) _ #[rfl,rfl,sm _ _ ac,hn,?_]);refine fD (by rw[zb];exact hi) (by rw[zb,lj];lia) (by rw[zb];exact aH ()) hl #[sm.upd hL _,ai,?_];rw[sR,zd hi,yb];rfl
  .rintro ys H2 ⟨s2,e2,rfl⟩;rw[zb,ir]at e2;have h2:=ok.two;have h3:=ok.three;have ag:(ws.drop 1).length<=3/\1<=(ws.drop 1).length:=by rw[Lm];lia
   cbv;refine#[_,.inl #[ud.of e2,λt2 a5=>?_]];∎;rename_i H3 s3 et2;refine yI2 _ _ #[uc.of (s3 _ _ (s2 _ _ al)),uc.of et2,'~',by rw[zb];exact aH (by simp only[zy,yz];lia),λhz=>?_,λ_ t3 a3=>?_]
   .have:=congrArg List.length hz;rw[zb]at this;simp only[yz]at this;lia
   .exact q t3 _ (((s1.trans s2).trans s3).trans (ak a3 _)) ai
end
def Ce(H:Hp)(q:o_)(rows:List aE):Prop:=∃as:MD,H q=Sm (.lst (as.map V.ref))/\L8 (bP H) as rows
theorem Ce.mono{rows:List aE}(h:Ce H q rows)(s:su H H'):Ce H' q rows:=let ⟨as,h1,h2⟩:=h;#[as,s _ _ h1,L8.imp' (λ_ _ z=>s _ _ z) h2]
theorem eY{α β : Type}{R:α->β->Prop}:∀ {xs zs:List α} {ys F:List β},L8 R xs ys->L8 R zs F->L8 R (xs++zs) (ys++F)
 | _,_,_,_,.nil,h=>h
 | _,_,_,_,.cons a t,h=>.cons a (eY t h)
theorem eV{x:o_}{F bs:MD}{O J:List aE}(a2:L8 (bP H) F O)(S:L8 (bP H) bs J)(hx:H x=Nn):Ce (upd H x (.lst (F.map V.ref++bs.map V.ref))) x (O++J):=by
 have s:=ak hx (.lst (F.map V.ref++bs.map V.ref));exact#[F++bs,by rw[ai,yb],eY (L8.imp' (λ_ _ z=>s _ _ z) a2) (L8.imp' (λ_ _ z=>s _ _ z) S)]
theorem dH{O bs:MD}{J F:List aE}(a2:L8 (bP H) O J)(S:L8 (bP H) bs F)(hl:J.length+F.length<=1000000):(O.map V.ref).length+(bs.map V.ref).length<=L9:=by
 rw[zb,zb,aK a2,aK S];exact aH hl
theorem iM{c x:o_}(F:bP H c r)(hx:H x=Nn):Ce (upd H x (.lst [.ref c])) x [r]:=#[[c],ai,.cons (ak hx _ _ _ F) .nil]
section
variable{CN:o_}
def iL(K:KE)(C:o_)(d:Nat):Sp:=λvs H Q _=>∃(p sp:o_) (a l:Nat) (t:Bool) (T:List vr) (kv:List (aP×V)) (S:o_->Prop),vs=[.ref p,.int (a:Int),.ref sp,.bl t]/\BQ K C S d H p l T/\dF d T/\H sp=Sm (.dK kv)/\fu kv d l T/\ap d T<=200/\d<=20/\
 ∀(q:o_) (H':Hp),su H H'->H q=Nn->Ce H' q (aM kv d t a l T)->Q (.ref q) H'
def AC(K:KE)(C:o_)(d:Nat):Sp:=λvs H Q _=>∃(x sp:o_) (a l:Nat) (n:Int) (b:List vr) (kv:List (aP×V)) (S:o_->Prop),vs=[.ref x,.int (a:Int),.ref sp]/\CF K C (ap d) S (BQ K C S d H) H x l (.whl n b)/\dF d b/\H sp=Sm (.dK kv)/\fu kv d (l+1) b/\ap d b<=200/\d<=20/\
 ∀(q:o_) (H':Hp),su H H'->H q=Nn->Ce H' q (fF (aM kv d) (ap d) a l n b)->Q (.ref q) H'
theorem eK{kv:List (aP×V)}{d a l:Nat}{t:Bool}{T:List vr}(h:ap d T<=200)(hd:d<=20):(aM kv d t a l T).length<=30000:=by
 have h1:=mI kv d a l T;have h2:6*(d+1)*ap d T<=6*21*200:=Nat.mul_le_mul () h;cases t with
 | false=>lia
 | true=>lia
theorem E7(D:xn K mg "loop_rows" cj) (ab:wAK mg) (U:Fl K CN "parts") (F:Fl K CN "lines") (O:Fl K CN "blocks") {d:Nat} (J:aD P w K mg base (3*d+2) "rows_of" qAN (iL K CN d)):aD P w K mg base (3*d+3) "loop_rows" qAw (AC K CN d):=by
 refine D.cal (k:=3*d+2) GT (λf bt A outer s H vs Q E hr h=>?_);revert h;refine yF8 λx sp a l n b kv S=>yB8 ?_;rintro rfl ⟨dx,pp,lp,bp,bs,g1,g2,g3,g4,g5,g6,g7⟩ ok a7 hk hc hd q;obtain⟨q0,rfl⟩ : ∃q0,bs=[q0]:=by
  cases g7 with
  | cons _ t=>cases t;exact#[_,rfl]
 have hb:BQ K CN S d H q0 (l+1) b:=by
  cases g7 with
  | cons h _=>exact h
 refine⟨_,(ah (ay 3 GT.nd (aw J hr (aa (am (ax K) (bG O (pv 0)) af) (aa (ar aF (pv 1) af) (aa (pv 2) (aa fZ ae)))) (hle:=())))
   (ah (ay 4 GT.nd (ar aF (ar aF (ar aF (pv 1) af) (bx (ba K) ab bK (aa (pv 3) ae))) af))
   (aj (az (ar aF (ar aF (aG (aa (aR (aa av (aa (am (ax K) (bG F (pv 0)) af) (aa (am (ax K) (bG U (pv 0)) af) (aa (pv 4) ae))))) ae)) (pv 3)) (aG (aa (aR (aa av (aa (am (ax K) (bG F (pv 0)) af) (aa (pv 1) ae)))) ae))))))),?_⟩
 cbv;refine yI3 dx _ _ #[g1,ij _ _ _ _,?_];cbv;refine X2 (ud.of g6) (aq (j:=0) (v:=V.ref q0) rfl) ?_;refine yI8 q0 sp (a+1) (l+1) false b kv S #['~',hb,ok,a7,hk,hc,hd,λwq H1 s1 bg hW=>?_];have a9:=eK (kv:=kv) (a:=a+1) (l:=l+1) (t:=false) hc hd;generalize hWW:aM kv d false (a+1) (l+1) b=W at hW a9;let#[be,w1,w2]:=id hW;have wl:=aK w2;rw?;refine#[_,.inl (ud.of w1),?_];rw[zb,wl];rw?;refine yI3 dx _ _ #[s1 _ _ g1,eC _ _ _ _,?_];cbv;refine X2 (ud.of (s1 _ _ g4)) (fq (i:=0) (n:=l) rfl) ?_;refine yI3 dx _ _ #[s1 _ _ g1,fg _ _ _ _,?_];cbv;refine yI2 _ _ #[.inr (g2.same s1),aq (j:=0) (v:=V.int n) rfl,∅,λt1 bh=>?_];∎;rename_i H2 s2 hH2;have a8:bP H2 t1 [.str "test",iN l,.int n,iN (a+1+W.length+1)]:=by
  show H2 t1=_;rw[hH2];simp[iN]
 refine#[∅,λl1 a5=>?_];have s3:=ak a5 (.lst [.ref t1]);have L1:=iM a8 a5;generalize upd H2 l1 (.lst [.ref t1])=H3 at s3 L1 |-;have a4:=s2.trans s3;let#[as,a1,a2]:=L1
 let#[ac,b1,b2]:=hW.mono a4;refine yI2 _ _ #[a1,b1,dH a2 b2 (by simp only[zy,yz];lia),λl2 ad=>?_];have s4:=ak ad (.lst (as.map V.ref++ac.map V.ref));have L2:=eV a2 b2 ad;generalize upd H3 l2 (.lst (as.map V.ref++ac.map V.ref))=H4 at s4 L2 |-;have Y:=(s1.trans a4).trans s4;refine yI3 dx _ _ #[Y _ _ g1,eC _ _ _ _,?_]
 cbv;refine X2 (ud.of (Y _ _ g4)) (fq (i:=1) (n:=l+1+ap d b) rfl) #[∅,λt2 bc=>?_];∎;rename_i H5 s5 hH5;have a6:bP H5 t2 [.str "jump",iN (l+1+ap d b),iN a]:=by
  show H5 t2=_;rw[hH5];simp[iN]
 refine#[∅,λl3 al=>?_];have s6:=ak al (.lst [.ref t2]);have L3:=iM a6 al;generalize upd H5 l3 (.lst [.ref t2])=H6 at s6 L3 |-;let#[ag,c1,c2]:=L2.mono (s5.trans s6)
 let#[a3,d1,d2]:=L3;refine yI2 _ _ #[c1,d1,dH c2 d2 (by simp only[zq,zy,yz];lia),λl4 Z=>?_];have s7:=ak Z (.lst (ag.map V.ref++a3.map V.ref));have L4:=eV c2 d2 Z;generalize upd H6 l4 (.lst (ag.map V.ref++a3.map V.ref))=H7 at s7 L4 |-;refine q l4 H7 (((Y.trans s5).trans s6).trans s7) (((Y.trans s5).trans s6).free Z) ?_
 unfold fF;rw[hWW];exact L4
end
section
variable{CN:o_}
def Dv(K:KE)(C:o_)(d:Nat):Sp:=λvs H Q _=>∃(x sp:o_) (a l:Nat) (t:Bool) (n:Int) (b:List vr) (kv:List (aP×V)) (S:o_->Prop),vs=[.ref x,.int (a:Int),.ref sp,.bl t]/\CF K C (ap d) S (BQ K C S d H) H x l (.whl n b)/\dF d b/\H sp=Sm (.dK kv)/\fu kv d (l+1) b/\ap d b<=200/\d<=20/\
 ∀(q:o_) (H':Hp),su H H'->H q=Nn->Ce H' q (dX (aM kv d) (ap d) t a l n b)->Q (.ref q) H'
theorem Di(D:xn K mg "while_rows" bD) (J:wAK mg) (ab:Fl K CN "parts") (Y:Fl K CN "lines") (U:Fl K CN "blocks") {d:Nat} (O:aD P w K mg base (3*d+2) "rows_of" qAN (iL K CN d)) (F:aD P w K mg base (3*d+3) "loop_rows" qAw (AC K CN d)):aD P w K mg base (3*d+4) "while_rows" qAQ (Dv K CN d):=by
 refine D.cal (k:=3*d+3) Gr (λf ca A outer s H vs Q E hr h=>?_);revert h;refine yF9 λx sp a l t n b kv S=>yB8 ?_;rintro rfl hN ok ac hk hc hd q;refine yE5 (id hN) λdx pp lp bp bs=>yB7 λg1 g2 g3 g4 g5 g6 g7=>?_;obtain⟨q0,rfl⟩ : ∃q0,bs=[q0]:=by
  cases g7 with
  | cons _ t=>cases t;exact#[_,rfl]
 have hb:BQ K CN S d H q0 (l+1) b:=by
  cases g7 with
  | cons h _=>exact h
 refine⟨_,(ah (aY (jC (cN (pv 3))) (aj (az (aw F hr (aa (pv 0) (aa (pv 1) (aa (pv 2) ae))) (hle:=())))) aN)
   (ah (ay 4 Gr.nd (aw O hr (aa (am (ax K) (bG U (pv 0)) af) (aa (ar aF (pv 1) af) (aa (pv 2) (aa fZ ae)))) (hle:=())))
   (ah (ay 5 Gr.nd (aw F hr (aa (pv 0) (aa (ar aF (ar aF (pv 1) af) (bx (ba K) J bK (aa (pv 4) ae))) (aa (pv 2) ae))) (hle:=())))
   (ah (ay 6 Gr.nd (ar aF (ar aF (ar aF (pv 1) af) (bx (ba K) J bK (aa (pv 4) ae))) (bx (ba K) J bK (aa (pv 5) ae))))
   (aj (az (ar aF (ar aF (aG (aa (aR (aa av (aa (am (ax K) (bG Y (pv 0)) af) (aa (am (ax K) (bG ab (pv 0)) af) (aa (pv 6) ae))))) ae)) (pv 4)) (pv 5)))))))),?_⟩
 cbv;cases t with
 | false=>
  refine aT (λ_=>?_) (λc=>absurd rfl c);exact yI8 x sp a l n b kv S #[rfl,hN,ok,ac,hk,hc,hd,λq' H' s' a9 L'=>q q' H' s' a9 (by unfold dX;rw[Lu ∅];exact L')]
 | true=>
  refine aT (λc=>absurd c ∅) (λ_=>?_);rw?;refine yI3 dx _ _ #[g1,ij _ _ _ _,?_];cbv;refine X2 (ud.of g6) (aq (j:=0) (v:=V.ref q0) rfl) ?_;refine yI8 q0 sp (a+1) (l+1) true b kv S #['~',hb,ok,ac,hk,hc,hd,λwq H1 s1 b0 hW=>?_];have bc:=eK (kv:=kv) (a:=a+1) (l:=l+1) (t:=true) hc hd;generalize hWW:aM kv d true (a+1) (l+1) b=W at hW bc;let#[bh,w1,w2]:=id hW;have wl:=aK w2;rw?;refine#[_,.inl (ud.of w1),?_];rw[zb,wl];cbv;refine yI8 x sp (a+1+W.length) l n b kv S #['~',hN.mono s1,ok,s1 _ _ ac,hk,hc,hd,λlq H2 s2 bg ag=>?_];have be:(fF (aM kv d) (ap d) (a+1+W.length) l n b).length<=30002:=by
   rw[j1];have:=eK (kv:=kv) (a:=a+1+W.length+1) (l:=l+1) (t:=false) hc hd;lia
  generalize hLL:fF (aM kv d) (ap d) (a+1+W.length) l n b=LP at ag be;let#[bt,l1,l2]:=id ag;have ll:=aK l2;have Z:=s1.trans s2;rw?;refine#[_,.inl (ud.of (s2 _ _ w1)),?_];rw[zb,wl];cbv;refine#[_,.inl (ud.of l1),?_];rw[zb,ll];rw?;refine yI3 dx _ _ #[Z _ _ g1,eC _ _ _ _,?_];cbv;refine X2 (ud.of (Z _ _ g4)) (fq (i:=0) (n:=l) rfl) ?_;refine yI3 dx _ _ #[Z _ _ g1,fg _ _ _ _,?_];cbv;refine yI2 _ _ #[.inr (g2.same Z),aq (j:=0) (v:=V.int n) rfl,∅,λt1 b3=>?_];∎;rename_i H3 s3 hH3;have a8:bP H3 t1 [.str "test",iN l,.int n,iN (a+1+W.length+LP.length)]:=by
   show H3 t1=_;rw[hH3];simp[iN]
  refine#[∅,λm1 a7=>?_];have s4:=ak a7 (.lst [.ref t1]);have L1:=iM a8 a7;generalize upd H3 m1 (.lst [.ref t1])=H4 at s4 L1 |-;let#[a4,a1,a2]:=L1
  let#[al,b1,b2]:=hW.mono ((s2.trans s3).trans s4);refine yI2 _ _ #[a1,b1,dH a2 b2 (by simp only[zy,yz];lia),λm2 as=>?_];have s5:=ak as (.lst (a4.map V.ref++al.map V.ref));have L2:=eV a2 b2 as;generalize upd H4 m2 (.lst (a4.map V.ref++al.map V.ref))=H5 at s5 L2 |-;let#[a3,c1,c2]:=L2
  let#[a5,d1,d2]:=ag.mono ((s3.trans s4).trans s5);refine yI2 _ _ #[c1,d1,dH c2 d2 (by simp only[zq,zy,yz];lia),λm3 ad=>?_];have s6:=ak ad (.lst (a3.map V.ref++a5.map V.ref));have L4:=eV c2 d2 ad;generalize upd H5 m3 (.lst (a3.map V.ref++a5.map V.ref))=H6 at s6 L4 |-;have a6:=((Z.trans s3).trans s4).trans s5;refine q m3 H6 (a6.trans s6) (a6.free ad) ?_
  unfold dX;rw[Lz rfl,hWW,hLL];exact L4
def Ko(K:KE)(C:o_)(d:Nat):Sp:=λvs H Q _=>∃(x sp:o_) (a l:Nat) (t:Bool) (n:Int) (b c:List vr) (kv:List (aP×V)) (S:o_->Prop),vs=[.ref x,.int (a:Int),.ref sp,.bl t]/\CF K C (ap d) S (BQ K C S d H) H x l (.ite n b c)/\dF d b/\dF d c/\H sp=Sm (.dK kv)/\fu kv d (l+1) b/\fu kv d (l+1+ap d b+1) c/\ap d b<=200/\ap d c<=200/\d<=20/\
 ∀(q:o_) (H':Hp),su H H'->H q=Nn->Ce H' q (kh (aM kv d) (ap d) t a l n b c)->Q (.ref q) H'
theorem Kf(D:xn K mg "if_rows" bJ) (Z:wAK mg) (Y:Fl K CN "parts") (O:Fl K CN "lines") (J:Fl K CN "blocks") {d:Nat} (F:aD P w K mg base (3*d+2) "rows_of" qAN (iL K CN d)):aD P w K mg base (3*d+3) "if_rows" qAQ (Ko K CN d):=by
 refine D.cal (k:=3*d+2) Gp (λf cd A outer s H vs Q E hr h=>?_);revert h;refine yF10 λx sp a l t n b c kv S=>yB11 ?_;rintro rfl hN ok b3 a9 hk ca hc a6 hd q;refine yE5 (id hN) λdx pp lp bp bs=>yB7 λg1 g2 g3 g4 g5 g6 g7=>?_;obtain⟨q0,q1,rfl⟩ : ∃q0 q1,bs=[q0,q1]:=by
  cases g7 with
  | cons _ t=>cases t with
   | cons _ t=>cases t;exact yI2 _ _ rfl
 have hb:BQ K CN S d H q0 (l+1) b/\BQ K CN S d H q1 (l+1+ap d b+1) c:=by
  cases g7 with
  | cons h t=>cases t with
   | cons h' _=>exact#[h,h']
 refine⟨_,(ah (ay 4 Gp.nd (aw F hr (aa (am (ax K) (bG J (pv 0)) af) (aa (ar aF (pv 1) af) (aa (pv 2) (aa (pv 3) ae)))) (hle:=())))
   (ah (ay 5 Gp.nd (ar aF (ar aF (pv 1) af) (bx (ba K) Z bK (aa (pv 4) ae))))
   (ah (ay 6 Gp.nd (aw F hr (aa (am (ax K) (bG J (pv 0)) af) (aa (ar aF (pv 5) af) (aa (pv 2) (aa (pv 3) ae)))) (hle:=())))
   (ah (ay 7 Gp.nd (ar aF (ar aF (pv 5) af) (bx (ba K) Z bK (aa (pv 6) ae))))
   (ah (ay 8 Gp.nd (aR (aa av (aa (am (ax K) (bG O (pv 0)) af) (aa (am (ax K) (bG Y (pv 0)) af) (aa (ar aF (pv 5) af) ae))))))
   (aj (az (ar aF (ar aF (ar aF (aG (aa (pv 8) ae)) (pv 4)) (aG (aa (aR (aa av (aa (am (ax K) (bG O (pv 0)) af) (aa (pv 7) ae)))) ae))) (pv 6))))))))),?_⟩
 cbv;refine yI3 dx _ _ #[g1,ij _ _ _ _,?_];cbv;refine X2 (ud.of g6) (aq (j:=0) (v:=V.ref q0) rfl) ?_;refine yI8 q0 sp (a+1) (l+1) t b kv S #['~',hb.1,ok,a9,hk,hc,hd,λwq H1 s1 ce hW=>?_];have b0:=eK (kv:=kv) (a:=a+1) (l:=l+1) (t:=t) hc hd;generalize hWW:aM kv d t (a+1) (l+1) b=W at hW b0;let#[cn,w1,w2]:=id hW;have wl:=aK w2;rw?;refine#[_,.inl (ud.of w1),?_];rw[zb,wl];rw?;refine yI3 dx _ _ #[s1 _ _ g1,ij _ _ _ _,?_];cbv;refine X2 (ud.of (s1 _ _ g6)) (aq (j:=1) (v:=V.ref q1) rfl) ?_;refine yI8 q1 sp (a+1+W.length+1) (l+1+ap d b+1) t c kv S #['~',hb.2.mono s1,b3,s1 _ _ a9,ca,a6,hd,λrq H2 s2 cc hR=>?_];have bh:=eK (kv:=kv) (a:=a+1+W.length+1) (l:=l+1+ap d b+1) (t:=t) a6 hd;generalize hRR:aM kv d t (a+1+W.length+1) (l+1+ap d b+1) c=R at hR bh;let#[cq,r1,r2]:=id hR;have rl:=aK r2;have U:=s1.trans s2;rw?;refine#[_,.inl (ud.of r1),?_];rw[zb,rl];rw?;refine yI3 dx _ _ #[U _ _ g1,eC _ _ _ _,?_];cbv;refine X2 (ud.of (U _ _ g4)) (fq (i:=0) (n:=l) rfl) ?_;refine yI3 dx _ _ #[U _ _ g1,fg _ _ _ _,?_];cbv;refine yI2 _ _ #[.inr (g2.same U),aq (j:=0) (v:=V.int n) rfl,∅,λt1 cv=>?_];∎;rename_i H3 s3 hH3;have bt:bP H3 t1 [.str "test",iN l,.int n,iN (a+1+W.length+1)]:=by
  show H3 t1=_;rw[hH3];simp[iN]
 rw?;refine#[∅,λm1 as=>?_];have s4:=ak as (.lst [.ref t1]);have L1:=iM bt as;generalize upd H3 m1 (.lst [.ref t1])=H4 at s4 L1 |-;let#[a3,a1,a2]:=L1
 let#[a5,b1,b2]:=hW.mono ((s2.trans s3).trans s4);refine yI2 _ _ #[a1,b1,dH a2 b2 (by simp only[zy,yz];lia),λm2 bc=>?_];have s5:=ak bc (.lst (a3.map V.ref++a5.map V.ref));have L2:=eV a2 b2 bc;generalize upd H4 m2 (.lst (a3.map V.ref++a5.map V.ref))=H5 at s5 L2 |-;have ac:=((U.trans s3).trans s4).trans s5;refine yI3 dx _ _ #[ac _ _ g1,eC _ _ _ _,?_]
 cbv;refine X2 (ud.of (ac _ _ g4)) (fq (i:=1) (n:=l+1+ap d b) rfl) #[∅,λt2 cb=>?_];∎;rename_i H6 s6 hH6;have bg:bP H6 t2 [.str "jump",iN (l+1+ap d b),iN (a+1+W.length+1+R.length)]:=by
  show H6 t2=_;rw[hH6];simp[iN]
 refine#[∅,λm3 a7=>?_];have s7:=ak a7 (.lst [.ref t2]);have L3:=iM bg a7;generalize upd H6 m3 (.lst [.ref t2])=H7 at s7 L3 |-;let#[be,c1,c2]:=L2.mono (s6.trans s7)
 let#[al,d1,d2]:=L3;refine yI2 _ _ #[c1,d1,dH c2 d2 (by simp only[zq,zy,yz];lia),λm4 ad=>?_];have s8:=ak ad (.lst (be.map V.ref++al.map V.ref));have L4:=eV c2 d2 ad;generalize upd H7 m4 (.lst (be.map V.ref++al.map V.ref))=H8 at s8 L4 |-;let#[ag,e1,e2]:=L4
 let#[a8,f1,f2]:=hR.mono (((((s3.trans s4).trans s5).trans s6).trans s7).trans s8);refine yI2 _ _ #[e1,f1,dH e2 f2 (by simp only[zq,zy,yz];lia),λm5 ab=>?_];have s9:=ak ab (.lst (ag.map V.ref++a8.map V.ref));have L5:=eV e2 f2 ab;generalize upd H8 m5 (.lst (ag.map V.ref++a8.map V.ref))=H9 at s9 L5 |-;have a4:=((ac.trans s6).trans s7).trans s8;refine q m5 H9 (a4.trans s9) (a4.free ab) ?_
 unfold kh;rw[hWW,hRR];exact L5
end
section
variable{CN:o_}
def FU(K:KE)(C:o_)(d:Nat):Sp:=λvs H Q _=>∃(z sp:o_) (a l:Nat) (t:Bool) (x y:Str) (b:List vr) (kv:List (aP×V)) (S:o_->Prop),vs=[.ref z,.int (a:Int),.ref sp,.bl t]/\CF K C (ap d) S (BQ K C S d H) H z l (.lend x y b)/\dF d b/\H sp=Sm (.dK kv)/\iT kv (.inr x)/\iT kv (.inr y)/\iT kv (.inl (l:Int))/\fu kv d (l+1) b/\ap d b<=200/\d<=20/\
 ∀(q:o_) (H':Hp),su H H'->H q=Nn->Ce H' q (f6 kv (aM kv d) (ap d) t a l x y b)->Q (.ref q) H'
theorem nA{O F x:o_}{S W U:aE}(h1:bP H O S)(h2:bP H J W)(Y:bP H F U)(hx:H x=Nn):Ce (upd H x (.lst [.ref O,.ref J,.ref F])) x [S,W,U]:=#[[O,J,F],ai,.cons (ak hx _ _ _ h1) (.cons (ak hx _ _ _ h2) (.cons (ak hx _ _ _ Y) .nil))]
theorem F9(D:xn K mg "lend_rows" bf) (ag:wAK mg) (F:Fl K CN "parts") (J:Fl K CN "lines") (U:Fl K CN "blocks") {d:Nat} (O:aD P w K mg base (3*d+2) "rows_of" qAN (iL K CN d)):aD P w K mg base (3*d+3) "lend_rows" qAQ (FU K CN d):=by
 refine D.cal (k:=3*d+2) Cu (λf cd A outer s H vs Q E hr h=>?_);revert h;refine yF10 λz sp a l t x y b kv S=>yB11 ?_;rintro rfl hN ok Z kx ky kl hk hc hd q;refine yE5 (id hN) λdx pp lp bp bs=>yB7 λg1 g2 g3 g4 g5 g6 g7=>?_;obtain⟨q0,rfl⟩ : ∃q0,bs=[q0]:=by
  cases g7 with
  | cons _ t=>cases t;exact#[_,rfl]
 have hb:BQ K CN S d H q0 (l+1) b:=by
  cases g7 with
  | cons h _=>exact h
 refine⟨_,(ah (ay 4 Cu.nd (am (ax K) (bG J (pv 0)) af))
   (ah (ay 5 Cu.nd (am (ax K) (bG J (pv 0)) af))
   (ah (ay 6 Cu.nd (am (rZ K) (pv 2) (am (ax K) (bG F (pv 0)) af)))
   (ah (ay 7 Cu.nd (am (rZ K) (pv 2) (am (ax K) (bG F (pv 0)) af)))
   (ah (ay 8 Cu.nd (am (rZ K) (pv 2) (pv 4)))
   (ah (ay 9 Cu.nd (aG (aa (aR (aa av (aa (pv 4) (aa (pv 8) (aa (pv 6) ae))))) (aa (aR (aa av (aa (pv 4) (aa (pv 8) (aa av ae))))) (aa (aR (aa av (aa (pv 4) (aa (pv 7) (aa (pv 8) ae))))) ae)))))
   (ah (ay 10 Cu.nd (aw O hr (aa (am (ax K) (bG U (pv 0)) af) (aa (ar aF (pv 1) (bx (ba K) ag bK (aa (pv 9) ae))) (aa (pv 2) (aa (pv 3) ae)))) (hle:=())))
   (aj (az (ar aF (ar aF (pv 9) (pv 10)) (aG (aa (aR (aa av (aa (pv 5) (aa (pv 8) (aa av ae))))) (aa (aR (aa av (aa (pv 5) (aa (pv 7) ae)))) (aa (aR (aa av (aa (pv 5) (aa (pv 8) ae)))) ae)))))))))))))),?_⟩
 cbv;refine yI3 dx _ _ #[g1,eC _ _ _ _,?_];cbv;refine X2 (ud.of g4) (fq (i:=0) (n:=l) rfl) ?_;rw?;refine yI3 dx _ _ #[g1,eC _ _ _ _,?_];cbv;refine X2 (ud.of g4) (fq (i:=1) (n:=l+1+ap d b) rfl) ?_;rw?;refine yI3 dx _ _ #[g1,fg _ _ _ _,?_];cbv;refine yI2 _ _ #[.inr g2,aq (j:=0) (v:=V.str x) rfl,.inr (yI4 sp kv (.inr x) _ #[rfl,rfl,Z,kx,?_])];rw?;refine yI3 dx _ _ #[g1,fg _ _ _ _,?_];cbv;refine yI2 _ _ #[.inr g2,aq (j:=1) (v:=V.str y) rfl,.inr (yI4 sp kv (.inr y) _ #[rfl,rfl,Z,ky,?_])];rw?;refine .inr (yI4 sp kv (.inl (l:Int)) _ #[rfl,rfl,Z,kl,?_]);generalize hgx:cy kv (.inr x)=gx;generalize hgy:cy kv (.inr y)=gy;generalize hgl:cy kv (.inl (l:Int))=gl;rw?;refine#[∅,λt1 cc=>?_];generalize hH1:upd H t1 _=H1;have s1:su H H1:=by rw[<-hH1];exact ak cc _
 have r1:bP H1 t1 [.str "copy",iN l,gl,gx]:=by show H1 t1=_;rw[<-hH1];exact ai
 refine#[∅,λt2 be=>?_];generalize hH2:upd H1 t2 _=H2;have s2:su H1 H2:=by rw[<-hH2];exact ak be _
 have r2:bP H2 t2 [.str "do",iN l,gl,.str "lend"]:=by show H2 t2=_;rw[<-hH2];exact ai
 refine#[∅,λt3 cb=>?_];generalize hH3:upd H2 t3 _=H3;have s3:su H2 H3:=by rw[<-hH3];exact ak cb _
 have r3:bP H3 t3 [.str "copy",iN l,gy,gl]:=by show H3 t3=_;rw[<-hH3];exact ai
 refine#[∅,λm1 a3=>?_];have s4:=ak a3 (.lst [.ref t1,.ref t2,.ref t3]);have L1:=nA (s3 _ _ (s2 _ _ r1)) (s3 _ _ r2) r3 a3;have a4:upd H3 m1 (.lst [.ref t1,.ref t2,.ref t3]) m1=Sm (.lst [.ref t1,.ref t2,.ref t3]):=ai;generalize upd H3 m1 (.lst [.ref t1,.ref t2,.ref t3])=H4 at s4 L1 a4 |-;have Y:=((s1.trans s2).trans s3).trans s4;rw?;refine yI3 dx _ _ #[Y _ _ g1,ij _ _ _ _,?_]
 cbv;refine X2 (ud.of (Y _ _ g6)) (aq (j:=0) (v:=V.ref q0) rfl) ?_;cbv;refine#[_,.inl (ud.of a4),?_];refine yI8 q0 sp (a+3) (l+1) t b kv S #['~',hb.mono Y,ok,Y _ _ Z,hk,hc,hd,λwq H5 s5 ce hW=>?_];have bh:=eK (kv:=kv) (a:=a+3) (l:=l+1) (t:=t) hc hd;generalize hWW:aM kv d t (a+3) (l+1) b=W at hW bh;have b0:=Y.trans s5;rw?;let#[a5,a1,a2]:=L1.mono s5;let#[a6,b1,b2]:=id hW;refine yI2 _ _ #[a1,b1,dH a2 b2 (by simp only[zy,yz];lia),λm2 a8=>?_];have s6:=ak a8 (.lst (a5.map V.ref++a6.map V.ref));have L2:=eV a2 b2 a8;generalize upd H5 m2 (.lst (a5.map V.ref++a6.map V.ref))=H6 at s6 L2 |-;refine⟨∅,λt4 ca=>?_⟩
 generalize hH7:upd H6 t4 _=H7;have s7:su H6 H7:=by rw[<-hH7];exact ak ca _
 have r4:bP H7 t4 [.str "do",iN (l+1+ap d b),gl,.str "back"]:=by show H7 t4=_;rw[<-hH7];exact ai
 refine#[∅,λt5 bt=>?_];generalize hH8:upd H7 t5 _=H8;have s8:su H7 H8:=by rw[<-hH8];exact ak bt _
 have r5:bP H8 t5 [.str "drop",iN (l+1+ap d b),gy]:=by show H8 t5=_;rw[<-hH8];exact ai
 refine#[∅,λt6 b3=>?_];generalize hH9:upd H8 t6 _=H9;have s9:su H8 H9:=by rw[<-hH9];exact ak b3 _
 have r6:bP H9 t6 [.str "drop",iN (l+1+ap d b),gl]:=by show H9 t6=_;rw[<-hH9];exact ai
 refine#[∅,λm3 a7=>?_];have ad:=ak a7 (.lst [.ref t4,.ref t5,.ref t6]);have L3:=nA (s9 _ _ (s8 _ _ r4)) (s9 _ _ r5) r6 a7;generalize upd H9 m3 (.lst [.ref t4,.ref t5,.ref t6])=bc at ad L3 |-;let#[a9,c1,c2]:=L2.mono (((s7.trans s8).trans s9).trans ad)
 let#[al,d1,d2]:=L3;refine yI2 _ _ #[c1,d1,dH c2 d2 (by simp only[zq,zy,yz];lia),λm4 ac=>?_];have as:=ak ac (.lst (a9.map V.ref++al.map V.ref));have L4:=eV c2 d2 ac;generalize upd bc m4 (.lst (a9.map V.ref++al.map V.ref))=bg at as L4 |-;have ab:=((((b0.trans s6).trans s7).trans s8).trans s9).trans ad;refine q m4 bg (ab.trans as) (ab.free ac) ?_
 unfold f6;rw[hWW,hgx,hgy,hgl];exact L4
theorem vU(D:xn K mg "rows_of" bS) (DL:xn K mg "lend_rows" bf) (DI:xn K mg "if_rows" bJ) (DO:xn K mg "loop_rows" cj) (DW:xn K mg "while_rows" bD) (DS:xn K mg "simple_row" bM) (W:wAK mg) (ad:mg "tuple" = Nn) (U:Fl K CN "kind") (J:Fl K CN "parts") (O:Fl K CN "lines") (F:Fl K CN "blocks"):∀d:Nat,aD P w K mg base (3*d+2) "rows_of" qAN (iL K CN d)
 | 0=>D.cal (k:=1) GE (λf cd A outer s H vs Q E hr h=>by revert h;refine yF8 λ_ _ _ _ _ _ _ _=>yB3 ?_;rintro rfl z _;exact z.elim)
 | d+1=>by
  have ih:=vU D DL DI DO DW DS W ad U J O F d;have ac:=F9 DL W J O F ih;have ag:=Kf DI W J O F ih;have Z:=Di DW W J O F ih (E7 DO W J O F ih);have Y:=AA (P:=P) (w:=w) (base:=base) DS ad U J O;refine D.cal (k:=3*d+4) GE (λf cd A outer s H vs Q E hr h=>?_);revert h;refine yF8 λp sp a l t T kv S=>yB8 ?_;rintro rfl ⟨h0,as,h1,h2⟩ ok a8 hk hc hd q;have a9:=aK h2;rw[gX]at a9;refine⟨_,(ah (ay 4 GE.nd (aG ae))
   (ah (cg pD rfl (bF K (pv 0)) (aS 5 GE.nd) (ah (ay 6 GE.nd (ar aF (pv 1) (bx (ba K) W bK (aa (pv 4) ae))))
   (aj (aY (aA aL (bG U (pv 5)) av (aB _)) (aj (bm (bB K yY Lg K6 eJ (pv 4) (aa (aw ac hr (aa (pv 5) (aa (pv 6) (aa (pv 2) (aa (pv 3) ae)))) (hle:=())) ae)))) (aj (aY (aA aL (bG U (pv 5)) av (aB _)) (aj (bm (bB K yY Lg K6 eJ (pv 4) (aa (aw ag hr (aa (pv 5) (aa (pv 6) (aa (pv 2) (aa (pv 3) ae)))) (hle:=())) ae)))) (aj (aY (aA aL (bG U (pv 5)) av (aB _)) (aj (bm (bB K yY Lg K6 eJ (pv 4) (aa (aw Z hr (aa (pv 5) (aa (pv 6) (aa (pv 2) (aa (pv 3) ae)))) (hle:=())) ae)))) (aj (bm (bB K yY ux uC br (pv 4) (aa (aw Y hr (aa (pv 5) (aa (pv 2) ae)) (hle:=())) ae))))))))))))
   (aj (az (pv 4))))),?_⟩
  cbv;refine#[∅,λR hR=>?_];∎;rename_i H1 s1 be;have be:H1 R=Sm (.lst (([]:MD).map V.ref)):=be;rw?;refine#[#[_,ud.of (s1 _ _ h1)],?_];have b2:∀ {z:o_} {o:HO},H z=Sm o->z≠R:=λe=>aQ e hR;refine cL (xs:=as.map V.ref) (λi σ H'=>∃(o5 o6:MK),σ=[Sm (.ref p),Sm (.int (a:Int)),Sm (.ref sp),Sm (.bl t),Sm (.ref R),o5,o6]/\su H H'/\Ce H' R (aM kv (d+1) t a l (T.take i)))
   (yI2 _ _ #[rfl,s1,[],be,.nil]) (λi σ H' _ hh=>by revert hh;refine yF2 λ_ _=>yB3 λ_ sm _=>?_;exact ud.of (sm _ _ h1)) (λi v σ H2 hv hh=>?_) (λσ H2 hh=>?_)
  .revert hh;refine yF2 λo5 o6=>yB3 ?_;rintro rfl sm;refine yF1 λbh=>yB2 λr1 r2=>?_;rw[zz]at hv;cases hi:as[i]? with
   | none=>rw[hi]at hv;cases hv
   | some x=>
    rw[hi]at hv;cases hv;have b1:i<T.length:=by have:=(Lq.mp hi).1;lia
    have hs:=zd b1;have hz:=wY (bv (ap d)) l T i _ hs;let#[z,a7,bg]:=cD h2 hi;rw[hz]at a7;have a7:=Option.some.inj a7;subst a7;have al:=hk _ (xO hz);have a5:=gV b1;generalize T[i]=st at hs hz bg al a5;have a3:=ok st a5;have cv:=o8 (d:=d) a5;generalize hl':l+((T.take i).map (bv (ap d))).sum=l' at hz bg al;have cn:T.take (i+1)=T.take i++[st]:=by rw[sR,hs];rfl
    have b3:aM kv (d+1) t a l (T.take (i+1))=aM kv (d+1) t a l (T.take i)++fc kv (aM kv d) (ap d) t (a+(aM kv (d+1) t a l (T.take i)).length) l' st:=by
     rw[cn];show cV _ _ a l (T.take i++[st])=_;rw[lV,hl'];rfl
    have cq:=tI (d:=d) (i:=i) (T:=T);have bt:=eK (kv:=kv) (d:=d+1) (a:=a) (l:=l) (t:=t) (T:=T.take i) () hd;rw[b3];generalize aM kv (d+1) t a l (T.take i)=pre at r2 bt;have rl:=aK r2;have hx2:=bg.mono sm;refine yE5 (id hx2) λdx pp lp bp bs=>yB7 λg1 g2 g3 g4 g5 g6 g7=>?_;have put:∀ {b:o_} {H3:Hp} {rows:List aE},su H2 H3->Ce H3 b rows->b≠R->rows.length<=100000->∃xs zs,H3 R=Sm (.lst xs)/\H3 b=Sm (.lst zs)/\xs.length+zs.length<=L9/\(su H (upd H3 R (.lst (xs++zs)))/\Ce (upd H3 R (.lst (xs++zs))) R (pre++rows)):=λ{b H3 rows} s3 hL cz cA=>by
     let#[ca,e1,e2]:=hL;have bl:=aK e2;have a4:=s3 _ _ r1;have tp:∀ {c:o_} {r:aE},bP H3 c r->bP (upd H3 R (.lst (bh.map V.ref++ca.map V.ref))) c r:=λ{c r} z=>by
      show upd H3 R _ c=_;rw[au (dh z a4 (λy=>nomatch y))];exact z
     refine yI2 _ _ #[a4,e1,by rw[zb,zb,rl,bl];exact aH (),λc o y=>?_,bh++ca,by rw[ai,yb],eY (L8.imp' (λ_ _ y=>tp (s3 _ _ y)) r2) (L8.imp' (λ_ _ y=>tp y) e2)];rw[au (b2 y)];exact s3 _ _ (sm _ _ y)
    cbv;refine#[_,.inl (ud.of r1),?_];rw[zb,rl];rw?;refine yI3 dx _ _ #[g1,gg _ _ _ _,?_];cbv;have ab:bv (ap d) st<=200:=()
    have bc:(fc kv (aM kv d) (ap d) t (a+pre.length) l' st).length<=30000:=by
     have:=eK (kv:=kv) (d:=d+1) (a:=a+pre.length) (l:=l') (t:=t) (T:=[st]) (by show bv (ap d) st+0<=200;lia) hd;have e:aM kv (d+1) t (a+pre.length) l' [st]=fc kv (aM kv d) (ap d) t (a+pre.length) l' st++[]:=rfl;rw[e,Jg]at this;exact this
    cases st with
    | lend x0 y0 b0=>
     obtain⟨k1,k2,k3,k4⟩ : iT kv (.inr x0)/\iT kv (.inr y0)/\iT kv (.inl (l':Int))/\fu kv d (l'+1) b0:=al;have cb:ap d b0+2<=200:=ab;refine aT (λ_=>?_) (λc=>absurd rfl c);refine#[#[_,ud.of r1],yI10 x sp (a+pre.length) l' t x0 y0 b0 kv S #['~',hx2,a3.2.2,sm _ _ a8,k1,k2,k3,k4,(),(),λq' H3 s3 a6 L3=>?_]];dsimp only;rw[gC];refine yE2 (put s3 L3 (aQ r1 a6).symm (by have:(f6 kv (aM kv d) (ap d) t (a+pre.length) l' x0 y0 b0).length<=30000:=bc;lia)) λxs zs=>yB5 λp1 p2 p3 p4 p5=>?_;exact yI2 xs zs #[p1,p2,p3,yI2 _ _ #[rfl,p4,p5]]
    | ite n0 b0 c0=>
     obtain⟨k1,k2⟩ : fu kv d (l'+1) b0/\fu kv d (l'+1+ap d b0+1) c0:=al;have cb:ap d b0+ap d c0+3<=200:=ab;refine aT (λc=>absurd c (by show ¬ (Str.ofString "if" = Str.ofString "lend");decide +kernel)) (λ_=>?_);refine yI3 dx _ _ #[g1,gg _ _ _ _,?_];cbv;refine aT (λ_=>?_) (λc=>absurd rfl c);refine#[#[_,ud.of r1],yI10 x sp (a+pre.length) l' t n0 b0 c0 kv S #['~',hx2,a3.2.1,a3.2.2,sm _ _ a8,k1,k2,(),(),(),λq' H3 s3 a6 L3=>?_]];dsimp only;rw[gC];refine yE2 (put s3 L3 (aQ r1 a6).symm (by have:(kh (aM kv d) (ap d) t (a+pre.length) l' n0 b0 c0).length<=30000:=bc;lia)) λxs zs=>yB5 λp1 p2 p3 p4 p5=>?_;exact yI2 xs zs #[p1,p2,p3,yI2 _ _ #[rfl,p4,p5]]
    | whl n0 b0=>
     have k1:fu kv d (l'+1) b0:=al;have cb:ap d b0+2<=200:=ab;refine aT (λc=>absurd c (by show ¬ (Str.ofString "while" = Str.ofString "lend");decide +kernel)) (λ_=>?_);refine yI3 dx _ _ #[g1,gg _ _ _ _,?_];cbv;refine aT (λc=>absurd c (by show ¬ (Str.ofString "while" = Str.ofString "if");decide +kernel)) (λ_=>?_);refine yI3 dx _ _ #[g1,gg _ _ _ _,?_];cbv;refine aT (λ_=>?_) (λc=>absurd rfl c);refine#[#[_,ud.of r1],yI9 x sp (a+pre.length) l' t n0 b0 kv S #['~',hx2,a3.2,sm _ _ a8,k1,(),(),λq' H3 s3 a6 L3=>?_]];dsimp only;rw[gC];refine yE2 (put s3 L3 (aQ r1 a6).symm (by have:(dX (aM kv d) (ap d) t (a+pre.length) l' n0 b0).length<=30000:=bc;lia)) λxs zs=>yB5 λp1 p2 p3 p4 p5=>?_;exact yI2 xs zs #[p1,p2,p3,yI2 _ _ #[rfl,p4,p5]]
    | plain ws=>
     have cc:ws.headD "" ∈ dz:=a3.kind;have nk:∀ {u:Str},u∉dz->¬ kindOf (.plain ws)=u:=λhu c=>hu (by have c':ws.headD "" = _:=c;rw[<-c'];exact cc);refine aT (λc=>absurd c (nk ⋯)) (λ_=>?_);refine yI3 dx _ _ #[g1,gg _ _ _ _,?_];cbv;refine aT (λc=>absurd c (nk ⋯)) (λ_=>?_);refine yI3 dx _ _ #[g1,gg _ _ _ _,?_];cbv;refine aT (λc=>absurd c (nk ⋯)) (λ_=>?_);refine#[#[_,ud.of r1],yI9 x sp l' ws kv S _ (ap d) (fu kv d) #[rfl,hx2,a3,sm _ _ a8,al,λc H3 s3 ce=>?_]];have a4:=s3 _ _ r1;have tp:∀ {c:o_} {r:aE},bP H3 c r->∀zs,bP (upd H3 R (.lst zs)) c r:=λ{c r} z zs=>by
      show upd H3 R _ c=_;rw[au (dh z a4 (λy=>nomatch y))];exact z
     cbv;refine#[_,a4,cC (by rw[zb];lia),yI2 _ _ #[rfl,λc' o y=>?_,bh++[c],by rw[ai,yb];rfl,eY (L8.imp' (λ_ _ y=>tp (s3 _ _ y) _) r2) (.cons (tp ce _) .nil)]];rw[au (b2 y)];exact s3 _ _ (sm _ _ y)
  .revert hh;refine yF2 λo5 o6=>yB3 ?_;rintro rfl sm hL;rw[zb,a9,ir]at hL;rw?;exact q R H2 sm hR hL
end
noncomputable def hU(s:Str):Bool:=decide (0+("lend " : Str).length<=s.length)&&OP s "lend " 0
noncomputable def gB(L:MA):MB:=(List.range L.length).filter λi=>hU (L.getD i "")
def mh(d:Nat):Sp:=λvs H Q _=>∃(p:o_) (L:MA),vs=[.ref p]/\EW d H p L/\L.length<=1000/\∀(q:o_) (H':Hp),su H H'->H q=Nn->H' q=Sm (.lst ((gB L).map iN))->Q (.ref q) H'
theorem l7(f:Nat->Bool)(i:Nat):(List.range (i+1)).filter f=(List.range i).filter f++(if f i=true then [i] else []):=by
 rw[List.range_succ,zaY];congr 1;rw[List.filter_cons];split<;>rfl
theorem uQ(D:xn K mg "lend_lines" bU) (J:mg "enumerate" = Nn) {k:Nat} (O:aD P w K mg base k "lines_of" ["program"] (xl d)):aD P w K mg base (k+1) "lend_lines" ["program"] (mh d):=by
 refine D.cal (k:=k) qU (λf ac A outer s H vs Q E hr h=>?_);revert h;refine yF2 λp L=>yB4 ?_;rintro rfl hL hl q;refine#[_,(aj (az (dn (CO.to (fsc:=(sg bU)) (N:=["program"]) (N0:=["program"]) (T:=["at","line"])) rfl (mN K Mn J (aa (aw O hr (aa (pv 0) ae) (hle:=())) ae)) (λ_ _ _ _=>(jv K (n:=2) (cW (aS 1 (show (["program","at","line"]:MA).Nodup from ⋯)) (cW (aS 2 (show (["program","at","line"]:MA).Nodup from ⋯)) iJ)))) (wA (jc (bW (show (["program"]:MA).length<=1 from ∅)) iI (jc (bW (show (["program"]:MA).length<=2 from ∅)) iI rF lD) (vf iI lD))) (λ_ _ _ _=>(j_ (cN (bB K zbC F.slot_str_startswith F.type_str_startswith qS (pv 2) (aa av ae))))) (λ_ _ _ _=>(pv 1))))),?_];cbv;refine yI2 p L #[rfl,hL,(),λlq H1 s1 ab e1=>?_];refine#[lq,rfl,#[_,e1],λR hR=>?_];refine ze (xs:=L.map V.str) (λi ys H'=>∃ns:MB,su H1 H'/\H' R=Sm (.lst ys)/\ys=ns.map iN/\ns.length<=i/\ns=(List.range i).filter λj=>hU (L.getD j "")) #[[],ak hR _,ai,rfl,zg _,rfl] (λi ys H' _ hh=>by let#[_,sm,_]:=hh;exact ud.of (sm _ _ e1)) ?_ ?_
 .intro i ys H' v t hv hi;refine yF1 λns=>yB5 ?_;rintro sm Y rfl Z S;intro ht;rw[zb]at hi;rw[zz,zd hi]at hv;cases hv;∎;rename_i H2 s2 et;have W:=sm.trans s2;have U:=s2 _ _ Y;have hg:hU (L.getD i "")=(decide (0+("lend " : Str).length<=L[i].length)&&OP L[i] "lend " 0):=by
   unfold hU;rw[xW,zd hi];rfl
  cbv;refine yI2 t _ #[rfl,uc.of et,rfl,?_];cbv;rw[<-hg];refine aT (λc=>?_) (λc=>?_)
  .refine lh (by rw[zb];exact hi) (by rw[zb];exact Z) (by rw[zb];exact aH ()) U #[ns++[i],W.upd hR _,ai,tJ _ _,by simp;lia,?_];rw[l7,Lz c,<-S]
  .refine nC (by rw[zb];exact hi) #[ns,W,U,rfl,(),?_];rw[l7,Lu c,<-S,Jg]
 .intro ys H2;refine yF1 λns=>yB5 ?_;rintro s2 e2 rfl _ S;rw[zb]at S;refine q R H2 (s1.trans s2) (s1.free hR) ?_;rw[S]at e2;exact e2
noncomputable def ig(ks:List aP):List (aP×V):=(List.range ks.length).foldl (λacc i=>du acc (ks.getD i (.inl 0)) (iN i)) []
noncomputable def i0(ks:List aP)(i:Nat):List (aP×V):=(List.range i).foldl (λacc i=>du acc (ks.getD i (.inl 0)) (iN i)) []
theorem jk(ks:List aP)(i:Nat):i0 ks (i+1)=du (i0 ks i) (ks.getD i (.inl 0)) (iN i):=by
 unfold i0;rw[List.range_succ,zbt];rfl
theorem tD(ks:List aP):∀i,(i0 ks i).length<=i
 | 0=>zg _
 | i+1=>by
  have:=tD ks i;rw[jk];unfold du;split
  .rw[zb];lia
  .rw[zq];simp;lia
theorem ue(ks:List aP):∀(i j:Nat) k,j<i->ks[j]?=Sm k->(bY (i0 ks i) k).isSome=true
 | 0,j,_,h,_=>absurd h (KP _)
 | i+1,j,k,h,hk=>by
  rw[jk,mC];split
  .rfl
  .rename_i c;rcases iu j i with z | z
   .exact ue ks i j k z hk
   .have:j=i:=()
    subst this;exact absurd (by rw[xW,hk];rfl) c
theorem lz{ks:List aP}{k:aP}(h:k∈ks):iT (ig ks) k:=by
 let#[j,F]:=List.mem_iff_getElem?.mp h;have:=ue ks ks.length j k (Lq.mp F).1 F;show bY (i0 ks ks.length) k=Sm (cy (i0 ks ks.length) k);unfold cy;cases e:bY (i0 ks ks.length) k with
 | none=>rw[e]at this;cases this
 | some v=>rfl
section
variable{NO:Hp->o_->MA->Prop}
def IE(NO:Hp->o_->MA->Prop):Sp:=λvs H Q _=>∃(p:o_) (NM:MA),vs=[.ref p]/\NO H p NM/\∀(q:o_) (H':Hp),su H H'->H q=Nn->H' q=Sm (.lst (NM.map V.str))->Q (.ref q) H'
noncomputable def ci(NM:MA)(L:MA):List aP:=NM.map Sum.inr++(gB L).map λ(n:Nat)=>Sum.inl (n:Int)
def vO(NO:Hp->o_->MA->Prop)(d:Nat):Sp:=λvs H Q _=>∃(p:o_) (NM L:MA),vs=[.ref p]/\NO H p NM/\EW d H p L/\L.length<=1000/\NM.length<=1000/\∀(q:o_) (H':Hp),su H H'->H q=Nn->H' q=Sm (.dK (ig (ci NM L)))->Q (.ref q) H'
theorem CV(al:∀ {H H':Hp} {p:o_} {NM:MA},NO H p NM->su H H'->NO H' p NM)(D:xn K mg "slots_of" cx) (J:mg "enumerate" = Nn) {d k:Nat} (O:aD P w K mg base k "names_of" ["program"] (IE NO)) (F:aD P w K mg base k "lend_lines" ["program"] (mh d)):aD P w K mg base (k+1) "slots_of" ["program"] (vO NO d):=by
 refine D.cal (k:=k) GF (λf bc A outer s H vs Q E hr h=>?_);revert h;refine yF3 λp NM L=>yB6 ?_;rintro rfl hN hL hl a5 q;refine⟨_,(ah (ay 1 GF.nd sy)
   (ah (cg pD rfl (mN K LS J (aa (ar aF (aw O hr (aa (pv 0) ae) (hle:=())) (aw F hr (aa (pv 0) ae) (hle:=()))) ae)) (jv K (n:=2) (cW (aS 2 GF.nd) (cW (aS 3 GF.nd) iJ))) (aj (k7 (pv 2) (nV (pv 1) (pv 3) (Ed hr)))))
   (aj (az (pv 1))))),?_⟩
 cbv;intro W Z;∎;rename_i H1 s1 S;have S:H1 W=Sm (.dK (i0 (ci NM L) 0)):=S;rw?;refine yI2 p NM #[rfl,al hN s1,λnq H2 s2 a8 e2=>?_];have ab:=s1.trans s2;refine yI2 p L #[rfl,hL.mono _ ab,hl,λlq H3 s3 a4 e3=>?_];have a7:(gB L).length<=1000:=by
  unfold gB;refine mn (List.length_filter_le _ _) ?_;rw[zaW];exact hl
 dsimp only;rw[kJ];refine yI2 _ _ #[s3 _ _ e2,e3,by rw[zb,zb];exact aH (),λcq a3=>?_];have ac:NM.map V.str++(gB L).map iN=(ci NM L).map kV:=by
  unfold ci;rw[yb,td,td];rfl
 rw[ac];have as:(ci NM L).length<=2000:=by unfold ci;rw[zq,zb,zb];lia
 generalize hks:ci NM L=ks at S as q |-;∎
 rename_i H4 s4 ecq;have ag:=(s2.trans s3).trans s4;have U:=ag _ _ S;have ad:cq≠W:=dh ecq U (λz=>nomatch z);cbv;refine#[#[_,ecq],?_];refine Bn (xs:=ks.map kV) (λi σ H'=>∃(o2 o3:MK),σ=[Sm (.ref p),Sm (.ref W),o2,o3]/\(∀b o,b≠W->H4 b=Sm o->H' b=Sm o)/\H' W=Sm (.dK (i0 ks i)))
  (yI2 _ _ #[rfl,λ_ _ _ z=>z,U]) (λi σ H' _ hh=>by revert hh;refine yF2 λ_ _=>yB3 λ_ Y _=>?_;exact ud.of (Y _ _ ad ecq)) (λi v t σ H5 hv hh ht=>?_) (λσ H5 hh=>?_)
 .revert hh;refine yF2 λo2 o3=>yB3 ?_;rintro rfl Y e5;rw[zz]at hv;cases hi:ks[i]? with
  | none=>rw[hi]at hv;cases hv
  | some k0=>
   rw[hi]at hv;cases hv;have a6:=(Lq.mp hi).1;∎;rename_i H6 s6 et;have a9:=tD ks i;cbv;refine yI2 t _ #[rfl,uc.of et,rfl,?_];cbv;refine yI3 W _ k0 #[rfl,rfl,s6 _ _ e5,cC (),yI2 _ _ #[rfl,λb o hb z=>by rw[au hb];exact s6 _ _ (Y b o hb z),?_]];rw[ai,jk,xW,hi];rfl
 .revert hh;refine yF2 λo2 o3=>yB3 ?_;rintro rfl Y e5;rw[zb]at e5;rw?;refine q W H5 (λb o z=>Y b o (aQ z Z) (s4 _ _ (s3 _ _ (ab _ _ z)))) Z e5
end
theorem rm{f:List vr->MA}{g:List vr->Nat}(h:∀T,(f T).length=g T):∀s:vr,(cY f s).length=bv g s
 | .plain _=>rfl
 | .lend _ _ b=>by simp[cY,bv,h]
 | .ite _ b c=>by simp[cY,bv,h];lia
 | .whl _ b=>by simp[cY,bv,h]
theorem mZ:∀(d:Nat) (T:List vr),(dC d T).length=ap d T
 | 0,_=>rfl
 | d+1,T=>by
  show (T.flatMap (cY (dC d))).length=(T.map (bv (ap d))).sum
  induction T with
  | nil=>rfl
  | cons s T ih=>rw[Le,zq,yR,IX,ih,rm (mZ d)]
def Sub(L:MA)(l:Nat)(X:MA):Prop:=∀(i:Nat) s,X[i]?=Sm s->L[l+i]?=Sm s
theorem Sub.left{L X Y:MA}(h:Sub L l (X++Y)):Sub L l X:=λi s e=>h i s (by rw[xr (Lq.mp e).1];exact e)
theorem Sub.right{L X Y:MA}(h:Sub L l (X++Y)):Sub L (l+X.length) Y:=λi s e=>by
 have:=h (X.length+i) s (by rw[uu (),zbs];exact e);rw[<-i9]at this;exact this
def mi(f:List vr->Prop)(N:Str->Prop):vr->Prop
 | .plain ws=>(ws.headD "" = "do" -> ws.length=3)/\∀n∈dj ws,N n
 | .lend x y b=>N x/\N y/\f b
 | .ite _ b c=>f b/\f c
 | .whl _ b=>f b
def fT(N:Str->Prop):Nat->List vr->Prop
 | 0,_=>False
 | d+1,T=>∀s∈T,mi (fT N d) N s
theorem p6(x y:Str):hU (Ml " " ["lend",x,y])=true:=by
 have e:Ml " " ["lend",x,y]=("lend " : Str)++(x++((" " : Str)++y)):=by
  apply vC;have h1:("lend " : Str).cps.toList=("lend" : Str).cps.toList++(" " : Str).cps.toList:=⋯;rw[gn,gn,gn,h1];show ((("lend" : Str).cps++(" " : Str).cps++x.cps)++(" " : Str).cps++y.cps).toList=_;simp only[rW,oU]
 rw[e];unfold hU;have hl:("lend " : Str).length=5:=⋯;rw[K8,hl,decide_eq_true (),Bool.true_and];unfold OP;rw[hl,beq_iff_eq];apply Array.ext';rw[zbq,gn];have F:("lend " : Str).cps.toList.length=5:=⋯;simp[List.extract_eq_drop_take,List.take_append,F]
theorem Bc{L:MA}{s:Str}(h:L[i]?=Sm s)(F:hU s=true):i∈gB L:=by
 unfold gB;rw[LN];refine#[LK.mpr (Lq.mp h).1,?_];rw[xW,h];exact F
section
variable{NM L:MA}
theorem BU{f:Nat->List vr->Prop}{g:List vr->Prop}{d l:Nat}(hf:∀l b,Sub L l (dC d b)->g b->f l b):∀(s:vr),Sub L l (cY (dC d) s)->mi g (λn=>n∈NM) s->oJ (ig (ci NM L)) f (ap d) l s
 | .plain ws,_,⟨h1,h2⟩=>#[h1,λn F=>lz (by unfold ci;exact IV _ (LD.mpr #[n,h2 n F,rfl]))]
 | .lend x y b,hS,⟨hx,hy,hb⟩=>by
  have hh:L[l]?=Sm (Ml " " ["lend",x,y]):=hS 0 _ rfl;refine#[lz (by unfold ci;exact IV _ (LD.mpr #[x,hx,rfl])),lz (by unfold ci;exact IV _ (LD.mpr #[y,hy,rfl])),lz (by unfold ci;exact oo _ (LD.mpr #[l,Bc hh (p6 x y),rfl])),hf _ _ ?_ hb];have:Sub L l ([Ml " " ["lend",x,y]]++(dC d b++[("back" : Str)])):=hS;exact this.right.left
 | .ite n b c,hS,⟨hb,hc⟩=>by
  have:Sub L l ([Ml " " ["if",f_ n]]++((dC d b++[("else" : Str)])++(dC d c++[("fi" : Str)]))):=hS;refine#[hf _ _ this.right.left.left hb,hf _ _ ?_ hc];have h2:=this.right.right.left;rw[zq,mZ,JZ,JZ]at h2;rw[show l+1+ap d b+1=l+1+(ap d b+1) from ()];exact h2
 | .whl n b,hS,hb=>by
  have:Sub L l ([Ml " " ["while",f_ n]]++(dC d b++[("done" : Str)])):=hS;exact hf _ _ this.right.left hb
theorem oX:∀(d l:Nat) (T:List vr),Sub L l (dC d T)->fT (λn=>n∈NM) d T->fu (ig (ci NM L)) d l T
 | 0,_,_,_,h=>h
 | d+1,l,T,F,J=>by
  have go:∀(T:List vr) (l:Nat),Sub L l (T.flatMap (cY (dC d)))->(∀s∈T,mi (fT (λn=>n∈NM) d) (λn=>n∈NM) s)->∀z∈fO (bv (ap d)) l T,oJ (ig (ci NM L)) (fu (ig (ci NM L)) d) (ap d) z.1 z.2:=λT=>by
   induction T with
   | nil=>intro l _ _ z hz;cases hz
   | cons s T ih=>
    intro l F J z hz;rw[Le]at F;rcases LH.mp hz with rfl | hz
    .exact BU (λl b h1 h2=>oX d l b h1 h2) s F.left (J s yd)
    .have h2:=F.right;rw[rm (mZ d)]at h2;exact ih (l+bv (ap d) s) h2 (λs O=>J s (yh _ O)) z hz
  exact go T l F J
end
section
variable{CN:o_}{NO:Hp->o_->MA->Prop}
noncomputable def fe(NM:MA)(d:Nat)(t:Bool)(T:List vr):List aE:=aM (ig (ci NM (dC d T))) d t 0 0 T++[[.str "end",iN (ap d T)]]
structure ny (NO:Hp->o_->MA->Prop) (H:Hp) (p:o_) (d:Nat) (T:List vr) (NM:MA):Prop where
 prog:∃S,BX S d H p T
 ok:dF d T
 no:NO H p NM
 ln:EW d H p (dC d T)
 nm:fT (λn=>n∈NM) d T
 cnt:ap d T<=200
 nl:NM.length<=1000
 d20:d<=20
def oM(NO:Hp->o_->MA->Prop)(d:Nat):Sp:=λvs H Q _=>∃(p:o_) (t:Bool) (T:List vr) (NM:MA),vs=[.ref p,.bl t]/\ny NO H p d T NM/\∀(q:o_) (H':Hp),su H H'->H q=Nn->Ce H' q (fe NM d t T)->Q (.ref q) H'
theorem zl(ag:∀ {H H':Hp} {p:o_} {NM:MA},NO H p NM->su H H'->NO H' p NM)(D:xn K mg "rows_and_end" bV) {d k:Nat} (a6:1<=k) (F:aD P w K mg base (2*d+4) "numbered_steps" qAX (rJ K CN d)) (U:aD P w K mg base (3*d+2) "rows_of" qAN (iL K CN d)) (O:aD P w K mg base k "slots_of" ["program"] (vO NO d)) (J:aD P w K mg base 1 "line_behind" qAX (jU K CN)) (h1:2*d+4<=k) (h2:3*d+2<=k):aD P w K mg base (k+1) "rows_and_end" qAp (oM NO d):=by
 refine D.cal (k:=k) GX (λf a8 A outer s H vs Q E hr h=>?_);revert h;refine yF4 λp t T NM=>yB3 ?_;rintro rfl I q;let#[S,hP]:=I.prog;have a4:=I.cnt;refine⟨_,(ah (ay 2 GX.nd (aw F hr (aa (pv 0) (aa af ae)) (hle:=())))
   (aj (az (ar aF (aw U hr (aa (pv 2) (aa af (aa (aw O hr (aa (pv 0) ae) (hle:=())) (aa (pv 1) ae)))) (hle:=())) (aG (aa (aR (aa av (aa (aw J hr (aa (pv 2) (aa af ae)) (hle:=())) ae))) ae)))))),?_⟩
 cbv;refine yI4 p 0 T S #[rfl,hP,I.ok,(),λnq H1 s1 hN=>?_];rw?;refine yI3 p NM (dC d T) #[rfl,ag I.no s1,I.ln.mono _ s1,by rw[mZ];lia,I.nl,λsq H2 s2 a7 e2=>?_];refine yI8 nq sq 0 0 t T _ _ #[rfl,hN.mono s2,I.ok,e2,oX d 0 T (λi s e=>by rw[tN];exact e) I.nm,I.cnt,I.d20,λrq H3 s3 a5 hR=>?_];have as:=eK (kv:=ig (ci NM (dC d T))) (a:=0) (l:=0) (t:=t) I.cnt I.d20;generalize hRR:aM (ig (ci NM (dC d T))) d t 0 0 T=R at hR as;have Y:=s2.trans s3;cases d with
 | zero=>exact hN.elim
 | succ d=>
  refine yI5 nq 0 d T _ #[rfl,hN.mono Y,(),?_];cbv;refine#[∅,λt1 a3=>?_];generalize hH4:upd H3 t1 _=H4;have s4:su H3 H4:=by rw[<-hH4];exact ak a3 _
  have al:bP H4 t1 [.str "end",iN (ap (d+1) T)]:=by
   show H4 t1=_;rw[<-hH4,ai,tN];rfl
  refine#[∅,λm1 ad=>?_];have s5:=ak ad (.lst [.ref t1]);have L1:=iM al ad;generalize upd H4 m1 (.lst [.ref t1])=H5 at s5 L1 |-;let#[ab,a1,a2]:=hR.mono (s4.trans s5)
  let#[Z,b1,b2]:=L1;refine yI2 _ _ #[a1,b1,dH a2 b2 (by simp only[zy,yz];lia),λm2 W=>?_];have s6:=ak W (.lst (ab.map V.ref++Z.map V.ref));have L2:=eV a2 b2 W;generalize upd H5 m2 (.lst (ab.map V.ref++Z.map V.ref))=H6 at s6 L2 |-;have ac:=((s1.trans Y).trans s4).trans s5;refine q m2 H6 (ac.trans s6) (ac.free W) ?_
  unfold fe;rw[hRR];exact L2
def Bb(NO:Hp->o_->MA->Prop)(d:Nat):Sp:=λvs H Q _=>∃(p:o_) (T:List vr) (NM:MA),vs=[.ref p]/\ny NO H p d T NM/\∀(q:o_) (H':Hp),su H H'->H q=Nn->Ce H' q (fe NM d false T)->Q (.ref q) H'
theorem FG(D:xn K mg "code_of" hZ) {k:Nat} (F:aD P w K mg base k "rows_and_end" qAp (oM NO d)):aD P w K mg base (k+1) "code_of" ["program"] (Bb NO d):=by
 refine D.cal (k:=k) zv (λf S A outer s H vs Q E O h=>?_);revert h;refine yF3 λp T NM=>yB3 ?_;rintro rfl I q;refine#[_,(aj (az (aw F O (aa (pv 0) (aa fZ ae)) (hle:=())))),?_];cbv;exact yI4 p false T NM #[rfl,I,q]
def rM(NO:Hp->o_->MA->Prop)(d:Nat):Sp:=λvs H Q _=>∃(p:o_) (T:List vr) (NM:MA),vs=[.ref p]/\ny NO H p d T NM/\∀(q:o_) (H':Hp),su H H'->H q=Nn->Ce H' q (fe NM d true T)->Q (.ref q) H'
theorem zL(D:xn K mg "turned_code" eT) {k:Nat} (F:aD P w K mg base k "rows_and_end" qAp (oM NO d)):aD P w K mg base (k+1) "turned_code" ["program"] (rM NO d):=by
 refine D.cal (k:=k) o9 (λf S A outer s H vs Q E O h=>?_);revert h;refine yF3 λp T NM=>yB3 ?_;rintro rfl I q;refine#[_,(aj (az (aw F O (aa (pv 0) (aa fZ ae)) (hle:=())))),?_];cbv;exact yI4 p true T NM #[rfl,I,q]
end
noncomputable def dL:vr->List (List vr)
 | .plain _=>[]
 | .lend _ _ b=>[b]
 | .ite _ b c=>[b,c]
 | .whl _ b=>[b]
noncomputable def gE(f:List vr->List vr)(s:vr):List vr:=s::(dL s).flatMap f
noncomputable def cm:Nat->List vr->List vr
 | 0,_=>[]
 | d+1,T=>T.flatMap (gE (cm d))
inductive gu:MA->Prop
 | opn (x:Str):gu ["open",x]
 | drp (x:Str):gu ["drop",x]
 | cpy (x y:Str):gu ["copy",x,y]
 | tie (x y:Str):gu ["tie",x,y]
 | doo (u x:Str):gu ["do",u,x]
noncomputable def b4:vr->MA
 | .plain ws=>if ws.headD "" = "do" then ws.drop 2 else ws.drop 1
 | .lend x y _=>[x,y]
 | .ite _ _ _=>[]
 | .whl _ _=>[]
def gq(f:List vr->Prop):vr->Prop
 | .plain ws=>gu ws
 | .lend _ _ b=>f b
 | .ite _ b c=>f b/\f c
 | .whl _ b=>f b
def js:Nat->List vr->Prop
 | 0,_=>False
 | d+1,T=>∀s∈T,gq (js d) s
def D5(H:Hp)(a:o_)(s:vr):Prop:=Da (λ_ _=>True) H a s
theorem D5.mono{a:o_}(h:D5 H a s)(sm:su H H'):D5 H' a s:=Da.imp (λb xs e=>sm _ _ e) (λ_ _ _=>trivial) h
theorem xC{PA:o_->List vr->Prop}{H:Hp}{a:o_}{g:List vr->Prop}:∀ {s:vr},Da PA H a s->gq g s->∃(kind:Str) (F:MC) (bs:MD),H a=Sm (.tup (.str kind::F++bs.map V.ref))/\bs.length=(bE kind).length/\L8 PA bs (dL s)/\∀b∈dL s,g b
 | .plain ws,h,ok=>by
  cases ok with
  | opn x=>exact yI3 ("open") ([.str x]) ([]) #[h,by show 0=(bE "open").length;decide,.nil,by simp[dL]]
  | drp x=>exact yI3 ("drop") ([.str x]) ([]) #[h,by show 0=(bE "drop").length;decide,.nil,by simp[dL]]
  | cpy x y=>exact yI3 ("copy") ([.str x,.str y]) ([]) #[h,by show 0=(bE "copy").length;decide,.nil,by simp[dL]]
  | tie x y=>exact yI3 ("tie") ([.str x,.str y]) ([]) #[h,by show 0=(bE "tie").length;decide,.nil,by simp[dL]]
  | doo u x=>exact yI3 ("do") ([.str u,.str x]) ([]) #[h,by show 0=(bE "do").length;decide,.nil,by simp[dL]]
 | .lend x y b,⟨q,h,z⟩,ok=>yI3 ("lend") ([.str x,.str y]) ([q]) #[h,by show 1=(bE "lend").length;decide,.cons z .nil,by simpa [dL,gq] using ok]
 | .ite n b c,⟨q,r,h,z,y⟩,ok=>yI3 ("if") ([.int n]) ([q,r]) #[h,by show 2=(bE "if").length;decide,.cons z (.cons y .nil),by simpa [dL,gq] using ok]
 | .whl n b,⟨q,h,z⟩,ok=>yI3 ("while") ([.int n]) ([q]) #[h,by show 1=(bE "while").length;decide,.cons z .nil,by simpa [dL,gq] using ok]
def um(d:Nat):Sp:=λvs H Q _=>∃(p:o_) (T:List vr) (S:o_->Prop),vs=[.ref p]/\BX S d H p T/\js d T/\(cm d T).length<=5000/\
 ∀(q:o_) (H':Hp) (ads:MD),su H H'->H q=Nn->H' q=Sm (.lst (ads.map V.ref))->L8 (D5 H') ads (cm d T)->Q (.ref q) H'
theorem xE{β: Type}(f:α->List β)(T:List α)(i:Nat):((T.take i).flatMap f).length<=(T.flatMap f).length:=by
 rw[List.flatMap_def,List.flatMap_def,List.map_take];exact ph _ _
theorem pz{β: Type}(f:α->List β){T:List α}{x:α}(h:T[i]?=Sm x):(T.take (i+1)).flatMap f=(T.take i).flatMap f++f x:=by
 rw[sR,h,List.flatMap_append];simp
theorem jV{α β : Type}{R:α->β->Prop}:∀ {xs zs:List α} {ys F:List β},L8 R xs ys->L8 R zs F->L8 R (xs++zs) (ys++F)
 | _,_,_,_,.nil,h=>h
 | _,_,_,_,.cons h t,h'=>.cons h (jV t h')
theorem qc(D:xn K mg "steps_within" bL) (F:aD P w K mg base 3 "blocks_of" ["step"] (i_ K)):∀d:Nat,aD P w K mg base (d+4) "steps_within" ["program"] (um d)
 | 0=>D.cal (k:=3) C8 (λf cn A outer s H vs Q E hr h=>by revert h;refine yF3 λp T S=>yB3 ?_;rintro rfl z _;exact z.elim)
 | d+1=>by
  have J:=qc D F d;refine D.cal (k:=d+4) C8 (λf cn A outer s H vs Q E hr h=>?_);revert h;refine yF3 λp T S=>yB5 ?_;rintro rfl ⟨hS,as,h1,h2⟩ ok hL q;have cz:=aK h2;refine⟨_,(ah (ay 1 C8.nd (aG ae))
   (ah (cg pD rfl (bF K (pv 0)) (aS 2 C8.nd) (ah (bm (bB K yY ux uC br (pv 1) (aa (pv 2) ae)))
   (aj (cg pD rfl (iH K (aw F hr (aa (pv 2) ae) (hle:=()))) (aS 3 C8.nd) (aj (bm (bB K yY Lg K6 eJ (pv 1) (aa (aw J hr (aa (pv 3) ae) (hle:=())) ae))))))))
   (aj (az (pv 1))))),?_⟩
  cbv;refine#[∅,λlp a5=>?_];∎;rename_i H1 sm1 e1;rw?;refine#[#[_,ud.of (sm1 _ _ h1)],?_];refine cL (xs:=as.map V.ref) (λi σ H'=>∃(O:MD) (o2 o3:MK),σ=[Sm (.ref p),Sm (.ref lp),o2,o3]/\su H H'/\H' lp=Sm (.lst (O.map V.ref))/\L8 (D5 H') O ((T.take i).flatMap (gE (cm d))))
   (yI3 ([]) Nn Nn #[rfl,sm1,e1,.nil]) (λi σ H' _ h=>by revert h;refine yF3 λ_ _ _=>yB3 λ_ sm _=>?_;exact ud.of (sm _ _ h1)) ?_ ?_
  .intro i v σ H' hv;refine yF3 λO o2 o3=>yB4 ?_;rintro rfl sm hl hp;have hi:i<as.length:=by have:=(Lq.mp hv).1;simpa using this
   rw[zz,zd hi]at hv;cases hv;let#[s,hs,st]:=cD h2 (zd hi);have cb:=ok s (xO hs);refine yE3 (xC st cb) λkind Z bs=>yB4 λha be a7 cv=>?_;have a6:=pz (gE (cm d)) hs;have a3:=xE (gE (cm d)) T (i+1);have cB:(T.flatMap (gE (cm d))).length<=5000:=hL;rw[a6]at a3 |-
   have cc:=aK hp;generalize (T.take i).flatMap (gE (cm d))=pre at hp a3 cc |-;have b2:(gE (cm d) s).length=1+((dL s).flatMap (cm d)).length:=by show (s::_).length=_;rw[zy];lia
   rw[zq,b2]at a3;have cq:D5 H as[i] s:=Da.imp (λb xs e=>e) (λ_ _ _=>trivial) st;cbv;refine#[#[_,ud.of hl],_,hl,by rw[zb];exact cC (),?_];have a4:∀ {X:Hp} {o:HO} {l:MD} {us:List vr} {ys:MC},X lp=Sm (.lst ys)->L8 (D5 X) l us->L8 (D5 (upd X lp o)) l us:=λ{X o l us ys} e h=>L8.imp' (λa s z=>Da.imp (λb xs e'=>by rw[au (dh e' e (λz=>nomatch z))];exact e') (λ_ _ _=>trivial) z) h;have a8:=a4 (o:=.lst (O.map V.ref++[.ref as[i]])) hl hp;have al:su H (upd H' lp (.lst (O.map V.ref++[.ref as[i]]))):=sm.upd a5 _;have e2:upd H' lp (.lst (O.map V.ref++[.ref as[i]])) lp=Sm (.lst ((O++[as[i]]).map V.ref)):=by rw[ai,yb];rfl
   generalize upd H' lp (.lst (O.map V.ref++[.ref as[i]]))=H2 at a8 al e2 |-;have ce:uc K H2 as[i] (.str kind::(Z++bs.map V.ref)):=uc.of (al _ _ ha)
   have cd:(bE kind).length<=(Z++bs.map V.ref).length+1:=by rw[zq,zb,be];lia
   have a9:(Z++bs.map V.ref).length+1-(bE kind).length=Z.length+1:=by rw[zq,zb,be];lia
   rw?;refine yI3 (as[i]) kind (Z++bs.map V.ref) #[rfl,ce,cd,λbp H3 ad ab=>?_];rw[a9]at ab;have b3:(V.str kind::(Z++bs.map V.ref)).drop (Z.length+1)=bs.map V.ref:=by rw[List.drop_succ_cons,List.drop_left'];rfl
   rw[b3]at ab;cbv;refine#[#[_,ab],?_];have c1:=aK a7;refine uV (xs:=bs.map V.ref) (λj σ H'=>∃(U:MD) (o3:MK),σ=[Sm (.ref p),Sm (.ref lp),Sm (.ref as[i]),o3]/\su H H'/\uc K H' bp (bs.map V.ref)/\H' lp=Sm (.lst (U.map V.ref))/\L8 (D5 H') U (pre++(s::((dL s).take j).flatMap (cm d))))
    (yI2 (O++[as[i]]) o3 #[rfl,al.trans ad,ab,ad _ _ e2,?_]) (λj σ H' _ h=>by revert h;refine yF2 λ_ _=>yB4 λ_ _ z1 _=>?_;exact z1) ?_ ?_
   .exact eX (R:=D5 H3) (cq.mono (al.trans ad)) (L8.imp' (λa s z=>D5.mono z ad) a8)
   .intro j x σ H4 hx;refine yF2 λU o3=>yB5 ?_;rintro rfl ag bc W ac;have hj:j<bs.length:=by have:=(Lq.mp hx).1;simpa using this
    rw[zz,zd hj]at hx;cases hx;let#[b,hb,b1]:=cD a7 (zd hj);have b0:=pz (cm d) hb;have hle:=xE (cm d) (dL s) (j+1);rw[b0]at hle |-
    rw[zq]at hle;have bt:=aK ac;rw[zq,zy]at bt;cbv;refine#[#[_,ud.of W],yI3 (bs[j]) b S #[rfl,b1.mono ag,cv b (xO hb),(),λr H5 bh Y c2 ca bg=>?_]];have cA:=aK bg;cbv;refine yI2 _ _ #[Y _ _ W,ca,aH (by rw[zb,zb];lia),?_];refine yI2 (U++bh) _ #[rfl,(ag.trans Y).upd a5 _,(bc.same Y).updL (Y _ _ W),by rw[ai,yb],?_];rw[<-IW,<-oU];exact jV (a4 (Y _ _ W) (L8.imp' (λa s z=>D5.mono z Y) ac)) (a4 (Y _ _ W) bg)
   .intro σ H4;refine yF2 λU o3=>yB5 ?_;rintro rfl ag bc W ac;rw[zb,IH ()]at ac;exact yI3 U _ _ #[rfl,ag,W,ac]
  .intro σ H';refine yF3 λO o2 o3=>yB4 ?_;rintro rfl sm hl hp;rw?;rw[zb,IH ()]at hp;exact q lp H' O sm a5 hl hp
noncomputable def f7(acc:MA)(x:Str):MA:=if x∈acc then acc else acc++[x]
noncomputable def fN(l:MA):MA:=l.foldl f7 []
noncomputable def lc(l:MA):List (aP×V):=l.map λx=>(Sum.inr x,V.bl true)
theorem FI(acc:MA)(x:Str):du (lc acc) (.inr x) (.bl true)=lc (f7 acc x):=by
 unfold du f7;by_cases h:x∈acc
 .rw[Lz h];have J:((lc acc).any λkv=>decide (kv.1=(Sum.inr x:aP)))=true:=by
   rw[zbe];exact#[(.inr x,.bl true),LD.mpr #[x,h,rfl],'~']
  rw[Lz J];unfold lc;rw[td];refine List.map_congr_left λy _=>?_;by_cases e:y=x
  .subst e;simp
  .have:¬ ((Sum.inr y:aP)=Sum.inr x):=λz=>e (Sum.inr.inj z);simp[this]
 .rw[Lu h];have J:((lc acc).any λkv=>decide (kv.1=(Sum.inr x:aP)))=false:=by
   rw[List.any_eq_false];intro kv F;let#[y,O,rfl]:=LD.mp F;have:¬ ((Sum.inr y:aP)=Sum.inr x):=λz=>h (Sum.inr.inj z ▸ O);simp[this]
  rw[Lu (by rw[J];exact xV)];unfold lc;rw[yb];rfl
theorem jM:∀(l acc:MA),(l.foldl f7 acc).length<=acc.length+l.length
 | [],acc=>'~'
 | x::l,acc=>by
  have:=jM l (f7 acc x);have h2:(f7 acc x).length<=acc.length+1:=by unfold f7;split<;>simp
  rw[zaX,zy];lia
noncomputable def cF:MC->MA->MA
 | .str x::xs,k::ks=>if k = "name" then x::cF xs ks else cF xs ks
 | _::xs,_::ks=>cF xs ks
 | _,_=>[]
noncomputable def eU:List (Str×MA):=[("open",["name"]),("do",["word","name"]),("copy",qAx),("drop",["name"]),("tie",qAx),("lend",["name","name","steps"]),("if",["bound","steps","steps"]),("while",["bound","steps"])]
structure QD (H:Hp) (a:o_) (s:vr) (kind:Str) (xs:MC) (ks:MA):Prop where
 at':H a=Sm (.tup (.str kind::xs))
 kd:(kind,ks)∈eU
 len:xs.length=ks.length
 txt:∀(i:Nat) (x:V),xs[i]?=Sm x->ks[i]?=Sm "name" -> ∃y,x = .str y
 names:cF xs ks=b4 s
theorem uL{α:Type}{a b x:α}{i:Nat}(h:[a,b][i]?=Sm x):(i=0/\x=a)\/(i=1/\x=b):=by
 match i,h with
 | 0,h=>exact .inl #[rfl,by simpa using h.symm]
 | 1,h=>exact .inr #[rfl,by simpa using h.symm]
 | i+2,h=>simp at h
theorem zp{H:Hp}{a:o_}{g:List vr->Prop}:∀ {s:vr},D5 H a s->gq g s->∃kind xs ks,QD H a s kind xs ks
 | .plain ws,h,ok=>by
  cases ok with
  | opn x=>exact yI3 ("open") ([.str x]) (["name"]) #[h,by simp[eU],rfl,λi y e _=>by match i,e with | 0,e=>exact⟨x,by simpa using e.symm⟩ | i+1,e=>simp at e,by simp[cF,b4];decide]
  | drp x=>exact yI3 ("drop") ([.str x]) (["name"]) #[h,by simp[eU],rfl,λi y e _=>by match i,e with | 0,e=>exact⟨x,by simpa using e.symm⟩ | i+1,e=>simp at e,by simp[cF,b4];decide]
  | cpy x y=>exact yI3 ("copy") ([.str x,.str y]) qAx #[h,by simp[eU],rfl,λi z e _=>by rcases uL e with ⟨_,rfl⟩ | ⟨_,rfl⟩<;>exact#[_,rfl],by simp[cF,b4];decide]
  | tie x y=>exact yI3 ("tie") ([.str x,.str y]) qAx #[h,by simp[eU],rfl,λi z e _=>by rcases uL e with ⟨_,rfl⟩ | ⟨_,rfl⟩<;>exact#[_,rfl],by simp[cF,b4];decide]
  | doo u x=>exact yI3 ("do") ([.str u,.str x]) (["word","name"]) #[h,by simp[eU],rfl,λi z e _=>by rcases uL e with ⟨_,rfl⟩ | ⟨_,rfl⟩<;>exact#[_,rfl],by simp[cF,b4];decide]
 | .lend x y b,⟨q,h,_⟩,ok=>yI3 ("lend") ([.str x,.str y,.ref q]) (["name","name","steps"]) #[h,by simp[eU],rfl,λi z e F=>by match i,e,F with | 0,e,F=>exact⟨_,by simpa using e.symm⟩ | 1,e,F=>exact⟨_,by simpa using e.symm⟩ | 2,e,F=>exact absurd (by simpa using F) (show ¬ (("steps" : Str) = "name") from ∅) | i+3,e,F=>simp at e,by simp[cF,b4]]
 | .ite n b c,⟨q,r,h,_,_⟩,ok=>yI3 ("if") ([.int n,.ref q,.ref r]) (["bound","steps","steps"]) #[h,by simp[eU],rfl,λi z e F=>by match i,e,F with | 0,e,F=>exact absurd (by simpa using F) (show ¬ (("bound" : Str) = "name") from ∅) | 1,e,F=>exact absurd (by simpa using F) (show ¬ (("steps" : Str) = "name") from ∅) | 2,e,F=>exact absurd (by simpa using F) (show ¬ (("steps" : Str) = "name") from ∅) | i+3,e,F=>simp at e,by simp[cF,b4]]
 | .whl n b,⟨q,h,_⟩,ok=>yI3 ("while") ([.int n,.ref q]) (["bound","steps"]) #[h,by simp[eU],rfl,λi z e F=>by match i,e,F with | 0,e,F=>exact absurd (by simpa using F) (show ¬ (("bound" : Str) = "name") from ∅) | 1,e,F=>exact absurd (by simpa using F) (show ¬ (("steps" : Str) = "name") from ∅) | i+2,e,F=>simp at e,by simp[cF,b4]]
theorem uA:∀ {xs:MC} {ks:MA} (x:V) (k:Str),xs.length=ks.length->cF (xs++[x]) (ks++[k])=cF xs ks++cF [x] [k]
 | [],[],x,k,_=>rfl
 | [],_::_,_,_,h=>by simp at h
 | _::_,[],_,_,h=>by simp at h
 | y::xs,c::ks,x,k,h=>by
  have ih:=uA (xs:=xs) (ks:=ks) x k (by simpa using h);cases y<;>simp only[IW,cF,ih]
  split<;>simp
theorem qR(xs:MC)(ks:MA)(j:Nat)(h:xs.length=ks.length):(cF (xs.take j) (ks.take j)).length<=(cF xs ks).length:=by
 induction xs generalizing ks j with
 | nil=>simp[cF]
 | cons y xs ih=>
  cases ks with
  | nil=>simp at h
  | cons c ks=>
   cases j with
   | zero=>simp[cF]
   | succ j=>
    have:=ih ks j (by simpa using h);rw[Ll,Ll];cases y<;>simp only[cF]<;>(try split)<;>(try simp only[zy])<;>lia
theorem DR{a l:o_}{kvs:List (aP×V)}(h:uc K H a xs)(hl:H l=Sm (.dK kvs)):uc K (upd H l o) a xs:=by
 rcases h with (h | ⟨o',h⟩) | h
 .exact .inl (.inl (by rw[au (dh h hl (λz=>nomatch z))];exact h))
 .exact .inl (.inr #[o',by rw[au (dh h hl (λz=>nomatch z))];exact h])
 .exact .inr h
def qf:Sp:=λvs H Q _=>∃(sp:o_) (ads:MD) (Ps:List vr) (g:List vr->Prop),vs=[.ref sp]/\H sp=Sm (.lst (ads.map V.ref))/\L8 (D5 H) ads Ps/\(∀s∈Ps,gq g s)/\(Ps.flatMap b4).length<=5000/\
 ∀(q:o_) (H':Hp),su H H'->H q=Nn->H' q=Sm (.lst ((fN (Ps.flatMap b4)).map V.str))->Q (.ref q) H'
theorem xR(D:xn K mg "names_in" b8) (ag:mg "zip" = Nn) (O:mg "list" = Nn) {dP:o_} {kvs:List (Str×V)} (J:mg "PARTS" = Sm (.ref dP)) (m:Ic w K dP kvs)
  (qk:∀kind ks,(kind,ks)∈eU->∃a,bY kvs kind=Sm (.ref a)/\∀H:Hp,uc K H a (ks.map V.str)):aD P w K mg base 1 "names_in" ["steps"] qf:=by
 refine D.cal Gs (λf cq A outer s H vs Q E hr h=>?_);revert h;refine yF4 λsp U W g=>yB6 ?_;rintro rfl a5 hp hok hL q;have ce:=aK hp;refine⟨_,(ah (ay 1 Gs.nd sy)
   (ah (cg pD rfl (bF K (pv 0)) (aS 2 Gs.nd) (aj (cg pD rfl (wg K LQ ag (aa (fw (gS K) (pv 2) (fE af) gY) (aa (am (PD w K) (wN J) (am (ax K) (pv 2) af)) ae))) (jv K (n:=2) (cW (aS 3 Gs.nd) (cW (aS 4 Gs.nd) iJ))) (aj (aY (aA aL (pv 4) av (aB _)) (aj (k7 fZ (nV (pv 1) (pv 3) (Ed hr)))) aN)))))
   (aj (az (eQ (xP hr) O jN (aa (pv 1) ae)))))),?_⟩
 cbv;refine λdp cc=>?_;∎;rename_i H1 sm1 e1;rw?;refine#[#[_,ud.of (sm1 _ _ a5)],?_];refine cL (xs:=U.map V.ref) (λi σ H'=>∃o2 Z Y:MK,σ=[Sm (.ref sp),Sm (.ref dp),o2,Z,Y]/\su H H'/\H' dp=Sm (.dK (lc (fN ((W.take i).flatMap b4)))))
  (yI3 Nn Nn Nn #[rfl,sm1,e1]) (λi σ H' _ h=>by revert h;refine yF3 λ_ _ _=>yB3 λ_ sm _=>?_;exact ud.of (sm _ _ a5)) ?_ ?_
 .intro i v σ H' hv;refine yF3 λo2 Z Y=>yB3 ?_;rintro rfl sm hd;have hi:i<U.length:=by have:=(Lq.mp hv).1;simpa using this
  rw[zz,zd hi]at hv;cases hv;let#[s,hs,st]:=cD hp (zd hi);refine yE3 (zp st (hok s (xO hs))) ?_;rintro kind xs ks ⟨b0,cb,al,b2,a8⟩;let#[ka,b3,bc]:=qk kind ks cb;have bp:=pz b4 hs;have a6:=xE b4 W (i+1);rw[bp]at a6 |-
  have a7:fN ((W.take i).flatMap b4++b4 s)=(b4 s).foldl f7 (fN ((W.take i).flatMap b4)):=by unfold fN;rw[zbt]
  rw[a7];have ad:=jM ((W.take i).flatMap b4) [];rw[zq]at a6;rw[yz]at ad;have a9:(fN ((W.take i).flatMap b4)).length<=((W.take i).flatMap b4).length:=by unfold fN;lia
  generalize fN ((W.take i).flatMap b4)=acc at hd a9 |-;have bg:uc K H' U[i] (.str kind::xs):=uc.of (sm _ _ b0)
  cbv;refine gb bg λp2 H2 as h2=>?_;have e1:dQ (V.str kind::xs) (Sm 1) Nn=xs:=jd _ 1;rw[e1]at h2;cbv;refine yI2 _ _ #[.inr (bg.same as),kr,yI4 dP kvs kind (.ref ka) #[rfl,rfl,m,b3,?_]];refine yI2 p2 ka #[rfl,#[_,h2],#[_,bc _],?_];refine qB (xs:=xs) (ys:=ks.map V.str) (λj σ H'=>∃Z Y:MK,σ=[Sm (.ref sp),Sm (.ref dp),Sm (.ref U[i]),Z,Y]/\su H H'/\uc K H' p2 xs/\H' dp=Sm (.dK (lc ((cF (xs.take j) (ks.take j)).foldl f7 acc))))
   (by rw[zb];exact al) (yI2 Z Y #[rfl,sm.trans as,h2,as _ _ hd]) (λj σ H' _ h=>by revert h;refine yF2 λ_ _=>yB4 λ_ _ z1 _=>?_;exact#[z1,bc _]) ?_ ?_
  .intro j x y t σ H3 hx hy;refine yF2 λZ Y=>yB4 ?_;rintro rfl S h3 F;intro ht;have cn:j<xs.length:=(Lq.mp hx).1;have ca:j<ks.length:=()
   have ac:ks[j]?=Sm ks[j]:=zd ca;rw[zz,ac]at hy;cases hy;have cd:xs.take (j+1)=xs.take j++[x]:=by rw[sR,hx];rfl
   have b1:ks.take (j+1)=ks.take j++[ks[j]]:=by rw[sR,ac];rfl
   have bh:=uA (xs:=xs.take j) (ks:=ks.take j) x ks[j] (by rw[lj,lj,al]);have be:=qR xs ks j al;rw[a8]at be;have a4:=jM (cF (xs.take j) (ks.take j)) acc;rw[cd,b1,bh];have a3:=b2 j x hx;rw[ac]at a3;generalize ks[j]=kj at bh a3 |-;generalize cF (xs.take j) (ks.take j)=pk at F be a4 |-;∎
   rename_i H4 st et;cbv;refine yI2 t _ #[rfl,uc.of et,rfl,?_];cbv;refine aT (λc=>?_) (λc=>?_)
   .subst c;let#[z,rfl]:=a3 rfl;have ab:=st _ _ F;refine yI3 dp _ (.inr z) #[rfl,rfl,ab,by unfold lc;rw[zb];exact cC (),?_];rw[FI];refine yI2 _ _ #[rfl,(S.trans st).upd cc _,DR (h3.same st) ab,?_];rw[ai,zbt];rfl
   .have bt:cF [x] [kj]=[]:=by
     cases x<;>simp[cF,c]
    rw[bt,Jg];exact yI2 _ _ #[rfl,S.trans st,h3.same st,st _ _ F]
  .intro σ H3;refine yF2 λZ Y=>yB4 ?_;rintro rfl S h3 F;rw[ir,IH (),a8]at F;exact yI3 _ _ _ #[rfl,S,F]
 .intro σ H';refine yF3 λo2 Z Y=>yB3 ?_;rintro rfl sm hd;rw?;rw[zb,IH ()]at hd;have ad:=jM (W.flatMap b4) [];rw[yz]at ad;refine#[_,hd,by unfold lc fN;rw[zb];lia,λl hl=>q l _ (sm.trans (ak hl _)) (sm.free hl) ?_];rw[ai];unfold lc;rw[td];rfl
def pK:Sp:=λvs H Q _=>∃(p:o_) (T:List vr) (S:o_->Prop),vs=[.ref p]/\BX S 10 H p T/\js 10 T/\(cm 10 T).length<=1000/\((cm 10 T).flatMap b4).length<=5000/\
 ∀(q:o_) (H':Hp),su H H'->H q=Nn->H' q=Sm (.lst ((fN ((cm 10 T).flatMap b4)).map V.str))->Q (.ref q) H'
theorem uP:∀(d:Nat) {T:List vr},js d T->∀s∈cm d T,∃g:List vr->Prop,gq g s
 | 0,_,h,_,_=>h.elim
 | d+1,T,ok,s,F=>by
  let#[u,S,F]:=LB.mp F;have o:=ok u S;rcases LH.mp F with rfl | F
  .exact#[_,o]
  let#[b,J,F]:=LB.mp F;refine uP d (T:=b) ?_ s F;cases u with
  | plain ws=>simp[dL]at J
  | lend x y c=>
   have:b=c:=by simpa [dL] using J
   subst this;exact o
  | ite n c e=>
   let#[O,U]:=o;have:b=c\/b=e:=by simpa [dL] using J
   rcases this with rfl | rfl
   .exact O
   .exact U
  | whl n c=>
   have:b=c:=by simpa [dL] using J
   subst this;exact o
theorem D6:∀ {s:vr} {g:List vr->Prop},gq g s->gq (λ_=>True) s
 | .plain _,_,h=>h
 | .lend _ _ _,_,_=>trivial
 | .ite _ _ _,_,_=>#[trivial,trivial]
 | .whl _ _,_,_=>trivial
theorem zh(D:xn K mg "names_of" fJ) (J:aD P w K mg base 1 "names_in" ["steps"] qf) (F:aD P w K mg base 14 "steps_within" ["program"] (um 10)):aD P w K mg base 15 "names_of" ["program"] pK:=by
 refine D.cal vk (λf ag A outer s H vs Q E hr h=>?_);revert h;refine yF3 λp T S=>yB6 ?_;rintro rfl hp ok h1 h2 q;refine#[_,(aj (az (aw J hr (aa (aw F hr (aa (pv 0) ae) (hle:=())) ae) (hle:=())))),?_];cbv;refine yI3 p T S #[rfl,hp,ok,(),λsp H1 ab O ad U W=>?_];cbv;refine yI4 sp ab (cm 10 T) (λ_=>True) #[rfl,U,W,λs hs=>let ⟨g,z⟩:=uP 10 ok s hs;D6 z,h2,λr H2 Y ac Z=>?_];exact q r H2 (O.trans Y) (O.free ac) Z
theorem kM{ws:MA}(h:gu ws):(ws.headD "" = "do" -> ws.length=3)/\dj ws=b4 (.plain ws):=by
 cases h with
 | opn x=>exact#[λc=>absurd c (by show ¬ (Str.ofString "open" = Str.ofString "do");decide +kernel),by unfold dj;simp only[b4];rw[Lu (by show ¬ (Str.ofString "open" = Str.ofString "do");decide +kernel),Lu (by show ¬ (Str.ofString "open" = Str.ofString "do");decide +kernel)]]
 | drp x=>exact#[λc=>absurd c (by show ¬ (Str.ofString "drop" = Str.ofString "do");decide +kernel),by unfold dj;simp only[b4];rw[Lu (by show ¬ (Str.ofString "drop" = Str.ofString "do");decide +kernel),Lu (by show ¬ (Str.ofString "drop" = Str.ofString "do");decide +kernel)]]
 | cpy x y=>exact#[λc=>absurd c (by show ¬ (Str.ofString "copy" = Str.ofString "do");decide +kernel),by unfold dj;simp only[b4];rw[Lu (by show ¬ (Str.ofString "copy" = Str.ofString "do");decide +kernel),Lu (by show ¬ (Str.ofString "copy" = Str.ofString "do");decide +kernel)]]
 | tie x y=>exact#[λc=>absurd c (by show ¬ (Str.ofString "tie" = Str.ofString "do");decide +kernel),by unfold dj;simp only[b4];rw[Lu (by show ¬ (Str.ofString "tie" = Str.ofString "do");decide +kernel),Lu (by show ¬ (Str.ofString "tie" = Str.ofString "do");decide +kernel)]]
 | doo u x=>exact#[λ_=>rfl,by unfold dj;simp only[b4];rw[Lz (by rfl),Lz (by rfl)];rfl]
theorem Fp{f g:List vr->Prop}{N:Str->Prop}{O:List vr->List vr}(hf:∀b,g b->(∀n∈(O b).flatMap b4,N n)->f b):∀(s:vr),gq g s->(∀n∈(gE O s).flatMap b4,N n)->mi f N s
 | .plain ws,ok,h=>by
  let#[h1,h2]:=kM ok;refine#[h1,λn F=>h n ?_];rw[h2]at F;exact LB.mpr #[.plain ws,yd,F]
 | .lend x y b,ok,h=>by
  refine#[h x (LB.mpr #[.lend x y b,yd,by simp[b4]]),h y (LB.mpr #[.lend x y b,yd,by simp[b4]]),hf b ok λn F=>h n ?_];let#[s,J,F]:=LB.mp F;exact LB.mpr #[s,yh _ (LB.mpr #[b,by simp[dL],J]),F]
 | .ite m b c,ok,h=>by
  refine#[hf b ok.1 λn F=>h n ?_,hf c ok.2 λn F=>h n ?_]
  .let#[s,J,F]:=LB.mp F;exact LB.mpr #[s,yh _ (LB.mpr #[b,by simp[dL],J]),F]
  .let#[s,J,F]:=LB.mp F;exact LB.mpr #[s,yh _ (LB.mpr #[c,by simp[dL],J]),F]
 | .whl m b,ok,h=>hf b ok λn F=>h n (by
   let#[s,J,F]:=LB.mp F;exact LB.mpr ⟨s,yh _ (LB.mpr ⟨b,by simp[dL],J⟩),F⟩)
theorem zM{N:Str->Prop}:∀(d:Nat) (T:List vr),js d T->(∀n∈(cm d T).flatMap b4,N n)->fT N d T
 | 0,_,h,_=>h
 | d+1,T,ok,h=>λs O=>Fp (λb S F=>zM d b S F) s (ok s O) λn F=>h n (by
   let#[s',J,F]:=LB.mp F;exact LB.mpr ⟨s',LB.mpr ⟨s,O,J⟩,F⟩)
def dG(x:Str):Prop:=32∉x.cps.toList
def fI(f:List vr->Prop):vr->Prop
 | .plain ws=>fR ws/\∀x∈ws,dG x
 | .lend x y b=>dG x/\dG y/\f b
 | .ite n b c=>n.natAbs<10^61/\f b/\f c
 | .whl n b=>n.natAbs<10^61/\f b
def cE:Nat->List vr->Prop
 | 0,_=>False
 | d+1,T=>∀s∈T,fI (cE d) s
theorem rX(h:cE (d+1) T)(J:fI (cE d) s):cE (d+1) (T++[s]):=λu F=>(LG.mp F).elim (h u) (λz=>by rw[Lv.mp z];exact J)
theorem mo(d:Nat):cE (d+1) []:=λs F=>by cases F
noncomputable def gM(f:List vr->List MA):vr->List MA
 | .plain ws=>[ws]
 | .lend x y b=>["lend",x,y]::(f b++[[("back" : Str)]])
 | .ite n b c=>["if",f_ n]::(f b++[[("else" : Str)]]++(f c++[[("fi" : Str)]]))
 | .whl n b=>["while",f_ n]::(f b++[[("done" : Str)]])
noncomputable def tP:Nat->List vr->List MA
 | 0,_=>[]
 | d+1,T=>T.flatMap (gM (tP d))
theorem G8{f:List vr->MA}{g:List vr->List MA}(h:∀b,f b=(g b).map (Ml " ")):∀s:vr,cY f s=(gM g s).map (Ml " ")
 | .plain ws=>rfl
 | .lend x y b=>by simp[cY,gM,h];rfl
 | .ite n b c=>by simp[cY,gM,h];exact#[rfl,rfl]
 | .whl n b=>by simp[cY,gM,h];rfl
theorem Em:∀(d:Nat) (T:List vr),dC d T=(tP d T).map (Ml " ")
 | 0,_=>rfl
 | d+1,T=>by
  show T.flatMap (cY (dC d))=(T.flatMap (gM (tP d))).map _;rw[List.map_flatMap];congr 1;funext s;exact G8 (Em d) s
structure wx (ws:MA):Prop where
 ne:ws≠[]
 free:∀x∈ws,dG x
 num:(ws.headD "" = "if" \/ ws.headD "" = "while")->∃n:Int,ws[1]?=Sm (f_ n)/\n.natAbs<10^61
theorem sX(n:Int):dG (f_ n):=by
 unfold dG f_;cases n with
 | ofNat m=>
  have e:(Str.ofString (toString (Int.ofNat m))).cps.toList=(Nat.toDigits 10 m).map Char.toNat:=W.KIN.signs_num m;rw[e];intro z;have:=(nU m).1 32 z;lia
 | negSucc m=>
  have e:(Str.ofString (toString (Int.negSucc m))).cps.toList=45::(Nat.toDigits 10 (m+1)).map Char.toNat:=by
   rw[signs_ofString];show ("-" ++ Nat.repr (m+1)).toList.map Char.toNat=_;rw[String.toList_append,yb,Nat.toList_repr];rfl
  rw[e];intro z;rcases LH.mp z with z | z
  .cases z
  .have:=(nU (m+1)).1 32 z;lia
theorem lG{x:Str}(h:dG x)(h1:¬ x = "if") (h2:¬ x = "while"):wx [x]:=#['~',by simpa using h,λz=>z.elim (λz=>absurd z h1) (λz=>absurd z h2)]
theorem Ib{g:List vr->List MA}{f:List vr->Prop}(h:∀b,f b->∀ws∈g b,wx ws):∀ {s:vr},fI f s->∀ws∈gM g s,wx ws
 | .plain us,⟨px,hf⟩,ws,F=>by
  have e:ws=us:=by simpa [gM] using F
  subst e;refine#[λz=>(by subst z;cases px),hf,λz=>?_];exfalso;cases px with
  | op x=>rcases z with z | z<;>exact absurd z (show ¬ ("open" : Str)=_ from ∅)
  | dr x=>rcases z with z | z<;>exact absurd z (show ¬ ("drop" : Str)=_ from ∅)
  | dd u x=>rcases z with z | z<;>exact absurd z (show ¬ ("do" : Str)=_ from ∅)
  | cp x y=>rcases z with z | z<;>exact absurd z (show ¬ ("copy" : Str)=_ from ∅)
  | ti x y=>rcases z with z | z<;>exact absurd z (show ¬ ("tie" : Str)=_ from ∅)
 | .lend x y b,⟨hx,hy,hb⟩,ws,F=>by
  simp only[gM,yg,KR,yu,or_false]at F;rcases F with rfl | F | rfl
  .refine#['~',λu J=>?_,λz=>?_]
   .simp only[yg,yu,or_false]at J;rcases J with rfl | rfl | rfl
    .show 32∉_;decide
    .exact hx
    .exact hy
   .exfalso;rcases z with z | z<;>exact absurd z (show ¬ ("lend" : Str)=_ from ∅)
  .exact h b hb ws F
  .exact lG (show 32∉_ from ∅) ∅ ∅
 | .ite n b c,⟨hn,hb,hc⟩,ws,F=>by
  simp only[gM,yg,KR,yu,or_false]at F;rcases F with rfl | (F | rfl) | F | rfl
  .refine#['~',λu J=>?_,λ_=>#[n,rfl,hn]];simp only[yg,yu,or_false]at J;rcases J with rfl | rfl
   .show 32∉_;decide
   .exact sX n
  .exact h b hb ws F
  .exact lG (show 32∉_ from ∅) ∅ ∅
  .exact h c hc ws F
  .exact lG (show 32∉_ from ∅) ∅ ∅
 | .whl n b,⟨hn,hb⟩,ws,F=>by
  simp only[gM,yg,KR,yu,or_false]at F;rcases F with rfl | F | rfl
  .refine#['~',λu J=>?_,λ_=>#[n,rfl,hn]];simp only[yg,yu,or_false]at J;rcases J with rfl | rfl
   .show 32∉_;decide
   .exact sX n
  .exact h b hb ws F
  .exact lG (show 32∉_ from ∅) ∅ ∅
theorem EO:∀ {d:Nat} {T:List vr},cE d T->∀ws∈tP d T,wx ws
 | 0,_,h,_,_=>h.elim
 | d+1,T,h,ws,F=>by
  let#[s,J,F]:=LB.mp F;exact Ib (λb z=>EO z) (h s J) ws F
theorem A0(l:MA):(fN l).Nodup:=by
 unfold fN;have go:∀(l acc:MA),acc.Nodup->(l.foldl f7 acc).Nodup:=λl=>by
  induction l with
  | nil=>intro acc h;exact h
  | cons x l ih=>
   intro acc h;refine ih _ ?_;unfold f7;split
   .exact h
   .rename_i c;rw[JT];exact#[h,'~',λa F b J=>by rw[Lv.mp J];exact λz=>c (z ▸ F)]
 exact go l [] JW
theorem zH{f g:List vr->Prop}(h:∀b,f b->g b):∀ {s:vr},fI f s->gq g s
 | .plain ws,⟨px,_⟩=>by
  show gu ws;cases px with
  | op x=>exact .opn x
  | dr x=>exact .drp x
  | dd u x=>exact .doo u x
  | cp x y=>exact .cpy x y
  | ti x y=>exact .tie x y
 | .lend _ _ _,z=>h _ z.2.2
 | .ite _ _ _,z=>#[h _ z.2.1,h _ z.2.2]
 | .whl _ _,z=>h _ z.2
theorem mM:∀ {d:Nat} {T:List vr},cE d T->js d T
 | 0,_,h=>h
 | _+1,_,h=>λs F=>zH (λ_ z=>mM z) (h s F)
def nG(ws:MA):Prop:=ws.headD "" = "lend" -> ∃x y,ws=[("lend" : Str),x,y]
theorem HX{f:List vr->List MA}{p:List vr->Prop}(h:∀b,p b->∀ws∈f b,nG ws):∀(s:vr),fI p s->∀ws∈gM f s,nG ws
 | .plain us,⟨px,_⟩,ws,F=>by
  have e:ws=us:=by simpa [gM] using F
  subst e;intro z;exfalso;cases px with
  | op x=>exact absurd z (show ¬ ("open" : Str)=_ from ⋯)
  | dr x=>exact absurd z (show ¬ ("drop" : Str)=_ from ⋯)
  | dd u x=>exact absurd z (show ¬ ("do" : Str)=_ from ⋯)
  | cp x y=>exact absurd z (show ¬ ("copy" : Str)=_ from ⋯)
  | ti x y=>exact absurd z (show ¬ ("tie" : Str)=_ from ⋯)
 | .lend x y b,⟨_,_,hb⟩,ws,F=>by
  simp only[gM,yg,KR,yu,or_false]at F;rcases F with rfl | F | rfl
  .exact λ_=>yI2 x y rfl
  .exact h b hb ws F
  .exact λz=>absurd z (show ¬ ("back" : Str)=_ from ⋯)
 | .ite n b c,⟨_,hb,hc⟩,ws,F=>by
  simp only[gM,yg,KR,yu,or_false]at F;rcases F with rfl | (F | rfl) | F | rfl
  .exact λz=>absurd z (show ¬ ("if" : Str)=_ from ⋯)
  .exact h b hb ws F
  .exact λz=>absurd z (show ¬ ("else" : Str)=_ from ⋯)
  .exact h c hc ws F
  .exact λz=>absurd z (show ¬ ("fi" : Str)=_ from ⋯)
 | .whl n b,⟨_,hb⟩,ws,F=>by
  simp only[gM,yg,KR,yu,or_false]at F;rcases F with rfl | F | rfl
  .exact λz=>absurd z (show ¬ ("while" : Str)=_ from ⋯)
  .exact h b hb ws F
  .exact λz=>absurd z (show ¬ ("done" : Str)=_ from ⋯)
theorem A4:∀ {d:Nat} {T:List vr},cE d T->∀ws∈tP d T,nG ws
 | 0,_,h,_,_=>h.elim
 | d+1,T,h,ws,F=>by
  let#[s,J,F]:=LB.mp F;exact HX (λb z=>A4 z) s (h s J) ws F
theorem vw{ws:MA}(o:wx ws)(h:nG ws):hU (Ml " " ws)=decide (ws.headD "" = "lend"):=by
 by_cases c:ws.headD "" = "lend"
 .let#[x,y,rfl]:=h c;rw[p6,decide_eq_true c]
 .rw[decide_eq_false c];cases hb:hU (Ml " " ws) with
  | false=>rfl
  | true=>
   exfalso;unfold hU at hb;rw[Ld,decide_eq_true_eq]at hb;let#[h1,h2]:=hb;unfold OP at h2;rw[beq_iff_eq]at h2;have hl:("lend " : Str).length=5:=⋯;rw[hl]at h2;have S:((Ml " " ws).cps.extract 0 (0+5)).toList=("lend " : Str).cps.toList:=by rw[h2]
   rw[zbq]at S;simp only[List.extract_eq_drop_take,tN,Nat.sub_zero,List.drop_zero]at S;have O:(Ml " " ws).cps.toList=("lend" : Str).cps.toList++32::(Ml " " ws).cps.toList.drop 5:=by
    conv=>lhs;rw[<-JF 5 (Ml " " ws).cps.toList,S]
    have:("lend " : Str).cps.toList=("lend" : Str).cps.toList++[32]:=⋯;rw[this,oU];rfl
   have hf:32∉("lend" : Str).cps.toList:=⋯;let#[F,wr,rfl]:=List.exists_cons_of_ne_nil o.ne;have J:32∉F.cps.toList:=o.free F yd;cases wr with
   | nil=>
    have:(Ml " " [F]).cps.toList=F.cps.toList:=rfl;rw[this]at O;rw[O]at J;exact J (oo _ yd)
   | cons x r=>
    have U:∀(r:MA) (a:Str) (BY:MB),a.cps.toList=F.cps.toList++32::BY->∃rest',(r.foldl (λa x=>a++(" " : Str)++x) a).cps.toList=F.cps.toList++32::rest':=λr=>by
     induction r with
     | nil=>intro a BY e;exact#[BY,e]
     | cons y r ih=>
      intro a BY e;refine ih (a++(" " : Str)++y) (BY++(" " : Str).cps.toList++y.cps.toList) ?_;rw[gn,gn,e];simp only[oU,IW]
    rw[BD]at O;let#[BY,Y]:=U r (F++(" " : Str)++x) x.cps.toList (by
     have W:(" " : Str).cps.toList=[32]:=⋯;rw[gn,gn,W,oU];rfl)
    rw[zaX,Y]at O;have:=(sO J hf O).1;exact c (vC this)
noncomputable def n9(W:List MA):MB:=(List.range W.length).filter λi=>decide ((W.getD i []).headD "" = "lend")
theorem DJ{W:List MA}(J:∀ws∈W,wx ws)(hl:∀ws∈W,nG ws):gB (W.map (Ml " "))=n9 W:=by
 unfold gB n9;rw[zb];refine List.filter_congr λi hi=>?_;have F:=LK.mp hi;rw[xW,xW,zz,zd F];exact vw (J _ (gV F)) (hl _ (gV F))
theorem Gi{l:MA}{n:Str}(h:n∈l):n∈fN l:=by
 unfold fN;have go:∀(l acc:MA),n∈acc\/n∈l->n∈l.foldl f7 acc:=λl=>by
  induction l with
  | nil=>intro acc h;exact h.elim id (λz=>by cases z)
  | cons x l ih=>
   intro acc h;refine ih _ ?_;unfold f7;rcases h with h | h
   .left;split
    .exact h
    .exact IV _ h
   .rcases LH.mp h with rfl | h
    .left;split
     .assumption
     .exact oo _ yd
    .exact .inr h
 exact go l [] (.inr h)
theorem lY{ws:MA}(F:fR ws):ws.headD "" = "open" \/ ws.headD "" = "drop" \/ ws.headD "" = "do" \/ ws.headD "" = "copy" \/ ws.headD "" = "tie" := by
 cases F
 .exact .inl rfl
 .exact .inr (.inl rfl)
 .exact .inr (.inr (.inl rfl))
 .exact .inr (.inr (.inr (.inl rfl)))
 .exact .inr (.inr (.inr (.inr rfl)))
set_option genSizeOf false in
inductive u_ where
 | top
 | lend (x y:Str)
 | ite (n:Int)
 | whl (n:Int)
set_option genInjectivity false in
set_option genSizeOf false in
structure sv where
 hd:u_
 a:List vr
 b:List vr
 s:Bool
noncomputable def iQ:u_->MC
 | .top=>[.str "top"]
 | .lend x y=>[.str "lend",.str x,.str y]
 | .ite n=>[.str "if",.int n]
 | .whl n=>[.str "while",.int n]
noncomputable def gk(f:sv):vr:=match f.hd with
 | .top=>.plain []
 | .lend x y=>.lend x y f.a
 | .ite n=>.ite n f.a f.b
 | .whl n=>.whl n f.a
noncomputable def bz(f:sv)(s:vr):sv:=if f.s=true then {f with b:=f.b++[s]} else {f with a:=f.a++[s]}
set_option genInjectivity false in
set_option genSizeOf false in
structure Dp where
 fa:o_
 a1:o_
 a2:o_
 f:sv
variable{x:Dp}{gs:List Dp}
noncomputable def fQ(fs:List Dp):MD:=fs.flatMap λx=>[x.fa,x.a1,x.a2]
noncomputable def nE(b:Bool):V:=.int (if b=true then 1 else 0)
def IU(S:o_->Prop)(H:Hp)(d:Nat)(x:Dp):Prop:=∃(ha:o_) (as1 as2:MD),H x.fa=Sm (.lst [.ref ha,.ref x.a1,.ref x.a2,nE x.f.s])/\H ha=Sm (.tup (iQ x.f.hd))/\H x.a1=Sm (.lst (as1.map V.ref))/\H x.a2=Sm (.lst (as2.map V.ref))/\L8 (Da (BX S d H) H) as1 x.f.a/\L8 (Da (BX S d H) H) as2 x.f.b
structure DA (H0 H:Hp) (pp:o_) (fs:List Dp) (S:o_->Prop):Prop where
 sm:su H0 H
 pile:H pp=Sm (.lst (fs.map λx=>V.ref x.fa))
 fr:∀k x,fs[k]?=Sm x->IU S H (9-k) x
 nd:(pp::fQ fs).Nodup
 ns:∀b∈pp::fQ fs,¬ S b
 nw:∀b∈pp::fQ fs,H0 b=Nn
 sn:∀b,S b->H0 b=Nn/\∃xs,H b=Sm (.lst xs)
theorem wU{b:o_}(J:S b)(F:¬ S q):b≠q:=λe=>F (e ▸ J)
theorem KY{L:MD}(J:q∈L)(F:p∉L):p≠q:=λe=>F (e ▸ J)
theorem cT{S':o_->Prop}(J:∀b xs,H b=Sm (.tup xs)->H' b=Sm (.tup xs))(hl:∀b xs,S b->H b=Sm (.lst xs)->H' b=Sm (.lst xs))(O:∀b,S b->S' b){F:MD}(h:L8 (Da (BX S d H) H) F T):L8 (Da (BX S' d H') H') F T:=
 L8.imp' (λa s z=>Da.imp J (λq b y=>BX.imp J hl O d y) z) h
theorem IU.imp{S':o_->Prop}(h:IU S H d x)(O:∀b xs,H b=Sm (.tup xs)->H' b=Sm (.tup xs))(hl:∀b xs,S b->H b=Sm (.lst xs)->H' b=Sm (.lst xs))(W:∀b,S b->S' b)(J:∀b o,(b=x.fa\/b=x.a1\/b=x.a2)->H b=Sm o->H' b=Sm o):IU S' H' d x:=by
 revert h;refine yF3 λha F U=>yB6 λh1 h2 Z h4 h5 Y=>?_;exact yI3 ha F U #[J _ _ (.inl rfl) h1,O _ _ h2,J _ _ (.inr (.inl rfl)) Z,J _ _ (.inr (.inr rfl)) h4,cT O hl W h5,cT O hl W Y]
theorem fP{fs:List Dp}(h:x∈fs):x.fa∈fQ fs/\x.a1∈fQ fs/\x.a2∈fQ fs:=by
 unfold fQ;refine#[?_,?_,?_]<;>exact LB.mpr #[x,h,'~']
theorem fH(fs gs:List Dp):fQ (fs++gs)=fQ fs++fQ gs:=List.flatMap_append
theorem DA.alloc{O:Hp}{F:o_}{fs:List Dp}(I:DA O H F fs S)(s:su H H'):DA O H' F fs S:=
 #[I.sm.trans s,s _ _ I.pile,λk x e=>(I.fr k x e).imp (λb xs z=>s _ _ z) (λb xs _ z=>s _ _ z) (λ_ z=>z) (λb o _ z=>s _ _ z),I.nd,I.ns,I.nw,λb J=>#[(I.sn b J).1,by let#[xs,z]:=(I.sn b J).2;exact#[xs,s _ _ z]]]
theorem DA.free{F:Hp}{fs:List Dp}(I:DA F H J fs S){t:o_}(h:H t=Nn):F t=Nn/\¬ S t:=by
 refine#[I.sm.free h,λz=>?_];let#[_,xs,e]:=I.sn t z;rw[h]at e;cases e
theorem DA.notop{W:Hp}{fs:List Dp}(I:DA W H J fs S){t:o_}(h:H t=Nn):t∉J::fQ fs:=λz=>by
 rcases LH.mp z with rfl | z
 .rw[I.pile]at h;cases h
 .let#[x,hx,F]:=LB.mp z;let#[k,Y,rfl]:=LJ.mp hx;refine yE3 (I.fr k _ (zd Y)) λha O Z=>yB5 λh1 h2 U h4 _=>?_;simp only[yg,yu,or_false]at F;rcases F with e | e | e<;>rw[e]at h
  .rw[h1]at h;cases h
  .rw[U]at h;cases h
  .rw[h4]at h;cases h
theorem DA.write{H0:Hp}{pp:o_}{F:Dp}(I:DA H0 H pp (gs++[x]) S){ys:MC}(hq:q=x.fa\/q=x.a1\/q=x.a2)(e1:F.fa=x.fa)(e2:F.a1=x.a1)(e3:F.a2=x.a2)(hx:IU S (upd H q (.lst ys)) (9-gs.length) F):DA H0 (upd H q (.lst ys)) pp (gs++[F]) S:=by
 have U:fQ (gs++[F])=fQ (gs++[x]):=by
  rw[fH,fH];show _++[F.fa,F.a1,F.a2]=_++[x.fa,x.a1,x.a2]
  rw[e1,e2,e3]
 have ag:x∈gs++[x]:=oo _ yd;have Y:q∈fQ (gs++[x]):=by
  let#[m1,m2,m3]:=fP ag;rcases hq with rfl | rfl | rfl<;>assumption
 have Z:¬ S q:=I.ns q (yh _ Y);have as:H0 q=Nn:=I.nw q (yh _ Y);refine yE3 (I.fr gs.length x (by rw[uu (zg _),Lk];rfl)) λha a5 a4=>yB5 λh1 h2 h3 h4 _=>?_;have ad:∃zs,H q=Sm (.lst zs):=by
  rcases hq with rfl | rfl | rfl
  .exact#[_,h1]
  .exact#[_,h3]
  .exact#[_,h4]
 let#[zs,al]:=ad;have ht:∀b xs,H b=Sm (.tup xs)->upd H q (.lst ys) b=Sm (.tup xs):=λb xs z=>by rw[au (dh z al (λy=>nomatch y))];exact z
 have hl:∀b xs,S b->H b=Sm (.lst xs)->upd H q (.lst ys) b=Sm (.lst xs):=λb xs W z=>by rw[au (wU W Z)];exact z
 have O:=I.nd;rw[JG]at O;refine#[I.sm.upd as _,?_,λk y J=>?_,by rw[U];exact I.nd,by rw[U];exact I.ns,by rw[U];exact I.nw,λb W=>#[(I.sn b W).1,?_]]
 .rw[au (KY Y O.1),I.pile,yb,yb];show Sm (HO.lst (_++[V.ref x.fa]))=Sm (HO.lst (_++[V.ref F.fa]));rw[e1]
 .by_cases hk:k<gs.length
  .rw[xr hk]at J;refine(I.fr k y (by rw[xr hk];exact J)).imp ht hl (λ_ z=>z) (λb o W z=>?_);have ac:b∈fQ gs:=by
    let#[m1,m2,m3]:=fP (xO J);rcases W with rfl | rfl | rfl<;>assumption
   have ab:q∈fQ [x]:=by
    let#[m1,m2,m3]:=fP (fs:=[x]) (x:=x) yd;rcases hq with rfl | rfl | rfl<;>assumption
   have:=O.2;rw[fH,JT]at this;rw[au (this.2.2 b ac q ab)];exact z
  .rw[uu ()]at J;have a3:k-gs.length=0:=by have:=(Lq.mp J).1;simp at this;lia
   rw[a3]at J;cases J;rw[show k=gs.length from ()];exact hx
 .let#[xs,z]:=(I.sn b W).2;exact#[xs,hl b xs W z]
theorem c7(gs:List α)(x:α):(gs++[x])[gs.length]?=Sm x:=by rw[uu (zg _),Lk];rfl
theorem DA.put{H0 H:Hp}{pp:o_}{gs:List Dp}{x:Dp}{S:o_->Prop}(I:DA H0 H pp (gs++[x]) S){t:o_}{st:vr}(ht:Da (BX S (9-gs.length) H) H t st) :
  ∃(q:o_) (as:MD),q=(if x.f.s=true then x.a2 else x.a1)/\H q=Sm (.lst (as.map V.ref))/\as.length=(if x.f.s=true then x.f.b else x.f.a).length/\DA H0 (upd H q (.lst (as.map V.ref++[.ref t]))) pp (gs++[{x with f:=bz x.f st}]) S:=by
 refine yE3 (I.fr gs.length x (c7 gs x)) λY J F=>yB6 λh1 h2 h3 h4 h5 h6=>?_;have ac:x∈gs++[x]:=oo _ yd;have Z:=I.nd;rw[JG,fH,JT]at Z;have ab:[x.fa,x.a1,x.a2].Nodup:=Z.2.2.1;simp only[JG,yg,yu,or_false,not_or,not_false_eq_true,JW,and_true]at ab;let#[#[n1,n2],n3]:=ab;let#[m1,m2,m3]:=fP ac;cases hs:x.f.s with
 | true=>
  refine yI2 x.a2 F #[rfl,h4,aK h6,I.write (.inr (.inr rfl)) rfl rfl rfl ?_];have U:¬ S x.a2:=I.ns _ (yh _ m3);have W:∀b xs,H b=Sm (.tup xs)->upd H x.a2 (.lst (F.map V.ref++[.ref t])) b=Sm (.tup xs):=λb xs z=>by rw[au (dh z h4 (λy=>nomatch y))];exact z
  have kl:∀b xs,S b->H b=Sm (.lst xs)->upd H x.a2 (.lst (F.map V.ref++[.ref t])) b=Sm (.lst xs):=λb xs hb z=>by rw[au (wU hb U)];exact z
  refine yI3 Y J (F++[t]) #[?_,W _ _ ?_,?_,by rw[ai,yb];rfl,?_,?_]
  .show upd H x.a2 _ x.fa=Sm (.lst [.ref Y,.ref x.a1,.ref x.a2,nE (bz x.f st).s]);rw[au n2,h1];unfold bz;rw[Lz hs]
  .show H Y=Sm (.tup (iQ (bz x.f st).hd));rw[h2];unfold bz;rw[Lz hs]
  .show upd H x.a2 _ x.a1=_;rw[au n3];exact h3
  .show L8 _ J (bz x.f st).a;unfold bz;rw[Lz hs];exact cT W kl (λ_ z=>z) h5
  .show L8 _ (F++[t]) (bz x.f st).b;unfold bz;rw[Lz hs];exact cT W kl (λ_ z=>z) (eY h6 (.cons ht .nil))
 | false=>
  refine yI2 x.a1 J #[rfl,h3,aK h5,I.write (.inr (.inl rfl)) rfl rfl rfl ?_];have U:¬ S x.a1:=I.ns _ (yh _ m2);have W:∀b xs,H b=Sm (.tup xs)->upd H x.a1 (.lst (J.map V.ref++[.ref t])) b=Sm (.tup xs):=λb xs z=>by rw[au (dh z h3 (λy=>nomatch y))];exact z
  have kl:∀b xs,S b->H b=Sm (.lst xs)->upd H x.a1 (.lst (J.map V.ref++[.ref t])) b=Sm (.lst xs):=λb xs hb z=>by rw[au (wU hb U)];exact z
  have O:¬ x.f.s=true:=by rw[hs];decide
  refine yI3 Y (J++[t]) F #[?_,W _ _ ?_,by rw[ai,yb];rfl,?_,?_,?_]
  .show upd H x.a1 _ x.fa=Sm (.lst [.ref Y,.ref x.a1,.ref x.a2,nE (bz x.f st).s]);rw[au n1,h1];unfold bz;rw[Lu O]
  .show H Y=Sm (.tup (iQ (bz x.f st).hd));rw[h2];unfold bz;rw[Lu O]
  .show upd H x.a1 _ x.a2=_;rw[au (u6 n3)];exact h4
  .show L8 _ (J++[t]) (bz x.f st).a;unfold bz;rw[Lu O];exact cT W kl (λ_ z=>z) (eY h5 (.cons ht .nil))
  .show L8 _ F (bz x.f st).b;unfold bz;rw[Lu O];exact cT W kl (λ_ z=>z) h6
theorem DA.push{Y:Hp}{fs:List Dp}(I:DA Y H J fs S)(hx:IU S H (9-fs.length) x)(n1:[x.fa,x.a1,x.a2].Nodup)(hf:∀b∈[x.fa,x.a1,x.a2],b∉J::fQ fs/\¬ S b/\Y b=Nn):DA Y (upd H J (.lst (fs.map (λx=>V.ref x.fa)++[.ref x.fa]))) J (fs++[x]) S:=by
 have ab:¬ S J:=I.ns J yd;have ac:Y J=Nn:=I.nw J yd;have O:=I.nd;rw[JG]at O;have kt:∀b xs,H b=Sm (.tup xs)->upd H J (.lst (fs.map (λx=>V.ref x.fa)++[.ref x.fa])) b=Sm (.tup xs):=λb xs z=>by rw[au (dh z I.pile (λy=>nomatch y))];exact z
 have kl:∀b xs,S b->H b=Sm (.lst xs)->upd H J (.lst (fs.map (λx=>V.ref x.fa)++[.ref x.fa])) b=Sm (.lst xs):=λb xs F z=>by rw[au (wU F ab)];exact z
 have ko:∀b o,b≠J->H b=Sm o->upd H J (.lst (fs.map (λx=>V.ref x.fa)++[.ref x.fa])) b=Sm o:=λb o F z=>by rw[au F];exact z
 have W:fQ (fs++[x])=fQ fs++[x.fa,x.a1,x.a2]:=by rw[fH];rfl
 refine#[I.sm.upd ac _,by rw[ai,yb];rfl,λk y U=>?_,?_,λb F=>?_,λb F=>?_,λb F=>#[(I.sn b F).1,by let#[xs,z]:=(I.sn b F).2;exact#[xs,kl b xs F z]]]
 .by_cases hk:k<fs.length
  .rw[xr hk]at U;refine(I.fr k y U).imp kt kl (λ_ z=>z) (λb o F z=>ko b o (λe=>?_) z);let#[m1,m2,m3]:=fP (xO U);rcases F with h | h | h
   .exact O.1 (by rw[<-e,h];exact m1)
   .exact O.1 (by rw[<-e,h];exact m2)
   .exact O.1 (by rw[<-e,h];exact m3)
  .rw[uu ()]at U;have ad:k-fs.length=0:=by have:=(Lq.mp U).1;simp at this;lia
   rw[ad]at U;cases U;rw[show k=fs.length from ()];refine hx.imp kt kl (λ_ z=>z) (λb o F z=>ko b o (λe=>?_) z);have Z:b∈[x.fa,x.a1,x.a2]:=by rcases F with h | h | h<;>rw[h]<;>simp
   exact(hf b Z).1 (by rw[e];exact yd)
 .rw[W,<-IW,JT];exact#[I.nd,n1,λa ha b F e=>(hf b F).1 (e ▸ ha)]
 .rw[W,<-IW]at F;rcases LG.mp F with h | h
  .exact I.ns b h
  .exact(hf b h).2.1
 .rw[W,<-IW]at F;rcases LG.mp F with h | h
  .exact I.nw b h
  .exact(hf b h).2.2
theorem DA.pop{H0:Hp}(I:DA H0 H J (gs++[x]) S)(hg:gs.length<=8) :
  DA H0 (upd H J (.lst (gs.map λx=>V.ref x.fa))) J gs (λb=>S b\/b=x.a1\/b=x.a2)/\BX (λb=>S b\/b=x.a1\/b=x.a2) (10-gs.length) (upd H J (.lst (gs.map λx=>V.ref x.fa))) x.a1 x.f.a/\BX (λb=>S b\/b=x.a1\/b=x.a2) (10-gs.length) (upd H J (.lst (gs.map λx=>V.ref x.fa))) x.a2 x.f.b:=by
 refine yE3 (I.fr gs.length x (c7 gs x)) λha W U=>yB6 λh1 h2 h3 h4 h5 h6=>?_;have ab:¬ S J:=I.ns J yd;have ad:H0 J=Nn:=I.nw J yd;have O:=I.nd;rw[fH,<-IW,JT]at O;let#[Z,d2,d3]:=O;have dx:∀b∈J::fQ gs,b≠x.a1/\b≠x.a2:=λb F=>#[λe=>d3 b F x.a1 (by show _∈[x.fa,x.a1,x.a2];simp) e,λe=>d3 b F x.a2 (by show _∈[x.fa,x.a1,x.a2];simp) e];have kt:∀b xs,H b=Sm (.tup xs)->upd H J (.lst (gs.map λx=>V.ref x.fa)) b=Sm (.tup xs):=λb xs z=>by rw[au (dh z I.pile (λy=>nomatch y))];exact z
 have Y:∀b xs,S b->H b=Sm (.lst xs)->upd H J (.lst (gs.map λx=>V.ref x.fa)) b=Sm (.lst xs):=λb xs F z=>by rw[au (wU F ab)];exact z
 have p1:=(dx J yd).1;have p2:=(dx J yd).2;have k3:upd H J (.lst (gs.map λx=>V.ref x.fa)) x.a1=Sm (.lst (W.map V.ref)):=by rw[au p1.symm];exact h3
 have k4:upd H J (.lst (gs.map λx=>V.ref x.fa)) x.a2=Sm (.lst (U.map V.ref)):=by rw[au p2.symm];exact h4
 have ag:x∈gs++[x]:=oo _ yd;let#[m1,m2,m3]:=fP ag;have e9:10-gs.length=9-gs.length+1:=()
 refine#[#[I.sm.upd ad _,ai,λk y hy=>?_,Z,λb F z=>?_,λb F=>?_,λb F=>?_],?_,?_]
 .have hk:=(Lq.mp hy).1;refine(I.fr k y (by rw[xr hk];exact hy)).imp kt Y (λ_ z=>.inl z) (λb o F z=>?_);have ac:b∈fQ gs:=by
   let#[m1,m2,m3]:=fP (xO hy);rcases F with rfl | rfl | rfl<;>assumption
  rw[JG]at Z;rw[au (KY ac Z.1).symm];exact z
 .rcases z with z | z | z
  .exact I.ns b (by rw[fH,<-IW];exact IV _ F) z
  .exact(dx b F).1 z
  .exact(dx b F).2 z
 .exact I.nw b (by rw[fH,<-IW];exact IV _ F)
 .rcases F with F | rfl | rfl
  .exact#[(I.sn b F).1,by let#[xs,z]:=(I.sn b F).2;exact#[xs,Y b xs F z]]
  .exact#[I.nw _ (yh _ m2),_,k3]
  .exact#[I.nw _ (yh _ m3),_,k4]
 .rw[e9];exact#[.inr (.inl rfl),W,k3,cT kt Y (λ_ z=>.inl z) h5]
 .rw[e9];exact#[.inr (.inr rfl),U,k4,cT kt Y (λ_ z=>.inl z) h6]
def xX:Sp:=λvs H Q _=>∃(pp t:o_) (H0:Hp) (gs:List Dp) (x:Dp) (S:o_->Prop) (st:vr),vs=[.ref pp,.ref t]/\DA H0 H pp (gs++[x]) S/\Da (BX S (9-gs.length) H) H t st/\x.f.a.length<=1000/\x.f.b.length<=1000/\gs.length<=100/\
 ∀H':Hp,DA H0 H' pp (gs++[{x with f:=bz x.f st}]) S->Q .non H'
theorem h_:cJ ((gs++[x]).map λx=>V.ref x.fa) (-1)=Sm (.ref x.fa):=F2 (by rw[zb,zz,zq];simp)
theorem IS(D:xn K mg "_law_put" iq):aD P w K mg base 1 "_law_put" qAZ xX:=by
 refine D.cal (k:=0) xY (λf ad A outer s0 H vs Q E hr h=>?_);revert h;refine yF7 λpp t H0 gs x S st=>yB7 ?_;rintro rfl I ht ac W ab q;refine#[_,(aj (bm (bB K yY ux uC br (am (ax K) (am (ax K) (pv 0) (eh dN af)) (ar aF af (am (ax K) (am (ax K) (pv 0) (eh dN af)) af))) (aa (pv 1) ae)))),?_];refine yE3 (I.fr gs.length x (c7 gs x)) λha Z Y=>yB6 λh1 h2 h3 h4 h5 h6=>?_;refine yE2 (I.put ht) λq0 as=>yB4 λO F J U=>?_;cbv;refine X2 (ud.of I.pile) h_ ?_;cbv;refine X2 (ud.of I.pile) h_ ?_;cbv;refine X2 (ud.of h1) (aq (j:=3) rfl) ?_;cases hs:x.f.s with
 | true=>
  rw[hs,Lz rfl]at O J;subst O;rw[show nE true=V.int 1 from rfl];cbv;refine X2 (ud.of h1) (aq (j:=2) rfl) ?_;cbv;refine#[#[_,ud.of F],_,F,by rw[zb,J];exact cC (),?_];exact q _ U
 | false=>
  rw[hs,Lu ∅]at O J;subst O;rw[show nE false=V.int 0 from rfl];cbv;refine X2 (ud.of h1) (aq (j:=1) rfl) ?_;cbv;refine#[#[_,ud.of F],_,F,by rw[zb,J];exact cC (),?_];exact q _ U
def oG:Sp:=λvs H Q _=>∃(pp:o_) (H0:Hp) (gs:List Dp) (g x:Dp) (S:o_->Prop),vs=[.ref pp]/\DA H0 H pp (gs++[g]++[x]) S/\x.f.hd ≠ .top/\g.f.a.length<=1000/\g.f.b.length<=1000/\gs.length<=7/\
 ∀(H':Hp) (S':o_->Prop),DA H0 H' pp (gs++[{g with f:=bz g.f (gk x.f)}]) S'->Q .non H'
theorem Cy(D:xn K mg "_law_close" cw) (J:aD P w K mg base 1 "_law_put" qAZ xX):aD P w K mg base 2 "_law_close" ["_law_pile"] oG:=by
 refine D.cal (k:=1) DX (λf a7 A outer s0 H vs Q E hr h=>?_);revert h;refine yF6 λZ H0 gs g x S=>yB7 ?_;rintro rfl I hx ab Y a6 q;refine⟨_,(ah (k7 (oW K yY F.slot_list_pop F.type_list_pop xa (pv 0)) (EZ K (n:=4) (cW (aS 1 DX.nd) (cW (aS 2 DX.nd) (cW (aS 3 DX.nd) (cW (aS 4 DX.nd) iJ))))))
   (aj (aY (aA aL (am (ax K) (pv 1) af) av (aB _)) (aj (bm (aw J hr (aa (pv 0) (aa (ar (gU K) (pv 1) (aR (aa (pv 2) (aa (pv 3) ae)))) ae))))) (aj (bm (aw J hr (aa (pv 0) (aa (ar (gU K) (pv 1) (aR (aa (pv 2) ae))) ae)))))))),?_⟩
 refine yE3 (I.fr (gs++[g]).length x (c7 (gs++[g]) x)) λha a4 a3=>yB6 λh1 h2 h3 h4 h5 h6=>?_;let#[I2,pa,pb]:=I.pop (by rw[zq];simp;lia);have ac:(gs++[g]).length=gs.length+1:='~';rw[ac,show 10-(gs.length+1)=9-gs.length from ()]at pa pb;cbv;refine#[#[_,ud.of I.pile],yI2 _ _ #[I.pile,(by rw[yb,zq,uu '~'];simp:_=Sm (V.ref x.fa)),?_]];rw[yb,yR,JO,List.dropLast_concat];have as:x.fa≠Z:=λe=>by
  have:=I.nd;rw[JG]at this;exact this.1 (by rw[<-e];exact(fP (oo _ yd)).1)
 have ag:upd H Z (.lst ((gs++[g]).map λx=>V.ref x.fa)) x.fa=Sm (.lst [.ref ha,.ref x.a1,.ref x.a2,nE x.f.s]):=by rw[au as];exact h1
 have O:upd H Z (.lst ((gs++[g]).map λx=>V.ref x.fa)) ha=Sm (.tup (iQ x.f.hd)):=by rw[au (dh h2 I.pile (λy=>nomatch y))];exact h2
 generalize upd H Z (.lst ((gs++[g]).map λx=>V.ref x.fa))=H1 at I2 pa pb ag O |-
 rw[Ft];refine yI2 x.fa _ #[rfl,ud.of ag,rfl,?_];have a5:Dp.mk g.fa g.a1 g.a2 (bz g.f (gk x.f))={g with f:=bz g.f (gk x.f)}:=rfl;cases hh:x.f.hd with
 | top=>exact absurd hh hx
 | ite n=>
  rw[hh]at O;cbv;rw?;refine X1 (uc.of O) (show cJ (iQ (.ite n)) 0=Sm (.str "if") from kr) ?_;cbv;refine#[∅,λt1 al=>?_];∎;rename_i H2 s2 e2;refine yI2 _ _ #[uc.of (s2 _ _ O),uc.of e2,by simp[iQ],aH (by simp[iQ]),λz=>by simp at z,λ_ t2 ad=>?_];∎;rename_i H3 s3 W;have W:H3 t2=Sm (.tup [.str "if",.int n,.ref x.a1,.ref x.a2]):=W;have U:=s2.trans s3;refine yI7 Z t2 H0 gs g _ (gk x.f) #[rfl,I2.alloc U,?_,ab,Y,(),λH' I3=>q H' _ I3];unfold gk;rw[hh];exact yI2 x.a1 x.a2 #[W,pa.mono U,pb.mono U]
 | lend u v=>
  rw[hh]at O;cbv;rw?;refine X1 (uc.of O) (show cJ (iQ (.lend u v)) 0=Sm (.str "lend") from kr) ?_;cbv;rw[Lu ⋯];refine#[∅,λt1 al=>?_];∎;rename_i H2 s2 e2;refine yI2 _ _ #[uc.of (s2 _ _ O),uc.of e2,by simp[iQ],aH (by simp[iQ]),λz=>by simp at z,λ_ t2 ad=>?_];∎;rename_i H3 s3 W;have W:H3 t2=Sm (.tup [.str "lend",.str u,.str v,.ref x.a1]):=W;have U:=s2.trans s3;refine yI7 Z t2 H0 gs g _ (gk x.f) #[rfl,I2.alloc U,?_,ab,Y,(),λH' I3=>q H' _ I3];unfold gk;rw[hh];exact#[x.a1,W,pa.mono U]
 | whl n=>
  rw[hh]at O;cbv;rw?;refine X1 (uc.of O) (show cJ (iQ (.whl n)) 0=Sm (.str "while") from kr) ?_;cbv;rw[Lu ⋯];refine#[∅,λt1 al=>?_];∎;rename_i H2 s2 e2;refine yI2 _ _ #[uc.of (s2 _ _ O),uc.of e2,by simp[iQ],aH (by simp[iQ]),λz=>by simp at z,λ_ t2 ad=>?_];∎;rename_i H3 s3 W;have W:H3 t2=Sm (.tup [.str "while",.int n,.ref x.a1]):=W;have U:=s2.trans s3;refine yI7 Z t2 H0 gs g _ (gk x.f) #[rfl,I2.alloc U,?_,ab,Y,(),λH' I3=>q H' _ I3];unfold gk;rw[hh];exact#[x.a1,W,pa.mono U]
theorem Fa{x:Str}(h:∀c∈x.cps.toList,c∈GJ.cps.toList):32∉x.cps.toList:=λz=>absurd (h 32 z) ∅
def dR(x:Str):Prop:=x.length<=20/\dG x
def oS:Sp:=λvs H Q _=>∃(c:Int) (n:Nat),vs=[.int c,.int (n:Int)]/\n<=10/\∀(L:o_) (ss:MA) (H':Hp),su H H'->H L=Nn->H' L=Sm (.lst (ss.map V.str))->ss.length=n->(∀x∈ss,dR x)->Q (.ref L) H'
theorem BM(D:xn K mg "_law_words" aV) (J:mg "range" = Nn) (ac:mg "int" = Nn):aD P w K mg base 1 "_law_words" qAi oS:=by
 refine D.cal (k:=0) Cp (λf bh A outer s0 H vs Q E hr h=>?_);revert h;refine yF2 λc n=>yB3 ?_;rintro rfl hn q;refine⟨_,(ah (ay 2 Cp.nd av (hx:=Lf))
   (ah (ay 3 Cp.nd (ar aF af (ar b5 (pv 0) af)))
   (ah (ay 4 Cp.nd (ar b5 (ar eW (pv 0) af) (pv 3)) (hx:=Mc))
   (ah (ay 5 Cp.nd (ar b5 (ar eW (pv 0) af) (ar nK af af)))
   (ah (ay 6 Cp.nd (aG ae) (hx:=PY))
   (ah (cg pD rfl (ef DE J (aa (pv 3) ae)) (aS 7 Cp.nd (hx:=IL)) (ah (bm (bB K yY ux uC br (pv 6 (hv:=Qa)) (aa (ar b5 (pv 5) af) ae)))
   (aj (ay 5 Cp.nd (ar eW (pv 5) af)))))
   (ah (ay 8 Cp.nd (aG ae))
   (ah (cg pD rfl (ef DE J (aa (pv 1) ae)) (aS 7 Cp.nd (hx:=IL)) (aj (bm (bB K yY ux uC br (pv 8) (aa (bB K zbC F.slot_str_join F.type_str_join (sV K) av (aa (dn (CO.to (fsc:=(sg aV)) (N:=qAE) (N0:=qAE) (T:=["_law_j"])) rfl (ef DE J (aa (pv 3) ae)) (λ_ _ _ _=>(aS 9 (show (["_law_cell","_law_many","_law_letters","_law_size","_law_at","_law_rest","_law_base","_law_k","_law_words_here","_law_j"]:MA).Nodup from ⋯))) (bW (show (qAE:MA).length<=9 from ∅)) (λ_ _ _ _=>cX) (λ_ _ _ _=>(am (ax K) (pv 2 (hv:=(bR (sg aV) ⋯))) (ar b5 (ar aF (am (ax K) (pv 6 (hv:=(bR (sg aV) ⋯))) (pv 9)) (ar gm (pv 7 (hv:=(bR (sg aV) ⋯))) (eQ qC ac Ag (aa (db aL (pv 9) (pv 4 (hv:=(bR (sg aV) ⋯))) (aB _)) ae)))) af)))) ae)) ae)))))
   (aj (az (pv 8))))))))))),?_⟩
 cbv;rw?;refine#[∅,?_];have a3:∃z:Nat,1+c%8=(z:Int)/\1<=z/\z<=8:=#[(1+c%8).toNat,(),(),()];revert a3;refine yF1 λsz=>yB3 λa7 bg be=>?_;rw[a7];rw?;refine#[#[∅,∅],(),?_];generalize c/8%(sz:Int)=at';rw?;refine#[#[∅,∅],#[∅,∅,∅],∅,?_];generalize hrest:c/64%26^Int.toNat 8=BY;rw?;refine#[∅,λp hp=>?_];∎;rename_i H1 s1 e1;have e1:H1 p=Sm (.lst (([]:MJ).map V.int)):=e1;rw?;refine#[(),(),?_];rw[uv];refine fC (λi σ H'=>∃(ns:MJ) (r0:Int) (o7:MK),σ=[Sm (.int c),Sm (.int (n:Int)),Sm (.str "abcdefghijklmnopqrstuvwxyz"),Sm (.int (sz:Int)),Sm (.int at'),Sm (.int r0),Sm (.ref p),o7,Nn]/\su H H'/\H' p=Sm (.lst (ns.map V.int))/\ns.length=i)
  (yI3 ([]) BY Nn #[rfl,s1,e1,rfl]) ?_ ?_
 .intro i σ H' hi;refine yF3 λns r0 o7=>yB4 ?_;rintro rfl sm hl al;cbv;refine#[#[_,ud.of hl],∅,?_];cbv;refine#[_,hl,by rw[zb];exact cC (),?_];rw?;exact#[#[∅,∅],yI3 (ns++[r0%26]) _ _ #[rfl,sm.upd hp _,by rw[ai,yb];rfl,by simp[al]]]
 intro σ H2;refine yF3 λns r0 o7=>yB4 ?_;rintro rfl s2 e2 al;rw?;refine#[∅,λL hL=>?_];have s3:=ak hL (.lst []);have e3:upd H2 L (.lst []) L=Sm (.lst (([]:MA).map V.str)):=ai;have ad:H L=Nn:=s2.free hL;have a4:p≠L:=aQ e2 hL;have ag:=s3 _ _ e2;generalize upd H2 L (.lst [])=H3 at s3 e3 ag |-;rw?;refine#[(),(),?_]
 rw[uv];refine fC (λi σ H'=>∃(ss:MA) (o7:MK),σ=[Sm (.int c),Sm (.int (n:Int)),Sm (.str "abcdefghijklmnopqrstuvwxyz"),Sm (.int (sz:Int)),Sm (.int at'),Sm (.int r0),Sm (.ref p),o7,Sm (.ref L)]/\su H H'/\H' p=Sm (.lst (ns.map V.int))/\H' L=Sm (.lst (ss.map V.str))/\ss.length=i/\∀x∈ss,dR x)
  (yI2 ([]) _ #[rfl,s2.trans s3,ag,e3,rfl,'~']) ?_ ?_
 .intro i σ H' hi;refine yF2 λss o7=>yB6 ?_;rintro rfl sm hl S Z Y;cbv;refine#[#[_,ud.of S],(),(),λC hC=>?_];rw[uv];refine l_ (λj ys H2=>su H' H2/\H2 C=Sm (.lst ys)/\∃ds:MB,ys=ds.map (λd=>V.str #[#v[d]])/\ds.length=j/\∀d∈ds,d∈GJ.cps.toList) #[ak hC _,ai,[],rfl,rfl,'~'] ?_ ?_
  .intro j ys H4 hj;refine yB3 λO U=>yF1 λds=>yB3 ?_;rintro rfl W ab;cbv;have a5:j<ns.length:=()
   refine X2 (ud.of (O _ _ hl)) (show cJ (ns.map V.int) (0+(j:Int))=Sm (.int ns[j]) by rw[zaZ];exact aq (by rw[zz,zd a5];rfl)) ?_;cbv;refine yE1 (Bw (ns[j]+(0+(i:Int))*if 0+(j:Int)=at' then 1 else 0)) λch=>yB3 λz1 z2 z3=>?_;refine#[.inl #[(),()],∅,ch,z1,z2,?_];refine fD hj (by rw[zb];lia) (aH ()) U #[O.upd hC _,ai,ds++[ch],by rw[yb];rfl,by simp[W],λd hd=>?_];rcases LG.mp hd with hd | hd
   .exact ab d hd
   .rw[Lv.mp hd];exact z3
  .intro ys H4;refine yB3 λO U=>yF1 λds=>yB3 ?_;rintro rfl W ab;cbv;have a6:ds.map (λc=>V.str #[#v[c]])=(ds.map λc=>(#[#v[c]] : Str)).map V.str:=by rw[td];rfl
   rw[a6]at U;have a8:(Str.ofString "").length=0:=∅;refine#[_,ud.of U,?_,?_]
   .rw[a8];have:=jR 1 (ds.map λc=>(#[#v[c]] : Str)) (λs hs=>by let#[c,_,rfl]:=LD.mp hs;exact zg _);rw[zb]at this |-
    lia
   have a9:(Ml "" (ds.map λc=>(#[#v[c]] : Str))).length=sz:=by rw[B5];exact W
   have as:∀c∈(Ml "" (ds.map λc=>(#[#v[c]] : Str))).cps.toList,c∈GJ.cps.toList:=by rw[rz];exact ab
   generalize Ml "" (ds.map λc=>(#[#v[c]] : Str))=bs at a9 as |-
   have bc:=O _ _ S;cbv;refine#[_,bc,by rw[zb];exact cC (),yI2 (ss++[bs]) _ #[rfl,(sm.trans O).upd ad _,?_,by rw[ai,yb];rfl,by simp[Z],λx hx=>?_]]
   .rw[au a4];exact O _ _ hl
   .rcases LG.mp hx with hx | hx
    .exact Y x hx
    .rw[Lv.mp hx];exact#[(),Fa as]
 .intro σ H4;refine yF2 λss o7=>yB6 ?_;rintro rfl sm hl S Z Y;rw?;exact q L ss H4 sm ad S Z Y
def C4:u_->Prop
 | .top=>False
 | .lend x y=>dR x/\dR y
 | .ite n=>n.natAbs<10^61
 | .whl n=>n.natAbs<10^61
noncomputable def jg(k:Nat)(x:Dp):Nat:=ap (10-k) x.f.a+ap (10-k) x.f.b+(if k=0 then 0 else 3)
noncomputable def jn:Nat->List Dp->Nat
 | _,[]=>0
 | k,x::r=>jg k x+jn (k+1) r
theorem gZ(x:Dp):∀(gs:List Dp) (k:Nat),jn k (gs++[x])=jn k gs+jg (k+gs.length) x
 | [],k=>by simp[jn]
 | g::gs,k=>by
  show jg k g+jn (k+1) (gs++[x])=jg k g+jn (k+1) gs+_;rw[gZ x gs (k+1),zy,show k+1+gs.length=k+(gs.length+1) from ()];lia
structure sH (k:Nat) (f:sv):Prop where
 top:k=0->f.hd = .top
 hd:0<k->C4 f.hd
 a:cE (10-k) f.a/\dF (10-k) f.a
 b:cE (10-k) f.b/\dF (10-k) f.b
 sd:(∃n,f.hd = .ite n)\/(f.s=false/\f.b=[])
structure HK (fs:List Dp) (m:Nat):Prop where
 ok:∀k x,fs[k]?=Sm x->sH k x.f
 cnt:jn 0 fs<=m
 len:fs.length<=5
 pos:1<=fs.length
theorem eP{gs:List α}{x y:α}{k:Nat}(h:(gs++[x])[k]?=Sm y):(k<gs.length/\gs[k]?=Sm y)\/(k=gs.length/\y=x):=by
 by_cases hk:k<gs.length
 .rw[xr hk]at h;exact .inl #[hk,h]
 .rw[uu ()]at h;have F:k-gs.length=0:=by have:=(Lq.mp h).1;simp at this;lia
  rw[F]at h;cases h;exact .inr #[(),rfl]
theorem wK(d:Nat)(T U:List vr):ap (d+1) (T++U)=ap (d+1) T+ap (d+1) U:=by
 show ((T++U).map _).sum=_;rw[yb,List.sum_append];rfl
theorem zB{U:List vr}(h:dF (d+1) T)(h':dF (d+1) U):dF (d+1) (T++U):=λs F=>(LG.mp F).elim (h s) (h' s)
theorem HK.put{c:Nat}{st:vr}(I:HK (gs++[x]) m)(h1:fI (cE (9-gs.length)) st)(h2:km (dF (9-gs.length)) st)(h3:bv (ap (9-gs.length)) st<=c):HK (gs++[{x with f:=bz x.f st}]) (m+c):=by
 have hl:gs.length<=4:=by have:=I.len;simp at this;lia
 have F:10-gs.length=9-gs.length+1:=()
 have hx:=I.ok gs.length x (c7 gs x);let#[a1,a2]:=hx.a;let#[S,U]:=hx.b;have O:=I.cnt;rw[gZ,tN]at O;refine#[λk y J=>?_,?_,by have:=I.len;simpa using this,'~']
 .rcases eP J with ⟨hk,J⟩ | ⟨rfl,rfl⟩
  .exact I.ok k y (by rw[xr hk];exact J)
  .unfold bz;rw[F]at a1 a2 S U;have n1:cE (9-gs.length+1) (x.f.a++[st]):=rX a1 h1;have Z:dF (9-gs.length+1) (x.f.a++[st]):=zB a2 λu W=>by rw[Lv.mp W];exact h2
   have n3:cE (9-gs.length+1) (x.f.b++[st]):=rX S h1;have n4:dF (9-gs.length+1) (x.f.b++[st]):=zB U λu W=>by rw[Lv.mp W];exact h2
   split
   .rename_i hs;refine#[hx.top,hx.hd,by rw[F];exact#[a1,a2],by rw[F];exact#[n3,n4],?_];rcases hx.sd with z | ⟨z,_⟩
    .exact .inl z
    .rw[hs]at z;cases z
   .refine#[hx.top,hx.hd,by rw[F];exact#[n1,Z],by rw[F];exact#[S,U],?_];rcases hx.sd with z | ⟨z,Y⟩
    .exact .inl z
    .exact .inr #[z,Y]
 .rw[gZ,tN];unfold jg at O |-
  unfold bz;rw[F]at O |-
  have ab:ap (9-gs.length+1) [st]<=c:=by show bv (ap (9-gs.length)) st+0<=c;lia
  split<;>simp only[wK]<;>lia
theorem HK.drop(I:HK (gs++[x]) m)(hg:1<=gs.length):HK gs (m-(ap (10-gs.length) x.f.a+ap (10-gs.length) x.f.b+3))/\ap (10-gs.length) x.f.a+ap (10-gs.length) x.f.b+3<=m:=by
 have F:=I.cnt;rw[gZ,tN]at F;unfold jg at F;rw[Lu ()]at F;exact#[#[λk y J=>I.ok k y (by rw[xr (Lq.mp J).1];exact J),(),by have:=I.len;simp at this;lia,hg],()]
theorem FK{k:Nat}{f:sv}(J:0<k)(S:k<=5)(h:sH k f):fI (cE (10-k)) (gk f)/\km (dF (10-k)) (gk f)/\bv (ap (10-k)) (gk f)<=ap (10-k) f.a+ap (10-k) f.b+3:=by
 have hh:=h.hd J;have F:∀n:Int,n.natAbs<10^61->n.natAbs.log2<1920:=λn O=>by
  by_cases z:n.natAbs=0
  .rw[z];decide
  .have:=(Nat.log2_lt z (k:=1920)).mpr (Nat.lt_trans O ∅);exact this
 unfold gk;cases hhd:f.hd with
 | top=>rw[hhd]at hh;exact hh.elim
 | lend x y=>
  rw[hhd]at hh;exact#[#[hh.1.2,hh.2.2,h.a.1],#[hh.1.1,hh.2.1,h.a.2],by show ap _ f.a+2<=_;lia]
 | ite n=>
  rw[hhd]at hh;exact#[#[hh,h.a.1,h.b.1],#[F n hh,h.a.2,h.b.2],zg _]
 | whl n=>
  rw[hhd]at hh;exact#[#[hh,h.a.1],#[F n hh,h.a.2],by show ap _ f.a+2<=_;lia]
theorem HK.close{g:Dp}(I:HK (gs++[g]++[x]) m):HK (gs++[{g with f:=bz g.f (gk x.f)}]) m:=by
 have F:(gs++[g]).length=gs.length+1:='~';have J:=I.len;rw[zq,F]at J;simp at J;have hx:=I.ok (gs++[g]).length x (c7 _ x);rw[F]at hx;let#[W,S,U]:=FK () () hx;let#[O,hle]:=I.drop (by rw[F];lia);rw[F]at O hle;rw[show 10-(gs.length+1)=9-gs.length from ()]at W S U O hle;have:=O.put W S U
 rwa [Nat.sub_add_cancel hle]at this
theorem HK.side{n:Int}(I:HK (gs++[x]) m)(h:x.f.hd = .ite n):HK (gs++[{x with f:={x.f with s:=true}}]) m:=by
 have hx:=I.ok gs.length x (c7 gs x);refine#[λk y F=>?_,?_,by have:=I.len;simpa using this,'~']
 .rcases eP F with ⟨O,F⟩ | ⟨rfl,rfl⟩
  .exact I.ok k y (by rw[xr O];exact F)
  .exact#[hx.top,hx.hd,hx.a,hx.b,.inl #[n,h]]
 .have J:=I.cnt;rw[gZ]at J |-
  exact J
theorem HK.open{fs:List Dp}(I:HK fs m)(hl:fs.length<=4){h:u_}(hh:C4 h)(fa a1 a2:o_):HK (fs++[#[fa,a1,a2,#[h,[],[],false]]]) (m+3):=by
 have U:=I.pos;have F:10-fs.length=9-fs.length+1:=()
 have nl:cE (10-fs.length) []/\dF (10-fs.length) []:=by rw[F];exact#[mo _,λs O=>by cases O]
 refine#[λk y J=>?_,?_,by simp;lia,'~']
 .rcases eP J with ⟨S,J⟩ | ⟨rfl,rfl⟩
  .exact I.ok k y J
  .exact#[λz=>(),λ_=>hh,nl,nl,.inr #[rfl,rfl]]
 .rw[gZ,tN];unfold jg;rw[Lu (),F];have:=I.cnt;show jn 0 fs+(0+0+3)<=m+3;lia
theorem HK.small{fs:List Dp}{m k:Nat}{x:Dp}(I:HK fs m)(e:fs[k]?=Sm x):x.f.a.length<=m/\x.f.b.length<=m:=by
 have F:=(Lq.mp e).1;have hl:=I.len;have w:∀(fs:List Dp) (j k:Nat) (x:Dp),fs[k]?=Sm x->jg (j+k) x<=jn j fs:=λfs=>by
  induction fs with
  | nil=>intro j k x e;simp at e
  | cons y r ih=>
   intro j k x e;cases k with
   | zero=>cases e;show jg j _<=jg j _+_;lia
   | succ k=>
    have:=ih (j+1) k x (by simpa using e);show _<=jg j y+jn (j+1) r;rw[show j+(k+1)=j+1+k from ()];lia
 have h:=w fs 0 k x e;have J:=I.cnt;rw[tN]at h;unfold jg at h;have ln:∀(d:Nat) (T:List vr),T.length<=ap (d+1) T:=λd T=>by
  show T.length<=(T.map (bv (ap d))).sum
  induction T with
  | nil=>exact zg _
  | cons s T ih=>
   rw[yR,IX,zy];have:1<=bv (ap d) s:=by cases s<;>simp[bv]
   lia
 rw[show 10-k=9-k+1 from ()]at h;have:=ln (9-k) x.f.a;have:=ln (9-k) x.f.b;lia
noncomputable def pX(p l o:Nat)(f:List vr->Nat):vr->Nat
 | .plain _=>p
 | .lend _ _ b=>f b+l
 | .ite _ b c=>f b+f c+o
 | .whl _ b=>f b+o
noncomputable def dY(p l o:Nat):Nat->List vr->Nat
 | 0,_=>0
 | d+1,T=>(T.map (pX p l o (dY p l o d))).sum
noncomputable def nR(l o:Nat):u_->Nat
 | .top=>0
 | .lend _ _=>l
 | .ite _=>o
 | .whl _=>o
noncomputable def jB(p l o k:Nat)(x:Dp):Nat:=dY p l o (10-k) x.f.a+dY p l o (10-k) x.f.b+nR l o x.f.hd
noncomputable def iw(p l o:Nat):Nat->List Dp->Nat
 | _,[]=>0
 | k,x::r=>jB p l o k x+iw p l o (k+1) r
section
variable{p l o:Nat}
theorem dM(x:Dp):∀(gs:List Dp) (k:Nat),iw p l o k (gs++[x])=iw p l o k gs+jB p l o (k+gs.length) x
 | [],k=>by simp[iw]
 | g::gs,k=>by
  show jB p l o k g+iw p l o (k+1) (gs++[x])=jB p l o k g+iw p l o (k+1) gs+_;rw[dM x gs (k+1),zy,show k+1+gs.length=k+(gs.length+1) from ()];lia
theorem wc(d:Nat)(T U:List vr):dY p l o (d+1) (T++U)=dY p l o (d+1) T+dY p l o (d+1) U:=by
 show ((T++U).map _).sum=_;rw[yb,List.sum_append];rfl
theorem mG{st:vr}(hl:gs.length<=9):iw p l o 0 (gs++[{x with f:=bz x.f st}])=iw p l o 0 (gs++[x])+pX p l o (dY p l o (9-gs.length)) st:=by
 rw[dM,dM,tN];have F:dY p l o (9-gs.length+1) [st]=pX p l o (dY p l o (9-gs.length)) st:=by show _+0=_;lia
 unfold jB bz;rw[show 10-gs.length=9-gs.length+1 from ()];split<;>simp only[wc,F]<;>lia
theorem Kh{d k:Nat}{f:sv}(h:sH k f)(J:0<k)(hd:0<d):pX p l o (dY p l o d) (gk f)=dY p l o d f.a+dY p l o d f.b+nR l o f.hd:=by
 obtain⟨d,rfl⟩ : ∃e,d=e+1:=⟨d-1,()⟩
 have F:(∀n,f.hd ≠ .ite n)->dY p l o (d+1) f.b=0:=λz=>by
  rcases h.sd with ⟨n,y⟩ | ⟨_,y⟩
  .exact absurd y (z n)
  .rw[y];rfl
 unfold gk;cases hh:f.hd with
 | top=>have:=h.hd J;rw[hh]at this;exact this.elim
 | lend x y=>rw[F (by rw[hh];simp)];rfl
 | ite n=>rfl
 | whl n=>rw[F (by rw[hh];simp)];rfl
theorem nP{g:Dp}(hl:gs.length<=8)(h:sH (gs.length+1) x.f):iw p l o 0 (gs++[{g with f:=bz g.f (gk x.f)}])=iw p l o 0 (gs++[g]++[x]):=by
 rw[mG (),Kh h () (),dM x,tN,zq];show _=_+jB p l o (gs.length+1) x;unfold jB;rw[show 10-(gs.length+1)=9-gs.length from ()]
end
structure PX (nm:MA) (fs:List Dp) (n l:Nat):Prop where
 nk:∀k x,fs[k]?=Sm x->fT (· ∈ nm) (3-k) x.f.a/\fT (· ∈ nm) (3-k) x.f.b/\∀y z,x.f.hd = .lend y z->y∈nm/\z∈nm
 nd:iw 1 1 1 0 fs<=n
 ld:iw 0 1 0 0 fs<=l
 len:fs.length<=3
section
variable{nm:MA}{fs gs:List Dp}{g x:Dp}{n l:Nat}
theorem PX.mono{n' F:Nat}(h:PX nm fs n l)(h1:n<=n')(h2:l<=F):PX nm fs n' F:=#[h.nk,mn h.nd h1,mn h.ld h2,h.len]
theorem lM{N:Str->Prop}(h:fT N (d+1) T)(J:mi (fT N d) N s):fT N (d+1) (T++[s]):=λu F=>(LG.mp F).elim (h u) (λz=>by rw[Lv.mp z];exact J)
theorem PX.put{st:vr}{c e:Nat}(h:PX nm (gs++[x]) n l)(h1:mi (fT (· ∈ nm) (2-gs.length)) (· ∈ nm) st)(h2:pX 1 1 1 (dY 1 1 1 (9-gs.length)) st<=c)(S:pX 0 1 0 (dY 0 1 0 (9-gs.length)) st<=e):PX nm (gs++[{x with f:=bz x.f st}]) (n+c) (l+e):=by
 have hl:=h.len;simp at hl;have O:=h.nd;have U:=h.ld;refine#[λk y F=>?_,by rw[mG ()];lia,by rw[mG ()];lia,by simpa using hl];rcases eP F with ⟨J,F⟩ | ⟨rfl,rfl⟩
 .exact h.nk k y (by rw[xr J];exact F)
 .let#[a,b,c]:=h.nk gs.length x (c7 gs x);rw[show 3-gs.length=2-gs.length+1 from ()]at a b |-
  unfold bz;split
  .exact#[a,lM b h1,c]
  .exact#[lM a h1,b,c]
theorem PX.close(h:PX nm (gs++[g]++[x]) n l)(hf:sH (gs.length+1) x.f):PX nm (gs++[{g with f:=bz g.f (gk x.f)}]) n l:=by
 have hl:=h.len;simp at hl;have Z:=h.nd;have g2:=h.ld;have O:=nP (p:=1) (l:=1) (o:=1) (g:=g) () hf;have S:=nP (p:=0) (l:=1) (o:=0) (g:=g) () hf;refine#[λk y J=>?_,by rw[O];exact Z,by rw[S];exact g2,by simp;lia];rcases eP J with ⟨hk,J⟩ | ⟨rfl,rfl⟩
 .exact h.nk k y (by rw[xr (by simp;lia),xr hk];exact J)
 .let#[a,b,c]:=h.nk gs.length g (by rw[oU,uu (zg _),Lk];rfl);let#[F,U,Y]:=h.nk (gs.length+1) x (by have:=c7 (gs++[g]) x;simpa using this);rw[show 3-(gs.length+1)=2-gs.length from ()]at F U;rw[show 3-gs.length=2-gs.length+1 from ()]at a b |-
  have W:mi (fT (· ∈ nm) (2-gs.length)) (· ∈ nm) (gk x.f):=by
   unfold gk;cases hh:x.f.hd with
   | top=>have:=hf.hd ();rw[hh]at this;exact this.elim
   | lend y z=>exact#[(Y y z hh).1,(Y y z hh).2,F]
   | ite n=>exact#[F,U]
   | whl n=>exact F
  unfold bz;split
  .exact#[a,lM b W,c]
  .exact#[lM a W,b,c]
theorem PX.side(h:PX nm (gs++[x]) n l):PX nm (gs++[{x with f:={x.f with s:=true}}]) n l:=by
 have J:=h.nd;have O:=h.ld;rw[dM]at J O;refine#[λk y F=>?_,by rw[dM];exact J,by rw[dM];exact O,by have:=h.len;simpa using this];rcases eP F with ⟨S,F⟩ | ⟨rfl,rfl⟩
 .exact h.nk k y (by rw[xr S];exact F)
 .exact h.nk gs.length x (c7 gs x)
theorem PX.open(h:PX nm fs n l)(hl:fs.length<=2){hd:u_}(hh:∀y z,hd = .lend y z->y∈nm/\z∈nm)(fa a1 a2:o_):PX nm (fs++[#[fa,a1,a2,#[hd,[],[],false]]]) (n+nR 1 1 hd) (l+nR 1 0 hd):=by
 have S:=h.nd;have U:=h.ld;have O:∀p q o,jB p q o (0+fs.length) #[fa,a1,a2,#[hd,[],[],false]]=nR q o hd:=λp q o=>by
  unfold jB;rw[show 10-(0+fs.length)=9-fs.length+1 from ()];exact tN _
 refine#[λk y F=>?_,by rw[dM,O];lia,by rw[dM,O];lia,by simp;lia];rcases eP F with ⟨W,F⟩ | ⟨rfl,rfl⟩
 .exact h.nk k y F
 .rw[show 3-fs.length=2-fs.length+1 from ()];exact#[λs J=>(by cases J),λs J=>(by cases J),hh]
end
noncomputable def p_(nm:MA)(z:Int):Str:=nm.getD (z%(nm.length:Int)).toNat ""
theorem tQ(h:1<=nm.length)(z:Int):p_ nm z∈nm/\cJ (nm.map V.str) (z%(nm.length:Int))=Sm (.str (p_ nm z)):=by
 have F:=za0 z (show (nm.length:Int)≠0 from ());have h1:=za1 z (show (0:Int)<nm.length from ());have hl:(z%(nm.length:Int)).toNat<nm.length:=()
 have e:p_ nm z=nm[(z%(nm.length:Int)).toNat]:=by unfold p_;rw[xW,zd hl];rfl
 refine#[by rw[e];exact gV hl,?_];have:=aq (xs:=nm.map V.str) (j:=(z%(nm.length:Int)).toNat) (v:=.str (p_ nm z)) (by rw[zz,zd hl,e];rfl)
 rwa [show (((z%(nm.length:Int)).toNat:Nat):Int)=z%(nm.length:Int) from ()]at this
noncomputable def y_(c:Int):Int:=c*40692%(2*10^60-1)-10^60+1
theorem EY(c:Int):(y_ c).natAbs<10^61:=by
 unfold y_;have F:=za0 (c*40692) (show (2*10^60-1:Int)≠0 from ∅);have h1:=za1 (c*40692) (show (0:Int)<2*10^60-1 from ∅);lia
noncomputable def y8(x y wd:Str)(b:Int):List MC:=[[.str "open",.str x],[.str "do",.str wd,.str x],[.str "do",.str wd,.str x],[.str "do",.str wd,.str x],[.str "copy",.str x,.str y],[.str "drop",.str x],[.str "tie",.str x,.str y],[.str "lend",.str x,.str y],[.str "if",.int b],[.str "while",.int b],[.str "while",.int b],[.str "do",.str wd,.str x],[.str "tie",.str x,.str y],[.str "open",.str x],[.str "other"],[.str "close"]]
def En(nm ws:MA):Prop:=(ws.headD "" = "do" -> ws.length=3)/\∀n∈dj ws,n∈nm
inductive iz (nm:MA):MC->Prop
 | plain (ws:MA):fR ws->im ws->(∀x∈ws,dG x)->En nm ws->iz nm (ws.map V.str)
 | lend (x y:Str):dR x->dR y->x∈nm->y∈nm->iz nm [.str "lend",.str x,.str y]
 | ite (n:Int):n.natAbs<10^61->iz nm [.str "if",.int n]
 | whl (n:Int):n.natAbs<10^61->iz nm [.str "while",.int n]
 | other:iz nm [.str "other"]
 | close:iz nm [.str "close"]
theorem oz{h x:Str}(hh:h∈dz)(hl:h.length<=20)(hx:x.length<=20):im [h,x]:=⟨'~','~',hh,λz hz=>by
 simp only[yg,yu,or_false]at hz;rcases hz with rfl | rfl<;>assumption⟩
theorem ly{h x:Str}(hh:h∈dz)(hl:h.length<=20)(hx:x.length<=20)(F:y.length<=20):im [h,x,y]:=⟨'~','~',hh,λz hz=>by
 simp only[yg,yu,or_false]at hz;rcases hz with rfl | rfl | rfl<;>assumption⟩
theorem yC{x wd:Str}{b:Int}(Z:x∈nm)(yn:y∈nm)(hx:dR x)(J:dR y)(hw:dR wd)(hb:b.natAbs<10^61):∀r∈y8 x y wd b,iz nm r:=by
 have kk:∀ {u:Str},u∈(qAu:MA)->dG u:=λ{u} hu=>by
  simp only[yg,yu,or_false]at hu;rcases hu with rfl | rfl | rfl | rfl | rfl<;>(unfold dG;decide)
 have f2:∀ {a c:Str},dG a->dG c->∀z∈[a,c],dG z:=λha hc z hz=>by
  simp only[yg,yu,or_false]at hz;rcases hz with rfl | rfl<;>assumption
 have Y:∀ {a c e:Str},dG a->dG c->dG e->∀z∈[a,c,e],dG z:=λha hc he z hz=>by
  simp only[yg,yu,or_false]at hz;rcases hz with rfl | rfl | rfl<;>assumption
 have U:∀ {g:Str},¬ g = "do" -> En nm [g,x]:=λhg=>#[λz=>absurd z hg,λn F=>by unfold dj at F;rw[Lu (show ¬ List.headD [_,x] "" = "do" from hg)]at F;rw[Lv.mp F];exact Z];have S:∀ {g:Str},¬ g = "do" -> En nm [g,x,y]:=λhg=>⟨λz=>absurd z hg,λn F=>by
  unfold dj at F;rw[Lu (show ¬ List.headD [_,x,y] "" = "do" from hg)]at F;have O:n∈[x,y]:=F;simp only[yg,yu,or_false]at O;rcases O with rfl | rfl<;>assumption⟩
 have op:iz nm [.str "open",.str x]:=.plain ["open",x] (.op x) (oz ⋯ ∅ hx.1) (f2 (kk ⋯) hx.2) (U ⋯);have dr:iz nm [.str "drop",.str x]:=.plain ["drop",x] (.dr x) (oz ⋯ ∅ hx.1) (f2 (kk ⋯) hx.2) (U ⋯);have dd:iz nm [.str "do",.str wd,.str x]:=.plain ["do",wd,x] (.dd wd x) (ly ⋯ ∅ hw.1 hx.1) (Y (kk ⋯) hw.2 hx.2) #[λ_=>rfl,λn F=>by unfold dj at F;rw[Lz (show List.headD [("do" : Str),wd,x] "" = "do" from rfl)]at F;rw[Lv.mp F];exact Z];have cp:iz nm [.str "copy",.str x,.str y]:=.plain ["copy",x,y] (.cp x y) (ly ⋯ ∅ hx.1 J.1) (Y (kk ⋯) hx.2 J.2) (S ⋯);have ti:iz nm [.str "tie",.str x,.str y]:=.plain ["tie",x,y] (.ti x y) (ly ⋯ ∅ hx.1 J.1) (Y (kk ⋯) hx.2 J.2) (S ⋯);have le:iz nm [.str "lend",.str x,.str y]:=.lend x y hx J Z yn;have it:iz nm [.str "if",.int b]:=.ite b hb;have wh:iz nm [.str "while",.int b]:=.whl b hb;intro r W;unfold y8 at W;simp only[yg,yu,or_false]at W;rcases W with rfl | rfl | rfl | rfl | rfl | rfl | rfl | rfl | rfl | rfl | rfl | rfl | rfl | rfl | rfl | rfl
 .exact op
 .exact dd
 .exact dd
 .exact dd
 .exact cp
 .exact dr
 .exact ti
 .exact le
 .exact it
 .exact wh
 .exact wh
 .exact dd
 .exact ti
 .exact op
 .exact .other
 .exact .close
def A7:Sp:=λvs H Q _=>∃(c:Int) (np wp:o_) (nm ws:MA),vs=[.int c,.ref np,.ref wp]/\H np=Sm (.lst (nm.map V.str))/\H wp=Sm (.lst (ws.map V.str))/\1<=nm.length/\nm.length<=20/\1<=ws.length/\ws.length<=20/\(∀x∈nm,dR x)/\(∀x∈ws,dR x)/\
 ∀(t:o_) (H':Hp) (v:MC),su H H'->H' t=Sm (.tup v)->iz nm v->Q (.ref t) H'
theorem F5(D:xn K mg "_law_step" bN) (J:wAK mg):aD P w K mg base 1 "_law_step" qAb A7:=by
 refine D.cal (k:=0) CT (λf d3 A outer s0 H vs Q E hr h=>?_);revert h;refine yF5 λc np wp nm ws=>yB10 ?_;rintro rfl ag bp n1 n2 w1 w2 a8 b3 q;refine⟨_,(ah (ay 3 CT.nd (am (ax K) (pv 1) (ar b5 (ar b5 (ar gm (pv 0) af) af) (bx (ba K) J bK (aa (pv 1) ae)))))
   (ah (ay 4 CT.nd (am (ax K) (pv 1) (ar b5 (ar b5 (ar gm (pv 0) af) af) (bx (ba K) J bK (aa (pv 1) ae)))))
   (ah (ay 5 CT.nd (am (ax K) (pv 2) (ar b5 (ar b5 (ar gm (pv 0) af) af) (bx (ba K) J bK (aa (pv 2) ae)))))
   (ah (ay 6 CT.nd (ar aF (ar gv (ar b5 (ar gm (pv 0) af) (ar gv (ar gm af (ar nK af af)) af)) (ar nK af af)) af))
   (ah (ay 7 CT.nd (aG (aa (aR (aa av (aa (pv 3) ae))) (aa (aR (aa av (aa (pv 5) (aa (pv 3) ae)))) (aa (aR (aa av (aa (pv 5) (aa (pv 3) ae)))) (aa (aR (aa av (aa (pv 5) (aa (pv 3) ae)))) (aa (aR (aa av (aa (pv 3) (aa (pv 4) ae)))) (aa (aR (aa av (aa (pv 3) ae))) ae))))))))
   (ah (ay 7 CT.nd (ar aF (pv 7) (aG (aa (aR (aa av (aa (pv 3) (aa (pv 4) ae)))) (aa (aR (aa av (aa (pv 3) (aa (pv 4) ae)))) (aa (aR (aa av (aa (pv 6) ae))) (aa (aR (aa av (aa (pv 6) ae))) (aa (aR (aa av (aa (pv 6) ae))) ae))))))))
   (ah (ay 7 CT.nd (ar aF (pv 7) (aG (aa (aR (aa av (aa (pv 5) (aa (pv 3) ae)))) (aa (aR (aa av (aa (pv 3) (aa (pv 4) ae)))) (aa (aR (aa av (aa (pv 3) ae))) (aa (aR (aa av ae)) (aa (aR (aa av ae)) ae))))))))
   (aj (az (am (ax K) (pv 7) (ar b5 (pv 0) af))))))))))),?_⟩
 let#[x1,x2]:=tQ n1 (c*48271%99991);let#[y1,y2]:=tQ n1 (c*69621%99989);let#[u1,u2]:=tQ w1 (c*16807%99971);cbv;refine#[.inr #[∅,∅],∅,_,.inl (ud.of ag),?_];rw[zb];refine#[(),X2 (ud.of ag) x2 ?_];generalize p_ nm (c*48271%99991)=x at x1 |-;rw?;refine#[.inr #[∅,∅],∅,_,.inl (ud.of ag),?_]
 rw[zb];refine#[(),X2 (ud.of ag) y2 ?_];generalize p_ nm (c*69621%99989)=y at y1 |-;rw?;refine#[.inr #[∅,∅],∅,_,.inl (ud.of bp),?_]
 rw[zb];refine#[(),X2 (ud.of bp) u2 ?_];generalize p_ ws (c*16807%99971)=wd at u1 |-;rw?;refine#[.inr #[∅,∅],#[∅,∅,∅],.inl #[∅,∅],∅,#[∅,∅,∅],?_]
 have hb:=EY c;rw[show c*40692%(2*10^Int.toNat 60-1)-10^Int.toNat 60+1=y_ c from rfl];generalize y_ c=b at hb |-;rw?;refine⟨∅,λt1 d9=>?_⟩
 ∎;rename_i H1 s1 r1;refine#[∅,λt2 dm=>?_];∎;rename_i H2 s2 r2;refine#[∅,λt3 d7=>?_];∎;rename_i H3 s3 r3;refine#[∅,λt4 d6=>?_];∎;rename_i H4 s4 r4;refine#[∅,λt5 d4=>?_];∎;rename_i H5 s5 r5;refine#[∅,λt6 d5=>?_];∎;rename_i H6 s6 r6;refine#[∅,λl0 cA=>?_];have F:=ak cA (.lst [.ref t1,.ref t2,.ref t3,.ref t4,.ref t5,.ref t6]);have L0:Ce (upd H6 l0 (.lst [.ref t1,.ref t2,.ref t3,.ref t4,.ref t5,.ref t6])) l0 [[.str "open",.str x],[.str "do",.str wd,.str x],[.str "do",.str wd,.str x],[.str "do",.str wd,.str x],[.str "copy",.str x,.str y],[.str "drop",.str x]]:=#[[t1,t2,t3,t4,t5,t6],ai,.cons (F _ _ (s6 _ _ (s5 _ _ (s4 _ _ (s3 _ _ (s2 _ _ (r1))))))) (.cons (F _ _ (s6 _ _ (s5 _ _ (s4 _ _ (s3 _ _ (r2)))))) (.cons (F _ _ (s6 _ _ (s5 _ _ (s4 _ _ (r3))))) (.cons (F _ _ (s6 _ _ (s5 _ _ (r4)))) (.cons (F _ _ (s6 _ _ (r5))) (.cons (F _ _ (r6)) .nil)))))];have bt:su H (upd H6 l0 (.lst [.ref t1,.ref t2,.ref t3,.ref t4,.ref t5,.ref t6])):=((((((s1.trans s2).trans s3).trans s4).trans s5).trans s6).trans F)
 generalize upd H6 l0 (.lst [.ref t1,.ref t2,.ref t3,.ref t4,.ref t5,.ref t6])=ca at L0 bt |-;have C0:=L0;have S0:=bt;rw?;refine⟨∅,λt7 dt=>?_⟩
 ∎;rename_i H7 s7 r7;refine#[∅,λt8 dP=>?_];∎;rename_i H8 s8 r8;refine#[∅,λt9 d8=>?_];∎;rename_i H9 s9 r9;refine#[∅,λac dc=>?_];∎;rename_i H10 s10 r10;refine#[∅,λZ cB=>?_];∎;rename_i H11 s11 r11;refine#[∅,λl1 cn=>?_];have O:=ak cn (.lst [.ref t7,.ref t8,.ref t9,.ref ac,.ref Z]);have L1:Ce (upd H11 l1 (.lst [.ref t7,.ref t8,.ref t9,.ref ac,.ref Z])) l1 [[.str "tie",.str x,.str y],[.str "lend",.str x,.str y],[.str "if",.int b],[.str "while",.int b],[.str "while",.int b]]:=#[[t7,t8,t9,ac,Z],ai,.cons (O _ _ (s11 _ _ (s10 _ _ (s9 _ _ (s8 _ _ (r7)))))) (.cons (O _ _ (s11 _ _ (s10 _ _ (s9 _ _ (r8))))) (.cons (O _ _ (s11 _ _ (s10 _ _ (r9)))) (.cons (O _ _ (s11 _ _ (r10))) (.cons (O _ _ (r11)) .nil))))];have a3:su ca (upd H11 l1 (.lst [.ref t7,.ref t8,.ref t9,.ref ac,.ref Z])):=(((((s7.trans s8).trans s9).trans s10).trans s11).trans O)
 generalize upd H11 l1 (.lst [.ref t7,.ref t8,.ref t9,.ref ac,.ref Z])=cv at L1 a3 |-;let#[a6,a1,b1]:=C0.mono a3
 let#[a9,c1,d1]:=L1;refine yI2 _ _ #[a1,c1,dH b1 d1 '~',λm1 a4=>?_];have C1:=eV b1 d1 a4;have S1:=(S0.trans a3).trans (ak a4 (.lst (a6.map V.ref++a9.map V.ref)));generalize upd cv m1 (.lst (a6.map V.ref++a9.map V.ref))=cd at C1 S1 |-;rw?;refine⟨∅,λY c9=>?_⟩
 ∎;rename_i H12 s12 r12;refine#[∅,λab c5=>?_];∎;rename_i H13 s13 r13;refine#[∅,λW c3=>?_];∎;rename_i H14 s14 r14;refine#[∅,λU da=>?_];∎;rename_i H15 s15 r15;refine#[∅,λad c4=>?_];∎;rename_i H16 s16 r16;refine#[∅,λl2 cq=>?_];have S:=ak cq (.lst [.ref Y,.ref ab,.ref W,.ref U,.ref ad]);have L2:Ce (upd H16 l2 (.lst [.ref Y,.ref ab,.ref W,.ref U,.ref ad])) l2 [[.str "do",.str wd,.str x],[.str "tie",.str x,.str y],[.str "open",.str x],[.str "other"],[.str "close"]]:=#[[Y,ab,W,U,ad],ai,.cons (S _ _ (s16 _ _ (s15 _ _ (s14 _ _ (s13 _ _ (r12)))))) (.cons (S _ _ (s16 _ _ (s15 _ _ (s14 _ _ (r13))))) (.cons (S _ _ (s16 _ _ (s15 _ _ (r14)))) (.cons (S _ _ (s16 _ _ (r15))) (.cons (S _ _ (r16)) .nil))))];have al:su cd (upd H16 l2 (.lst [.ref Y,.ref ab,.ref W,.ref U,.ref ad])):=(((((s12.trans s13).trans s14).trans s15).trans s16).trans S)
 generalize upd H16 l2 (.lst [.ref Y,.ref ab,.ref W,.ref U,.ref ad])=cb at L2 al |-;let#[be,a2,b2]:=C1.mono al
 let#[bg,c2,d2]:=L2;refine yI2 _ _ #[a2,c2,dH b2 d2 '~',λm2 bc=>?_];have C2:=eV b2 d2 bc;have S2:=(S1.trans al).trans (ak bc (.lst (be.map V.ref++bg.map V.ref)));generalize upd cb m2 (.lst (be.map V.ref++bg.map V.ref))=a7 at C2 S2 |-;rw?;have cz:Ce a7 m2 (y8 x y wd b):=C2
 refine#[∅,?_];let#[as,ce,a5]:=cz;have cc:=aK a5;have dl:=za0 c (show (16:Int)≠0 from ∅);have dV:=za1 c (show (0:Int)<16 from ∅);have b0:as.length=16:=cc;have bh:(c%16).toNat<as.length:=()
 let#[r,e1,e2]:=cD a5 (zd bh);refine X2 (ud.of ce) (show cJ (as.map V.ref) (c%16)=Sm (.ref as[(c%16).toNat]) from ?_) (q _ a7 r S2 e2 (yC x1 y1 (a8 x x1) (a8 y y1) (b3 wd u1) hb r (xO e1)));have:=aq (xs:=as.map V.ref) (j:=(c%16).toNat) (v:=.ref as[(c%16).toNat]) (by rw[zz,zd bh];rfl)
 rwa [show (((c%16).toNat:Nat):Int)=c%16 from ()]at this
theorem iV(x:Str):∀ss:MA,jG (.str x) (ss.map V.str)=decide (x∈ss)
 | []=>rfl
 | y::ss=>by
  have ih:=iV x ss;show (gQ (.str y) (.str x)||jG (.str x) (ss.map V.str))=_;rw[ih];show ((y==x)||decide (x∈ss))=_;by_cases h:y=x
  .subst h;simp
  .have h2:¬ x=y:=λz=>h z.symm;rw[beq_eq_false_iff_ne.mpr h];simp[h2]
theorem HK.mono{fs:List Dp}(I:HK fs m)(h:m<=n):HK fs n:=#[I.ok,mn I.cnt h,I.len,I.pos]
def Hs(a1:o_)(fs:List Dp):Prop:=∃x,fs[0]?=Sm x/\x.a1=a1
theorem Hs.set{a1:o_}{gs:List Dp}{x O:Dp}(h:Hs a1 (gs++[x]))(e:O.a1=x.a1):Hs a1 (gs++[O]):=by
 cases gs with
 | nil=>let#[y,F,J]:=h;cases F;exact#[O,rfl,by rw[e];exact J]
 | cons g gs=>let#[y,F,J]:=h;exact#[y,F,J]
theorem Hs.cut{a1:o_}{gs:List Dp}{x:Dp}(h:Hs a1 (gs++[x]))(hg:1<=gs.length):Hs a1 gs:=by
 cases gs with
 | nil=>simp at hg
 | cons g gs=>let#[y,F,J]:=h;exact#[y,F,J]
theorem Hs.add{a1:o_}{fs:List Dp}{x:Dp}(h:Hs a1 fs):Hs a1 (fs++[x]):=by
 cases fs with
 | nil=>let#[y,F,_]:=h;cases F
 | cons g gs=>let#[y,F,J]:=h;exact#[y,F,J]
theorem DA.side{H0:Hp}{pp:o_}(I:DA H0 H pp (gs++[x]) S){Z:o_}{z:V}(h1:H x.fa=Sm (.lst [.ref Z,.ref x.a1,.ref x.a2,z])):DA H0 (upd H x.fa (.lst [.ref Z,.ref x.a1,.ref x.a2,.int 1])) pp (gs++[{x with f:={x.f with s:=true}}]) S:=by
 refine yE3 (I.fr gs.length x (c7 gs x)) λF ad ab=>yB6 λJ h2 h3 h4 h5 h6=>?_;have ac:F=Z:=by rw[h1]at J;simp at J;exact J.1.symm
 subst ac;have ag:x∈gs++[x]:=oo _ yd;have O:=I.nd;rw[JG,fH,JT]at O;have U:[x.fa,x.a1,x.a2].Nodup:=O.2.2.1;simp only[JG,yg,yu,or_false,not_or,not_false_eq_true,JW,and_true]at U;let#[#[n1,n2],n3]:=U;have W:¬ S x.fa:=I.ns _ (yh _ (fP ag).1);have Y:∀b xs,H b=Sm (.tup xs)->upd H x.fa (.lst [.ref F,.ref x.a1,.ref x.a2,.int 1]) b=Sm (.tup xs):=λb xs y=>by rw[au (dh y h1 (λy=>nomatch y))];exact y
 have kl:∀b xs,S b->H b=Sm (.lst xs)->upd H x.fa (.lst [.ref F,.ref x.a1,.ref x.a2,.int 1]) b=Sm (.lst xs):=λb xs hb y=>by rw[au (wU hb W)];exact y
 refine I.write (.inl rfl) rfl rfl rfl (yI3 F ad ab #[ai,Y _ _ h2,?_,?_,cT Y kl (λ_ z=>z) h5,cT Y kl (λ_ z=>z) h6])
 .rw[au (u6 n1)];exact h3
 .rw[au (u6 n2)];exact h4
def pL:Sp:=λvs H Q _=>∃(cp np wp:o_) (cs:MJ) (nm ws:MA) (l0:Nat),vs=[.ref cp,.ref np,.ref wp,.int (l0:Int),.int 2]/\H cp=Sm (.lst (cs.map V.int))/\H np=Sm (.lst (nm.map V.str))/\H wp=Sm (.lst (ws.map V.str))/\cs.length<=20/\1<=nm.length/\nm.length<=20/\1<=ws.length/\ws.length<=20/\(∀x∈nm,dR x)/\(∀x∈ws,dR x)/\
 ∀(root:o_) (H':Hp) (S:o_->Prop) (T:List vr),su H H'->H root=Nn->BX S 10 H' root T->cE 10 T->dF 10 T->ap 10 T<=60->fT (· ∈ nm) 3 T->dY 1 1 1 10 T<=cs.length->dY 0 1 0 10 T<=l0->Q (.ref root) H'
def EH(H:Hp)(cp np wp pp a1:o_)(nm:MA)(l0 n:Nat)(σ : L2.St)(H':Hp):Prop:=∃(le:Nat) (o6 o7:MK) (fs:List Dp) (S:o_->Prop),σ=[Sm (.ref cp),Sm (.ref np),Sm (.ref wp),Sm (.int (le:Int)),Sm (.int 2),Sm (.ref pp),o6,o7]/\DA H H' pp fs S/\HK fs (3*n)/\Hs a1 fs/\le<=l0/\PX nm fs n (l0-le)
theorem NY{p q:Prop}[Decidable p][Decidable q]{A B:Prop}(h1:p\/q->A)(h2:¬ (p\/q)->B):if p then A else if q then A else B:=by
 by_cases hp:p
 .rw[Lz hp];exact h1 (.inl hp)
 .rw[Lu hp];exact aT (λc=>h1 (.inr c)) (λc=>h2 (λz=>z.elim hp c))
theorem ur{l:List α}(h:l≠[]):∃a x,l=a++[x]:=yI2 l.dropLast (l.getLast h) ((za9 h).symm)
theorem Pk{a b c:o_}(h1:a≠b)(h2:a≠c)(F:b≠c):[a,b,c].Nodup:=by simp[h1,h2,F]
theorem xM(D:xn K mg "_law_program" bj) (Y:wAK mg) (b3:mg "int" = Nn) (Z:aD P w K mg base 1 "_law_step" qAb A7) (ad:aD P w K mg base 1 "_law_put" qAZ xX) (J:aD P w K mg base 2 "_law_close" ["_law_pile"] oG):aD P w K mg base 3 "_law_program" qAP pL:=by
 refine D.cal (k:=2) Df (λf ed A outer s0 H vs Q E hr h=>?_);revert h;refine yF7 λcp np wp cs nm ws l0=>yB12 ?_;rintro rfl cv d4 d5 eb n1 n2 w1 w2 d1 cA q;refine⟨_,(ah (ay 5 Df.nd (aG (aa (aG (aa (aR (aa av ae)) (aa (aG ae) (aa (aG ae) (aa af ae))))) ae)))
   (ah (cg pD rfl (bF K (pv 0)) (aS 6 Df.nd) (ah (ay 7 Df.nd (aw Z hr (aa (pv 6) (aa (pv 1) (aa (pv 2) ae)))))
   (aj (aY (aA (kC K) (am (ax K) (pv 7) af) (aR (aa av (aa av ae))) (by with_unfolding_all rfl)) (aj (aY (PW.pt' (cr (aA lx (bx (ba K) Y bK (aa (pv 5) ae)) af (aB _)) (cr (aA aL (am (ax K) (pv 7) af) av (aB _)) (cr (aA aL (am (ax K) (am (ax K) (am (ax K) (pv 5) (eh dN af)) af) af) av (aB _)) (cM (aA aL (am (ax K) (am (ax K) (pv 5) (eh dN af)) af) af (aB _))))))) (aj (k7 af (nV (am (ax K) (pv 5) (eh dN af)) af Ke))) (aj (aY (aA lx (bx (ba K) Y bK (aa (pv 5) ae)) af (aB _)) (aj (bm (aw J hr (aa (pv 5) ae)))) aN)))) (aj (aY (aA (kA K) (am (ax K) (pv 7) af) (aR (aa av (aa av (aa av ae)))) (by with_unfolding_all rfl)) (aj (bm (aw ad hr (aa (pv 5) (aa (pv 7) ae))))) (aj (aY (PW.pt' (cr (aA KD (bx (ba K) Y bK (aa (pv 5) ae)) (pv 4) (aB _)) (cM (PW.pt' (nD (aA iY (am (ax K) (pv 7) af) av (aB _)) (kT (aA lx (pv 3) af (aB _)))))))) (ah (ay 3 Df.nd (ar gv (pv 3) (eQ qC b3 Ag (aa (db aL (am (ax K) (pv 7) af) av (aB _)) ae))))
   (aj (bm (bB K yY ux uC br (pv 5) (aa (aG (aa (pv 7) (aa (aG ae) (aa (aG ae) (aa af ae))))) ae))))) aN))))))))
   (ah (uB pD (aA lx (bx (ba K) Y bK (aa (pv 5) ae)) af (aB _)) (aj (bm (aw J hr (aa (pv 5) ae)))))
   (aj (az (am (ax K) (am (ax K) (pv 5) af) af)))))),?_⟩
 cbv;refine#[∅,λth ec=>?_];∎;rename_i H1 s1 e1;refine#[∅,λa1 c9=>?_];∎;rename_i H2 s2 e2;have e2:H2 a1=Sm (.lst (([]:MD).map V.ref)):=e2;refine#[∅,λa2 cz=>?_];∎;rename_i H3 s3 e3;have e3:H3 a2=Sm (.lst (([]:MD).map V.ref)):=e3;refine#[∅,λfa bp=>?_];∎;rename_i H4 s4 e4;have e4:H4 fa=Sm (.lst [.ref th,.ref a1,.ref a2,nE false]):=e4;refine#[∅,λU a7=>?_];∎;rename_i H5 s5 e5;have ac:=s1.trans s2;have cc:=ac.trans s3;have ca:=cc.trans s4;have cd:=ca.trans s5;have i1:a1≠a2:=aQ e2 cz;have i2:a1≠fa:=aQ (s3 _ _ e2) bp;have i3:a2≠fa:=aQ e3 bp;have i4:a1≠U:=aQ (s4 _ _ (s3 _ _ e2)) a7;have i5:a2≠U:=aQ (s4 _ _ e3) a7;have i6:fa≠U:=aQ e4 a7;have I0:DA H H5 U [#[fa,a1,a2,#[.top,[],[],false]]] (λ_=>False):=by
  refine#[cd,e5,λk x hx=>?_,?_,λb _ z=>z,λb hb=>?_,λb z=>z.elim]
  .have hk:k=0:=by have:=(Lq.mp hx).1;simp at this;lia
   subst hk;cases hx;exact yI3 th ([]) ([]) #[s5 _ _ e4,s5 _ _ (s4 _ _ (s3 _ _ (s2 _ _ e1))),s5 _ _ (s4 _ _ (s3 _ _ e2)),s5 _ _ (s4 _ _ e3),.nil,.nil]
  .show [U,fa,a1,a2].Nodup;simp only[JG,yg,yu,or_false,not_or,not_false_eq_true,JW,and_true];exact#[#[λe=>i6 e.symm,λe=>i4 e.symm,λe=>i5 e.symm],#[λe=>i2 e.symm,λe=>i3 e.symm],i1]
  .have a3:b∈[U,fa,a1,a2]:=hb;simp only[yg,yu,or_false]at a3;rcases a3 with rfl | rfl | rfl | rfl
   .exact ca.free a7
   .exact cc.free bp
   .exact s1.free c9
   .exact ac.free cz
 have O0:HK [#[fa,a1,a2,#[.top,[],[],false]]] (3*0):=by
  refine#[λk x hx=>?_,zg _,'~','~'];have hk:k=0:=by have:=(Lq.mp hx).1;simp at this;lia
  subst hk;cases hx;exact#[λ_=>rfl,λz=>absurd z ∅,#[mo 9,λs hs=>by cases hs],#[mo 9,λs hs=>by cases hs],.inr #[rfl,rfl]]
 have X0:PX nm [#[fa,a1,a2,#[.top,[],[],false]]] 0 (l0-l0):=by
  refine#[λk x hx=>?_,zg _,mw _,'~'];have hk:k=0:=by have:=(Lq.mp hx).1;simp at this;lia
  subst hk;cases hx;exact#[λs hs=>(by cases hs),λs hs=>(by cases hs),λy z e=>(by cases e)]
 rw?;refine#[#[_,ud.of (cd _ _ cv)],?_];refine cL (xs:=cs.map V.int) (EH H cp np wp U a1 nm l0)
  (yI5 l0 Nn Nn _ _ #[rfl,I0,O0,#[_,rfl,rfl],zg _,X0]) (λi σ H' _ hh=>by revert hh;refine yF5 λ_ _ _ _ _=>yB3 λ_ I _=>?_;exact ud.of (I.sm _ _ cv)) ?_ ?_
 .intro i v σ H6 hv;refine yF5 λle o6 o7 fs S=>yB6 ?_;rintro rfl I O F hle X;have hi:i<cs.length:=by have:=(Lq.mp hv).1;simpa using this
  rw[zz,zd hi]at hv;cases hv;cbv;refine yI5 (cs[i]) np wp nm ws #[rfl,I.sm _ _ d4,I.sm _ _ d5,n1,n2,w1,w2,d1,cA,λt H7 v s7 et hk=>?_];have I7:=I.alloc s7;rw?;let#[gs,x,rfl]:=ur (λz=>by have:=O.pos;rw[z]at this;simp at this:fs≠[]);have ag:=O.ok gs.length x (c7 gs x);have dl:=O.small (c7 gs x);have bg:=O.len;rw[zq,zy,yz]at bg;have dc:∃(g:Str) (u:MC),v = .str g::u:=by cases hk<;>first | exact yI2 _ _ rfl | (rename_i px _ _ _;cases px<;>exact yI2 _ _ rfl)
  let#[gh,u,hv]:=dc;have a4:cJ v 0=Sm (.str gh):=by rw[hv];exact kr
  refine X1 (uc.of et) a4 #[∅,λp1 ea=>?_];∎;rename_i H8 s8 e8;have e8:H8 p1=Sm (.tup ((["other","close"]:MA).map V.str)):=e8;have I8:=I7.alloc s8;have bh:=s8 _ _ et;refine#[_,.inr (uc.of e8),rfl,rfl,?_];rw[iV];have ab:(((gs++[x]).map λx=>V.ref x.fa).length:Int)=(gs.length:Int)+1:='~';have stay:∀ {H'},DA H H' U (gs++[x]) S->EH H cp np wp U a1 nm l0 (i+1) [Sm (.ref cp),Sm (.ref np),Sm (.ref wp),Sm (.int (le:Int)),Sm (.int 2),Sm (.ref U),Sm (.int cs[i]),Sm (.ref t)] H':=λI'=>yI5 _ _ _ _ _ #[rfl,I',O.mono (),F,hle,X.mono () (zg _)];refine aT (λc1=>?_) (λc1=>?_)
  .have cls:∃xs,(ud K H8 U xs\/uc K H8 U xs)/\if (1:Int)<(xs.length:Int) then oG [.ref U] H8 (λ_ H'=>EH H cp np wp U a1 nm l0 (i+1) [Sm (.ref cp),Sm (.ref np),Sm (.ref wp),Sm (.int (le:Int)),Sm (.int 2),Sm (.ref U),Sm (.int cs[i]),Sm (.ref t)] H') E0 else EH H cp np wp U a1 nm l0 (i+1) [Sm (.ref cp),Sm (.ref np),Sm (.ref wp),Sm (.int (le:Int)),Sm (.int 2),Sm (.ref U),Sm (.int cs[i]),Sm (.ref t)] H8:=by
    refine#[_,.inl (ud.of I8.pile),?_];rw[ab];refine aT (λc2=>?_) (λ_=>stay I8);let#[W,g,rfl]:=ur (λz=>by rw[z]at c2;simp at c2:gs≠[]);have dm:=O.small (k:=W.length) (x:=g) (by rw[oU,uu (zg _),Lk];rfl);have b0:=O.len;simp at b0;exact⟨U,H,W,g,x,S,rfl,I8,λz=>by
     have:=ag.hd '~';rw[z]at this;exact this,(),(),(),λH9 S9 I9=>yI5 _ _ _ _ _ ⟨rfl,I9,O.close.mono (),(F.cut '~').set rfl,hle,(X.close (by simpa using ag)).mono () (zg _)⟩⟩
   refine#[_,.inl (ud.of I8.pile),?_];rw[ab];refine aT (λc2=>?_) (λ_=>cls);refine X1 (uc.of bh) a4 ?_;cbv;refine aT (λ_=>?_) (λ_=>cls);refine yE3 (I8.fr gs.length x (c7 gs x)) λha cb d3=>yB6 λh1 h2 h3 h4 h5 h6=>?_;refine X2 (ud.of I8.pile) h_ ?_;cbv;refine X2 (ud.of h1) kr ?_;cbv;cases hhd:x.f.hd with
   | ite n=>
    rw[hhd]at h2;refine X1 (uc.of h2) (show cJ (iQ (.ite n)) 0=Sm (.str "if") from kr) ?_;cbv;refine X2 (ud.of I8.pile) h_ ?_;cbv;refine X2 (ud.of h1) (aq (j:=3) rfl) ?_;cases hs:x.f.s with
    | true=>
     rw[show nE true=V.int 1 from rfl];cbv;rw[Lu ∅];exact cls
    | false=>
     rw[show nE false=V.int 0 from rfl];cbv;refine X2 (ud.of I8.pile) h_ ?_;cbv;exact yI2 _ 3 #[h1,rfl,yI5 _ _ _ _ _ #[rfl,I8.side h1,(O.side hhd).mono (),F.set rfl,hle,X.side.mono () (zg _)]]
   | _=>
    rw[hhd]at h2;refine X1 (uc.of h2) kr ?_;cbv;rw[Lu ⋯];exact cls
  .have cq:gh∉(["other","close"]:MA):=λz=>c1 (decide_eq_true z);cbv;refine X1 (uc.of bh) a4 #[∅,λp2 d8=>?_];∎;rename_i H9 s9 e9;have e9:H9 p2=Sm (.tup ((qAn:MA).map V.str)):=e9;have I9:=I8.alloc s9;have a8:=s9 _ _ bh;refine#[_,.inr (uc.of e9),rfl,rfl,?_];rw[iV];have cn:(∃us,v=us.map V.str/\fR us/\im us/\(∀x∈us,dG x)/\En nm us)\/∃h:u_,v=iQ h/\gh∈(qAn:MA)/\C4 h/\(∀y z,h = .lend y z->y∈nm/\z∈nm)/\nR 1 1 h<=1/\nR 1 0 h=if gh = "lend" then 1 else 0:=by
    cases hk with
    | plain us a b c d=>exact .inl #[us,rfl,a,b,c,d]
    | lend y z k1 k2 m1 m2=>cases hv;exact .inr #[.lend y z,rfl,'~',#[k1,k2],λ_ _ e=>by cases e;exact#[m1,m2],zg _,(Lz rfl).symm]
    | ite n k1=>cases hv;exact .inr #[.ite n,rfl,'~',k1,λ_ _ e=>(by cases e),zg _,(Lu ⋯).symm]
    | whl n k1=>cases hv;exact .inr #[.whl n,rfl,'~',k1,λ_ _ e=>(by cases e),zg _,(Lu ⋯).symm]
    | other=>cases hv;exact absurd ⋯ cq
    | close=>cases hv;exact absurd ⋯ cq
   rcases cn with ⟨us,rfl,px,pw,dV,nw⟩ | ⟨h,rfl,d6,hok,c5,d9,da⟩
   .have dP:us.headD "" = gh:=by cases px<;>(cases hv;rfl)
    have dt:gh∉(qAn:MA):=by
     rw[<-dP];rcases lY px with h | h | h | h | h<;>rw[h]<;>decide +kernel
    rw[decide_eq_false dt,Lz ∅];exact yI7 U t H gs x S (.plain us) #[rfl,I9,a8,(),(),(),λcB al=>yI5 _ _ _ _ _ #[rfl,al,(O.put (st:=.plain us) (c:=1) #[px,dV] pw (zg _)).mono (),F.set rfl,hle,X.put (st:=.plain us) (c:=1) (e:=0) nw (zg _) (zg _)]]
   .rw[decide_eq_true d6,Lu ∅];refine#[_,.inl (ud.of I9.pile),?_];rw[ab];refine aT (λc3=>?_) (λ_=>stay I9);refine X1 (uc.of a8) a4 ?_;cbv;refine NY (λc4=>?_) (λ_=>stay I9);refine X1 (uc.of a8) a4 ?_;cbv;rw?;refine#[#[_,ud.of I9.pile],∅,λb1 bt=>?_];∎;rename_i cB s10 f1;refine#[∅,λb2 a6=>?_];∎;rename_i H11 s11 f2;refine#[∅,λfb as=>?_];∎;rename_i H12 ac f3;have al:=I9.alloc s10;have a5:=al.alloc s11;have ce:=a5.alloc ac;refine#[_,ce.pile,by rw[zb,zq];exact cC (by simp;lia),?_];have hX:=X.open (hd:=h) (by simp;lia) c5 fb b1 b2;have bc:(le:Int)-(if gh = "lend" then 1 else 0)=((le-nR 1 0 h:Nat):Int)/\nR 1 0 h<=le:=by
     rw[da];by_cases hl:gh = "lend"
     .have:(0:Int)<le:=c4.resolve_left (λz=>by simp[hl]at z);rw[Lz hl,Lz hl];lia
     .rw[Lu hl,Lu hl];lia
    rw[bc.1];have d7:=bc.2;refine yI5 _ _ _ _ _ #[rfl,ce.push (x:=#[fb,b1,b2,#[h,[],[],false]]) (yI3 t ([]) ([]) #[f3,(s10.trans (s11.trans ac)) _ _ a8,(s11.trans ac) _ _ f1,ac _ _ f2,.nil,.nil]) (Pk (aQ (s11 _ _ f1) as).symm (aQ f2 as).symm (aQ f1 a6)) (λb hb=>?_),O.open (h:=h) (by simp;lia) hok fb b1 b2,F.add,(),hX.mono () ()];have a3:b∈[fb,b1,b2]:=hb;simp only[yg,yu,or_false]at a3;rcases a3 with rfl | rfl | rfl
    .exact#[a5.notop as,(a5.free as).2,(a5.free as).1]
    .exact#[I9.notop bt,(I9.free bt).2,(I9.free bt).1]
    .exact#[al.notop a6,(al.free a6).2,(al.free a6).1]
 .intro σ H6;refine yF5 λle o6 o7 fs S=>yB6 ?_;rintro rfl I O F hle X;rw[zb]at O X;rw?;refine#[λm σ H'=>∃(fs:List Dp) (S:o_->Prop),σ=[Sm (.ref cp),Sm (.ref np),Sm (.ref wp),Sm (.int (le:Int)),Sm (.int 2),Sm (.ref U),o6,o7]/\DA H H' U fs S/\HK fs (3*cs.length)/\Hs a1 fs/\fs.length=m/\PX nm fs cs.length l0,yI3 _ fs S #[rfl,I,O,F,rfl,X.mono (zg _) ()],?_];clear I O F X;intro m σ H7;refine yF2 λfs S=>yB6 ?_;rintro rfl I O F hm X;have a9:fs≠[]:=λz=>by have:=O.pos;rw[z]at this;simp at this
  obtain⟨gs,x,rfl⟩ : ∃gs x,fs=gs++[x]:=yI2 fs.dropLast (fs.getLast a9) ((za9 a9).symm);have ag:=O.ok gs.length x (c7 gs x);have dl:=O.small (c7 gs x);have ab:(((gs++[x]).map λx=>V.ref x.fa).length:Int)=(gs.length:Int)+1:='~';cbv;refine#[_,.inl (ud.of I.pile),?_];rw[ab];refine aT (λc2=>?_) (λc2=>?_)
  .have be:gs≠[]:=λz=>by rw[z]at c2;simp at c2
   obtain⟨W,g,rfl⟩ : ∃W g,gs=W++[g]:=yI2 gs.dropLast (gs.getLast be) ((za9 be).symm);have dm:=O.small (k:=W.length) (x:=g) (by rw[oU,uu (zg _),Lk];rfl);have b0:=O.len;simp at b0 hm;refine#[λσ' H'=>∃(fs:List Dp) (S:o_->Prop),σ'=[Sm (.ref cp),Sm (.ref np),Sm (.ref wp),Sm (.int (le:Int)),Sm (.int 2),Sm (.ref U),o6,o7]/\DA H H' U fs S/\HK fs (3*cs.length)/\Hs a1 fs/\fs.length=W.length+1/\PX nm fs cs.length l0,λσ' H' z=>#[W.length+1,(),z],?_];refine⟨U,H,W,g,x,S,rfl,I,λz=>by
    have:=ag.hd '~';rw[z]at this;exact this,(),(),(),λH9 S9 I9=>?_⟩
   exact yI2 _ S9 #[rfl,I9,O.close,(F.cut '~').set rfl,'~',X.close (by simpa using ag)]
  .have d2:gs=[]:=zaT ();subst d2;refine yE3 (I.fr 0 x rfl) λha cb d3=>yB6 λh1 h2 h3 h4 h5 h6=>?_;let#[y,hy,eg]:=F;cases hy;rw?;refine X2 (ud.of I.pile) kr ?_;cbv;refine X2 (ud.of h1) (aq (j:=1) rfl) ?_;have hc:=O.cnt;have hw:jg 0 x+0<=3*cs.length:=hc;unfold jg at hw;refine q x.a1 H7 (λb=>S b\/b=x.a1) x.f.a I.sm (I.nw _ (yh _ (fP (fs:=[]++[x]) (x:=x) '~').2.1)) #[.inr rfl,cb,h3,cT (λ_ _ z=>z) (λ_ _ _ z=>z) (λ_ z=>.inl z) h5] ag.a.1 ag.a.2 (by simp at hw;lia) (X.nk 0 x rfl).1 (by have:jB 1 1 1 0 x+0<=cs.length:=X.nd;unfold jB at this;simp at this;lia) (by have:jB 0 1 0 0 x+0<=l0:=X.ld;unfold jB at this;simp at this;lia)
noncomputable def b7:MH->V
 | none=>.non
 | some n=>.int n
set_option genInjectivity false in
set_option genSizeOf false in
structure Rl where
 s:Int
 ws:MA
 rs:List (List MH)
variable{rl:Rl}
structure dk (r:Rl):Prop where
 s:r.s=1\/r.s=2
 nw:r.ws.length<=16
 n0:1<=r.rs.length
 n1:r.rs.length<=60
 row:∀x∈r.rs,x.length=r.ws.length/\∀k,Sm k∈x->k<r.rs.length
 lw:∀w∈r.ws,w.length<=30
def GI(H:Hp)(p:o_)(rs:List (List MH))(as:MD):Prop:=
 H p=Sm (.lst (as.map V.ref))/\as.length=rs.length/\∀(i:Nat) a x,as[i]?=Sm a->rs[i]?=Sm x->H a=Sm (.lst (x.map b7))
def Ct(H:Hp)(p:o_)(r:Rl):Prop:=∃pw pr as,H p=Sm (.tup [.int r.s,.ref pw,.ref pr])/\H pw=Sm (.lst (r.ws.map V.str))/\GI H pr r.rs as
theorem GI.mono{rs:List (List MH)}{F:MD}(sm:su H H')(h:GI H p rs F):GI H' p rs F:=by
 let#[h1,h2,J]:=h;exact#[sm _ _ h1,h2,λi a x O S=>sm _ _ (J i a x O S)]
theorem Ct.mono{r:Rl}(sm:su H H')(h:Ct H p r):Ct H' p r:=by
 revert h;refine yF3 λO S F=>yB3 λh1 h2 J=>?_;exact yI3 O S F #[sm _ _ h1,sm _ _ h2,J.mono sm]
theorem jf(F:MA):(F.map V.str).all bQ=true:=by
 rw[zbx];intro x hx;let#[s,_,rfl]:=LD.mp hx;rfl
theorem lN(y:Str)(F:MA):jG (.str y) (F.map V.str)=decide (y∈F):=by
 rw[KJ];unfold jG;rw[zbe,decide_eq_true_eq];constructor
 .rintro⟨x,hx,e⟩;let#[s,O,rfl]:=LD.mp hx;have J:(s==y)=true:=e;rw[<-eq_of_beq J];exact O
 .intro h;exact#[.str y,LD.mpr #[y,h,rfl],by show (y==y)=true;simp]
theorem Ai(x:List MH):∀v∈x.map b7,bQ v=true:=by
 intro v hv;let#[o,_,rfl]:=LD.mp hv;cases o<;>rfl
theorem Cv{K:KE}{H:Hp}{p q:o_}{rs:List (List MH)}{O bs:MD}(h1:GI H p rs O)(h2:GI H q rs bs):GP K H 2 (.ref p) (.ref q) true:=by
 let#[a1,a2,U]:=h1;let#[S,Z,Y]:=h2;refine GP.seq (.inl #[ud.of a1,ud.of S]) (by simp;lia) λi x y J F=>?_;rw[zz]at J F;cases qa:O[i]? with
 | none=>rw[qa]at J;cases J
 | some a=>
  cases qb:bs[i]? with
  | none=>rw[qb]at F;cases F
  | some b=>
   rw[qa]at J;rw[qb]at F;cases J;cases F;have hi:i<rs.length:=by have:=(Lq.mp qa).1;lia
   exact GP.seqFlat (.inl #[ud.of (U i a _ qa (zd hi)),ud.of (Y i b _ qb (zd hi))]) (Ai _)
theorem yx{K:KE}{pr L:o_}{g:TG}{te:TE}{nT:Nat}{σ:L2.St}{Q:VK}{H:Hp}{rs:List (List MH)}{Z:MD}(hR:GI H pr rs Z)(hn:rs.length<=60)(hL:H L=Nn)
  (hs:∀(a:o_) (xs:MC) (H':Hp) (C:VK),H' a=Sm (.lst xs)->(∀l,H' l=Nn->C (.ref l) (upd H' l (.lst xs)))->g (.ref a) (σ++List.replicate nT Nn) H' λσ2 H2=>te σ2 H2 C)
  (q:∀H' bs,su H H'->GI H' L rs bs->(∀b∈bs,H b=Nn/\b≠L)->bs.Nodup->Q (.ref L) H'):fG (md K pr) g j3 te nT σ L Q (upd H L (.lst [])):=by
 let#[h1,h2,h3]:=hR;refine er (xs:=Z.map V.ref) (λi ys H'=>∃bs:MD,su H H'/\H' L=Sm (.lst ys)/\ys=bs.map V.ref/\bs.length=i/\(∀b∈bs,H b=Nn/\b≠L/\∃o,H' b=Sm o)/\bs.Nodup/\∀(j:Nat) b x,bs[j]?=Sm b->rs[j]?=Sm x->H' b=Sm (.lst (x.map b7)))
  #[[],ak hL _,ai,rfl,rfl,'~',JW,'~'] (λi ys H' _ h=>by let#[_,sm,_]:=h;exact ud.of (sm _ _ h1)) ?_ ?_
 .intro i ys H' x hx hi;refine yF1 λbs=>yB7 ?_;rintro sm hl rfl hb J S O;rw[zz]at hx;cases qa:Z[i]? with
  | none=>rw[qa]at hx;cases hx
  | some a=>
   rw[qa]at hx;cases hx;have ab:i<rs.length:=by have:=(Lq.mp qa).1;lia
   have ha:=h3 i a _ qa (zd ab);have e:=hs a _ H' (iB (Z.map V.ref).length i (λi ys H'=>∃bs:MD,su H H'/\H' L=Sm (.lst ys)/\ys=bs.map V.ref/\bs.length=i/\(∀b∈bs,H b=Nn/\b≠L/\∃o,H' b=Sm o)/\bs.Nodup/\∀(j:Nat) b x,bs[j]?=Sm b->rs[j]?=Sm x->H' b=Sm (.lst (x.map b7))) L (bs.map V.ref)) (sm _ _ ha) ?_
   .have e2:(jh (Z.map V.ref).length i (λi ys H'=>∃bs:MD,su H H'/\H' L=Sm (.lst ys)/\ys=bs.map V.ref/\bs.length=i/\(∀b∈bs,H b=Nn/\b≠L/\∃o,H' b=Sm o)/\bs.Nodup/\∀(j:Nat) b x,bs[j]?=Sm b->rs[j]?=Sm x->H' b=Sm (.lst (x.map b7))) L (bs.map V.ref) te)=λσ2 H2=>te σ2 H2 (iB (Z.map V.ref).length i (λi ys H'=>∃bs:MD,su H H'/\H' L=Sm (.lst ys)/\ys=bs.map V.ref/\bs.length=i/\(∀b∈bs,H b=Nn/\b≠L/\∃o,H' b=Sm o)/\bs.Nodup/\∀(j:Nat) b x,bs[j]?=Sm b->rs[j]?=Sm x->H' b=Sm (.lst (x.map b7))) L (bs.map V.ref)):=by
     funext σ2 H2;exact mE
    rw[e2];exact e
   .intro l F;have nl:l≠L:=by
     rintro rfl;rw[hl]at F;cases F
    have ag:upd H' l (.lst ((rs[i]).map b7)) L=Sm (.lst (bs.map V.ref)):=by rw[au (u6 nl)];exact hl
    refine fD hi (by rw[zb];exact hb) (by rw[zb,h2];exact aH ()) ag #[bs++[l],(sm.trans (ak F _)).upd hL _,ai,by rw[yb];rfl,by simp[hb],?_,?_,?_]
    .intro b Y;rcases LG.mp Y with z | z
     .refine yA3 (J b z) λz1 z2=>yF1 λo z3=>?_;exact#[z1,z2,o,by rw[au z2];exact(ak F _) _ _ z3]
     .rw[Lv.mp z];exact#[sm.free F,nl,_,by rw[au nl];exact ai]
    .rw[JT];refine#[S,'~',λb Y c hc=>?_];rw[Lv.mp hc];rintro rfl;refine yA3 (J b Y) λ_ _=>yF1 λo z=>?_;rw[F]at z;cases z
    .intro j b x U e2;rcases iu j bs.length with z | z
     .rw[xr z]at U;have q1:=O j b x U e2;have q2:=(J b (xO U)).2.1;rw[au q2];exact(ak F _) _ _ q1
     .rw[uu z]at U;have hj:j-bs.length=0:=by
       have:=(Lq.mp U).1;simp at this;lia
      rw[hj]at U;have ac:l=b:=by simpa using U
      subst ac;have ad:j=i:=()
      subst ad;rw[zd ab]at e2;cases e2;rw[au nl];exact ai
 .intro ys H';refine yF1 λbs=>yB7 ?_;rintro sm hl rfl hb J S O;exact q H' bs sm #[hl,by rw[hb,zb,h2],O] (λb z=>#[(J b z).1,(J b z).2.1]) S
noncomputable def step(r:Rl)(k:Nat)(y:Str):MH:=if y∈r.ws then (r.rs.getD k []).getD (r.ws.idxOf y) Nn else Sm k
noncomputable def after(r:Rl):Nat->MA->MH
 | k,[]=>Sm k
 | k,y::ys=>match step r k y with
  | none=>Nn
  | some k'=>after r k' ys
theorem lO{r:Rl}{k:Nat}(ok:dk r)(F:k<r.rs.length)(h:step r k y=Sm j):j<r.rs.length:=by
 unfold step at h;by_cases hy:y∈r.ws
 .rw[Lz hy,xW (l:=r.rs),zd F]at h;have hx:=ok.row r.rs[k] (gV F);have O:r.ws.idxOf y<(r.rs[k]).length:=by rw[hx.1];exact LO.mpr hy
  have h':(r.rs[k]).getD (r.ws.idxOf y) Nn=Sm j:=h;rw[xW,zd O]at h';have J:(r.rs[k])[r.ws.idxOf y]=Sm j:=h';exact hx.2 j (J ▸ gV O)
 .rw[Lu hy]at h;cases h;exact F
def nj:Sp:=λvs H Q _=>∃(p:o_) (r:Rl) (k:Nat) (y:Str),vs=[.ref p,.int k,.str y]/\Ct H p r/\dk r/\k<r.rs.length/\Q (b7 (step r k y)) H
def Am(K:KE):Sp:=λvs H Q _=>∃(p b:o_) (r:Rl) (j:Nat) (ys:MA),vs=[.ref p,.int j,.ref b]/\Ct H p r/\dk r/\j<r.rs.length/\ud K H b (ys.map V.str)/\Q (b7 (after r j ys)) H
theorem wz{r:Rl}{k:Nat}{x:List MH}(ok:dk r)(hx:r.rs[k]?=Sm x)(F:y∈r.ws):(x.map b7)[r.ws.idxOf y]?=Sm (b7 (step r k y)):=by
 have J:r.ws.idxOf y<x.length:=by rw[(ok.row x (xO hx)).1];exact LO.mpr F
 rw[zz,zd J];show Sm (b7 x[r.ws.idxOf y])=_;unfold step;rw[Lz F,xW (l:=r.rs),hx];show _=Sm (b7 (x.getD (r.ws.idxOf y) Nn));rw[xW,zd J];rfl
theorem Fb(D:xn K mg "next_room" dA):aD P w K mg base 1 "next_room" qAe nj:=by
 refine D.cal Hi (λf Y A outer s H vs Q E hr h=>?_);revert h;refine yF4 λp r k y=>yB5 ?_;rintro rfl W ok Z q;revert W;refine yF3 λpw pr S=>yB5 λh1 h2 U h4 h5=>?_;refine⟨_,(ah (ay 3 Hi.nd (am (ax K) (pv 0) af))
   (ah (aY (aA (kA K) (pv 2) (pv 3) (by with_unfolding_all rfl)) (aj (az (pv 1))) aN)
   (aj (az (am (ax K) (am (ax K) (am (ax K) (pv 0) af) (pv 1)) (bB K yY zby F.type_list_index (qj K) (pv 3) (aa (pv 2) ae))))))),?_⟩
 cbv;refine X1 (uc.of h1) rfl ?_;rw?;refine#[_,.inl (ud.of h2),rfl,jf _,?_];rw[lN];refine aT (λc=>?_) (λc=>?_)
 .have J:y∉r.ws:=by simpa using c
  have e:step r k y=Sm k:=by unfold step;rw[Lu J]
  rw[e]at q;exact q
 .have J:y∈r.ws:=by simpa using c
  obtain⟨b,O⟩ : ∃b,S[k]?=Sm b:=⟨S[k],zd ()⟩
  obtain⟨x,hx⟩ : ∃x,r.rs[k]?=Sm x:=⟨_,zd Z⟩
  rw?;refine X1 (uc.of h1) rfl ?_;cbv;refine X2 (ud.of U) (nO () (by simpa using O)) ?_;cbv;refine#[#[_,ud.of h2],_,ud.of h2,J,?_];exact X2 (ud.of (h5 k b x O hx)) (aq (wz ok hx J)) q
theorem nv{r:Rl}{k i:Nat}{ys:MA}{y:Str}(h:ys[i]?=Sm y):after r k (ys.drop i)=match step r k y with
  | none=>Nn
  | some k'=>after r k' (ys.drop (i+1)):=by
 have hi:=(Lq.mp h);let#[hi,e]:=hi;rw[zbo hi,e]
 rfl
theorem uy(D:xn K mg "room_from" cS) (F:aD P w K mg base 1 "next_room" qAe nj):aD P w K mg base 2 "room_from" qAv (Am K):=by
 refine D.cal GQ (λf Z A outer s H vs Q E W h=>?_);revert h;refine yF5 λp b r j ys=>yB6 ?_;rintro rfl Y ok hj S q;refine⟨_,(ah (cg pD rfl (bF K (pv 2)) (aS 3 GQ.nd) (ah (ay 1 GQ.nd (aw F W (aa (pv 0) (aa (pv 1) (aa (pv 3) ae)))))
   (aj (aY (aA fL (pv 1) dw (aB _)) (aj (az dw)) aN))))
   (aj (az (pv 1)))),?_⟩
 cbv;refine#[#[_,S],?_];refine cL (xs:=ys.map V.str) (λi σ H'=>∃(k:Nat) (o:MK),σ=[Sm (.ref p),Sm (.int k),Sm (.ref b),o]/\H=H'/\k<r.rs.length/\after r j ys=after r k (ys.drop i)) (yI2 j Nn #[rfl,rfl,hj,rfl]) (λi σ H' _ h=>by revert h;refine yF2 λ_ _=>yB3 ?_;rintro _ rfl _;exact S) ?_ ?_
 .intro i x σ H' hx;refine yF2 λk o=>yB4 ?_;rintro rfl rfl O e;rw[zz]at hx;cases qy:ys[i]? with
  | none=>rw[qy]at hx;cases hx
  | some y=>
   rw[qy]at hx;cases hx;rw[nv qy]at e;cbv;refine yI4 p r k y #[rfl,Y,ok,O,?_];cases hst:step r k y with
   | none=>
    rw[hst]at e;rw?;refine aT (λc=>?_) (λc=>?_)
    .rw[e]at q;exact q
    .exact absurd rfl c
   | some k'=>
    rw[hst]at e;have J:=lO ok O hst;rw?;refine aT (λc=>?_) (λc=>?_)
    .cases c
    .exact yI2 k' _ #[rfl,J,e]
 .intro σ H';refine yF2 λk o=>yB4 ?_;rintro rfl rfl O e;rw[zb,List.drop_length]at e;rw?;have U:after r j ys=Sm k:=e;rw[U]at q;exact q
theorem iO{c:o_}(h:Ce H c R)(e:R[i]?=Sm r):∃(F:MD) (b:o_),H c=Sm (.lst (F.map V.ref))/\F.length=R.length/\F[i]?=Sm b/\H b=Sm (.tup r):=by
 let#[F,a1,a2]:=h;have hl:=aK a2;have hi:=(Lq.mp e).1;have J:i<F.length:=()
 let#[U,O,S]:=cD a2 (zd J);rw[e]at O;cases O;exact yI2 F _ #[a1,hl,zd J,S]
theorem Oq(n:Nat):jG (.int (n:Int)) [.int 2,.int 4]=decide (n=2\/n=4):=by
 show ((2:Int)==(n:Int)||((4:Int)==(n:Int)||false))=_;by_cases a:n=2
 .subst a;rfl
 .by_cases b:n=4
  .subst b;rfl
  .rw[decide_eq_false (),beq_eq_false_iff_ne.mpr (),beq_eq_false_iff_ne.mpr ()];rfl
theorem Mw:(NP++Str.ofString (toString (1:Int))++Str.ofString "." : Str)=("1." : Str):=⋯
theorem MV:(NP++Str.ofString (toString (2:Int))++Str.ofString "." : Str)=("2." : Str):=⋯
theorem A6{a:o_}{g:TG}{te:TE}{nT:Nat}{σ:L2.St}{D:o_}{tc:TT}(F:Nat->MC->Hp->Prop)(O:F 0 [] H)(hl:∀i ys H,i<=xs.length->F i ys H->uc K H a xs)
  (S:∀i ys H x,xs[i]?=Sm x->i<xs.length->F i ys H->g x (σ++List.replicate nT Nn) H (n_ xs.length i F D ys tc te))
  (hd:∀ys H,F xs.length ys H->Q (.ref D) H):fG (vK K a) g tc te nT σ D Q H:=by
 refine mD xs.length F O (λi ys H hi p=>yI2 xs (xs[i]) #[hl i ys H (xx hi) p,by simp[hi]]) (λys H p=>#[xs,hl _ ys H (zg _) p,zg _]) (λi ys H x H' hi p J=>?_) hd;let#[rfl,y]:=J;exact S i ys _ x (y xs (hl i ys _ (xx hi) p)) hi p
inductive DQ (N:Nat):aE->Prop
 | op (l s:Nat):s<N->DQ N [.str "open",iN l,iN s]
 | dd (l s:Nat) (x:Str):s<N->x.length<=20->DQ N [.str "do",iN l,iN s,.str x]
 | cp (l s t:Nat):s<N->t<N->DQ N [.str "copy",iN l,iN s,iN t]
 | dr (l s:Nat):s<N->DQ N [.str "drop",iN l,iN s]
 | ti (l s t:Nat):s<N->t<N->DQ N [.str "tie",iN l,iN s,iN t]
 | ts (l:Nat) (n:Int) (j:Nat):DQ N [.str "test",iN l,.int n,iN j]
 | jm (l j:Nat):DQ N [.str "jump",iN l,iN j]
 | en (l:Nat):DQ N [.str "end",iN l]
noncomputable def bT(r:aE)(k:Nat):Nat:=match r.getD k .non with
 | .int j=>j.toNat
 | _=>0
noncomputable def cK(r:aE):Str:=match r.getD 0 .non with
 | .str x=>x
 | _ => ""
noncomputable def kn(r:aE):Str:=match r.getD 3 .non with
 | .str x=>x
 | _ => ""
theorem DQ.hd(h:DQ N r):r[0]?=Sm (.str (cK r)):=by cases h<;>rfl
theorem DQ.s2{N:Nat}{r:aE}(h:DQ N r)(g:cK r∈(["open","copy","drop","do","tie"]:MA)):r[2]?=Sm (.int (bT r 2:Nat))/\bT r 2<N:=by
 cases h with
 | op l s h | dr l s h=>exact#[rfl,h]
 | dd l s x h _=>exact#[rfl,h]
 | cp l s t h _ | ti l s t h _=>exact#[rfl,h]
 | ts l n j=>exact absurd g (by show ¬ (("test" : Str)∈_);decide)
 | jm l j=>exact absurd g (by show ¬ (("jump" : Str)∈_);decide)
 | en l=>exact absurd g (by show ¬ (("end" : Str)∈_);decide)
theorem DQ.s3{N:Nat}{r:aE}(h:DQ N r)(g:cK r∈(["copy","tie"]:MA)):r[3]?=Sm (.int (bT r 3:Nat))/\bT r 3<N:=by
 cases h with
 | cp l s t _ h | ti l s t _ h=>exact#[rfl,h]
 | op l s h=>exact absurd g (by show ¬ (("open" : Str)∈_);decide)
 | dr l s h=>exact absurd g (by show ¬ (("drop" : Str)∈_);decide)
 | dd l s x h _=>exact absurd g (by show ¬ (("do" : Str)∈_);decide)
 | ts l n j=>exact absurd g (by show ¬ (("test" : Str)∈_);decide)
 | jm l j=>exact absurd g (by show ¬ (("jump" : Str)∈_);decide)
 | en l=>exact absurd g (by show ¬ (("end" : Str)∈_);decide)
theorem DQ.wd{N:Nat}{r:aE}(h:DQ N r)(g:cK r = "do"):r[3]?=Sm (.str (kn r))/\(kn r).length<=20:=by
 cases h with
 | dd l s x _ h=>exact#[rfl,h]
 | op l s h=>exact absurd g (by show ¬ (("open" : Str)=_);decide)
 | dr l s h=>exact absurd g (by show ¬ (("drop" : Str)=_);decide)
 | cp l s t _ h=>exact absurd g (by show ¬ (("copy" : Str)=_);decide)
 | ti l s t _ h=>exact absurd g (by show ¬ (("tie" : Str)=_);decide)
 | ts l n j=>exact absurd g (by show ¬ (("test" : Str)=_);decide)
 | jm l j=>exact absurd g (by show ¬ (("jump" : Str)=_);decide)
 | en l=>exact absurd g (by show ¬ (("end" : Str)=_);decide)
noncomputable def e_(r:aE)(n:Nat):Nat:=if cK r = "copy" /\ bq n (bT r 3)=true then kO n (bT r 2) else if cK r∈(qAm:MA) then bZ n (bT r 2) else n
def nH:Sp:=λvs H Q _=>∃s n:Nat,vs=[.int (s:Int),.int (n:Int)]/\Q (.bl (bq n s)) H
theorem FQ(D:xn K mg "is_in" jK):aD P w K mg base 1 "is_in" qAV nH:=by
 refine D.cal (k:=0) Cd (λf J A outer S H vs Q E O h=>?_);revert h;refine yF2 λs n=>yB2 ?_;rintro rfl q;refine#[_,(aj (az (db aL (ar lu (ar sP (pv 1) (pv 0)) af) af (aB _)))),?_];cbv;refine#[(),?_];rw[uv,Js];have e:decide ((if bq n s=true then (1:Int) else 0)=1)=bq n s:=by cases bq n s<;>decide
 rw[e];exact q
def lm:Sp:=λvs H Q _=>∃s n:Nat,vs=[.int (s:Int),.int (n:Int)]/\s<=1000000/\Q (.int (bZ n s:Nat)) H
theorem xI(D:xn K mg "without" ik):aD P w K mg base 1 "without" qAV lm:=by
 refine D.cal (k:=0) xw (λf F A outer S H vs Q E O h=>?_);revert h;refine yF2 λs n=>yB3 ?_;rintro rfl U q;refine#[_,(aj (az (ar lu (pv 1) (eh Jc (ar nX af (pv 0)))))),?_];cbv;refine#[#[(),(),∅],?_];rw[uv,show (1:Int)*2^s=((2^s:Nat):Int) by push_cast;lia,vi];exact q
def A_:Sp:=λvs H Q _=>∃(b:o_) (r:aE) (n N:Nat),vs=[.ref b,.int (n:Int)]/\bP H b r/\DQ N r/\N<=1000000/\∀H':Hp,su H H'->Q (.int (e_ r n:Nat)) H'
theorem F_(D:xn K mg "held_behind" dq) (S:aD P w K mg base 1 "is_in" qAV nH) (J:aD P w K mg base 1 "without" qAV lm):aD P w K mg base 2 "held_behind" qAy A_:=by
 refine D.cal (k:=1) oj (λf ab A outer s0 H vs Q E hr h=>?_);revert h;refine yF4 λb r n N=>yB5 ?_;rintro rfl Y W hN q;refine⟨_,(ah (aY (PW.pt' (cr (aA aL (am (ax K) (pv 0) af) av (aB _)) (cM (cN (aw S hr (aa (am (ax K) (pv 0) af) (aa (pv 1) ae))))))) (aj (az (ar KG (pv 1) (ar nX af (am (ax K) (pv 0) af))))) aN)
   (ah (aY (aA (kC K) (am (ax K) (pv 0) af) (aR (aa av (aa av (aa av ae)))) (by with_unfolding_all rfl)) (aj (az (aw J hr (aa (am (ax K) (pv 0) af) (aa (pv 1) ae))))) aN)
   (aj (az (pv 1))))),?_⟩
 cbv;refine X1 (uc.of Y) (aq (j:=0) W.hd) ?_;cbv;refine aT (λc=>?_) (λc=>?_)
 .let#[h2,l2]:=W.s2 (by rw[c];decide);let#[h3,l3]:=W.s3 (by rw[c];decide);refine X1 (uc.of Y) (aq (j:=3) h3) ?_;refine yI2 (bT r 3) n #[rfl,_,rfl,aT (λd=>?_) (λd=>?_)]
  .refine X1 (uc.of Y) (aq (j:=2) h2) ?_;cbv;refine#[#[(),(),∅],?_];have F:=q H (λ_ _ z=>z);unfold e_ at F;rw[Lz #[c,d]]at F;rw[uv,show (1:Int)*2^bT r 2=((2^bT r 2:Nat):Int) by push_cast;lia];show Q (V.int (OA (n:Int) ((2^bT r 2:Nat):Int))) H;rw[JR];exact F
  .have Z:¬ (cK r = "copy" /\ bq n (bT r 3)=true):=λz=>d z.2;rw?;refine X1 (uc.of Y) (aq (j:=0) W.hd) #[∅,λp hp=>?_];have U:=ak hp (.tup [V.str "open",.str "copy",.str "drop"]);refine#[_,.inr (uc.of ai),rfl,rfl,?_];have O:=U _ _ Y;generalize upd H p (.tup [V.str "open",.str "copy",.str "drop"])=H1 at U O |-;rw[show [V.str "open",.str "copy",.str "drop"]=(qAm:MA).map V.str from rfl,iV];have F:=q H1 U;unfold e_ at F;rw[Lu Z]at F
   refine aT (λe=>?_) (λe=>?_)
   .have e:=of_decide_eq_true e;rw[Lz e]at F;let#[h2,l2]:=W.s2 (by simp only[yg,yu,or_false]at e |-;rcases e with e | e | e<;>simp[e]);exact X1 (uc.of O) (aq (j:=2) h2) (yI2 (bT r 2) n #[rfl,(),F])
   .rw[Lu (λz=>e (decide_eq_true z))]at F;rw?;exact F
 .have Z:¬ (cK r = "copy" /\ bq n (bT r 3)=true):=λz=>c z.1;rw?;refine X1 (uc.of Y) (aq (j:=0) W.hd) #[∅,λp hp=>?_];have U:=ak hp (.tup [V.str "open",.str "copy",.str "drop"]);refine#[_,.inr (uc.of ai),rfl,rfl,?_];have O:=U _ _ Y;generalize upd H p (.tup [V.str "open",.str "copy",.str "drop"])=H1 at U O |-;rw[show [V.str "open",.str "copy",.str "drop"]=(qAm:MA).map V.str from rfl,iV];have F:=q H1 U;unfold e_ at F;rw[Lu Z]at F
  refine aT (λe=>?_) (λe=>?_)
  .have e:=of_decide_eq_true e;rw[Lz e]at F;let#[h2,l2]:=W.s2 (by simp only[yg,yu,or_false]at e |-;rcases e with e | e | e<;>simp[e]);exact X1 (uc.of O) (aq (j:=2) h2) (yI2 (bT r 2) n #[rfl,(),F])
  .rw[Lu (λz=>e (decide_eq_true z))]at F;rw?;exact F
def dv(H:Hp)(t:o_)(ts:MB):Prop:=H t=Sm (.tup (ts.map iN))
def q9:Sp:=λvs H Q _=>∃(t:o_) (ts:MB),vs=[.ref t]/\dv H t ts/\Q (.bl (decide (2<ts.length))) H
theorem GV(D:xn K mg "is_of_two" fU) (F:wAK mg):aD P w K mg base 1 "is_of_two" ["token"] q9:=by
 refine D.cal (k:=0) sT (λf O A outer W H vs Q E U h=>?_);revert h;refine yF2 λt ts=>yB3 ?_;rintro rfl J q;refine#[_,(aj (az (db lx (bx (ba K) F bK (aa (pv 0) ae)) af (aB _)))),?_];cbv;refine#[_,.inr (uc.of J),?_];cbv;rw[zb,show decide ((ts.length:Int)>2)=decide (2<ts.length) from decide_eq_decide.mpr ()];exact q
def yP:Sp:=λvs H Q _=>∃(t:o_) (ts:MB),vs=[.ref t]/\dv H t ts/\∀H':Hp,su H H'->Q (.bl (decide (ts.length=2\/ts.length=4))) H'
theorem H_(D:xn K mg "has_room" gA) (F:wAK mg):aD P w K mg base 1 "has_room" ["token"] yP:=by
 refine D.cal (k:=0) vm (λf O A outer Y H vs Q E W h=>?_);revert h;refine yF2 λt ts=>yB3 ?_;rintro rfl J q;refine#[_,(aj (az (db (kC K) (bx (ba K) F bK (aa (pv 0) ae)) (aR (aa af (aa af ae))) (by with_unfolding_all rfl)))),?_];cbv;refine#[_,.inr (uc.of J),∅,λp U=>?_];refine#[_,.inr (uc.of ai),rfl,rfl,?_];rw[zb,Oq];exact q _ (ak U _)
def HJ(r:aE):MB->MA
 | [n,_]=>if bq n (bT r 2)=true then [kn r] else []
 | n::m::_=>(if bq n (bT r 2)=true then [("1." : Str)++kn r] else [])++(if bq m (bT r 2)=true then [("2." : Str)++kn r] else [])
 | _=>[]
def Q9:MB->MA
 | [_,_]=>["end"]
 | _::_::o::_=>if o=1 then qAz else qBA
 | _=>[]
def fV(r:aE)(ts:MB):MA:=if cK r = "do" then HJ r ts else if cK r = "end" then Q9 ts else []
inductive ku:MB->Nat->Prop
 | h1 (n k:Nat):ku [n,k] k
 | tie (n m o k:Nat):ku [n,m,o,k] k
def zR:Sp:=λvs H Q _=>∃(b t:o_) (r:aE) (ts:MB) (k N:Nat),vs=[.ref b,.ref t]/\bP H b r/\DQ N r/\cK r = "do" /\ dv H t ts/\ku ts k/\∀(L:o_) (H':Hp),su H H'->H L=Nn->H' L=Sm (.lst ((HJ r ts).map V.str))->Q (.ref L) H'
theorem FS(D:xn K mg "texts_done" bn) (J:aD P w K mg base 1 "is_in" qAV nH) (F:aD P w K mg base 1 "is_of_two" ["token"] q9):aD P w K mg base 2 "texts_done" qAg zR:=by
 refine D.cal (k:=1) GK (λf ad A outer s0 H vs Q E hr h=>?_);revert h;refine yF6 λb t r ts k N=>yB7 ?_;rintro rfl hb hk hd ht ac q;refine⟨_,(ah (ay 2 GK.nd (am (ax K) (pv 0) af) (hx:=QQ))
   (ah (ay 3 GK.nd (am (ax K) (pv 0) af) (hx:=QN))
   (ah (aY (jC (cN (aw F hr (aa (pv 1 (hv:=K4)) ae)))) (aj (az (fk (cN (aw J hr (aa (pv 2 (hv:=Re)) (aa (am (ax K) (pv 1 (hv:=K4)) af) ae)))) (aG (aa (pv 3 (hv:=RA)) ae)) (aG ae)))) aN)
   (aj (az (dn (CO.to (fsc:=(sg bn)) (N:=qAd) (N0:=qAd) (T:=["side"])) rfl ((iH K) (aR (aa af (aa af ae)))) (λ_ _ _ _=>(aS 4 (show (["row","token","slot","word","side"]:MA).Nodup from ⋯))) (bW (show (qAd:MA).length<=4 from ∅)) (λ_ _ _ _=>(j_ (cN (aw J hr (aa (pv 2 (hv:=(bR (sg bn) ⋯))) (aa (am (ax K) (pv 1 (hv:=(bR (sg bn) ⋯))) (ar gv (pv 4) af)) ae)))))) (λ_ _ _ _=>(Ga (oR (Bh (pv 4)) (oR av (oR (Bh (pv 3 (hv:=(bR (sg bn) ⋯)))) GW))))))))))),?_⟩
 let#[h2,l2]:=hk.s2 (by rw[hd];decide);let#[h3,l3]:=hk.wd hd;cbv;refine X1 (uc.of hb) (aq (j:=2) h2) ?_;rw?;refine X1 (uc.of hb) (aq (j:=3) h3) ?_;rw?;refine yI2 t _ #[rfl,ht,_,rfl,?_];cases ac with
 | h1 n k=>
  rw[Lz '~'];refine X1 (uc.of ht) rfl ?_;refine yI2 (bT r 2) n #[rfl,_,rfl,aT (λc=>?_) (λc=>?_)]
  .refine#[∅,λp U=>q p _ (ak U _) U ?_];show _=Sm (HO.lst ((if bq n (bT r 2)=true then [kn r] else []).map V.str));rw[Lz c];exact ai
  .refine#[∅,λp U=>q p _ (ak U _) U ?_];show _=Sm (HO.lst ((if bq n (bT r 2)=true then [kn r] else []).map V.str));rw[Lu c];exact ai
 | tie n m o k=>
  rw[Lu '~'];rw?;refine#[∅,λp U=>?_];∎;rename_i H1 s1 e1;refine#[#[_,uc.of e1],λL Y=>?_];refine A6 (xs:=[V.int 1,V.int 2]) (λi ys H'=>su H1 H'/\H' L=Sm (.lst ys)/\ys.length<=i/\ys=((if bq n (bT r 2)=true/\1<=i then [("1." : Str)++kn r] else [])++(if bq m (bT r 2)=true/\2<=i then [("2." : Str)++kn r] else [])).map V.str)
   #[ak Y _,ai,zg _,'~'] (λi ys H' _ hh=>uc.of (hh.1 _ _ e1)) ?_ ?_
  .intro i ys H' v hv hi;refine yB4 λsm hl S O=>?_;have W:=sm _ _ (s1 _ _ ht);have ab:i=0\/i=1:=by have:i<2:=hi;lia
   rcases ab with rfl | rfl
   .cases hv;cbv;refine X1 (uc.of W) rfl ?_;refine yI2 (bT r 2) n #[rfl,_,rfl,aT (λc=>?_) (λc=>?_)]
    .rw[Mw];have hz:("1." : Str).length=2:=⋯;refine#[∅,⋯,by rw[hz];exact aH ∅,aH (),by rw[K8,hz];exact aH (),by rw[K8,hz];exact aH (),?_];have Z:ys=[]:=by cases ys with
      | nil=>rfl
      | cons _ _=>simp at S
     subst Z;exact lh ∅ '~' (aH ∅) hl #[sm.upd Y _,ai,'~',by simp[c]]
    .exact nC ∅ #[sm,hl,(),by rw[O];simp[c]]
   .cases hv;cbv;refine X1 (uc.of W) rfl ?_;refine yI2 (bT r 2) m #[rfl,_,rfl,aT (λc=>?_) (λc=>?_)]
    .rw[MV];have hz:("2." : Str).length=2:=⋯;refine#[∅,⋯,by rw[hz];exact aH ∅,aH (),by rw[K8,hz];exact aH (),by rw[K8,hz];exact aH (),?_];exact lh ∅ S (aH ∅) hl #[sm.upd Y _,ai,by rw[zq];simp;lia,by rw[O];simp[c]]
    .exact nC ∅ #[sm,hl,(),by rw[O];simp[c]]
  .intro ys H';refine yB4 λsm hl S O=>?_;refine q L H' (s1.trans sm) (s1.free Y) ?_;rw[hl,O];unfold HJ;simp
def Eb:Sp:=λvs H Q _=>∃(b t:o_) (r:aE) (ts:MB) (k N:Nat),vs=[.ref b,.ref t]/\bP H b r/\DQ N r/\dv H t ts/\ku ts k/\∀(L:o_) (H':Hp),su H H'->H L=Nn->H' L=Sm (.lst ((fV r ts).map V.str))->Q (.ref L) H'
theorem C7(D:xn K mg "texts_at" eO) (F:aD P w K mg base 2 "texts_done" qAg zR) (J:aD P w K mg base 1 "is_of_two" ["token"] q9):aD P w K mg base 3 "texts_at" qAg Eb:=by
 refine D.cal (k:=2) vA (λf ab A outer s0 H vs Q E hr h=>?_);revert h;refine yF6 λb t r ts k N=>yB6 ?_;rintro rfl Z Y W S q;refine⟨_,(ah (aY (aA aL (am (ax K) (pv 0) af) av (aB _)) (aj (az (aw F hr (aa (pv 0) (aa (pv 1) ae))))) aN)
   (ah (aY (aA iY (am (ax K) (pv 0) af) av (aB _)) (aj (az (aG ae))) aN)
   (ah (aY (jC (cN (aw J hr (aa (pv 1) ae)))) (aj (az (aG (aa av ae)))) aN)
   (aj (az (fk (aA aL (am (ax K) (pv 1) af) af (aB _)) (aG (aa av (aa av ae))) (aG (aa av (aa av ae))))))))),?_⟩
 unfold fV at q;cbv;refine X1 (uc.of Z) (aq (j:=0) Y.hd) ?_;cbv;refine aT (λc=>?_) (λc=>?_)
 .rw[Lz c]at q;exact yI6 b t r ts k N #[rfl,Z,Y,c,W,S,q]
 .rw[Lu c]at q;rw?;refine X1 (uc.of Z) (aq (j:=0) Y.hd) ?_;cbv;refine aT (λd=>?_) (λd=>?_)
  .rw[Lu (by simpa using d)]at q;exact#[∅,λp O=>q p _ (ak O _) O ai]
  .rw[Lz (by simpa using d)]at q;rw?;refine yI2 t _ #[rfl,W,_,rfl,?_];cases S with
   | h1 n k=>
    rw[Lz '~'];exact#[∅,λp O=>q p _ (ak O _) O ai]
   | tie n m o k=>
    rw[Lu '~'];rw?;refine X1 (uc.of W) rfl ?_;rw[show iN o=V.int (o:Int) from rfl];cbv;have U:∀(L:o_) (H':Hp),su H H'->H L=Nn->H' L=Sm (.lst (((if o=1 then qAz else qBA):MA).map V.str))->Q (.ref L) H':=q;refine aT (λe=>?_) (λe=>?_)
    .rw[Lz ()]at U;exact#[∅,λp O=>U p _ (ak O _) O ai]
    .rw[Lu ()]at U;exact#[∅,λp O=>U p _ (ak O _) O ai]
def jy:Sp:=λvs H Q _=>∃(p b t:o_) (rl:Rl) (r:aE) (ts:MB) (k N:Nat),vs=[.ref p,.ref b,.ref t]/\Ct H p rl/\dk rl/\k<rl.rs.length/\bP H b r/\DQ N r/\dv H t ts/\ku ts k/\∀H':Hp,su H H'->Q (b7 (after rl k (fV r ts))) H'
theorem Co(D:xn K mg "room_behind" c8) (F:aD P w K mg base 2 "room_from" qAv (Am K)) (J:aD P w K mg base 3 "texts_at" qAg Eb):aD P w K mg base 4 "room_behind" qAf jy:=by
 refine D.cal (k:=3) o0 (λf ab A outer s0 H vs Q E U h=>?_);revert h;refine yF8 λp b t rl r ts k N=>yB9 ?_;rintro rfl Z ok S hb hk W O q;refine#[_,(aj (az (aw F U (aa (pv 0) (aa (am (ax K) (pv 2) (eh dN af)) (aa (aw J U (aa (pv 1) (aa (pv 2) ae))) ae)))))),?_];cbv;refine X1 (uc.of W) (by cases O<;>rfl:cJ (ts.map iN) (-1)=Sm (.int (k:Int))) ?_;refine yI6 b t r ts k N #[rfl,hb,hk,W,O,λL H1 Y hL e1=>?_];exact yI5 p L rl k _ #[rfl,Z.mono Y,ok,S,ud.of e1,q H1 Y]
inductive gN (sd:Int) (Z:Nat):MB->Prop
 | h1 (n k:Nat):sd=1->k<Z->gN sd Z [n,k]
 | one (n:Nat):sd=2->gN sd Z [n]
 | two (n m o:Nat):sd=2->gN sd Z [n,m,o]
 | tie (n m o k:Nat):sd=2->k<Z->gN sd Z [n,m,o,k]
def Cc(H:Hp)(v:V):Option MB->Prop
 | none=>v = .non
 | some ts=>∃t,v = .ref t/\dv H t ts
theorem zS(F:MB)(k:Nat):dQ ((F++[k]).map iN) Nn (Sm (-1))=F.map iN:=by
 unfold dQ;have h1:HT.sIx ((F++[k]).map iN).length 0 Nn=0:=rfl;have h2:HT.sIx ((F++[k]).map iN).length ((F++[k]).map iN).length (Sm (-1))=F.length:=by
  rw[zb,zq,JZ];unfold HT.sIx;simp;lia
 rw[h1,h2,List.drop_zero,Nat.sub_zero,yb,List.take_left' (by rw[zb])]
def jq(rl:Rl)(s:Nat)(tss:List MB):List MB:=if rl.s=1 then (match step rl 0 "open" with | some j=>[[2^s,j]] | none=>[]) else [2^s]::tss.flatMap λts=>if ts.length=1 then [[bZ (ts.getD 0 0) s,2^s,1],[2^s,bZ (ts.getD 0 0) s,2]] else []
def li(s t:Nat)(tss:List MB):List MB:=(tss.filter λts=>decide (ts.length=3)&&bq (ts.getD 0 0) s&&bq (ts.getD 1 0) t).map (· ++ [0])
def BN(H:Hp)(bs:MD)(tss:List MB):Prop:=bs.length=tss.length/\∀(i:Nat) b ts,bs[i]?=Sm b->tss[i]?=Sm ts->dv H b ts
theorem BN.nil(H:Hp):BN H [] []:=#[rfl,λi b ts h=>by simp at h]
theorem BN.same{bs:MD}{F:List MB}(h:BN H bs F)(s:su H H'):BN H' bs F:=#[h.1,λi b ts h1 h2=>s _ _ (h.2 i b ts h1 h2)]
theorem BN.snoc{H:Hp}{bs:MD}{F:List MB}{b:o_}{ts:MB}(h:BN H bs F)(O:dv H b ts):BN H (bs++[b]) (F++[ts]):=by
 refine#[by rw[zq,zq,h.1];rfl,λi c J h1 h2=>?_];rcases iu i bs.length with z | z
 .rw[xr z]at h1;rw[xr (by rw[<-h.1];exact z)]at h2;exact h.2 i c J h1 h2
 .rw[uu z]at h1;rw[uu (by rw[<-h.1];exact z),<-h.1]at h2;cases e:i-bs.length with
  | zero=>
   rw[e]at h1 h2;obtain rfl:=Option.some.inj h1;obtain rfl:=Option.some.inj h2;exact O
  | succ n=>rw[e]at h1;simp at h1
theorem oh{l a:o_}{cs:MD}{J:List MB}(ts:MB)(sm:su H H')(Y:H l=Nn)(hl:H' l=Sm (.lst (cs.map V.ref)))(Z:BN H' cs J)(O:∀c∈cs,H c=Nn/\c≠l)(U:H' a=Nn) :
  su H (upd (upd H' a (.tup (ts.map iN))) l (.lst (cs.map V.ref++[V.ref a])))/\upd (upd H' a (.tup (ts.map iN))) l (.lst (cs.map V.ref++[V.ref a])) l=Sm (.lst ((cs++[a]).map V.ref))/\BN (upd (upd H' a (.tup (ts.map iN))) l (.lst (cs.map V.ref++[V.ref a]))) (cs++[a]) (J++[ts])/\∀c∈cs++[a],H c=Nn/\c≠l:=by
 have F:a≠l:=λz=>by rw[z,hl]at U;cases U
 have s1:=ak U (.tup (ts.map iN));have off:∀c S,c≠l->upd H' a (.tup (ts.map iN)) c=S->upd (upd H' a (.tup (ts.map iN))) l (.lst (cs.map V.ref++[V.ref a])) c=S:=λc S W e=>by rw[au W];exact e
 refine#[(sm.trans s1).upd Y _,by rw[ai,yb];rfl,BN.snoc #[Z.1,λi b S h1 h2=>?_] (off a _ F ai),λc W=>?_]
 .exact off b _ (O b (xO h1)).2 (s1 _ _ (Z.2 i b S h1 h2))
 .rcases LG.mp W with z | z
  .exact O c z
  .rw[Lv.mp z];exact#[sm.free U,F]
def zY:Sp:=λvs H Q _=>∃(p L:o_) (rl:Rl) (s:Nat) (bs:MD) (tss:List MB),vs=[.ref p,.int (s:Int),.ref L]/\Ct H p rl/\dk rl/\s<9000/\H L=Sm (.lst (bs.map V.ref))/\BN H bs tss/\tss.length<=7/\
 ∀(L':o_) (H':Hp) (cs:MD),su H H'->H L'=Nn->H' L'=Sm (.lst (cs.map V.ref))->BN H' cs (jq rl s tss)->(∀c∈cs,H c=Nn)->Q (.ref L') H'
theorem Fg(D:xn K mg "begun_by_open" aW) (ab:wAK mg) (J:aD P w K mg base 1 "next_room" qAe nj) (O:aD P w K mg base 1 "without" qAV lm):aD P w K mg base 2 "begun_by_open" qAs zY:=by
 refine D.cal (k:=1) Cr (λf bc A outer s0 H vs Q E hr h=>?_);revert h;refine yF6 λp L rl s bs F=>yB8 ?_;rintro rfl hp hok hs hL hT h7 q;refine⟨_,(ah (ay 3 Cr.nd (ar nX af (pv 1)))
   (ah (aY (aA aL (am (ax K) (pv 0) af) af (aB _)) (ah (ay 4 Cr.nd (aw J hr (aa (pv 0) (aa af (aa av ae)))))
   (aj (az (fk (aA fL (pv 4) dw (aB _)) (aG ae) (aG (aa (aR (aa (pv 3) (aa (pv 4) ae))) ae)))))) aN)
   (ah (ay 5 Cr.nd (aG (aa (aR (aa (pv 3) ae)) ae)))
   (ah (cg pD rfl (bF K (pv 2)) (aS 6 Cr.nd) (aj (aY (aA aL (bx (ba K) ab bK (aa (pv 6) ae)) af (aB _)) (ah (ay 7 Cr.nd (aw O hr (aa (pv 1) (aa (am (ax K) (pv 6) af) ae))))
   (ah (bm (bB K yY ux uC br (pv 5) (aa (aR (aa (pv 7) (aa (pv 3) (aa af ae)))) ae)))
   (aj (bm (bB K yY ux uC br (pv 5) (aa (aR (aa (pv 3) (aa (pv 7) (aa af ae)))) ae)))))) aN)))
   (aj (az (pv 5))))))),?_⟩
 cbv;refine#[#[(),(),∅],?_];have e2:(1:Int)*2^(Int.toNat (s:Int))=((2^s:Nat):Int):=by rw[uv];push_cast;lia
 rw[e2];refine yE3 (id hp) λpw pr as=>yB3 λa5 a9 a8=>?_;rw?;refine X1 (uc.of a5) (aq (j:=0) (by rfl)) ?_;cbv;refine aT (λc1=>?_) (λc1=>?_)
 .cbv;refine yI4 p rl 0 ("open") #[rfl,hp,hok,by have:=hok.n0;lia,?_];have eb:jq rl s F=(match step rl 0 "open" with | some j=>[[2^s,j]] | none=>[]):=by unfold jq;rw[Lz c1]
  cases hst:step rl 0 "open" with
  | none=>
   rw?;rw[Lz (show b7 Nn=V.non from rfl)];refine#[∅,λu hu=>q u _ [] (ak hu _) hu ai ?_ (λc Z=>nomatch Z)];rw[eb,hst];exact BN.nil _
  | some j=>
   rw?;rw[Lu (by simp[b7])];refine#[∅,λt ht=>?_];have s1:=ak ht (.tup [V.int (2^s:Nat),V.int (j:Int)]);have e1:dv (upd H t (.tup [V.int (2^s:Nat),V.int (j:Int)])) t [2^s,j]:=ai;refine#[∅,λu hu=>q u _ [t] (s1.trans (ak hu _)) (s1.free hu) ai ?_ (λc Z=>by rw[Lv.mp Z];exact ht)];rw[eb,hst];exact(BN.nil _).snoc ((ak hu _) _ _ e1)
 .rw?;refine#[∅,λt ht=>#[∅,λl hl=>?_]];have s1:=ak ht (.tup [V.int (2^s:Nat)]);have e1:dv (upd H t (.tup [V.int (2^s:Nat)])) t [2^s]:=ai;have ac:H l=Nn:=s1.free hl;have a4:t≠l:=λz=>by rw[z,ai]at hl;cases hl
  have s2:=s1.trans (ak hl (.lst [V.ref t]));have al:=ak hl (.lst [V.ref t]) _ _ e1;have e3:upd (upd H t (.tup [V.int (2^s:Nat)])) l (.lst [V.ref t]) l=Sm (.lst ([t].map V.ref)):=ai;generalize upd (upd H t (.tup [V.int (2^s:Nat)])) l (.lst [V.ref t])=H2 at s2 al e3 |-;rw?;refine#[#[_,ud.of (s2 _ _ hL)],?_]
  refine cL (xs:=bs.map V.ref) (λi σ H'=>∃(cs:MD) (o6 o7:MK),σ=[Sm (.ref p),Sm (.int (s:Int)),Sm (.ref L),Sm (.int (2^s:Nat)),Nn,Sm (.ref l),o6,o7]/\su H H'/\H' l=Sm (.lst (cs.map V.ref))/\
   BN H' cs ([2^s]::(F.take i).flatMap λts=>if ts.length=1 then [[bZ (ts.getD 0 0) s,2^s,1],[2^s,bZ (ts.getD 0 0) s,2]] else [])/\(∀c∈cs,H c=Nn/\c≠l)/\cs.length<=1+2*i)
   (yI3 ([t]) Nn Nn #[rfl,s2,e3,(BN.nil _).snoc al,λc Z=>by rw[Lv.mp Z];exact#[ht,a4],'~']) (λi σ H' _ hh=>by revert hh;refine yF3 λ_ _ _=>yB3 λ_ z _=>?_;exact ud.of (z _ _ hL)) ?_ ?_
  .intro i v σ H' hv;refine yF3 λcs o6 o7=>yB6 ?_;rintro rfl sm S U W a6;have hi:i<bs.length:=by have:=(Lq.mp hv).1;simpa using this
   rw[zz,zd hi]at hv;cases hv;have ag:i<F.length:=by rw[<-hT.1];exact hi
   have ad:=hT.2 i _ _ (zd hi) (zd ag);have a7:F.take (i+1)=F.take i++[F[i]]:=by rw[sR,zd ag];rfl
   rw[a7,List.flatMap_append,List.flatMap_singleton,<-IW];generalize F[i]=ts at ad |-;generalize bs[i]=b at ad |-;have Y:H' b=Sm (.tup (ts.map iN)):=sm _ _ ad
   cbv;refine#[_,.inr (uc.of Y),?_];rw[zb];refine aT (λc2=>?_) (λc2=>?_)
   .let#[n,rfl]:=List.length_eq_one_iff.mp (show ts.length=1 from ());refine X1 (uc.of Y) (aq (j:=0) (by rfl)) ?_;refine yI2 s n #[rfl,(),?_];rw?;refine#[#[_,ud.of S],∅,λa ha=>#[_,ak ha _ _ _ S,by rw[zb];exact aH (),?_]];refine yA4 (oh [bZ n s,2^s,1] sm ac S U W ha) λsA lA tA cA=>?_;rw[show [V.int ((bZ n s:Nat):Int),V.int ((2^s:Nat):Int),V.int 1]=[bZ n s,2^s,1].map iN from rfl];generalize upd (upd H' a (.tup ([bZ n s,2^s,1].map iN))) l (.lst (cs.map V.ref++[V.ref a]))=H3 at sA lA tA |-;rw?;refine⟨⟨_,ud.of lA⟩,∅,λa2 a3=>⟨_,ak a3 _ _ _ lA,by rw[zb,zq];exact aH (by simp;lia),?_⟩⟩
    refine yA4 (oh [2^s,bZ n s,2] sA ac lA tA cA a3) λsB lB tB cB=>?_;refine yI3 (cs++[a]++[a2]) _ _ #[rfl,sB,lB,?_,cB,by simp;lia];have eq:([2^s]::((F.take i).flatMap λts=>if ts.length=1 then [[bZ (ts.getD 0 0) s,2^s,1],[2^s,bZ (ts.getD 0 0) s,2]] else []))++[[bZ n s,2^s,1]]++[[2^s,bZ n s,2]]=[2^s]::(((F.take i).flatMap λts=>if ts.length=1 then [[bZ (ts.getD 0 0) s,2^s,1],[2^s,bZ (ts.getD 0 0) s,2]] else [])++[[bZ n s,2^s,1],[2^s,bZ n s,2]]):='~';rw[eq]at tB;exact tB
   .refine yI3 cs (Sm (.ref b)) o7 #[rfl,sm,S,?_,W,()];rw[Lu (),Jg];exact U
  .intro σ H';refine yF3 λcs o6 o7=>yB6 ?_;rintro rfl sm S U W a6;rw?;refine q l H' cs sm ac S ?_ λc Z=>(W c Z).1;rw[zb,hT.1,ir]at U;unfold jq;rw[Lu c1];exact U
def Bm:Sp:=λvs H Q _=>∃(L:o_) (s t:Nat) (bs:MD) (tss:List MB),vs=[.int (s:Int),.int (t:Int),.ref L]/\s<9000/\t<9000/\H L=Sm (.lst (bs.map V.ref))/\BN H bs tss/\tss.length<=7/\
 ∀(L':o_) (H':Hp) (cs:MD),su H H'->H L'=Nn->H' L'=Sm (.lst (cs.map V.ref))->BN H' cs (li s t tss)->(∀c∈cs,H c=Nn)->Q (.ref L') H'
theorem Fu(D:xn K mg "begun_by_tie" aO) (a3:wAK mg) (F:aD P w K mg base 1 "is_in" qAV nH):aD P w K mg base 2 "begun_by_tie" qAt Bm:=by
 refine D.cal (k:=1) GY (λf be A outer s0 H vs Q E hr h=>?_);revert h;refine yF5 λL s t bs J=>yB7 ?_;rintro rfl hs ht hL hT h7 q;refine⟨_,(ah (iF (CO.to (fsc:=(sg aO)) (N:=qAM) (N0:=qAM) (T:=["token"])) rfl GY.nd (i:=3) rfl QV (bF K (pv 2)) (λ_ _ _ _=>(aS 4 (show (qAo:MA).Nodup from ⋯))) (bW (show (qAM:MA).length<=4 from ∅)) (λ_ _ _ _=>(j_ (aA aL (bx (ba K) a3 bK (aa (pv 4) ae)) af (aB _)))) (λ_ _ _ _=>(pv 4)))
   (aj (az (dn (CO.to (fsc:=(sg aO)) (N:=qAM) (N0:=qAM) (T:=["token"])) rfl (bF K (pv 3)) (λ_ _ _ _=>(aS 4 (show (qAo:MA).Nodup from ⋯))) (bW (show (qAM:MA).length<=4 from ∅)) (λ_ _ _ _=>(j_ (PW.pt' (cr (cN (aw F hr (aa (pv 0 (hv:=(bR (sg aO) ⋯))) (aa (am (ax K) (pv 4) af) ae)))) (cM (cN (aw F hr (aa (pv 1 (hv:=(bR (sg aO) ⋯))) (aa (am (ax K) (pv 4) af) ae))))))))) (λ_ _ _ _=>(ar (gU K) (pv 4) (aR (aa af ae)))))))),?_⟩
 cbv;refine#[#[_,ud.of hL],λD1 a7=>?_];have W:∀(O:List MB) i (h:i<O.length),O.take (i+1)=O.take i++[O[i]]:=λO i h=>by rw[sR,zd h];rfl
 have hl:=hT.1;refine m_ (xs:=bs.map V.ref) (λi ys H'=>su H H'/\∃cs:MD,ys=cs.map V.ref/\H' D1=Sm (.lst (cs.map V.ref))/\cs.length<=i/\BN H cs ((J.take i).filter λts=>decide (ts.length=3))) #[ak a7 _,[],rfl,ai,zg _,BN.nil _] (λi ys H' _ hh=>ud.of (hh.1 _ _ hL)) ?_ ?_
 .intro i ys H' v hv hi;refine yB2 λsm=>yF1 λcs=>yB4 ?_;rintro rfl hD a4 ac;have Y:i<bs.length:=by simpa using hi
  rw[zz,zd Y]at hv;cases hv;have U:i<J.length:=()
  have S:=hT.2 i _ _ (zd Y) (zd U);have e:=W J i U;generalize J[i]=ts at S e;generalize bs[i]=b at S |-;cbv;refine#[_,.inr (uc.of (sm _ _ S)),?_]
  rw[zb];refine aT (λc=>?_) (λc=>?_)
  .refine lh hi (by rw[zb];exact a4) (aH (by rw[zb];lia)) hD #[sm.upd a7 _,cs++[b],'~',by rw[ai];simp,by simp;lia,?_];rw[e,zaY,show [ts].filter (λts=>decide (ts.length=3))=[ts] by simp;lia];exact ac.snoc S
  .refine nC hi #[sm,cs,rfl,hD,(),?_];rw[e,zaY,show [ts].filter (λts=>decide (ts.length=3))=[] by simp;lia,Jg];exact ac
 .intro ys H1;refine yB2 λs1=>yF1 λcs=>yB4 ?_;rintro rfl hD a4 ac;rw[zb,hl,ir]at ac;rw[zb]at a4;have ag:=ac.same s1;have h3:∀O∈(J.filter λts=>decide (ts.length=3)),O.length=3:=λO hu=>of_decide_eq_true (LN.mp hu).2;have eb:li s t J=((J.filter λts=>decide (ts.length=3)).filter λts=>bq (ts.getD 0 0) s&&bq (ts.getD 1 0) t).map (· ++ [0]):=by
   unfold li;rw[List.filter_filter];congr 1;refine List.filter_congr λx _=>?_;cases decide (x.length=3)<;>simp
  generalize (J.filter λts=>decide (ts.length=3))=O at ag h3 eb;rw?;refine#[#[_,ud.of hD],λD2 a5=>?_];refine m_ (xs:=cs.map V.ref) (λi ys H'=>su H1 H'/\∃ds:MD,ys=ds.map V.ref/\H' D2=Sm (.lst (ds.map V.ref))/\ds.length<=i/\BN H' ds (((O.take i).filter λts=>bq (ts.getD 0 0) s&&bq (ts.getD 1 0) t).map (· ++ [0]))/\∀c∈ds,H1 c=Nn/\c≠D2) #[ak a5 _,[],rfl,ai,zg _,BN.nil _,λc hc=>nomatch hc] (λi ys H' _ hh=>ud.of (hh.1 _ _ hD)) ?_ ?_
  .intro i ys H' v hv hi;refine yB2 λsm=>yF1 λds=>yB5 ?_;rintro rfl Z a6 ab al;have Y:i<cs.length:=by simpa using hi
   rw[zz,zd Y]at hv;cases hv;have U:i<O.length:=by have:=ag.1;lia
   have S:=ag.2 i _ _ (zd Y) (zd U);have e:=W O i U;have a8:=h3 O[i] (gV U);generalize O[i]=ts at S e a8;generalize cs[i]=b at S |-;have ad:H' b=Sm (.tup (ts.map iN)):=sm _ _ S
   obtain⟨x,y,z,rfl⟩ : ∃x y z,ts=[x,y,z]:=by
    match ts,a8 with
    | [x,y,z],_=>exact yI3 x y z rfl
   cbv;have as:(bq x s&&bq y t)=false->ra (cs.map V.ref).length i (λi ys H'=>su H1 H'/\∃ds:MD,ys=ds.map V.ref/\H' D2=Sm (.lst (ds.map V.ref))/\ds.length<=i/\BN H' ds (((O.take i).filter λts=>bq (ts.getD 0 0) s&&bq (ts.getD 1 0) t).map (· ++ [0]))/\∀c∈ds,H1 c=Nn/\c≠D2) (ds.map V.ref) H':=λhz=>by
    refine nC hi #[sm,ds,rfl,Z,(),?_,al];rw[e,zaY,show [[x,y,z]].filter (λts=>bq (ts.getD 0 0) s&&bq (ts.getD 1 0) t)=[] by simpa using hz,Jg];exact ab
   refine X1 (uc.of ad) (aq (j:=0) (by rfl)) (yI2 s x #[rfl,_,rfl,aT (λc=>?_) (λc=>as (by rw[LU.mpr c];rfl))]);refine X1 (uc.of ad) (aq (j:=1) (by rfl)) (yI2 t y #[rfl,_,rfl,aT (λc'=>?_) (λc'=>as (by rw[LU.mpr c',Bool.and_false]))]);refine#[∅,λa1 bc=>yI2 _ _ #[uc.of (ak bc _ _ _ ad),uc.of ai,'~',(by show 4<=L9;decide),?_]];refine#[λz=>absurd z '~',λ_ a2 a9=>?_];have sa:=ak bc (.tup [V.int 0]);refine yA4 (oh [x,y,z,0] (sm.trans sa) a5 (sa _ _ Z) (ab.same sa) al a9) λsB lB tB cB=>?_;refine lh hi (by rw[zb];exact a6) (aH (by rw[zb];lia)) (ak a9 _ _ _ (sa _ _ Z)) #[sB,ds++[a2],'~',lB,by simp;lia,?_,cB];rw[e,zaY,show [[x,y,z]].filter (λts=>bq (ts.getD 0 0) s&&bq (ts.getD 1 0) t)=[[x,y,z]] by simp[c,c'],yb];exact tB
  .intro ys H2;refine yB2 λs2=>yF1 λds=>yB5 ?_;rintro rfl Z a6 ab al;rw[zb,ag.1,ir,<-eb]at ab;exact q D2 H2 ds (s1.trans s2) (s1.free a5) Z ab λc hc=>s1.free (al c hc).1
def fm(rl:Rl)(r:aE)(tss:List MB):List MB:=if cK r = "open" then jq rl (bT r 2) tss else if cK r = "tie" then li (bT r 2) (bT r 3) tss else []
def Hr(v:V):Int:=match v with
 | .int i=>i
 | _=>0
def ga(H:Hp)(q:o_):MJ:=match H q with
 | some (.tup xs)=>xs.map Hr
 | _=>[]
def zN(ts:MB):MJ:=ts.map Int.ofNat
theorem pG(h:dv H q ts):ga H q=zN ts/\H q=Sm (.tup ((ga H q).map V.int)):=by
 have e:ga H q=zN ts:=by
  unfold ga zN;rw[show H q=Sm (.tup (ts.map iN)) from h];show (ts.map iN).map Hr=_;rw[td];rfl
 refine#[e,?_];rw[e,show H q=Sm (.tup (ts.map iN)) from h];unfold zN;rw[td];rfl
theorem AW:∀ {a b:MB},zN a=zN b->a=b
 | [],[],_=>rfl
 | [],_::_,h=>nomatch h
 | _::_,[],h=>nomatch h
 | x::a,y::b,h=>by
  unfold zN at h;rw[yR,yR]at h;injection h with h1 h2
  rw[Int.ofNat.inj h1,AW h2]
theorem Do(rl:Rl)(s:Nat)(F:List MB):(jq rl s F).length<=1+2*F.length:=by
 unfold jq;split
 .split<;>simp
 .rw[zy];have:∀l:List MB,(l.flatMap λts=>if ts.length=1 then [[bZ (ts.getD 0 0) s,2^s,1],[2^s,bZ (ts.getD 0 0) s,2]] else []).length<=2*l.length:=by
   intro l
   induction l with
   | nil=>simp
   | cons x l ih=>
    rw[Le,zq,zy];have h2:(if x.length=1 then [[bZ (x.getD 0 0) s,2^s,1],[2^s,bZ (x.getD 0 0) s,2]] else []).length<=2:=by split<;>simp
    lia
  have:=this F;lia
theorem CP(rl:Rl)(r:aE)(F:List MB)(h:F.length<=1):(fm rl r F).length<=3:=by
 unfold fm;split
 .have:=Do rl (bT r 2) F;lia
 .split
  .unfold li;rw[zb];have:=List.length_filter_le (λts:MB=>decide (ts.length=3)&&bq (ts.getD 0 0) (bT r 2)&&bq (ts.getD 1 0) (bT r 3)) F;lia
  .simp
theorem Fv(rl:Rl)(r:aE)(F:List MB)(ts:MB)(h:ts∈fm rl r F):ts≠[]:=by
 unfold fm at h;rintro rfl;split at h
 .unfold jq at h;split at h
  .split at h<;>simp at h
  .rcases LH.mp h with z | z
   .cases z
   .let#[x,_,hx]:=LB.mp z;split at hx<;>simp at hx
 .split at h
  .unfold li at h;let#[x,_,hx]:=LD.mp h;simp at hx
  .cases h
theorem Ar{w:K_}{H2:Hp}{Bg:o_}{cs:MD}{kk:List MB}(al:H2 Bg=Sm (.lst (cs.map V.ref)))(Y:BN H2 cs kk)(a4:kk.length<=3)(as:∀ts∈kk,ts≠[])
  (q:∀(l2:o_) (H':Hp) (F:MD) (U:List MB),su H2 H'->H2 l2=Nn->H' l2=Sm (.lst (F.map V.ref))->BN H' F U->U.length<=3->(∀k,k∈U ↔ k∈kk)->(∀x∈F,x∈cs)->Q (.ref l2) H') :
  zu K (iD w) [.ref Bg] H2 λv H'=>kF K (iD w) [v] H' Q:=by
 have a3:=Y.1;have at_:∀x∈cs,∃ts,dv H2 x ts/\ts∈kk:=λx hx=>by
  let#[j,hj,e]:=LJ.mp hx;have S:j<kk.length:=()
  exact#[_,Y.2 j x _ (by rw[zd hj,e]) (zd S),gV S]
 have gR:∀x∈cs,H2 x=Sm (.tup ((ga H2 x).map V.int))/\ga H2 x≠[]:=λx hx=>by
  let#[ts,t1,t2]:=at_ x hx;let#[k1,k2]:=pG t1;refine#[k2,?_];rw[k1];intro z;exact as ts t2 (AW (b:=[]) z)
 refine yI3 Bg cs (ga H2) #[rfl,ud.of al,λx hx=>uc.of (gR x hx).1,(),λl ac hl Z ad hle=>?_];have s3:=ak hl (iD w l ac);refine yI3 l ac (ga H2) #[rfl,ai,(),λx hx=>#[uc.of (s3 _ _ (gR x (Z x hx)).1),(gR x (Z x hx)).2],λl2 F ag J=>?_];have s4:=s3.trans (ak ag (.lst (F.map V.ref)));have O:∀x∈F,x∈cs:=λx hx=>Z x (J.mem_iff.mp hx);have fz:∀k,(zN k).map Int.toNat=k:=λk=>by unfold zN;rw[td];exact List.map_id k
 have hf:∀x∈cs,∃ts,dv H2 x ts/\ts∈kk/\(ga H2 x).map Int.toNat=ts/\ga H2 x=zN ts:=λx hx=>by
  let#[ts,t1,t2]:=at_ x hx;have k1:=(pG t1).1;exact#[ts,t1,t2,by rw[k1,fz],k1]
 refine q l2 _ F (F.map λx=>(ga H2 x).map Int.toNat) s4 (s3.free ag) ai #[by rw[zb],λj x ts h1 h2=>?_] ?_ (λk=>#[λab=>?_,λab=>?_]) O
 .rw[zz,h1]at h2;obtain rfl:=Option.some.inj h2;refine yE1 (hf x (O x (xO h1))) λts=>yB4 λt1 _ t3 _=>?_;show dv _ x ((ga H2 x).map Int.toNat);rw[t3];exact s4 _ _ t1
 .rw[zb,J.length_eq];lia
 .let#[x,hx,rfl]:=LD.mp ab;refine yE1 (hf x (O x hx)) λts=>yB4 λ_ t2 t3 _=>?_;rw[t3];exact t2
 .let#[j,hj,e]:=LJ.mp ab;have S:j<cs.length:=()
  have t1:=Y.2 j _ _ (zd S) (by rw[zd hj,e]);have hm:zN k∈ac.map (ga H2):=(ad (zN k)).mpr (LD.mpr #[cs[j],gV S,(pG t1).1]);let#[x,hx,ex]:=LD.mp hm;exact LD.mpr #[x,J.mem_iff.mpr hx,by rw[ex,fz]]
def tW:Sp:=λvs H Q _=>∃(c p L:o_) (R:List aE) (rl:Rl) (r:aE) (i N:Nat) (bs:MD) (tss:List MB),vs=[.ref c,.ref p,.int (i:Int),.ref L]/\Ce H c R/\R[i]?=Sm r/\DQ N r/\N<=9000/\Ct H p rl/\dk rl/\H L=Sm (.lst (bs.map V.ref))/\BN H bs tss/\tss.length<=1/\
 ∀(L':o_) (H':Hp) (cs:MD) (kss:List MB),su H H'->H L'=Nn->H' L'=Sm (.lst (cs.map V.ref))->BN H' cs kss->kss.length<=3->(∀k,k∈kss ↔ k∈fm rl r tss)->(∀c∈cs,H c=Nn)->Q (.ref L') H'
theorem Gg(D:xn K mg "begins_at" bO) (Y:mg "set" = Nn) (O:mg "sorted" = Nn) (F:aD P w K mg base 2 "begun_by_open" qAs zY) (J:aD P w K mg base 2 "begun_by_tie" qAt Bm):aD P w K mg base 3 "begins_at" qAB tW:=by
 refine D.cal (k:=2) Gn (λf a8 A outer s0 H vs Q E hr h=>?_);revert h;refine yF10 λc p L R rl r i N bs U=>yB11 ?_;rintro rfl hR hi hk hN hp hok hL hT h7 q;refine⟨_,(ah (ay 4 Gn.nd (am (ax K) (pv 0) (pv 2)))
   (ah (ay 5 Gn.nd (aG ae))
   (ah (aY (aA aL (am (ax K) (pv 4) af) av (aB _)) (aj (ay 5 Gn.nd (aw F hr (aa (pv 1) (aa (am (ax K) (pv 4) af) (aa (pv 3) ae)))))) (aj (aY (aA aL (am (ax K) (pv 4) af) av (aB _)) (aj (ay 5 Gn.nd (aw J hr (aa (am (ax K) (pv 4) af) (aa (am (ax K) (pv 4) af) (aa (pv 3) ae)))))) aN)))
   (aj (az (bx (oQ K w hr) O ji (aa (eQ (xu K w hr) Y tV (aa (pv 5) ae)) ae))))))),?_⟩
 refine yE2 (iO hR hi) λas b=>yB4 λa1 a2 a3 hb=>?_;cbv;refine X2 (ud.of a1) (aq (by rw[zz,a3];rfl)) ?_;rw?;refine#[∅,λB hB=>?_];∎;rename_i H1 s1 e1;have e1:H1 B=Sm (.lst (([]:MD).map V.ref)):=e1;refine jL (λσ' H'=>∃(Bg:o_) (cs:MD),σ'=[Sm (.ref c),Sm (.ref p),Sm (.int (i:Int)),Sm (.ref L),Sm (.ref b),Sm (.ref Bg)]/\su H H'/\H' Bg=Sm (.lst (cs.map V.ref))/\BN H' cs (fm rl r U)/\∀c∈cs,H c=Nn) (λk Z=>?_) ?_
 .cbv;refine X1 (uc.of (s1 _ _ hb)) (aq (j:=0) hk.hd) ?_;cbv;refine aT (λc1=>?_) (λc1=>?_)
  .let#[h2,l2]:=hk.s2 (by rw[c1];decide);refine X1 (uc.of (s1 _ _ hb)) (aq (j:=2) h2) (yI6 p L rl (bT r 2) bs U #[rfl,hp.mono s1,hok,(),s1 _ _ hL,hT.same s1,(),λL' H' cs sm ac e S hc=>Z _ _ (yI2 L' cs #[rfl,s1.trans sm,e,?_,λc W=>s1.free (hc c W)])]);unfold fm;rw[Lz c1];exact S
  .refine X1 (uc.of (s1 _ _ hb)) (aq (j:=0) hk.hd) ?_;cbv;refine aT (λc2=>?_) (λc2=>?_)
   .let#[h2,l2]:=hk.s2 (by rw[c2];decide);let#[h3,l3]:=hk.s3 (by rw[c2];decide);refine X1 (uc.of (s1 _ _ hb)) (aq (j:=2) h2) (X1 (uc.of (s1 _ _ hb)) (aq (j:=3) h3) (yI5 L (bT r 2) (bT r 3) bs U #[rfl,(),(),s1 _ _ hL,hT.same s1,(),λL' H' cs sm ac e S hc=>Z _ _ (yI2 L' cs #[rfl,s1.trans sm,e,?_,λc W=>s1.free (hc c W)])]));unfold fm;rw[Lu c1,Lz c2];exact S
   .refine Z _ _ (yI2 B ([]) #[rfl,s1,e1,?_,λc hc=>nomatch hc]);unfold fm;rw[Lu c1,Lu c2];exact BN.nil _
 .intro σ' H2;refine yF2 λBg cs=>yB5 ?_;rintro rfl s2 ad S a5;rw?;exact Ar ad S (CP rl r U h7) (Fv rl r U) λl2 H' al ag sm ab e2 a4 a6 hm a7=>q l2 H' al ag (s2.trans sm) (s2.free ab) e2 a4 a6 hm λx hx=>a5 x (a7 x hx)
def ju(rl:Rl)(r:aE)(ts:MB):Option MB:=if cK r = "end" then Nn else match ts with
 | [n]=>Sm [e_ r n]
 | [n,k]=>(after rl k (fV r [n,k])).map λj=>[e_ r n,j]
 | [n,m,o]=>Sm [e_ r n,e_ r m,o]
 | [n,m,o,k]=>(after rl k (fV r [n,m,o,k])).map λj=>[e_ r n,e_ r m,o,j]
 | _=>Nn
def Af:Sp:=λvs H Q _=>∃(c p t:o_) (R:List aE) (rl:Rl) (r:aE) (i N:Nat) (ts:MB),vs=[.ref c,.ref p,.int (i:Int),.ref t]/\Ce H c R/\R[i]?=Sm r/\Ct H p rl/\dk rl/\gN rl.s rl.rs.length ts/\DQ N r/\N<=1000000/\dv H t ts/\∀(H':Hp),su H H'->(ju rl r ts=Nn->Q .non H')/\∀(us:MB) (u:o_),ju rl r ts=Sm us->H u=Nn->dv H' u us->Q (.ref u) H'
theorem Gf(D:xn K mg "behind_at" aZ) (ac:mg "tuple" = Nn) (S:aD P w K mg base 1 "is_of_two" ["token"] q9) (U:aD P w K mg base 1 "has_room" ["token"] yP) (O:aD P w K mg base 2 "held_behind" qAy A_) (J:aD P w K mg base 4 "room_behind" qAf jy):aD P w K mg base 5 "behind_at" qAC Af:=by
 refine D.cal (k:=4) EX (λf cq A outer s0 H vs Q E hr h=>?_);revert h;refine yF9 λc p t R rl r i N ts=>yB10 ?_;rintro rfl hL bt hR ok a4 hk hN ht q;refine⟨_,(ah (ay 4 EX.nd (am (ax K) (pv 0) (pv 2)) (hx:=Rh))
   (ah (aY (aA aL (am (ax K) (pv 4 (hv:=Jt)) af) av (aB _)) (aj (az dw)) aN)
   (ah (ay 5 EX.nd (fk (cN (aw S hr (aa (pv 3) ae))) af af))
   (ah (ay 6 EX.nd (ar (gU K) (eQ (qo K) ac uw (aa (dn (CO.to (fsc:=(sg aZ)) (N:=qAL) (N0:=qAL) (T:=["held"])) rfl ((iH K) (fw (gS K) (pv 3) gY (fE (pv 5)))) (λ_ _ _ _=>(aS 8 (show (["code","rule","at","token","row","count","behind","room","held"]:MA).Nodup from ⋯))) (bW (show (qAL:MA).length<=8 from ∅)) (λ_ _ _ _=>cX) (λ_ _ _ _=>(aw O hr (aa (pv 4 (hv:=(bR (sg aZ) ⋯))) (aa (pv 8) ae))))) ae)) (fw (gS K) (pv 3) (fE (pv 5)) gY)))
   (ah (aY (jC (cN (aw U hr (aa (pv 3) ae)))) (aj (az (pv 6))) aN)
   (ah (ay 7 EX.nd (aw J hr (aa (pv 1) (aa (pv 4 (hv:=Jt)) (aa (pv 3) ae)))))
   (aj (az (fk (aA fL (pv 7) dw (aB _)) dw (ar (gU K) (fw (gS K) (pv 6) gY (fE (eh dN af))) (aR (aa (pv 7) ae)))))))))))),?_⟩
 refine yE2 (iO hL bt) λas b=>yB4 λa1 al ab hb=>?_;have b2:cJ (as.map V.ref) (i:Int)=Sm (.ref b):=aq (by rw[zz,ab];rfl);cbv;refine X2 (ud.of a1) b2 ?_;rw?;refine X1 (uc.of hb) (aq (j:=0) hk.hd) ?_;cbv;refine aT (λcc=>?_) (λcc=>?_)
 .exact(q H (su.refl H)).1 (by unfold ju;rw[Lz cc])
 refine jL (λσ' H'=>H=H'/\∃W:Nat,σ'=[Sm (.ref c),Sm (.ref p),Sm (.int (i:Int)),Sm (.ref t),Sm (.ref b),Sm (.int (W:Int)),Nn,Nn]/\W=if 2<ts.length then 2 else 1) (λk Z=>?_) ?_
 .cbv;refine yI2 t ts #[rfl,ht,_,rfl,aT (λd=>?_) (λd=>?_)]
  .exact Z _ _ #[rfl,2,rfl,by rw[Lz (of_decide_eq_true d)]]
  .exact Z _ _ #[rfl,1,rfl,by rw[Lu (λz=>d (decide_eq_true z))]]
 intro σ' H';refine yB2 ?_;rintro rfl;refine yF1 λW=>yB2 ?_;rintro rfl F;have b3:W<=ts.length/\1<=W/\W<=2:=by
  cases a4
  .rw[Lu '~']at F;subst F;simp
  .rw[Lu '~']at F;subst F;simp
  .rw[Lz '~']at F;subst F;simp
  .rw[Lz '~']at F;subst F;simp
 refine jL (λσ' H'=>∃v:o_,σ'=[Sm (.ref c),Sm (.ref p),Sm (.int (i:Int)),Sm (.ref t),Sm (.ref b),Sm (.int (W:Int)),Sm (.ref v),Nn]/\su H H'/\H v=Nn/\dv H' v ((ts.take W).map (e_ r)++ts.drop W)) (λk Z=>?_) ?_
 .cbv;refine gb (uc.of ht) (λp1 H1 s1 a3=>?_);rw[vJ,<-List.map_take]at a3;refine#[p1,rfl,#[_,a3],λL hL=>?_];refine k_ (xs:=(ts.take W).map iN) (λi ys H'=>su H1 H'/\H' L=Sm (.lst ys)/\ys=(((ts.take W).take i).map (e_ r)).map iN) #[ak hL _,ai,rfl] (λi ys H' _ hh=>a3.same hh.1) ?_ ?_
  .rintro i ys H' v hv hi ⟨sm,hl,rfl⟩;rw[zb]at hi;rw[zz,zd hi]at hv;cases hv;cbv;refine yI4 b r ((ts.take W)[i]) N #[rfl,sm _ _ (s1 _ _ hb),hk,hN,λH2 s2=>?_];refine fD (by rw[zb];exact hi) (by rw[zb,zb,lj];lia) (by rw[zb,lj];exact aH ()) (s2 _ _ hl) #[(sm.trans s2).upd hL _,ai,?_];rw[sR,zd hi,yb,yb];rfl
  rintro ys H2 ⟨s2,e2,rfl⟩;rw[zb,ir]at e2;cbv;refine#[_,.inl #[ud.of e2,λt2 bh=>?_]];∎;rename_i H3 s3 e3;have a9:=s1.trans s2;have ag:=a9.trans s3;refine gb (uc.of (ag _ _ ht)) (λp4 H4 s4 a5=>?_);rw[jd,<-List.map_drop]at a5;cbv;have b1:((ts.take W).map (e_ r)).map iN≠[]:=λz=>by
   have:=congrArg List.length z;rw[zb,zb,lj,yz]at this;lia
  have ca:ts.length<=4:=by cases a4<;>simp
  refine yI2 _ _ #[uc.of (s4 _ _ e3),a5,b1,by rw[zb,zb,zb,lj,Lm];exact aH (),λhz=>?_,λ_ t5 a7=>?_]
  .have bg:ts.drop W=[]:=List.map_eq_nil_iff.mp hz;refine Z _ _ #[t2,rfl,ag.trans s4,a9.free bh,?_];rw[bg,Jg];exact s4 _ _ e3
  .refine Z _ _ #[t5,rfl,(ag.trans s4).trans (ak a7 _),(ag.trans s4).free a7,?_];show upd _ _ _ _=_;rw[ai,yb]
 intro σ' H5;refine yF1 λv=>yB4 ?_;rintro rfl s5 hv e5;rw?;refine yI2 t ts #[rfl,s5 _ _ ht,λH6 s6=>#[_,rfl,?_]];have Y:=s5.trans s6;have a6:∀ {k:Nat} (us:MB),ku ts k->k<rl.rs.length->dv H6 v (us++[k])->1<=us.length->us.length<=3->(ju rl r ts=(after rl k (fV r ts)).map λj=>us++[j])->om (oF (oC (je jy [] E0 (cP (cZ 1) (cP (cZ 4) (cP (cZ 3) ix)))) (gK 7)) (lf (Ij (j9 (gj xA (cZ 7) (tC V.non))) (tC V.non) (gj (qZ K) (IM (yE K) (cZ 6) pH (y7 (D9 (rU λi=>V.int (-i)) (tC (V.int 1))))) (xy (cP (cZ 7) ix)))))) {nx:=λx H'=>Q V.non H',rt:=Q} [Sm (.ref c),Sm (.ref p),Sm (.int (i:Int)),Sm (.ref t),Sm (.ref b),Sm (.int (W:Int)),Sm (.ref v),Nn] H6:=λ{k} us b0 ad bp cd cb be=>by
  rw?;refine yI8 p b t rl r ts k N #[rfl,hR.mono Y,ok,ad,Y _ _ hb,hk,Y _ _ ht,b0,λH7 s7=>?_];have e7:dv H7 v (us++[k]):=s7 _ _ bp;cases ha:after rl k (fV r ts) with
  | none=>
   rw?;rw[Lz (show b7 Nn=V.non from rfl)];exact(q H7 (Y.trans s7)).1 (by rw[be,ha];rfl)
  | some j=>
   rw?;rw[Lu (by simp[b7])];refine gb (uc.of e7) (λp8 H8 s8 a8=>?_);rw[zS]at a8;refine#[∅,λt9 ce=>?_];∎;rename_i H9 s9 e9;cbv;refine yI2 _ _ #[a8.same s9,uc.of e9,λz=>?_,by rw[zb];exact aH (by simp;lia),λhz=>absurd hz '~',λ_ u hu=>?_]
   .have:=congrArg List.length z;rw[zb,yz]at this;lia
   have bc:=Y.trans (s7.trans (s8.trans s9));exact(q _ (bc.trans (ak hu _))).2 (us++[j]) u (by rw[be,ha];rfl) (bc.free hu) (by show upd _ _ _ _=_;rw[ai,yb];rfl)
 cases a4 with
 | h1 n k _ ad=>
  rw[Lu '~']at F;subst F;rw[Lu '~'];exact a6 [e_ r n] (.h1 n k) ad (s6 _ _ e5) '~' '~' (by unfold ju;rw[Lu cc];rfl)
 | one n _=>
  rw[Lu '~']at F;subst F;rw[Lz '~'];exact(q H6 Y).2 [e_ r n] v (by unfold ju;rw[Lu cc]) hv (s6 _ _ e5)
 | two n m o _=>
  rw[Lz '~']at F;subst F;rw[Lz '~'];exact(q H6 Y).2 [e_ r n,e_ r m,o] v (by unfold ju;rw[Lu cc]) hv (s6 _ _ e5)
 | tie n m o k _ ad=>
  rw[Lz '~']at F;subst F;rw[Lu '~'];exact a6 [e_ r n,e_ r m,o] (.tie n m o k) ad (s6 _ _ e5) '~' '~' (by unfold ju;rw[Lu cc];rfl)
def Dd(R X:List α)(a:Nat):Prop:=∀i r,X[i]?=Sm r->R[a+i]?=Sm r
theorem Dd.left{R X Y:List α}(h:Dd R (X++Y) a):Dd R X a:=λi r e=>h i r (by rw[xr (Lq.mp e).1];exact e)
theorem Dd.right{R X Y:List α}(h:Dd R (X++Y) a):Dd R Y (a+X.length):=λi r e=>by
 have:=h (X.length+i) r (by rw[uu ()];rw[show X.length+i-X.length=i from ()];exact e);rw[i9];exact this
theorem Dd.one{R:List α}{x:α}(h:Dd R [x] a):R[a]?=Sm x:=h 0 x rfl
theorem Dd.c0{R Y:List α}{x:α}(h:Dd R (x::Y) a):R[a]?=Sm x:=h 0 x rfl
theorem Dd.cs{R Y:List α}{x:α}(h:Dd R (x::Y) a):Dd R Y (a+1):=λi r e=>by
 have:=h (i+1) r (by rw[zaV];exact e);rw[show a+1+i=a+(i+1) from ()];exact this
theorem vH(ks:List aP):∀(i:Nat) (k:aP) (v:V),bY (i0 ks i) k=Sm v->∃n:Nat,v=iN n/\n<i
 | 0,_,_,h=>by cases h
 | i+1,k,v,h=>by
  rw[jk,mC]at h;split at h
  .exact#[i,(Option.some.inj h).symm,()]
  .let#[n,h1,h2]:=vH ks i k v h;exact#[n,h1,()]
section
variable{kv:List (aP×V)}{N:Nat}
theorem yA(S:∀k,iT kv k->∃n,cy kv k=iN n/\n<N){l:Nat}{ws:MA}(px:fR ws)(Y:im ws)(O:∀n∈dj ws,iT kv (.inr n)):DQ N (gW kv l ws):=by
 unfold gW;unfold dj at O;cases px with
 | dd u x=>
  let#[n1,J,F]:=S _ (O x (by rw[Lz (show ([("do" : Str),u,x]:MA).headD "" = "do" from rfl)];simp));rw[Lz (show ([("do" : Str),u,x]:MA).headD "" = "do" from rfl)];show DQ N [.str "do",iN l,cy kv (.inr x),.str u];rw[J];exact .dd _ _ _ F (Y.len u '~')
 | op x=>
  let#[n1,J,F]:=S _ (O x (by rw[Lu (show ¬ ([("open" : Str),x]:MA).headD "" = "do" from (by decide +kernel:¬ ("open" : Str) = "do"))];simp));rw[Lu (show ¬ ([("open" : Str),x]:MA).headD "" = "do" from (by decide +kernel:¬ ("open" : Str) = "do"))];show DQ N [.str "open",iN l,cy kv (.inr x)];rw[J];exact .op _ _ F
 | dr x=>
  let#[n1,J,F]:=S _ (O x (by rw[Lu (show ¬ ([("drop" : Str),x]:MA).headD "" = "do" from (by decide +kernel:¬ ("drop" : Str) = "do"))];simp));rw[Lu (show ¬ ([("drop" : Str),x]:MA).headD "" = "do" from (by decide +kernel:¬ ("drop" : Str) = "do"))];show DQ N [.str "drop",iN l,cy kv (.inr x)];rw[J];exact .dr _ _ F
 | cp x y=>
  let#[n1,J,F]:=S _ (O x (by rw[Lu (show ¬ ([("copy" : Str),x,y]:MA).headD "" = "do" from (by decide +kernel:¬ ("copy" : Str) = "do"))];simp));let#[Z,U,W]:=S _ (O y (by rw[Lu (show ¬ ([("copy" : Str),x,y]:MA).headD "" = "do" from (by decide +kernel:¬ ("copy" : Str) = "do"))];simp));rw[Lu (show ¬ ([("copy" : Str),x,y]:MA).headD "" = "do" from (by decide +kernel:¬ ("copy" : Str) = "do"))];show DQ N [.str "copy",iN l,cy kv (.inr x),cy kv (.inr y)];rw[J,U];exact .cp _ _ _ F W
 | ti x y=>
  let#[n1,J,F]:=S _ (O x (by rw[Lu (show ¬ ([("tie" : Str),x,y]:MA).headD "" = "do" from (by decide +kernel:¬ ("tie" : Str) = "do"))];simp));let#[Z,U,W]:=S _ (O y (by rw[Lu (show ¬ ([("tie" : Str),x,y]:MA).headD "" = "do" from (by decide +kernel:¬ ("tie" : Str) = "do"))];simp));rw[Lu (show ¬ ([("tie" : Str),x,y]:MA).headD "" = "do" from (by decide +kernel:¬ ("tie" : Str) = "do"))];show DQ N [.str "tie",iN l,cy kv (.inr x),cy kv (.inr y)];rw[J,U];exact .ti _ _ _ F W
end
def BZ(N E:Nat)(R:List aE)(i:Nat)(r:aE):Prop:=DQ N r/\(cK r = "test" -> i+1<bT r 3/\bT r 3<=E)/\(cK r = "jump" -> (i<bT r 2/\bT r 2<=E)\/(bT r 2<=i/\∃q,R[bT r 2]?=Sm q/\cK q = "test" /\ i<bT q 3))
def Seg(N E:Nat)(R:List aE)(a n:Nat):Prop:=∀i r,a<=i->i<a+n->R[i]?=Sm r->BZ N E R i r
section
variable{N E:Nat}{R:List aE}{kv:List (aP×V)}
theorem Seg.nil:Seg N E R a 0:=λi r h1 h2=>()
theorem Seg.app(h:Seg N E R a n)(k:Seg N E R (a+n) m):Seg N E R a (n+m):=λi r h1 h2=>by
 by_cases c:i<a+n
 .exact h i r h1 c
 .exact k i r () ()
theorem Seg.one(e:R[a]?=Sm r)(h:BZ N E R a r):Seg N E R a 1:=λi q h1 h2 F=>by
 have:i=a:=()
 subst this;rw[e]at F;cases F;exact h
theorem Seg.pln(g:Str)(e:R[a]?=Sm r)(h:DQ N r)(hg:cK r=g)(p:g∈(qAu:MA)):Seg N E R a 1:=Seg.one e #[h,λz=>absurd p (by rw[<-hg,z];decide),λz=>absurd p (by rw[<-hg,z];decide)]
theorem Seg.tst{n:Int}(e:R[a]?=Sm [.str "test",iN l,.int n,iN j]) (h:a+1<j) (h2:j<=E):Seg N E R a 1:=Seg.one e #[.ts _ _ _,λ_=>#[h,h2],λz=>absurd (show ("test" : Str) = "jump" from z) ∅]
theorem Seg.jmp(e:R[a]?=Sm [.str "jump",iN l,iN j]) (h:(a<j/\j<=E)\/(j<=a/\∃q,R[j]?=Sm q/\cK q = "test" /\ a<bT q 3)):Seg N E R a 1:=Seg.one e #[.jm _ _,λz=>absurd (show ("jump" : Str) = "test" from z) ∅,λ_=>h]
theorem v6(hk:∀k,iT kv k->∃n,cy kv k=iN n/\n<N):∀(d:Nat) (t:Bool) (a l:Nat) (T:List vr),cE d T->dF d T->fu kv d l T->Dd R (aM kv d t a l T) a->a+(aM kv d t a l T).length<=E->Seg N E R a (aM kv d t a l T).length
 | 0,_,_,_,_,h,_,_,_,_=>h.elim
 | d+1,t,a,l,T,hf,S,hkl,hs,U=>by
  have ih:=v6 hk d;have st:∀(s:vr) (a l:Nat),fI (cE d) s->km (dF d) s->oJ kv (fu kv d) (ap d) l s->Dd R (fc kv (aM kv d) (ap d) t a l s) a->a+(fc kv (aM kv d) (ap d) t a l s).length<=E->Seg N E R a (fc kv (aM kv d) (ap d) t a l s).length:=λs a l Z S O Y U=>by
   cases s with
   | plain ws=>
    have h1:=yA (l:=l) hk Z.1 S O.2;have h2:cK (gW kv l ws)=ws.headD "" := by
     unfold gW;split
     .rename_i z;rw[z];rfl
     .rfl
    exact Seg.pln _ (Dd.one Y) h1 h2 (by rcases lY Z.1 with z | z | z | z | z<;>rw[z]<;>decide)
   | lend x y b=>
    revert O;refine yB4 λk1 k2 k3 k4=>?_;let#[n1,e1,f1]:=hk _ k1;let#[n2,e2,f2]:=hk _ k2;let#[n3,e3,f3]:=hk _ k3;have F:Dd R (f6 kv (aM kv d) (ap d) t a l x y b) a:=Y;have J:a+(f6 kv (aM kv d) (ap d) t a l x y b).length<=E:=U;show Seg N E R a (f6 kv (aM kv d) (ap d) t a l x y b).length;unfold f6 at F J |-
    rw[e1,e2,e3]at F J |-
    generalize hb:aM kv d t (a+3) (l+1) b=B at F J |-;simp only[zq,zy,yz,tN]at J |-
    have s1:=F.left.left;have A2:=ih t (a+3) (l+1) b Z.2.2 S.2.2 k4 (by rw[hb];exact F.left.right) (by rw[hb];lia);have s3:=F.right;rw[hb]at A2;rw[zq,<-i9]at s3;have W:Seg N E R a 3:=((Seg.pln "copy" s1.c0 (.cp _ _ _ f3 f1) rfl ∅).app (Seg.pln "do" s1.cs.c0 (.dd _ _ _ f3 ∅) rfl ∅)).app (Seg.pln "copy" s1.cs.cs.c0 (.cp _ _ _ f2 f3) rfl ∅);have A3:Seg N E R (a+3+B.length) 3:=((Seg.pln "do" s3.c0 (.dd _ _ _ f3 ∅) rfl ∅).app (Seg.pln "drop" s3.cs.c0 (.dr _ _ f2) rfl ∅)).app (Seg.pln "drop" s3.cs.cs.c0 (.dr _ _ f3) rfl ∅);have:=W.app (A2.app A3);rw[show 1+1+1+B.length+(1+1+1)=3+(B.length+3) from ()];exact this
   | ite n b c=>
    have F:Dd R (kh (aM kv d) (ap d) t a l n b c) a:=Y;have J:a+(kh (aM kv d) (ap d) t a l n b c).length<=E:=U;show Seg N E R a (kh (aM kv d) (ap d) t a l n b c).length;unfold kh at F J |-
    generalize hb:aM kv d t (a+1) (l+1) b=B at F J |-;generalize hc:aM kv d t (a+1+B.length+1) (l+1+ap d b+1) c=C at F J |-;simp only[zq,zy,yz,tN]at J |-
    have s0:=F.left.left.left.one;have W:=ih t (a+1) (l+1) b Z.2.1 S.2.1 O.1 (by rw[hb];exact F.left.left.right) (by rw[hb];lia);rw[hb]at W;have sj:=F.left.right.one;simp only[zq,zy,yz,tN]at sj;rw[<-i9]at sj;have sC:=F.right;simp only[zq,zy,yz,tN]at sC;rw[show a+(1+B.length+1)=a+1+B.length+1 from ()]at sC;have A2:=ih t _ _ c Z.2.2 S.2.2 O.2 (by rw[hc];exact sC) (by rw[hc];lia);rw[hc]at A2;have:=(Seg.tst (N:=N) s0 () ()).app (W.app ((Seg.jmp sj (.inl #[(),()])).app A2));rw[show 1+B.length+1+C.length=1+(B.length+(1+C.length)) from ()];exact this
   | whl n b=>
    have lp:∀a:Nat,Dd R (fF (aM kv d) (ap d) a l n b) a->a+(fF (aM kv d) (ap d) a l n b).length<=E->Seg N E R a (fF (aM kv d) (ap d) a l n b).length:=λa Y U=>by
     unfold fF at Y U |-
     generalize hb:aM kv d false (a+1) (l+1) b=B at Y U |-;simp only[zq,zy,yz,tN]at U |-
     have s0:=Y.left.left.one;have W:=ih false (a+1) (l+1) b Z.2 S.2 O (by rw[hb];exact Y.left.right) (by rw[hb];lia);rw[hb]at W;have sj:=Y.right.one;simp only[zq,zy,yz,tN]at sj;rw[<-i9]at sj;have:=(Seg.tst (N:=N) s0 () ()).app (W.app (Seg.jmp sj (.inr #[(),_,s0,rfl,by show a+1+B.length<a+1+B.length+1;lia])));rw[show 1+B.length+1=1+(B.length+1) from ()];exact this
    have F:Dd R (dX (aM kv d) (ap d) t a l n b) a:=Y;have J:a+(dX (aM kv d) (ap d) t a l n b).length<=E:=U;show Seg N E R a (dX (aM kv d) (ap d) t a l n b).length;unfold dX at F J |-
    cases t with
    | false=>rw[Lu ∅]at F J |-;exact lp a F J
    | true=>
     rw[Lz rfl]at F J |-
     have ac:=j1 (f:=aM kv d) (cnt:=ap d) (a:=a+1+(aM kv d true (a+1) (l+1) b).length) (l:=l) (n:=n) (b:=b);generalize hb:aM kv d true (a+1) (l+1) b=B at F J ac |-;simp only[zq,zy,yz,tN]at J |-
     have s0:=F.left.left.one;have W:=ih true (a+1) (l+1) b Z.2 S.2 O (by rw[hb];exact F.left.right) (by rw[hb];lia);rw[hb]at W;have sL:=F.right;simp only[zq,zy,yz,tN]at sL;rw[<-i9]at sL;have A2:=lp _ sL ();have:=(Seg.tst (N:=N) s0 () ()).app (W.app A2);rw[i9];exact this
  have go:∀(T:List vr) (a l:Nat),(∀s∈T,fI (cE d) s)->(∀s∈T,km (dF d) s)->(∀z∈fO (bv (ap d)) l T,oJ kv (fu kv d) (ap d) z.1 z.2)->Dd R (cV (fc kv (aM kv d) (ap d) t) (bv (ap d)) a l T) a->a+(cV (fc kv (aM kv d) (ap d) t) (bv (ap d)) a l T).length<=E->Seg N E R a (cV (fc kv (aM kv d) (ap d) t) (bv (ap d)) a l T).length:=λT=>by
   induction T with
   | nil=>intro a l _ _ _ _ _;exact Seg.nil
   | cons s T ihT=>
    intro a l hf S hz hs U;have ab:Dd R (fc kv (aM kv d) (ap d) t a l s++cV _ _ _ _ T) a:=hs;have J:a+(fc kv (aM kv d) (ap d) t a l s++cV _ _ _ _ T).length<=E:=U;show Seg N E R a (fc kv (aM kv d) (ap d) t a l s++cV _ _ _ _ T).length;rw[zq]at J |-
    exact(st s a l (hf s yd) (S s yd) (hz _ yd) ab.left ()).app (ihT _ _ (λs hs=>hf s (yh _ hs)) (λs hs=>S s (yh _ hs)) (λz h=>hz z (yh _ h)) ab.right ())
  exact go T a l hf S hkl hs U
end
theorem yV{a b:Int}{ds ts:MJ}(Y:a<b)(hd:∀x,x∈ds ↔ x∈[a,b])(hl:ds.length<=2)(U:ts.Perm ds)(S:ts.Pairwise (· <= ·)):ts=[a,b]:=by
 have J:a∈ts:=U.mem_iff.mpr ((hd a).mpr '~');have O:b∈ts:=U.mem_iff.mpr ((hd b).mpr '~');have F:ts.length<=2:=by rw[U.length_eq];exact hl
 match ts,J,O,F,S with
 | [x],J,O,_,_=>
  have e1:=Lv.mp J;have Z:=Lv.mp O;lia
 | [x,y],J,O,_,S=>
  simp only[yg,yu,or_false]at J O;have W:x<=y:=by simp at S;exact S
  have h1:x=a:=()
  have h2:y=b:=()
  rw[h1,h2]
 | _::_::_::_,_,_,hl,_=>simp at hl
theorem DQ.t3(h:DQ N r)(g:cK r = "test"):r[3]?=Sm (.int (bT r 3:Nat)):=by
 cases h<;>first | rfl | (simp only[cK,List.getD_cons_zero]at g;exact absurd g ∅)
theorem DQ.j2(h:DQ N r)(g:cK r = "jump"):r[2]?=Sm (.int (bT r 2:Nat)):=by
 cases h<;>first | rfl | (simp only[cK,List.getD_cons_zero]at g;exact absurd g ∅)
noncomputable def gw(i:Nat)(r:aE):MB:=if cK r = "end" then [] else if cK r = "jump" then [bT r 2] else if cK r = "test" then [i+1,bT r 3] else [i+1]
structure KU (N:Nat) (R:List aE):Prop where
 row:∀i r,R[i]?=Sm r->BZ N (R.length-1) R i r
 en:∃r,R[R.length-1]?=Sm r/\cK r = "end"
theorem KU.nx(h:KU N R)(e:R[i]?=Sm r):∀j∈gw i r,j<R.length:=λj F=>by
 have hi:=(Lq.mp e).1;let#[_,h2,O]:=h.row i r e;let#[q,J,U]:=h.en;unfold gw at F;split at F
 .cases F
 rename_i n1;have S:i+1<R.length:=by
  rcases iu (i+1) R.length with z | z
  .exact z
  .rw[show R.length-1=i from (),e]at J;cases J;exact absurd U n1
 split at F
 .rename_i n3;rw[Lv.mp F];rcases O n3 with z | z<;>lia
 split at F
 .rename_i n3;have:=h2 n3;simp only[yg,yu,or_false]at F;rcases F with z | z<;>lia
 .rw[Lv.mp F];exact S
def Jd:Sp:=λvs H Q _=>∃(c:o_) (R:List aE) (i N:Nat) (r:aE),vs=[.ref c,.int (i:Int)]/\Ce H c R/\KU N R/\R[i]?=Sm r/\∀(q:o_) (H':Hp),su H H'->H q=Nn->H' q=Sm (.lst ((gw i r).map iN))->Q (.ref q) H'
theorem vo(D:xn K mg "rows_behind" cH) (J:mg "sorted" = Nn) (S:mg "set" = Nn):aD P w K mg base 1 "rows_behind" ["code","at"] Jd:=by
 refine D.cal (k:=0) G1 (λf a4 A outer s0 H vs Q E hr h=>?_);revert h;refine yF5 λc R i N r=>yB5 ?_;rintro rfl hL hC ad q;refine⟨_,(ah (ay 2 G1.nd (am (ax K) (pv 0) (pv 1)))
   (ah (aY (aA aL (am (ax K) (pv 2) af) av (aB _)) (aj (az (aG ae))) aN)
   (ah (aY (aA aL (am (ax K) (pv 2) af) av (aB _)) (aj (az (aG (aa (am (ax K) (pv 2) af) ae)))) aN)
   (ah (aY (aA aL (am (ax K) (pv 2) af) av (aB _)) (aj (az (bx (qM w hr) J ji (aa (eQ (xL K w hr) S tV (aa (aG (aa (ar aF (pv 1) af) (aa (am (ax K) (pv 2) af) ae))) ae)) ae)))) aN)
   (aj (az (aG (aa (ar aF (pv 1) af) ae)))))))),?_⟩
 refine yE2 (iO hL ad) λas b=>yB4 λa1 al ab eb=>?_;let#[hk,ht,_]:=hC.row i r ad;unfold gw at q;cbv;refine X2 (ud.of a1) (aq (by rw[zz,ab];rfl)) ?_;rw?;refine X1 (uc.of eb) (aq (j:=0) hk.hd) ?_;cbv;refine aT (λc1=>?_) (λc1=>?_)
 .rw[Lz c1]at q;exact#[∅,λO F=>q O _ (ak F _) F ai]
 rw[Lu c1]at q;rw?;refine X1 (uc.of eb) (aq (j:=0) hk.hd) ?_;cbv;refine aT (λc2=>?_) (λc2=>?_)
 .rw[Lz c2]at q;refine X1 (uc.of eb) (aq (j:=2) (hk.j2 c2)) ?_;exact#[∅,λO F=>q O _ (ak F _) F ai]
 rw[Lu c2]at q;rw?;refine X1 (uc.of eb) (aq (j:=0) hk.hd) ?_;cbv;refine aT (λW=>?_) (λW=>?_)
 .rw[Lz W]at q;have ac:=ht W;refine X1 (uc.of eb) (aq (j:=3) (hk.t3 W)) ?_;generalize bT r 3=j at ac q |-;refine⟨∅,λO F=>?_⟩
  ∎;rename_i H1 s1 e1;have e1:H1 O=Sm (.lst ([(i:Int)+1,(j:Int)].map V.int)):=e1;refine yI2 O _ #[rfl,ud.of e1,'~',λsl ds a3 ag U Y=>?_];∎;rename_i H2 s2 e2;refine yI2 sl ds #[rfl,e2,by simp at Y;lia,λrl ts Z hp hs=>?_];have:=yV (a:=(i:Int)+1) (b:=(j:Int)) () U (by simpa using Y) hp hs;subst this;exact q rl _ ((s1.trans s2).trans (ak Z _)) ((s1.trans s2).free Z) ai
 .rw[Lu W]at q;rw?;exact#[∅,λO F=>q O _ (ak F _) F ai]
def KL(rl:Rl)(r:aE)(ts k:MB):Prop:=k∈fm rl r [ts]\/ju rl r ts=Sm k
theorem BN.one{t:o_}(h:dv H t ts):BN H [t] [ts]:=(BN.nil H).snoc h
def A8:Sp:=λvs H Q _=>∃(c p t:o_) (R:List aE) (rl:Rl) (r:aE) (i N:Nat) (ts:MB),vs=[.ref c,.ref p,.int (i:Int),.ref t]/\Ce H c R/\R[i]?=Sm r/\Ct H p rl/\dk rl/\gN rl.s rl.rs.length ts/\DQ N r/\N<=9000/\dv H t ts/\
 ∀(L':o_) (H':Hp) (cs:MD) (kss:List MB),su H H'->H L'=Nn->H' L'=Sm (.lst (cs.map V.ref))->BN H' cs kss->kss.length<=16->(∀k,k∈kss ↔ KL rl r ts k)->Q (.ref L') H'
theorem FZ(D:xn K mg "made_of" cO) (F:aD P w K mg base 3 "begins_at" qAB tW) (J:aD P w K mg base 5 "behind_at" qAC Af):aD P w K mg base 6 "made_of" qAC A8:=by
 refine D.cal (k:=5) He (λf ag A outer s0 H vs Q E hr h=>?_);revert h;refine yF9 λc p t R rl r i N ts=>yB10 ?_;rintro rfl hC W hR ok ac hk hN ht q;refine⟨_,(ah (ay 4 He.nd (aw F hr (aa (pv 0) (aa (pv 1) (aa (pv 2) (aa (aG (aa (pv 3) ae)) ae))))))
   (ah (ay 5 He.nd (aw J hr (aa (pv 0) (aa (pv 1) (aa (pv 2) (aa (pv 3) ae))))))
   (aj (az (fk (aA fL (pv 5) dw (aB _)) (pv 4) (ar aF (pv 4) (aG (aa (pv 5) ae)))))))),?_⟩
 cbv;refine#[∅,λx hx=>?_];∎;rename_i H1 s1 e1;have e1:H1 x=Sm (.lst ([t].map V.ref)):=e1;refine yI10 c p x R rl r i N ([t]) ([ts]) #[rfl,hC.mono s1,W,hk,hN,hR.mono s1,ok,e1,BN.one (s1 _ _ ht),'~',λL H2 cs U s2 hL eL Z hl hm _=>?_];have O:=s1.trans s2;rw?;refine yI9 c p t R rl r i N ts #[rfl,hC.mono O,W,hR.mono O,ok,ac,hk,(),O _ _ ht,λH3 s3=>#[λhn=>?_,λus u hs hu ab=>?_]]
 .rw?;exact q L H3 cs U (O.trans s3) (s1.free hL) (s3 _ _ eL) (Z.same s3) () λk=>by rw[hm];unfold KL;rw[hn];simp
 .rw?;rw[Lu '~'];refine#[∅,λy hy=>?_];∎;rename_i H4 s4 Y;have Y:H4 y=Sm (.lst ([u].map V.ref)):=Y;have S:=s3.trans s4;have ad:=Z.1;refine yI2 _ _ #[S _ _ eL,Y,by rw[zb];exact aH (by simp;lia),λz hz=>?_];have s5:=ak hz (.lst (cs.map V.ref++[u].map V.ref));refine q z _ (cs++[u]) (U++[us]) (O.trans (S.trans s5)) ((O.trans S).free hz) (by rw[ai,yb]) ((Z.same (S.trans s5)).snoc ((s4.trans s5) _ _ ab)) (by simp;lia) λk=>?_;rw[KR,hm,zbz];unfold KL;rw[hs,Option.some.injEq,eq_comm (a:=k)]
def pt1(st:List (List MB)×List (Nat×MB))(i:Nat)(t:MB):List (List MB)×List (Nat×MB):=if t∈st.1.getD i [] then st else (st.1.set i (st.1.getD i []++[t]),st.2++[(i,t)])
def ip(t:MB):List aP:=t.map λ(n:Nat)=>Sum.inl (n:Int)
theorem v3:∀ {a b:MB},ip a=ip b->a=b
 | [],[],_=>rfl
 | [],_::_,h=>by simp[ip]at h
 | _::_,[],h=>by simp[ip]at h
 | x::a,y::b,h=>by
  simp only[ip,yR,List.cons.injEq,Sum.inl.injEq,Int.natCast_inj]at h;rw[h.1,v3 (a:=a) (b:=b) h.2]
theorem vN(t:MB):(ip t).map kV=t.map iN:=by unfold ip;rw[td];rfl
def iy(ks:List MB):List (List aP×V):=ks.map λt=>(ip t,V.bl true)
theorem AV(ks:List MB)(t:MB):(bY (iy ks) (ip t)).isSome=decide (t∈ks):=by
 unfold iy bY;rw[List.find?_map,Option.map_map,Option.isSome_map,KJ,List.find?_isSome,decide_eq_true_iff];refine#[λ⟨x,hx,e⟩=>?_,λh=>#[t,h,'~']];rw[<-v3 (of_decide_eq_true e)];exact hx
def Dn(H:Hp)(F:o_)(fds:MD)(Ks:List (List MB)):Prop:=H F=Sm (.lst (fds.map V.ref))/\fds.length=Ks.length/\fds.Nodup/\∀(j:Nat) fd ks,fds[j]?=Sm fd->Ks[j]?=Sm ks->H fd=Sm (.dT (iy ks))
def Jb(H:Hp)(q:o_)(pl:Nat×MB):Prop:=∃t,H q=Sm (.tup [.int (pl.1:Int),.ref t])/\dv H t pl.2
def Dg(H:Hp)(qs:MD)(pls:List (Nat×MB)):Prop:=qs.length=pls.length/\∀(i:Nat) q pl,qs[i]?=Sm q->pls[i]?=Sm pl->Jb H q pl
def HP(fds:MD)(H H':Hp):Prop:=∀a o,a∉fds->H a=Sm o->H' a=Sm o
theorem HP.trans{F:MD}{H1 H2:Hp}(h:HP F H H1)(g:HP F H1 H2):HP F H H2:=λa o J e=>g a o J (h a o J e)
theorem Dn.off{F:o_}{J:MD}{Ks:List (List MB)}(h:Dn H F J Ks){a:o_}(e:H a=Sm o)(U:∀kvs,o ≠ .dT kvs):a∉J:=λS=>by
 let#[j,O,rfl]:=LJ.mp S;have:=h.2.2.2 j _ _ (zd O) (zd (show j<Ks.length by rw[<-h.2.1];exact O));rw[e]at this;exact U _ (Option.some.inj this)
theorem Dn.keep{F:o_}{J:MD}{Ks:List (List MB)}(h:Dn H F J Ks)(s:su H H'):Dn H' F J Ks:=#[s _ _ h.1,h.2.1,h.2.2.1,λj fd ks h1 h2=>s _ _ (h.2.2.2 j fd ks h1 h2)]
theorem Dg.keep{qs:MD}{F:List (Nat×MB)}(h:Dg H qs F)(s:∀a xs,H a=Sm (.tup xs)->H' a=Sm (.tup xs)):Dg H' qs F:=#[h.1,λi q pl h1 h2=>let ⟨t,e1,e2⟩:=h.2 i q pl h1 h2;#[t,s _ _ e1,s _ _ e2]]
theorem Dg.nil(H:Hp):Dg H [] []:=#[rfl,λi c k h=>by simp at h]
theorem Dg.app{qs rs:MD}{F p2:List (Nat×MB)}(h:Dg H qs F)(g:Dg H rs p2):Dg H (qs++rs) (F++p2):=by
 refine#[by rw[zq,zq,h.1,g.1],λi b ts h1 h2=>?_];rcases iu i qs.length with z | z
 .rw[xr z]at h1;rw[xr (by rw[<-h.1];exact z)]at h2;exact h.2 i b ts h1 h2
 .rw[uu z]at h1;rw[uu (by rw[<-h.1];exact z),<-h.1]at h2;exact g.2 _ b ts h1 h2
theorem Dg.one{H:Hp}{q:o_}{pl:Nat×MB}(h:Jb H q pl):Dg H [q] [pl]:=⟨rfl,λi c k h1 h2=>by
 cases i with
 | zero=>cases h1;cases h2;exact h
 | succ i=>simp at h1⟩
theorem Dn.put{F:o_}{J:MD}{Ks:List (List MB)}(h:Dn H F J Ks){fd:o_}(hf:J[i]?=Sm fd)(ks:List MB):Dn (upd H fd (.dT (iy ks))) F J (Ks.set i ks):=by
 have hi:=(Lq.mp hf).1;have Z:F≠fd:=λz=>h.off h.1 (λ_=>'~') (by rw[z];exact xO hf);refine#[by rw[au Z];exact h.1,by rw[List.length_set];exact h.2.1,h.2.2.1,λj O S h1 h2=>?_];have hj:=(Lq.mp h1).1;by_cases e:i=j
 .subst e;rw[hf]at h1;cases h1;rw[zbu (by rw[<-h.2.1];exact hi)]at h2;cases h2;exact ai
 .rw[zba e]at h2;have U:O≠fd:=λz=>by
   subst z;have Y:=(Lq.mp hf).2;have W:=(Lq.mp h1).2;exact e ((List.getElem_inj h.2.2.1).mp (Y.trans W.symm))
  rw[au U];exact h.2.2.2 j O S h1 h2
theorem Dn.else{F a:o_}{J:MD}{Ks:List (List MB)}(h:Dn H F J Ks)(h1:F≠a)(h2:a∉J):Dn (upd H a o) F J Ks:=#[by rw[au h1];exact h.1,h.2.1,h.2.2.1,λj fd ks O S=>by rw[au (λz=>h2 (by rw[<-z];exact xO O))];exact h.2.2.2 j fd ks O S]
def ptT(toks:List MB)(i:Nat)(st:List (List MB)×List (Nat×MB)):=toks.foldl (λst t=>pt1 st i t) st
def lZ(Ks:List (List MB))(rows:MB)(toks:List MB):List (List MB)×List (Nat×MB):=rows.foldl (λst i=>ptT toks i st) (Ks,[])
def BdS(Ks:List (List MB))(m:Nat)(st:List (List MB)×List (Nat×MB)):Prop:=st.1.length=Ks.length/\st.2.length<=m/\∀a,(st.1.getD a []).length<=60000+st.2.length
theorem BdS.pt1{Ks:List (List MB)}{t:MB}{st:List (List MB)×List (Nat×MB)}(h:BdS Ks m st):BdS Ks (m+1) (pt1 st i t):=by
 let#[h1,h2,F]:=h;unfold K65.pt1;split
 .exact#[h1,(),F]
 .refine#[by rw[List.length_set];exact h1,by simp;lia,λa=>?_];have hi:=F i;have J:=F a;simp only[xW,List.getElem?_set,zq,zy,yz]at hi J |-
  split
  .split
   .simp only[Option.getD_some,zq,zy,yz];lia
   .simp
  .lia
theorem pM{β: Type}(f:β->α->β)(b:β){l:List α}(h:i<l.length):(l.take (i+1)).foldl f b=f ((l.take i).foldl f b) l[i]:=by
 rw[Lb h,zbt];rfl
def ve:Sp:=λvs H Q _=>∃(F rw tk:o_) (rows:MB) (cs fds:MD) (toks:List MB) (Ks:List (List MB)),vs=[.ref F,.ref rw,.ref tk]/\H rw=Sm (.lst (rows.map iN))/\H tk=Sm (.lst (cs.map V.ref))/\BN H cs toks/\Dn H F fds Ks/\(∀j∈rows,j<Ks.length)/\rows.length<=2/\toks.length<=16/\(∀ks∈Ks,ks.length<=60000)/\
 ∀(W:o_) (H':Hp) (qs:MD),HP fds H H'->Dn H' F fds (lZ Ks rows toks).1->H W=Nn->H' W=Sm (.lst (qs.map V.ref))->Dg H' qs (lZ Ks rows toks).2->Q (.ref W) H'
theorem E5(D:xn K mg "put" fW):aD P w K mg base 1 "put" qAq ve:=by
 refine D.cal (k:=0) Ir (λf cc A outer s0 H vs Q E hr h=>?_);revert h;refine yF8 λF rw tk rows cs J toks Ks=>yB10 ?_;rintro rfl a3 a4 hT hP as ca cb bh q;refine⟨_,(ah (ay 3 Ir.nd (aG ae))
   (ah (cg pD rfl (bF K (pv 1)) (aS 4 Ir.nd) (aj (cg pD rfl (bF K (pv 2)) (aS 5 Ir.nd) (aj (aY (aA (Bu hr) (pv 5) (am (ax K) (pv 0) (pv 4)) (by with_unfolding_all rfl)) (ah (k7 fZ (nV (am (ax K) (pv 0) (pv 4)) (pv 5) (Ip hr)))
   (aj (bm (bB K yY ux uC br (pv 3) (aa (aR (aa (pv 4) (aa (pv 5) ae))) ae))))) aN)))))
   (aj (az (pv 3))))),?_⟩
 cbv;refine#[∅,λW hW=>?_];∎;rename_i H1 s1 e1;have e1:H1 W=Sm (.lst (([]:MD).map V.ref)):=e1;have fo:W∉J:=(hP.keep s1).off e1 (λ_=>'~');rw?;refine#[#[_,ud.of (s1 _ _ a3)],?_];have B0:BdS Ks 0 (Ks,[]):=⟨rfl,zg _,λa=>by
  show (Ks.getD a []).length<=_;rw[xW];cases e:Ks[a]? with
  | none=>simp
  | some ks=>exact mn (bh ks (xO e)) '~'⟩
 refine cL (xs:=rows.map iN) (λi σ H'=>∃(st:List (List MB)×List (Nat×MB)) (qs:MD) (o4 o5:MK),σ=[Sm (.ref F),Sm (.ref rw),Sm (.ref tk),Sm (.ref W),o4,o5]/\st=(rows.take i).foldl (λst i=>ptT toks i st) (Ks,[])/\HP J H H'/\Dn H' F J st.1/\H' W=Sm (.lst (qs.map V.ref))/\Dg H' qs st.2/\BdS Ks (16*i) st)
  (yI4 _ ([]) _ _ #[rfl,rfl,λa o _ e=>s1 _ _ e,hP.keep s1,e1,Dg.nil _,B0]) (λi σ H' _ hh=>by revert hh;refine yF4 λ_ _ _ _=>yB4 λ_ _ z _=>?_;exact ud.of (z _ _ (hP.off a3 (λ_=>'~')) a3)) ?_ ?_
 .intro i v σ H2 hv;refine yF4 λst qs o4 o5=>yB7 ?_;rintro rfl ad k2 P2 w2 L2 B2;have hi:i<rows.length:=by have:=(Lq.mp hv).1;simpa using this
  rw[zz,zd hi]at hv;cases hv;have a5:=as _ (gV hi);have eo:=pM (λst i=>ptT toks i st) (Ks,[]) hi;rw[<-ad]at eo;generalize rows[i]=at_ at a5 eo |-;have ag:=hP.off a4 (λ_=>'~')
  cbv;refine#[#[_,ud.of (k2 _ _ ag a4)],?_];refine cL (xs:=cs.map V.ref) (λj σ H'=>∃(S:List (List MB)×List (Nat×MB)) (qs:MD) (o5:MK),σ=[Sm (.ref F),Sm (.ref rw),Sm (.ref tk),Sm (.ref W),Sm (.int (at_:Int)),o5]/\S=(toks.take j).foldl (λst t=>pt1 st at_ t) st/\HP J H H'/\Dn H' F J S.1/\H' W=Sm (.lst (qs.map V.ref))/\Dg H' qs S.2/\BdS Ks (16*i+j) S)
   (yI3 st qs _ #[rfl,rfl,k2,P2,w2,L2,B2]) (λj σ H' _ hh=>by revert hh;refine yF3 λ_ _ _=>yB4 λ_ _ z _=>?_;exact ud.of (z _ _ ag a4)) ?_ ?_
  .intro j v σ H3 hv;refine yF3 λS qs o5=>yB7 ?_;rintro rfl ab k3 Z w3 L3 Y;have hj:j<cs.length:=by have:=(Lq.mp hv).1;simpa using this
   rw[zz,zd hj]at hv;cases hv;have a6:j<toks.length:=by rw[<-hT.1];exact hj
   have al:=hT.2 j _ _ (zd hj) (zd a6);have ei:=pM (λst t=>pt1 st at_ t) st a6;rw[<-ab]at ei;have O:dv H3 cs[j] toks[j]:=k3 _ _ (hP.off al (λ_=>'~')) al;generalize toks[j]=t at ei O;generalize cs[j]=c at O |-;have a9:H3 c=Sm (.tup ((ip t).map kV)):=by rw[vN];exact O
   have a7:at_<J.length:=by rw[Z.2.1,Y.1];exact a5
   have b1:at_<S.1.length:=by rw[Y.1];exact a5
   have ac:=zd a7;have bc:=zd b1;have a8:=Z.2.2.2 at_ _ _ ac bc;have eg:S.1.getD at_ []=S.1[at_]:=by rw[xW,bc];rfl
   cbv;refine X2 (ud.of Z.1) (aq (by rw[zz,ac];rfl)) (yI4 (J[at_]) c _ (ip t) #[rfl,rfl,a8,a9,?_]);rw[AV];unfold K65.pt1 at ei;rw[eg]at ei;have bp:=Y.2.2 at_;rw[eg]at bp;have b3:=Y.2.1;refine#[_,rfl,aT (λc1=>?_) (λc1=>?_)]
   .have U:t∉S.1[at_]:=by simpa using c1
    rw[Lu U]at ei;have bg:bY (iy S.1[at_]) (ip t)=Nn:=by
     have:=AV S.1[at_] t;rw[decide_eq_false U]at this;exact Option.isSome_eq_false_iff.mp this |> Option.isNone_iff_eq_none.mp
    refine X2 (ud.of Z.1) (aq (by rw[zz,ac];rfl)) (yI4 (J[at_]) c _ (ip t) #[rfl,rfl,a8,a9,aH (by unfold iy;rw[zb];lia),?_]);rw[Dh _ bg,show iy S.1[at_]++[(ip t,V.bl true)]=iy (S.1[at_]++[t]) by unfold iy;rw[yb];rfl];have bt:J[at_]∈J:=gV a7;have P4:=Z.put ac (S.1[at_]++[t]);have kk:∀a o,a∉J->H3 a=Sm o->upd H3 J[at_] (.dT (iy (S.1[at_]++[t]))) a=Sm o:=λa o ha e=>by rw[au (λz=>ha (by rw[z];exact bt))];exact e
    have k4:=k3.trans kk;have w4:=kk _ _ fo w3;have L4:=L3.keep λa xs e=>kk _ _ (Z.off e (λ_=>'~')) e;have t4:dv _ c t:=kk _ _ (Z.off O (λ_=>'~')) O;generalize upd H3 J[at_] (.dT (iy (S.1[at_]++[t])))=H4 at P4 k4 w4 L4 t4 |-;rw?;refine⟨⟨_,ud.of w4⟩,∅,λq1 be=>⟨_,ak be _ _ _ w4,by rw[zb,L3.1];exact aH (),?_⟩⟩
    have s5:=ak be (.tup [V.int (at_:Int),V.ref c]);have e5:upd H4 q1 (.tup [V.int (at_:Int),V.ref c]) q1=Sm (.tup [V.int (at_:Int),V.ref c]):=ai;have w5:=s5 _ _ w4;have L5:=(L4.keep λa xs e=>s5 _ _ e).app (Dg.one (pl:=(at_,t)) #[c,e5,s5 _ _ t4]);have b0:F≠W:=λz=>by rw[<-z,hP.1]at hW;cases hW
    refine yI3 _ (qs++[q1]) _ #[rfl,ei.symm,λa o ha e=>?_,(P4.keep s5).else b0 fo,by rw[ai,yb];rfl,L5.keep λa xs e=>?_,?_]
    .rw[au (λz=>by rw[z,hW]at e;cases e)];exact s5 _ _ (k4 _ _ ha e)
    .rw[au (λz=>by rw[z,w5]at e;cases e)];exact e
    .have:=Y.pt1 (i:=at_) (t:=t);unfold K65.pt1 at this;rw[eg,Lu U]at this;exact this
   .have b2:t∈S.1[at_]:=by simpa using c1
    rw[Lz b2]at ei;exact yI3 S qs _ #[rfl,ei.symm,k3,Z,w3,L3,Y.1,(),Y.2.2]
  .intro σ H3;refine yF3 λS qs o5=>yB7 ?_;rintro rfl ab k3 Z w3 L3 Y;rw[zb,hT.1,ir]at ab;refine yI4 S qs _ _ #[rfl,by rw[ab,eo];rfl,k3,Z,w3,L3,Y.1,by have:=Y.2.1;rw[zb,hT.1]at this;lia,Y.2.2]
 .intro σ H2;refine yF4 λst qs o4 o5=>yB7 ?_;rintro rfl ad k2 P2 w2 L2 B2;rw[zb,ir]at ad;rw?;subst ad;exact q W H2 qs k2 P2 hW w2 L2
abbrev fS:=List (List MB)
structure JM (Ks:fS) (Z:Nat->MB->Prop) (st:fS×List (Nat×MB)):Prop where
 len:st.1.length=Ks.length
 mono:∀j x,x∈Ks.getD j []->x∈st.1.getD j []
 new:∀j x,x∈st.1.getD j []->x∈Ks.getD j []\/(j,x)∈st.2
 sum:(st.1.map List.length).sum=(Ks.map List.length).sum+st.2.length
 nd:∀j,(st.1.getD j []).Nodup
 ok:∀pl∈st.2,pl.1<Ks.length/\Z pl.1 pl.2
theorem jS{Ks:fS}{ks:List MB}(hi:i<Ks.length):(Ks.set i ks).getD j []=if i=j then ks else Ks.getD j []:=by
 rw[xW,xW,List.getElem?_set];split
 .rename_i e;subst e;simp[hi]
 .rfl
theorem vQ:∀ {Ks:fS} {i:Nat} {t:MB},i<Ks.length->((Ks.set i (Ks.getD i []++[t])).map List.length).sum=(Ks.map List.length).sum+1
 | [],_,_,h=>by simp at h
 | ks::Ks,0,t,_=>by simp;lia
 | ks::Ks,i+1,t,h=>by
  have:=vQ (Ks:=Ks) (i:=i) (t:=t) (by simpa using h);simp only[List.set_cons_succ,List.getD_cons_succ,yR,IX];lia
theorem JM.pt1{Ks:fS}{Z:Nat->MB->Prop}{st:fS×List (Nat×MB)}{t:MB}(h:JM Ks Z st)(hi:i<Ks.length)(O:Z i t):JM Ks Z (pt1 st i t)/\t∈(pt1 st i t).1.getD i []/\∀j x,x∈st.1.getD j []->x∈(pt1 st i t).1.getD j []:=by
 have F:i<st.1.length:=by rw[h.len];exact hi
 unfold K65.pt1;by_cases c:t∈st.1.getD i []
 .rw[Lz c];exact#[h,c,λ_ _ z=>z]
 rw[Lu c];have J:∀j x,x∈st.1.getD j []->x∈(st.1.set i (st.1.getD i []++[t])).getD j []:=λj x hx=>by
  rw[jS F];split
  .rename_i e;subst e;exact IV _ hx
  .exact hx
 refine#[#[by rw[List.length_set];exact h.len,λj x hx=>J j x (h.mono j x hx),λj x hx=>?_,?_,λj=>?_,λpl U=>?_],?_,J]
 .rw[jS F]at hx;split at hx
  .rename_i e;subst e;rcases LG.mp hx with z | z
   .exact(h.new i x z).imp id (IV _)
   .rw[Lv.mp z];exact .inr (oo _ (Lv.mpr rfl))
  .exact(h.new j x hx).imp id (IV _)
 .show ((st.1.set i (st.1.getD i []++[t])).map List.length).sum=_;rw[vQ F,h.sum,zq];rfl
 .rw[jS F];split
  .rename_i e;subst e;rw[JT];exact#[h.nd i,LR.mpr #['~',JW],λa S b W z=>c (by rw[Lv.mp W]at z;rw[<-z];exact S)]
  .exact h.nd j
 .rcases LG.mp U with z | z
  .exact h.ok pl z
  .rw[Lv.mp z];exact#[hi,O]
 .show t∈(st.1.set i (st.1.getD i []++[t])).getD i [];rw[jS F,Lz rfl];exact oo _ (Lv.mpr rfl)
theorem JM.ptT{Ks:fS}{Z:Nat->MB->Prop}{i:Nat}(hi:i<Ks.length):∀ {toks:List MB} {st:fS×List (Nat×MB)},JM Ks Z st->(∀t∈toks,Z i t)->JM Ks Z (ptT toks i st)/\(∀t∈toks,t∈(ptT toks i st).1.getD i [])/\∀j x,x∈st.1.getD j []->x∈(ptT toks i st).1.getD j []
 | [],st,h,_=>#[h,#[λ_ z=>(yu z).elim,λ_ _ z=>z]]
 | t::toks,st,h,ht=>by
  let#[h1,h2,O]:=h.pt1 hi (ht t yd);let#[J,S,F]:=h1.ptT hi λx hx=>ht x (yh _ hx);refine#[J,λx hx=>?_,λj x hx=>F j x (O j x hx)];rcases LH.mp hx with z | z
  .rw[z];exact F i t h2
  .exact S x z
theorem JM.ptR{Ks:fS}{Z:Nat->MB->Prop}{toks:List MB}:∀ {rows:MB} {st:fS×List (Nat×MB)},JM Ks Z st->(∀i∈rows,i<Ks.length/\∀t∈toks,Z i t)->JM Ks Z (rows.foldl (λst i=>K65.ptT toks i st) st)/\(∀i∈rows,∀t∈toks,t∈(rows.foldl (λst i=>K65.ptT toks i st) st).1.getD i [])/\∀j x,x∈st.1.getD j []->x∈(rows.foldl (λst i=>K65.ptT toks i st) st).1.getD j []
 | [],st,h,_=>#[h,#[λ_ z=>(yu z).elim,λ_ _ z=>z]]
 | i::rows,st,h,hr=>by
  let#[h1,h2,S]:=h.ptT (hr i yd).1 (hr i yd).2;let#[O,U,J]:=h1.ptR λx hx=>hr x (yh _ hx);refine#[O,λx hx t F=>?_,λj x hx=>J j x (S j x hx)];rcases LH.mp hx with z | z
  .rw[z];exact J i t (h2 t F)
  .exact U x z t F
structure Jx (R:List aE) (rl:Rl) (Z:Nat->MB->Prop) (m:Nat) (Ks:fS) (W:List (Nat×MB)):Prop where
 len:Ks.length=R.length
 nd:∀j,(Ks.getD j []).Nodup
 bd:∀j x,x∈Ks.getD j []->Z j x
 beg:∀i r,i<m->R[i]?=Sm r->∀j∈gw i r,∀t∈fm rl r [],t∈Ks.getD j []
 cl:∀i r,R[i]?=Sm r->∀x∈Ks.getD i [],(i,x)∈W\/∀j∈gw i r,∀t,KL rl r x t->t∈Ks.getD j []
 wok:∀pl∈W,pl.1<R.length/\Z pl.1 pl.2
 sum:W.length<=(Ks.map List.length).sum
theorem Jx.step{Z:Nat->MB->Prop}{m':Nat}{Ks:fS}{W V:List (Nat×MB)}{toks:List MB}(I:Jx R rl Z m Ks W)(hi:R[i]?=Sm r)(O:∀j∈gw i r,j<R.length)(ht:∀j∈gw i r,∀t∈toks,Z j t)
  (hb:∀a,a<m'->a<m\/(a=i/\∀t∈fm rl r [],t∈toks)) (hV:∀pl∈V,pl∈W) (hl:V.length<=W.length) (hW:∀a x,(a,x)∈W->(a,x)∈V\/(a=i/\∀t,KL rl r x t->t∈toks)) :
  Jx R rl Z m' (lZ Ks (gw i r) toks).1 (V++(lZ Ks (gw i r) toks).2)/\((lZ Ks (gw i r) toks).1.map List.length).sum=(Ks.map List.length).sum+(lZ Ks (gw i r) toks).2.length:=by
 have P0:JM Ks Z (Ks,[]):=#[rfl,λ_ _ z=>z,λ_ _ z=>.inl z,rfl,I.nd,λ_ z=>nomatch z];let#[J,Y,g3]:=P0.ptR (toks:=toks) (rows:=gw i r) λa U=>#[by rw[I.len];exact O a U,ht a U];show Jx R rl Z m' ((gw i r).foldl (λst i=>K65.ptT toks i st) (Ks,[])).1 _/\_;unfold lZ;generalize (gw i r).foldl (λst i=>K65.ptT toks i st) (Ks,[])=st at J Y g3;refine#[#[J.len.trans I.len,J.nd,λj x hx=>?_,λa q U S j O t F=>?_,λa q S x hx=>?_,λpl hp=>?_,?_],J.sum]
 .rcases J.new j x hx with z | z
  .exact I.bd j x z
  .exact(J.ok _ z).2
 .rcases hb a U with z | ⟨rfl,z⟩
  .exact g3 j t (I.beg a q z S j O t F)
  .rw[hi]at S;cases S;exact Y j O t (z t F)
 .rcases J.new a x hx with z | z
  .rcases I.cl a q S x z with y | y
   .rcases hW a x y with u | ⟨rfl,u⟩
    .exact .inl (IV _ u)
    .rw[hi]at S;cases S;exact .inr λj O t F=>Y j O t (u t F)
   .exact .inr λj O t F=>g3 j t (y j O t F)
  .exact .inl (oo _ z)
 .rcases LG.mp hp with z | z
  .exact I.wok pl (hV pl z)
  .let#[h1,h2]:=J.ok pl z;exact#[by rw[<-I.len];exact h1,h2]
 .rw[zq,J.sum];have:=I.sum;lia
theorem zD:∀ {Ks:fS} {b:Nat},(∀ks∈Ks,ks.length<=b)->(Ks.map List.length).sum<=Ks.length*b
 | [],b,_=>'~'
 | ks::Ks,b,h=>by
  have h1:=zD λx hx=>h x (yh ks hx);have h2:=h ks yd;rw[yR,IX,zy,Nat.add_mul,Nat.one_mul];lia
theorem j6{α β : Type}{f:α->List β}{c:Nat}(h:∀a,(f a).length=c):∀l:List α,(l.flatMap f).length=l.length*c
 | []=>'~'
 | a::l=>by rw[Le,zq,h a,j6 h l,zy,Nat.add_mul,Nat.one_mul,Nat.add_comm]
inductive Ik (sd:Int) (B Z:Nat):MB->Prop
 | h1 (n k:Nat):sd=1->n<B->k<Z->Ik sd B Z [n,k]
 | one (n:Nat):sd=2->n<B->Ik sd B Z [n]
 | two (n m o:Nat):sd=2->n<B->m<B->o<3->Ik sd B Z [n,m,o]
 | tie (n m o k:Nat):sd=2->n<B->m<B->o<3->k<Z->Ik sd B Z [n,m,o,k]
theorem Ik.tka{sd:Int}{B Z:Nat}{ts:MB}(h:Ik sd B Z ts):gN sd Z ts:=by
 cases h with
 | h1 n k a _ b=>exact .h1 n k a b
 | one n a _=>exact .one n a
 | two n m o a _ _ _=>exact .two n m o a
 | tie n m o k a _ _ _ b=>exact .tie n m o k a b
def zx(sd:Int)(B Z:Nat):List MB:=(List.range B).flatMap λn=>if sd=1 then (List.range Z).map λk=>[n,k] else [n]::(List.range B).flatMap λm=>(List.range 3).flatMap λo=>[n,m,o]::(List.range Z).map λk=>[n,m,o,k]
theorem Ik.all{sd:Int}{B Z:Nat}{ts:MB}(h:Ik sd B Z ts):ts∈zx sd B Z:=by
 unfold zx;cases h with
 | h1 n k e a b=>exact LB.mpr #[n,LK.mpr a,by rw[Lz e];simp[b]]
 | one n e a=>exact LB.mpr #[n,LK.mpr a,by rw[Lu ()];simp]
 | two n m o e a b c=>exact LB.mpr #[n,LK.mpr a,by rw[Lu ()];exact yh _ (LB.mpr #[m,LK.mpr b,LB.mpr #[o,LK.mpr c,'~']])]
 | tie n m o k e a b c d=>exact LB.mpr #[n,LK.mpr a,by rw[Lu ()];exact yh _ (LB.mpr #[m,LK.mpr b,LB.mpr #[o,LK.mpr c,by simp[d]]])]
def gJ(sd:Int)(B Z:Nat):Nat:=B*if sd=1 then Z else B*(3*(Z+1))+1
theorem Dq(sd:Int)(B Z:Nat):(zx sd B Z).length=gJ sd B Z:=by
 unfold zx gJ;rw[j6 (c:=if sd=1 then Z else B*(3*(Z+1))+1) λn=>?_,zaW];split
 .simp
 rw[zy,j6 (c:=3*(Z+1)) λm=>?_,zaW];rw[j6 (c:=Z+1) λo=>?_,zaW];rw[zy,zb,zaW]
theorem Gk{B Z:Nat}{l:List MB}(F:l.Nodup)(h:∀x∈l,Ik sd B Z x):l.length<=gJ sd B Z:=by
 rw[<-Dq];exact iG F λx hx=>(h x hx).all
theorem Jx.cap{B Z:Nat}{F:Nat->MB->Prop}{Ks:fS}{W:List (Nat×MB)}(I:Jx R rl F m Ks W)(hz:∀j x,F j x->Ik sd B Z x):(∀ks∈Ks,ks.length<=gJ sd B Z)/\(Ks.map List.length).sum<=R.length*gJ sd B Z:=by
 have h:∀ks∈Ks,ks.length<=gJ sd B Z:=λks J=>by
  let#[j,O,rfl]:=LJ.mp J;have e:Ks.getD j []=Ks[j]:=by rw[xW,zd O];rfl
  rw[<-e];exact Gk (I.nd j) λx hx=>hz _ _ (I.bd j x hx)
 exact#[h,by rw[<-I.len];exact zD h]
theorem Ii{s:Nat}(h:bq n s=false)(J:s<N)(F:n<2^N):n+2^s<2^N:=by
 have e:=tS n s;unfold kO at e;rw[Lu (by rw[h];decide)]at e;rw[<-e];exact Nat.or_lt_two_pow F (Nat.pow_lt_pow_right ∅ J)
theorem jD(J:DQ N r)(F:n<2^N):e_ r n<2^N:=by
 have hd:∀s,bZ n s<2^N:=λs=>by
  unfold bZ;split
  .exact Nat.lt_of_le_of_lt (Nat.sub_le _ _) F
  .exact F
 unfold e_;split
 .rename_i c;let#[_,O]:=J.s2 (by rw[c.1];decide);unfold kO;split
  .exact F
  .rename_i b;exact Ii (LU.mpr b) O F
 .split
  .exact hd _
  .exact F
theorem xo(s:Nat)(F:n<2^N):bZ n s<2^N:=by
 unfold bZ;split
 .exact Nat.lt_of_le_of_lt (Nat.sub_le _ _) F
 .exact F
theorem mQ{rl:Rl}(ok:dk rl):∀ {xs:MA} {k j:Nat},k<rl.rs.length->after rl k xs=Sm j->j<rl.rs.length
 | [],k,j,hk,h=>by cases h;exact hk
 | x::xs,k,j,hk,h=>by
  unfold after at h;cases e:step rl k x with
  | none=>rw[e]at h;cases h
  | some i=>rw[e]at h;exact mQ ok (lO ok hk e) h
theorem wm{N:Nat}{rl:Rl}{r:aE}(ok:dk rl)(U:DQ N r){J:List MB}(h:∀t∈J,Ik rl.s (2^N) rl.rs.length t):∀t∈fm rl r J,Ik rl.s (2^N) rl.rs.length t:=λt F=>by
 have n0:=ok.n0;unfold fm at F;split at F
 .rename_i c;let#[_,S]:=U.s2 (by rw[c];decide);have O:2^bT r 2<2^N:=Nat.pow_lt_pow_right ∅ S;unfold jq at F;split at F
  .rename_i h1;split at F
   .rename_i j e;rw[Lv.mp F];exact .h1 _ _ h1 O (lO ok () e)
   .cases F
  .rename_i h1;have h2:rl.s=2:=by rcases ok.s with z | z<;>lia
   rcases LH.mp F with z | z
   .rw[z];exact .one _ h2 O
   .let#[x,hx,hx2]:=LB.mp z;have:=h x hx;split at hx2
    .rename_i hl;cases this with
     | one n _ hn=>
      simp only[yg,yu,or_false]at hx2;rcases hx2 with rfl | rfl
      .exact .two _ _ _ h2 (xo _ hn) O ∅
      .exact .two _ _ _ h2 O (xo _ hn) ∅
     | _=>simp at hl
    .cases hx2
 .split at F
  .unfold li at F;let#[x,hx,rfl]:=LD.mp F;let#[hx,hx2]:=LN.mp hx;have:=h x hx;have hl:x.length=3:=by
    simp only[Ld,decide_eq_true_eq]at hx2;exact hx2.1.1
   cases this with
   | two n m o h2 a b c=>exact .tie _ _ _ _ h2 a b c ()
   | _=>simp at hl
  .cases F
theorem Gq{N:Nat}{rl:Rl}{r:aE}(ok:dk rl)(F:DQ N r){ts O:MB}(h:Ik rl.s (2^N) rl.rs.length ts)(e:ju rl r ts=Sm O):Ik rl.s (2^N) rl.rs.length O:=by
 unfold ju at e;split at e
 .cases e
 cases h with
 | h1 n k a b c=>
  let#[j,J,rfl]:=LI.mp e;exact .h1 _ _ a (jD F b) (mQ ok c J)
 | one n a b=>cases e;exact .one _ a (jD F b)
 | two n m o a b c d=>cases e;exact .two _ _ _ a (jD F b) (jD F c) d
 | tie n m o k a b c d f=>
  let#[j,J,rfl]:=LI.mp e;exact .tie _ _ _ _ a (jD F b) (jD F c) d (mQ ok f J)
theorem KL.zt(ok:dk rl)(F:DQ N r){k:MB}(h:Ik rl.s (2^N) rl.rs.length ts)(m:KL rl r ts k):Ik rl.s (2^N) rl.rs.length k:=by
 rcases m with z | z
 .exact wm ok F (λt J=>by rw[Lv.mp J];exact h) k z
 .exact Gq ok F h z
inductive Ie (R:List aE) (rl:Rl):Nat->MB->Prop
 | beg {i j:Nat} {r:aE} {t:MB}:R[i]?=Sm r->j∈gw i r->t∈fm rl r []->Ie R rl j t
 | mk {i j:Nat} {r:aE} {t k:MB}:Ie R rl i t->R[i]?=Sm r->j∈gw i r->KL rl r t k->Ie R rl j k
theorem Ie.zt{N:Nat}{R:List aE}{rl:Rl}(ok:dk rl)(F:∀(i:Nat) r,R[i]?=Sm r->DQ N r){j:Nat}{t:MB}(h:Ie R rl j t):Ik rl.s (2^N) rl.rs.length t:=by
 induction h with
 | beg e _ m=>exact wm ok (F _ _ e) (λt J=>by cases J) _ m
 | mk _ e _ m ih=>exact m.zt ok (F _ _ e) ih
theorem Jx.cme{R:List aE}{rl:Rl}{Ks:fS}(I:Jx R rl (Ie R rl) R.length Ks [])(j:Nat)(t:MB):t∈Ks.getD j [] ↔ Ie R rl j t:=by
 refine#[I.bd j t,λh=>?_]
 induction h with
 | beg e hj m=>exact I.beg _ _ (Lq.mp e).1 e _ hj _ m
 | mk _ e hj m ih=>
  rcases I.cl _ _ e _ ih with z | z
  .cases z
  .exact z _ hj _ m
def y4(H:Hp)(b:o_):MB:=match H b with
 | some (.tup vs)=>vs.map λv=>match v with
  | .int n=>n.toNat
  | _=>0
 | _=>[]
theorem mJ{b:o_}(h:dv H b ts):y4 H b=ts:=by
 unfold y4;rw[show H b=_ from h];show (ts.map iN).map _=ts;rw[td];exact List.map_id ts
theorem Ik.ne{B Z:Nat}(h:Ik sd B Z ts):ts≠[]:=by cases h<;>simp
def HS(H:Hp)(l:o_)(Ky:List MB):Prop:=∃(cs:MD) (ks:List MB),H l=Sm (.lst (cs.map V.ref))/\BN H cs ks/\ks.length<=60000/\∀x,x∈ks ↔ x∈Ky
theorem J0{O:List MB}{bs J:MD}{l:o_}(hl:H l=Nn)(hn:O.length<=60000)(Z:L8 (λ(p:List aP×V) b=>H b=Sm (.tup (p.1.map kV))) (iy O) bs)(W:J.Perm bs):HS (upd H l (.lst (J.map V.ref))) l O:=by
 have s1:=ak hl (.lst (J.map V.ref));have U:O.length=bs.length:=by have:=zaP Z;unfold iy at this;rw[zb]at this;exact this
 have at_:∀(j:Nat) b x,bs[j]?=Sm b->O[j]?=Sm x->dv H b x:=λj b x h1 h2=>by
  have:=iA Z (show (iy O)[j]?=Sm (ip x,V.bl true) by unfold iy;rw[zz,h2];rfl) h1;rw[vN]at this;exact this
 have mem:∀b∈bs,∃x∈O,dv H b x:=λb S=>by
  let#[j,Y,e]:=LJ.mp S;have F:j<O.length:=()
  exact#[O[j],gV F,at_ j b _ (by rw[zd Y,e]) (zd F)]
 refine yI2 J (J.map (y4 H)) #[ai,#[by rw[zb],λi c k h1 h2=>?_],by rw[zb,W.length_eq,<-U];exact hn,λx=>#[λhx=>?_,λhx=>?_]]
 .rw[zz,h1]at h2;cases h2;let#[x,_,hx]:=mem c (W.mem_iff.mp (xO h1));rw[mJ hx];exact s1 _ _ hx
 .let#[b,S,rfl]:=LD.mp hx;let#[y,hy,e]:=mem b (W.mem_iff.mp S);rw[mJ e];exact hy
 .let#[j,Y,rfl]:=LJ.mp hx;have F:j<bs.length:=()
  exact LD.mpr #[bs[j],W.mem_iff.mpr (gV F),mJ (at_ j _ _ (zd F) (zd Y))]
theorem HS.keep{l:o_}{J:List MB}(h:HS H l J)(W:∀a xs,H a=Sm (.tup xs)->H' a=Sm (.tup xs))(s2:H' l=H l):HS H' l J:=by
 revert h;refine yF2 λcs ks=>yB4 λU F S O=>?_;exact yI2 cs ks #[s2.trans U,#[F.1,λi c k h1 h2=>W _ _ (F.2 i c k h1 h2)],S,O]
def EL(R:List aE)(rl:Rl)(N:Nat):Prop:=KU N R/\N<=9000/\dk rl/\gJ rl.s (2^N) rl.rs.length<=60000/\R.length*gJ rl.s (2^N) rl.rs.length<=16000000/\R.length<=1000000
def oA:Sp:=λvs H Q _=>∃(c p:o_) (R:List aE) (rl:Rl) (N:Nat),vs=[.ref c,.ref p]/\Ce H c R/\Ct H p rl/\EL R rl N/\
 ∀(L:o_) (H':Hp) (ls:MD) (Ks:fS),su H H'->H L=Nn->H' L=Sm (.lst (ls.map V.ref))->ls.length=R.length->(∀j t,t∈Ks.getD j [] ↔ Ie R rl j t)->(∀(j:Nat) l,ls[j]?=Sm l->HS H' l (Ks.getD j []))->Q (.ref L) H'
theorem vX(i:Nat)(r:aE):(gw i r).length<=2:=by
 unfold gw;split
 .simp
 split
 .simp
 split<;>simp
theorem wH{O:Hp}{F S rb tk:o_}{J qs cs:MD}{Ks:fS}{U:List (Nat×MB)}{rows:MB}{toks:List MB}{Q':VK}(sm:su H O)(a3:∀fd∈J,H fd=Nn)(al:H S=Nn)(as:F≠S)(P:Dn O F J Ks)(w:O S=Sm (.lst (qs.map V.ref)))(L:Dg O qs U)(ad:∀ks∈Ks,ks.length<=60000)
  (e1:O rb=Sm (.lst (rows.map iN))) (e2:O tk=Sm (.lst (cs.map V.ref))) (hT:BN O cs toks) (hr:∀j∈rows,j<Ks.length) (ac:rows.length<=2) (ag:toks.length<=16) (hp:U.length+(lZ Ks rows toks).2.length<=16000000)
  (q:∀(W:Hp) (ab:MD),su H W->Dn W F J (lZ Ks rows toks).1->W S=Sm (.lst (ab.map V.ref))->Dg W ab (U++(lZ Ks rows toks).2)->Q' .non W):ve [.ref F,.ref rb,.ref tk] O (λx H4=>lH (.ref S) [x] H4 Q') E0:=by
 have Z:S∉J:=P.off w (λ_=>'~');refine yI8 F rb tk rows cs J toks Ks #[rfl,e1,e2,hT,P,hr,ac,ag,ad,λW' H4 a5 kx P4 Y e4 L4=>?_];have w4:=kx _ _ Z w;have a4:=L.keep λa xs e=>kx _ _ (P.off e (λ_=>'~')) e;have a6:S≠W':=λz=>by rw[<-z,w]at Y;cases Y
 refine yI4 S W' _ _ #[rfl,rfl,w4,e4,by rw[zb,zb,L.1,L4.1];exact mn hp ∅,q _ (qs++a5) (λa o e=>?_) (P4.else as Z) (by rw[ai,yb]) ((a4.app L4).keep λa xs e=>?_)]
 .have ha:a∉J:=λz=>by rw[a3 a z]at e;cases e
  rw[au (λz=>by rw[z,al]at e;cases e)];exact kx _ _ ha (sm _ _ e)
 .rw[au (λz=>by rw[z,w4]at e;cases e)];exact e
theorem DD(D:xn K mg "paper_of" a_) (a6:mg "range" = Nn) (bg:wAK mg) (al:mg "sorted" = Nn) (a5:aD P w K mg base 1 "put" qAq ve) (J:aD P w K mg base 1 "rows_behind" ["code","at"] Jd) (Y:aD P w K mg base 3 "begins_at" qAB tW) (ac:aD P w K mg base 6 "made_of" qAC A8):aD P w K mg base 7 "paper_of" qAh oA:=by
 refine D.cal (k:=6) DN (λf ei A outer s0 H vs Q E hr h=>?_);revert h;refine yF5 λc p R rl N=>yB5 ?_;rintro rfl hC hR ⟨ab,hN,ok,cn,ej,c4⟩ q;have a3:∀j x,Ie R rl j x->Ik rl.s (2^N) rl.rs.length x:=λj x h=>h.zt ok λi r e=>(ab.row i r e).1;refine⟨_,(ah (iF (CO.to (fsc:=(sg a_)) (N:=qAG) (N0:=qAG) (T:=["row"])) rfl DN.nd (i:=2) rfl QP (bF K (pv 0)) (λ_ _ _ _=>(aS 6 (show (["code","rule","found","waiting","at","place","row"]:MA).Nodup from ⋯))) (bW (show (qAG:MA).length<=6 from ∅)) (λ_ _ _ _=>cX) (λ_ _ _ _=>De))
   (ah (ay 3 DN.nd (aG ae))
   (ah (cg pD rfl (ef M2 a6 (aa (bx (ba K) bg bK (aa (pv 0) ae)) ae)) (aS 4 DN.nd) (aj (bm (bB K yY Lg K6 eJ (pv 3) (aa (aw a5 hr (aa (pv 2) (aa (aw J hr (aa (pv 0) (aa (pv 4) ae))) (aa (aw Y hr (aa (pv 0) (aa (pv 1) (aa (pv 4) (aa (aG ae) ae))))) ae)))) ae)))))
   (ah (uB pD (aA lx (bx (ba K) bg bK (aa (pv 3) ae)) af (aB _)) (ah (ay 5 DN.nd (oW K yY PySem.F.slot_list_pop PySem.F.type_list_pop xa (pv 3)))
   (ah (ay 4 DN.nd (am (ax K) (pv 5) af))
   (aj (bm (bB K yY Lg K6 eJ (pv 3) (aa (aw a5 hr (aa (pv 2) (aa (aw J hr (aa (pv 0) (aa (pv 4) ae))) (aa (aw ac hr (aa (pv 0) (aa (pv 1) (aa (pv 4) (aa (am (ax K) (pv 5) af) ae))))) ae)))) ae)))))))
   (aj (az (dn (CO.to (fsc:=(sg a_)) (N:=qAG) (N0:=qAG) (T:=["tokens"])) rfl (bF K (pv 2)) (λ_ _ _ _=>(aS 6 (show (["code","rule","found","waiting","at","place","tokens"]:MA).Nodup from ⋯))) (bW (show (qAG:MA).length<=6 from ∅)) (λ_ _ _ _=>cX) (λ_ _ _ _=>(bx (zn K hr) al ji (aa (pv 6) ae)))))))))),?_⟩
 let#[as,a1,a2]:=id hC;have hl:=aK a2;cbv;refine#[#[_,ud.of a1],λF hF=>?_];refine er (xs:=as.map V.ref) (λi ys H'=>su H H'/\∃O:MD,ys=O.map V.ref/\H' F=Sm (.lst (O.map V.ref))/\O.length=i/\O.Nodup/\∀fd∈O,H fd=Nn/\H' fd=Sm (.dT [])) #[ak hF _,[],rfl,ai,rfl,JW,λ_ z=>nomatch z] (λi ys H' _ hh=>ud.of (hh.1 _ _ a1)) ?_ ?_
 .intro i ys H' v hv hi;refine yB2 λsm=>yF1 λO=>yB5 ?_;rintro rfl eF ad b0 bc;cbv;intro d hd;have s1:=ak hd (.dT []);have d2:d≠F:=λz=>by rw[z,eF]at hd;cases hd
  refine fD hi (by rw[zb];exact ad) (by rw[zb,hl];exact aH c4) (s1 _ _ eF) #[(sm.trans s1).upd hF _,O++[d],'~',by rw[ai];simp,by simp[ad],?_,λfd hf=>?_]
  .rw[JT];exact#[b0,'~',λa ha b hb z=>by rw[Lv.mp hb]at z;have:=(bc a ha).2;rw[z,hd]at this;cases this]
  .rcases LG.mp hf with z | z
   .let#[z1,z2]:=bc fd z;refine#[z1,?_];rw[au (λy=>by rw[y,eF]at z2;cases z2)];exact s1 _ _ z2
   .rw[Lv.mp z];exact#[sm.free hd,by rw[au d2];exact ai]
 intro ys H1;refine yB2 λs1=>yF1 λO=>yB5 ?_;rintro rfl eF ad b0 bc;rw[zb,hl]at ad;rw?;refine#[∅,λU ag=>?_];have s2:=ak ag (.lst []);have e2:upd H1 U (.lst []) U=Sm (.lst (([]:MD).map V.ref)):=ai;have cq:H U=Nn:=s1.free ag;have cd:F≠U:=λz=>by rw[<-z,eF]at ag;cases ag
 have P0:Dn (upd H1 U (.lst [])) F O (List.replicate R.length []):=⟨s2 _ _ eF,by rw[ad,zbd],b0,λj fd ks h1 h2=>by
  have hk:ks=[]:=List.eq_of_mem_replicate (xO h2);rw[hk];exact s2 _ _ (bc fd (xO h1)).2⟩
 have ca:∀j,(List.replicate R.length ([]:List MB)).getD j []=[]:=λj=>by
  rw[xW,zbc];split<;>rfl
 have I0:Jx R rl (Ie R rl) 0 (List.replicate R.length []) []:=#[zbd,λj=>(by rw[ca];exact JW),λj x hx=>(by rw[ca]at hx;cases hx),λi r hi=>(),λi r _ x hx=>(by rw[ca]at hx;cases hx),λ_ z=>(yu z).elim,mw _];have b3:=s1.trans s2;generalize upd H1 U (.lst [])=H2 at s2 e2 P0 b3 |-;have bt:∀fd∈O,H fd=Nn:=λfd h=>(bc fd h).1
 rw?;refine#[_,.inl (ud.of (b3 _ _ a1)),?_];rw[zb,hl];refine#[(),(),?_];rw[uv];refine fC (λi σ H'=>∃(Ks:fS) (W:List (Nat×MB)) (qs:MD) (o4:MK),σ=[Sm (.ref c),Sm (.ref p),Sm (.ref F),Sm (.ref U),o4,Nn]/\su H H'/\Dn H' F O Ks/\H' U=Sm (.lst (qs.map V.ref))/\Dg H' qs W/\Jx R rl (Ie R rl) i Ks W)
  (yI4 _ ([]) ([]) _ #[rfl,b3,P0,e2,Dg.nil _,I0]) ?_ ?_
 .intro i σ H3 hi;refine yF4 λKs W qs o4=>yB6 ?_;rintro rfl s3 P3 w3 L3 I3;have S:=zd hi;have be:=(ab.row i _ S).1;have a7:=ab.nx S;let#[da,eb]:=I3.cap a3;rw[zaZ];cbv;refine#[#[_,ud.of w3],?_];refine yI5 c R i N _ #[rfl,hC.mono s3,ab,S,λrb H4 s4 d6 b2=>#[∅,λx hx=>?_]];∎;rename_i H5 s5 e5;have e5:H5 x=Sm (.lst (([]:MD).map V.ref)):=e5;have dP:=s3.trans (s4.trans s5);refine yI10 c p x R rl _ i N ([]) ([]) #[rfl,hC.mono dP,S,be,hN,hR.mono dP,ok,e5,BN.nil _,'~',λtk H6 cs cA s6 d7 cz hT ec hm _=>?_];have Z:=s4.trans (s5.trans s6);let#[I',c3]:=I3.step (m':=i+1) (V:=W) (toks:=cA) S a7 (λj hj t ht=>.beg S hj ((hm t).mp ht)) (λa ha=>by
   rcases iu a i with z | z
   .exact .inl z
   .exact .inr ⟨(),λt z=>(hm t).mpr z⟩) (λ_ z=>z) (zg _) (λa x z=>.inl z)
  have d1:=(I'.cap a3).2;have cb:=I'.sum;rw[zq]at cb;exact wH (s3.trans Z) bt cq cd (P3.keep Z) (Z _ _ w3) (L3.keep λa xs e=>Z _ _ e) (λks hk=>mn (da ks hk) cn) ((s5.trans s6) _ _ b2) cz hT (λj hj=>by rw[I3.len];exact a7 j hj) (vX _ _) () () λH7 cB s7 P7 w7 L7=>yI4 _ _ cB _ #[rfl,s7,P7,w7,L7,I']
 intro σ H3;refine yF4 λKs W qs o4=>yB6 ?_;rintro rfl s3 P3 w3 L3 I3;rw?;refine#[λm σ H'=>∃(Ks:fS) (W:List (Nat×MB)) (qs:MD) (o4 o5:MK),σ=[Sm (.ref c),Sm (.ref p),Sm (.ref F),Sm (.ref U),o4,o5]/\su H H'/\Dn H' F O Ks/\H' U=Sm (.lst (qs.map V.ref))/\Dg H' qs W/\Jx R rl (Ie R rl) R.length Ks W/\m=2*(R.length*gJ rl.s (2^N) rl.rs.length-(Ks.map List.length).sum)+W.length,yI6 _ Ks W qs o4 Nn #[rfl,s3,P3,w3,L3,I3,rfl],?_];clear I3 L3 w3 P3 s3;intro m σ H3;refine yF5 λKs W qs o4 o5=>yB7 ?_;rintro rfl s3 P3 w3 L3 I3 d9;have a9:=I3.cap a3;cbv;refine#[_,.inl (ud.of w3),?_];rw[zb];refine aT (λc1=>?_) (λc1=>?_)
 .have a8:qs≠[]:=λz=>by rw[z]at c1;simp at c1
  have bh:W≠[]:=λz=>a8 (zaT (by rw[L3.1,z];rfl));obtain⟨qs,q0,rfl⟩ : ∃gs x,qs=gs++[x]:=yI2 qs.dropLast (qs.getLast a8) ((za9 a8).symm);obtain⟨W,pl,rfl⟩ : ∃gs x,W=gs++[x]:=yI2 W.dropLast (W.getLast bh) ((za9 bh).symm);have dc:qs.length=W.length:=by have:=L3.1;simpa using this
  let#[t,t1,t2]:=L3.2 qs.length q0 pl '~' (by rw[dc];simp);let#[d5,dV]:=I3.wok pl (oo _ (Lv.mpr rfl));have S:=zd d5;have be:=(ab.row _ _ S).1;have a7:=ab.nx S;refine#[λσ' H'=>∃m',m'<m/\∃(Ks:fS) (W:List (Nat×MB)) (qs:MD) (o4 o5:MK),σ'=[Sm (.ref c),Sm (.ref p),Sm (.ref F),Sm (.ref U),o4,o5]/\su H H'/\Dn H' F O Ks/\H' U=Sm (.lst (qs.map V.ref))/\Dg H' qs W/\Jx R rl (Ie R rl) R.length Ks W/\m'=2*(R.length*gJ rl.s (2^N) rl.rs.length-(Ks.map List.length).sum)+W.length,λσ' H' z=>z,?_];refine#[#[_,ud.of w3],yI2 _ (.ref q0) #[w3,'~',?_]];rw[show ((qs++[q0]).map V.ref).dropLast=qs.map V.ref from '~'];have ea:U∉O:=P3.off w3 (λ_=>'~');have w4:upd H3 U (.lst (qs.map V.ref)) U=Sm (.lst (qs.map V.ref)):=ai;have s4:=s3.upd cq (.lst (qs.map V.ref));have P4:Dn (upd H3 U (.lst (qs.map V.ref))) F O Ks:=P3.else cd ea;have kt:∀a xs,H3 a=Sm (.tup xs)->upd H3 U (.lst (qs.map V.ref)) a=Sm (.tup xs):=λa xs e=>by rw[au (λz=>by rw[z,w3]at e;cases e)];exact e
  have L4:Dg (upd H3 U (.lst (qs.map V.ref))) qs W:=#[dc,λi q pl h1 h2=>(L3.keep kt).2 i q pl (by rw[xr (Lq.mp h1).1];exact h1) (by rw[xr (Lq.mp h2).1];exact h2)];have t3:=kt _ _ t1;have t4:dv (upd H3 U (.lst (qs.map V.ref))) t pl.2:=kt _ _ t2;generalize upd H3 U (.lst (qs.map V.ref))=H4 at w4 s4 P4 L4 t3 t4 |-;rw?;refine X1 (uc.of t3) rfl ?_
  rw?;refine#[#[_,ud.of w4],?_];refine yI5 c R pl.1 N _ #[rfl,hC.mono s4,ab,S,λrb H5 s5 d6 b2=>?_];have dm:=s4.trans s5;refine X1 (uc.of (s5 _ _ t3)) rfl ?_;refine yI9 c p t R rl _ pl.1 N pl.2 #[rfl,hC.mono dm,S,hR.mono dm,ok,(a3 _ _ dV).tka,be,hN,s5 _ _ t4,λtk H6 cs cA s6 d7 cz hT c2 hm=>?_];have Z:=s5.trans s6;let#[I',c3]:=I3.step (m':=R.length) (V:=W) (toks:=cA) S a7 (λj hj t ht=>.mk dV S hj ((hm t).mp ht)) (λa ha=>.inl ha) (λ_ z=>IV _ z) '~' (λa x z=>by
   rcases LG.mp z with z | z
   .exact .inl z
   .cases Lv.mp z;exact .inr ⟨rfl,λt z=>(hm t).mpr z⟩)
  have d1:=(I'.cap a3).2;have cb:=I'.sum;rw[zq]at cb;refine wH (s4.trans Z) bt cq cd (P4.keep Z) (Z _ _ w4) (L4.keep λa xs e=>Z _ _ e) (λks hk=>mn (a9.1 ks hk) cn) (s6 _ _ b2) cz hT (λj hj=>by rw[I3.len];exact a7 j hj) (vX _ _) c2 () λH7 cB s7 P7 w7 L7=>#[_,?_,yI5 _ _ cB _ _ #[rfl,s7,P7,w7,L7,I',rfl]];rw[d9,zq,zq,zy,yz];have:=a9.2;lia
 .have a8:qs=[]:=zaT ();have bh:W=[]:=zaT (by rw[<-L3.1,a8];rfl);subst bh;have c9:=I3.cme
  .rw?;refine#[#[_,ud.of P3.1],λD1 cc=>?_];have d4:H D1=Nn:=s3.free cc;refine er (xs:=O.map V.ref) (λi ys H'=>su H3 H'/\∃ls:MD,ys=ls.map V.ref/\H' D1=Sm (.lst (ls.map V.ref))/\ls.length=i/\∀(j:Nat) l,ls[j]?=Sm l->l≠D1/\HS H' l (Ks.getD j [])) #[ak cc _,[],rfl,ai,rfl,λj l h=>by simp at h] (λi ys H' _ hh=>ud.of (hh.1 _ _ P3.1)) ?_ ?_
   .intro i ys H4 v hv hi;refine yB2 λs4=>yF1 λls=>yB4 ?_;rintro rfl eD a4 b1;have ce:i<O.length:=by simpa using hi
    rw[zz,zd ce]at hv;cases hv;have cv:i<Ks.length:=by rw[<-P3.2.1];exact ce
    have hd:=s4 _ _ (P3.2.2.2 i _ _ (zd ce) (zd cv));have eg:Ks.getD i []=Ks[i]:=by rw[xW,zd cv];rfl
    have dt:=mn (a9.1 _ (gV cv)) cn;cbv;refine yI2 _ _ #[rfl,hd,λx hx=>?_,by unfold iy;rw[zb];exact dt,λl bs c5 bp hb hp=>?_]
    .let#[t,ed,rfl]:=LD.mp hx;have d8:=(a3 i t ((c9 i t).mp (by rw[eg];assumption))).ne;exact#[λz=>d8 (by unfold ip at z;exact List.map_eq_nil_iff.mp z),t.map Int.ofNat,by unfold ip;rw[td];rfl]
    have rt:=J0 bp dt hb hp;have s5:=ak bp (.lst (c5.map V.ref));have dl:l≠D1:=λz=>by rw[z,eD]at bp;cases bp
    have e5:=s5 _ _ eD;generalize upd H4 l (.lst (c5.map V.ref))=H5 at rt s5 e5 |-;have kt:∀a xs,H5 a=Sm (.tup xs)->upd H5 D1 (.lst (ls.map V.ref++[V.ref l])) a=Sm (.tup xs):=λa xs e=>by rw[au (λz=>by rw[z,e5]at e;cases e)];exact e
    refine fD hi (by rw[zb];exact a4) (by rw[zb,ad];exact aH c4) e5 #[(s4.trans s5).upd cc _,ls++[l],'~',by rw[ai];simp,by simp[a4],λj l' h'=>?_];rcases iu j ls.length with z | z
    .rw[xr z]at h';let#[n1,rk]:=b1 j l' h';refine#[n1,rk.keep (λa xs e=>kt a xs (s5 _ _ e)) ?_];revert rk;refine yF2 λ_ _=>yB2 λe1 _=>?_;rw[au n1,e1];exact s5 _ _ e1
    .rw[uu z]at h';have d3:j-ls.length=0:=by have:=(Lq.mp h').1;simp at this;lia
     rw[d3]at h';cases h';rw[show j=i from (),eg];exact#[dl,rt.keep kt (au dl)]
   .intro ys H4;refine yB2 λs4=>yF1 λls=>yB4 ?_;rintro rfl eD a4 b1;rw[zb,ad]at a4;exact q D1 H4 ls Ks (s3.trans s4) d4 eD a4 c9 λj l h=>(b1 j l h).2
def dU(rl:Rl)(r:aE):Option MB->Nat×MH
 | none=>if cK r = "open" /\ rl.s=1 then (0,step rl 0 "open") else (0,Sm 0)
 | some ts=>if ts.length=2\/ts.length=4 then (ts.getLastD 0,after rl (ts.getLastD 0) (fV r ts)) else (0,Sm 0)
def mB:Sp:=λvs H Q _=>∃(c p:o_) (R:List aE) (rl:Rl) (r:aE) (i N:Nat) (v:V) (o:Option MB),vs=[.ref c,.ref p,.int (i:Int),v]/\Ce H c R/\R[i]?=Sm r/\Ct H p rl/\dk rl/\(∀ts,o=Sm ts->gN rl.s rl.rs.length ts)/\DQ N r/\Cc H v o/\
 ∀(u:o_) (H':Hp),su H H'->H' u=Sm (.tup [.int ((dU rl r o).1:Nat),b7 (dU rl r o).2])->Q (.ref u) H'
theorem An(D:xn K mg "rooms_at" cG) (J:aD P w K mg base 1 "next_room" qAe nj) (O:aD P w K mg base 1 "has_room" ["token"] yP) (F:aD P w K mg base 4 "room_behind" qAf jy):aD P w K mg base 5 "rooms_at" qAC mB:=by
 refine D.cal (k:=4) Hm (λf a5 A outer s0 H vs Q E hr h=>?_);revert h;refine yF9 λc p R rl r i N v o=>yB9 ?_;rintro rfl hL ad hR ok a3 hk hv q;refine⟨_,(ah (ay 4 Hm.nd (am (ax K) (pv 0) (pv 2)))
   (ah (aY (PW.pt' (cr (aA fL (pv 3) dw (aB _)) (cr (aA aL (am (ax K) (pv 4) af) av (aB _)) (cM (aA aL (am (ax K) (pv 1) af) af (aB _)))))) (aj (az (aR (aa af (aa (aw J hr (aa (pv 1) (aa af (aa av ae)))) ae))))) aN)
   (ah (aY (PW.pt' (nD (aA fL (pv 3) dw (aB _)) (kT (jC (cN (aw O hr (aa (pv 3) ae))))))) (aj (az (aR (aa af (aa af ae))))) aN)
   (aj (az (aR (aa (am (ax K) (pv 3) (eh dN af)) (aa (aw F hr (aa (pv 1) (aa (pv 4) (aa (pv 3) ae)))) ae)))))))),?_⟩
 refine yE2 (iO hL ad) λas b=>yB4 λa1 al ab hb=>?_;have ag:cJ (as.map V.ref) (i:Int)=Sm (.ref b):=aq (by rw[zz,ab];rfl);refine yE3 (id hR) λpw pr bs=>yB3 λr1 r2 r3=>?_;have a4:=ok.n0;cbv;refine X2 (ud.of a1) ag ?_;rw?;cases o with
 | none=>
  have hv:v = .non:=hv;subst hv;rw[Lz rfl];refine X1 (uc.of hb) (aq (j:=0) hk.hd) ?_;cbv;refine aT (λc1=>?_) (λc1=>?_)
  .refine X1 (uc.of r1) rfl ?_;cbv;refine aT (λc2=>?_) (λc2=>?_)
   .refine yI4 p rl 0 ("open") #[rfl,hR,ok,(),∅,λu W=>?_];refine q u _ (ak W _) ?_;rw[show dU rl r Nn=(0,step rl 0 "open") from Lz #[c1,c2]];exact ai
   .rw?;refine#[∅,λu W=>q u _ (ak W _) ?_];rw[show dU rl r Nn=(0,Sm 0) from Lu λz=>c2 z.2];exact ai
  .rw?;refine#[∅,λu W=>q u _ (ak W _) ?_];rw[show dU rl r Nn=(0,Sm 0) from Lu λz=>c1 z.1];exact ai
 | some ts=>
  let#[t,rfl,ht]:=hv;have ac:=a3 ts rfl;rw[Lu '~'];rw?;rw[Lu '~'];refine yI2 t ts #[rfl,ht,λH1 Z=>#[_,rfl,?_]];have plain:∀ {k:Nat},ku ts k->k<rl.rs.length->om (lf (xy (cP (gj (iU K) (cZ 3) (D9 (rU λi=>V.int (-i)) (tC (V.int 1)))) (cP (je jy [] E0 (cP (cZ 1) (cP (cZ 4) (cP (cZ 3) ix)))) ix)))) {nx:=λx H'=>Q V.non H',rt:=Q} [Sm (.ref c),Sm (.ref p),Sm (.int (i:Int)),Sm (.ref t),Sm (.ref b)] H1:=λ{k} Y U=>by
   rw?;refine X1 (uc.of (Z _ _ ht)) (by cases Y<;>rfl:cJ (ts.map iN) (-1)=Sm (.int (k:Int))) ?_;refine yI8 p b t rl r ts k N #[rfl,hR.mono Z,ok,U,Z _ _ hb,hk,Z _ _ ht,Y,λH2 s2=>#[∅,λu W=>?_]];refine q u _ ((Z.trans s2).trans (ak W _)) ?_;have e:dU rl r (Sm ts)=(k,after rl k (fV r ts)):=by
    cases Y
    .rfl
    .rfl
   rw[e];exact ai
  have S:(ts.length=2\/ts.length=4->False)->2<=L9/\∀(p:o_),H1 p=Nn->Q (V.ref p) (upd H1 p (HO.tup [V.int 0,V.int 0])):=λhz=>by
   refine#[∅,λu W=>q u _ (Z.trans (ak W _)) ?_];rw[show dU rl r (Sm ts)=(0,Sm 0) from Lu hz];exact ai
  cases ac with
  | h1 n k _ U=>rw[Lu '~'];exact plain (.h1 n k) U
  | one n _=>rw[Lz '~'];exact S '~'
  | two n m o _=>rw[Lz '~'];exact S '~'
  | tie n m o k _ U=>rw[Lu '~'];exact plain (.tie n m o k) U
def fB(x:Nat×MH):Bool:=x.2.isNone
def fM(x:Nat×MH):Bool:=decide (Sm x.1≠x.2)
theorem F4(o:MH):decide (b7 o=V.non)=o.isNone:=by cases o<;>simp[b7]
theorem oH{o:MH}{k:Nat}(h:Q (.bl (fB (k,o))) H):xA (b7 o) .non H Q:=by
 have h':Q (.bl o.isNone) H:=h;rw[<-F4]at h';exact#[rfl,h']
theorem F8(o:MH)(k:Nat):decide (b7 o=V.int (k:Int))=decide (Sm k=o):=by cases o<;>simp[b7]<;>lia
theorem tu{o:MH}{k:Nat}(h:Q (.bl (fM (k,o))) H):yq (.int (k:Int)) (b7 o) H Q/\yq (b7 o) (.int (k:Int)) H Q:=by
 have F:(!decide (b7 o=V.int (k:Int)))=fM (k,o):=by rw[F8];simp[fM]
 have J:(!decide (V.int (k:Int)=b7 o))=fM (k,o):=by rw[<-F,decide_eq_decide.mpr eq_comm]
 cases o<;>exact#[#[rfl,by rw[J];exact h],rfl,by rw[F];exact h]
def nI(f:Nat×MH->Bool):Sp:=λvs H Q _=>∃(c p:o_) (R:List aE) (rl:Rl) (r:aE) (i N:Nat) (v:V) (o:Option MB),vs=[.ref c,.ref p,.int (i:Int),v]/\Ce H c R/\R[i]?=Sm r/\Ct H p rl/\dk rl/\(∀ts,o=Sm ts->gN rl.s rl.rs.length ts)/\DQ N r/\Cc H v o/\∀H':Hp,su H H'->Q (.bl (f (dU rl r o))) H'
theorem FT(D:xn K mg "breaks_at" dB) (F:aD P w K mg base 5 "rooms_at" qAC mB):aD P w K mg base 6 "breaks_at" qAC (nI fB):=by
 refine D.cal (k:=5) rP (λf Z A outer s0 H vs Q E S h=>?_);revert h;refine yF9 λc p R rl r i N v o=>yB9 ?_;rintro rfl W O Y ok J hk hv q;refine#[_,(aj (az (db fL (am (ax K) (aw F S (aa (pv 0) (aa (pv 1) (aa (pv 2) (aa (pv 3) ae))))) af) dw (aB _)))),?_];cbv;refine yI9 c p R rl r i N v o #[rfl,W,O,Y,ok,J,hk,hv,λu H1 s1 U=>?_];exact X1 (uc.of U) rfl ((oH (q H1 s1)).2)
theorem HZ(D:xn K mg "moves_at" di) (F:aD P w K mg base 5 "rooms_at" qAC mB):aD P w K mg base 6 "moves_at" qAC (nI fM):=by
 refine D.cal (k:=5) Hn (λf Z A outer s0 H vs Q E U h=>?_);revert h;refine yF9 λc p R rl r i N v o=>yB9 ?_;rintro rfl W O Y ok J hk hv q;refine⟨_,(ah (ay 4 Hn.nd (aw F U (aa (pv 0) (aa (pv 1) (aa (pv 2) (aa (pv 3) ae))))))
   (aj (az (db iY (am (ax K) (pv 4) af) (am (ax K) (pv 4) af) (aB _))))),?_⟩
 cbv;refine yI9 c p R rl r i N v o #[rfl,W,O,Y,ok,J,hk,hv,λu H1 s1 S=>?_];rw?;exact X1 (uc.of S) rfl (X1 (uc.of S) rfl ((tu (q H1 s1)).1))
def iP(g:Option MB->Bool)(tss:List MB):Bool:=((tss.map Sm++[Nn]).map g).any id
def nn(f:Nat×MH->Bool):Sp:=λvs H Q _=>∃(c p L:o_) (R:List aE) (rl:Rl) (r:aE) (i N:Nat) (bs:MD) (tss:List MB),vs=[.ref c,.ref p,.int (i:Int),.ref L]/\Ce H c R/\R[i]?=Sm r/\Ct H p rl/\dk rl/\DQ N r/\H L=Sm (.lst (bs.map V.ref))/\BN H bs tss/\(∀ts∈tss,gN rl.s rl.rs.length ts)/\tss.length<=60000/\∀H':Hp,su H H'->Q (.bl (iP (λo=>f (dU rl r o)) tss)) H'
theorem uX{f:Nat×MH->Bool}{vs:MC}{E:XK}(h:nn f vs H Q E):lf (tZ (zr K) (cP (rg (nu K (gj ni (cZ 3) (DT (cP (tC .non) ix)))) (gK 4) j3 (je (nI f) [] E0 (cP (cZ 0) (cP (cZ 1) (cP (cZ 2) (cP (cZ 4) ix))))) 1) ix)) {nx:=λ_ H'=>Q .non H',rt:=Q} (L2.start qAB vs) H:=by
 revert h;refine yF10 λc p L R rl r i N bs J=>yB11 ?_;rintro rfl hL ad hR ok hk ag hT ac hn q;have F:=hT.1;cbv;refine#[∅,λx hx=>?_];∎;rename_i H1 s1 e1;refine yI2 _ _ #[s1 _ _ ag,e1,by rw[zb];exact aH (by simp;lia),λz hz=>?_];∎;rename_i H2 s2 e2;have U:=s1.trans s2;cbv;refine#[#[_,ud.of e2],λD1 S=>?_];refine er (xs:=bs.map V.ref++[V.non]) (λj ys H'=>su H2 H'/\H' D1=Sm (.lst ys)/\ys=(((J.map Sm++[Nn]).map λo=>f (dU rl r o)).take j).map V.bl) #[ak S _,ai,rfl] (λj ys H' _ hh=>ud.of (hh.1 _ _ e2)) ?_ ?_
 .rintro j ys H3 v hv hj ⟨s3,Y,rfl⟩;have O:=U.trans s3;have a4:j<J.length+1:=by simpa [F] using hj
  have ho:∃o,(J.map Sm++[Nn])[j]?=Sm o/\Cc H3 v o/\∀ts,o=Sm ts->gN rl.s rl.rs.length ts:=by
   rcases iu j bs.length with z | z
   .rw[xr (by simpa using z),zz,zd z]at hv;cases hv;have W:j<J.length:=()
    refine#[Sm J[j],by rw[xr (by simpa using W),zz,zd W];rfl,#[_,rfl,O _ _ (hT.2 j _ _ (zd z) (zd W))],λts e=>?_];cases e;exact ac _ (gV W)
   .have a3:j=bs.length:=()
    subst a3;have Z:v=V.non:=by rw[uu '~']at hv;simpa using hv.symm
    exact#[Nn,by rw[uu (by simp[F])];simp[F],Z,λts e=>by cases e]
  revert ho;refine yF1 λo=>yB3 λab as al=>?_;cbv;refine yI9 c p R rl r i N v o #[rfl,hL.mono O,ad,hR.mono O,ok,al,hk,as,λH4 s4=>?_];refine fD hj (by simp[F];lia) (by simp[F];exact aH ()) (s4 _ _ Y) #[(s3.trans s4).upd S _,ai,?_];rw[sR,zz,ab];exact(yb (f:=V.bl) (l₂:=[f (dU rl r o)])).symm
 .rintro ys H3 ⟨s3,Y,rfl⟩;rw[IH (by simp[F])]at Y;cbv;exact#[_,ud.of Y,q H3 (U.trans s3)]
theorem Gd(D:xn K mg "any_breaks" bX) (J:mg "any" = Nn) (F:aD P w K mg base 6 "breaks_at" qAC (nI fB)):aD P w K mg base 7 "any_breaks" qAB (nn fB):=
 D.cal (k:=6) qL (λf S A outer W H vs Q E O h=>#[_,(aj (az (bx (qe K) J AF (aa (dn (CO.to (fsc:=(sg bX)) (N:=qAB) (N0:=qAB) (T:=["token"])) rfl (bF K (ar aF (pv 3) (aG (aa dw ae)))) (λ_ _ _ _=>(aS 4 (show (qAr:MA).Nodup from ⋯))) (bW (show (qAB:MA).length<=4 from ∅)) (λ_ _ _ _=>cX) (λ_ _ _ _=>(aw F O (aa (pv 0 (hv:=(bR (sg bX) ⋯))) (aa (pv 1 (hv:=(bR (sg bX) ⋯))) (aa (pv 2 (hv:=(bR (sg bX) ⋯))) (aa (pv 4) ae))))))) ae)))),uX h])
theorem E4(D:xn K mg "any_moves" ck) (J:mg "any" = Nn) (F:aD P w K mg base 6 "moves_at" qAC (nI fM)):aD P w K mg base 7 "any_moves" qAB (nn fM):=
 D.cal (k:=6) uW (λf U A outer W H vs Q E S h=>#[_,(aj (az (bx (qe K) J AF (aa (dn (CO.to (fsc:=(sg ck)) (N:=qAB) (N0:=qAB) (T:=["token"])) rfl (bF K (ar aF (pv 3) (aG (aa dw ae)))) (λ_ _ _ _=>(aS 4 (show (qAr:MA).Nodup from ⋯))) (bW (show (qAB:MA).length<=4 from ∅)) (λ_ _ _ _=>cX) (λ_ _ _ _=>(aw F S (aa (pv 0 (hv:=(bR (sg ck) ⋯))) (aa (pv 1 (hv:=(bR (sg ck) ⋯))) (aa (pv 2 (hv:=(bR (sg ck) ⋯))) (aa (pv 4) ae))))))) ae)))),uX h])
def nM(rl:Rl)(r:aE)(tss:List MB):Str:=if iP (λo=>fB (dU rl r o)) tss=true then "look" else if cK r ≠ "end" /\ iP (λo=>fM (dU rl r o)) tss=true then "step" else "none"
def As:Sp:=λvs H Q _=>∃(c p L:o_) (R:List aE) (rl:Rl) (r:aE) (i N:Nat) (bs:MD) (tss:List MB),vs=[.ref c,.ref p,.int (i:Int),.ref L]/\Ce H c R/\R[i]?=Sm r/\Ct H p rl/\dk rl/\DQ N r/\H L=Sm (.lst (bs.map V.ref))/\BN H bs tss/\(∀ts∈tss,gN rl.s rl.rs.length ts)/\tss.length<=60000/\∀H':Hp,su H H'->Q (.str (nM rl r tss)) H'
theorem Gc(D:xn K mg "mark_of" dO) (F:aD P w K mg base 7 "any_breaks" qAB (nn fB)) (J:aD P w K mg base 7 "any_moves" qAB (nn fM)):aD P w K mg base 8 "mark_of" qAB As:=by
 refine D.cal (k:=7) yD (λf ag A outer s0 H vs Q E hr h=>?_);revert h;refine yF10 λc p L R rl r i N bs U=>yB11 ?_;rintro rfl Z S hR ok hk Y hT W hn q;refine⟨_,(ah (aY (cN (aw F hr (aa (pv 0) (aa (pv 1) (aa (pv 2) (aa (pv 3) ae)))))) (aj (az av)) aN)
   (ah (aY (PW.pt' (cr (aA iY (am (ax K) (am (ax K) (pv 0) (pv 2)) af) av (aB _)) (cM (cN (aw J hr (aa (pv 0) (aa (pv 1) (aa (pv 2) (aa (pv 3) ae))))))))) (aj (az av)) aN)
   (aj (az av)))),?_⟩
 unfold nM at q;cbv;refine yI10 c p L R rl r i N bs U #[rfl,Z,S,hR,ok,hk,Y,hT,W,hn,λH1 O=>#[_,rfl,aT (λc1=>?_) (λc1=>?_)]]
 .rw[Lz c1]at q;exact q H1 O
 rw[Lu c1]at q;refine yE2 (iO Z S) λas b=>yB4 λa1 al ab hb=>?_;have ad:cJ (as.map V.ref) (i:Int)=Sm (.ref b):=aq (by rw[zz,ab];rfl);rw?;refine X2 (ud.of (O _ _ a1)) ad (X1 (uc.of (O _ _ hb)) (aq (j:=0) hk.hd) ?_);cbv;refine aT (λc2=>?_) (λc2=>?_)
 .have ac:cK r ≠ "end" := by simpa using c2
  refine yI10 c p L R rl r i N bs U #[rfl,Z.mono O,S,hR.mono O,ok,hk,O _ _ Y,hT.same O,W,hn,λH2 s2=>#[_,rfl,aT (λc3=>?_) (λc3=>?_)]]
  .rw[Lz #[ac,c3]]at q;exact q H2 (O.trans s2)
  .rw[Lu (λz=>c3 z.2)]at q;rw?;exact q H2 (O.trans s2)
 .rw[Lu (λz=>c2 (by simpa using z.1))]at q;rw?;exact q H1 O
theorem sY{g:Option MB->Bool}{a b:List MB}(h:∀t,t∈a ↔ t∈b):iP g a=iP g b:=by
 unfold iP;rw[KJ];simp[h]
theorem Fh{a b:List MB}(h:∀t,t∈a ↔ t∈b):nM rl r a=nM rl r b:=by
 unfold nM;rw[sY h,sY h]
def Jp(R:List aE)(rl:Rl)(i:Nat)(ms:MA):Prop:=ms.length=i/\∀(j:Nat) r,j<i->R[j]?=Sm r->∃tss,(∀t,t∈tss ↔ Ie R rl j t)/\ms[j]?=Sm (nM rl r tss)
theorem Jp.uniq{a b:MA}(h1:Jp R rl R.length a)(h2:Jp R rl R.length b):a=b:=by
 refine List.ext_getElem (h1.1.trans h2.1.symm) λj S U=>?_;have F:j<R.length:=by rw[<-h1.1];exact S
 let#[x,W,J]:=h1.2 j _ F (zd F);let#[y,Y,O]:=h2.2 j _ F (zd F);rw[zd S]at J;rw[zd U]at O;rw[Option.some.inj J,Option.some.inj O,Fh λt=>(W t).trans (Y t).symm]
theorem Jp.push{F:MA}{ks:List MB}(h:Jp R rl i F)(S:R[i]?=Sm r)(Y:∀t,t∈ks ↔ Ie R rl i t):Jp R rl (i+1) (F++[nM rl r ks]):=by
 let#[rfl,h]:=h;refine#['~',λj W hj e=>?_];rcases iu j F.length with z | z
 .let#[O,Z,U]:=h j W z e;exact#[O,Z,by rw[xr z];exact U]
 .have J:j=F.length:=()
  subst J;rw[S]at e;cases e;exact#[ks,Y,'~']
def oZ(ms:MA):MA:=if ("look" : Str)∈ms then ms else ms.map λ_=> "none"
theorem we{ks:List MB}(ok:dk rl)(F:KU N R)(h:∀t,t∈ks ↔ Ie R rl j t):∀t∈ks,gN rl.s rl.rs.length t:=λt J=>(((h t).mp J).zt ok λi r e=>(F.row i r e).1).tka
def sF:Sp:=λvs H Q _=>∃(c p:o_) (R:List aE) (rl:Rl) (N:Nat),vs=[.ref c,.ref p]/\Ce H c R/\Ct H p rl/\EL R rl N/\
 ∀(L:o_) (H':Hp) (ms:MA),su H H'->H L=Nn->H' L=Sm (.lst ((oZ ms).map V.str))->Jp R rl R.length ms->Q (.ref L) H'
theorem zO(D:xn K mg "column_of" bi) (F:mg "enumerate" = Nn) (J:aD P w K mg base 7 "paper_of" qAh oA) (O:aD P w K mg base 8 "mark_of" qAB As):aD P w K mg base 9 "column_of" qAh sF:=by
 refine D.cal (k:=8) GU (λf as A outer s0 H vs Q E hr h=>?_);revert h;refine yF5 λc p R rl N=>yB5 ?_;rintro rfl hC hR hB q;refine⟨_,(ah (ay 2 GU.nd (aw J hr (aa (pv 0 (hv:=PN)) (aa (pv 1 (hv:=OD)) ae))))
   (ah (iF (CO.to (fsc:=(sg bi)) (N:=qAJ) (N0:=qAJ) (T:=["at","tokens"])) rfl GU.nd (i:=3) rfl RI (mN K N6 F (aa (pv 2) ae)) (λ_ _ _ _=>(jv K (n:=2) (cW (aS 4 (show (qAl:MA).Nodup from ⋯)) (cW (aS 5 (show (qAl:MA).Nodup from ⋯)) iJ)))) (wA (jc (bW (show (qAJ:MA).length<=4 from ∅)) iI (jc (bW (show (qAJ:MA).length<=5 from ∅)) iI rF lD) (vf iI lD))) (λ_ _ _ _=>cX) (λ_ _ _ _=>(aw O hr (aa (pv 0 (hv:=(bR (sg bi) ⋯))) (aa (pv 1 (hv:=(bR (sg bi) ⋯))) (aa (pv 4) (aa (pv 5) ae)))))))
   (aj (az (fk (aA (kC K) av (pv 3) (by with_unfolding_all rfl)) (pv 3) (dn (CO.to (fsc:=(sg bi)) (N:=qAJ) (N0:=qAJ) (T:=["mark"])) rfl (bF K (pv 3)) (λ_ _ _ _=>(aS 4 (show (["code","rule","paper","column","mark"]:MA).Nodup from ⋯))) (bW (show (qAJ:MA).length<=4 from ∅)) (λ_ _ _ _=>cX) (λ_ _ _ _=>av))))))),?_⟩
 cbv;refine yI5 c p R rl N #[rfl,hC,hR,hB,λL H1 ls Ks s1 hL e1 hl hK hT=>?_];revert hB;refine yB6 λad hN ok _ _ ag=>?_;rw?;refine#[#[_,e1],λM hM=>?_];refine xB (xs:=ls.map V.ref) (λi ys H'=>su H1 H'/\∃U:MA,ys=U.map V.str/\H' M=Sm (.lst ys)/\Jp R rl i U) #[ak hM _,[],rfl,ai,rfl,λj r h=>absurd h (KP _)] (λi ys H' _ h=>ud.of (h.1 _ _ e1)) ?_ ?_
 .intro i ys H2 v t hv hi;refine yB2 λs2=>yF1 λU=>yB3 ?_;rintro rfl e2 hm;intro ht;have W:i<ls.length:=by simpa using hi
  rw[zz,zd W]at hv;cases hv;refine yE2 (hT i _ (zd W)) λcs ks=>yB4 λt1 t2 t3 t4=>?_;have ac:∀t,t∈ks ↔ Ie R rl i t:=λt=>(t4 t).trans (hK i t);have ab:R[i]?=Sm R[i]:=zd ();have st:=ak ht (.tup [V.int (i:Int),V.ref ls[i]]);have S:=s2.trans st;have nt:M≠t:=aQ e2 ht;cbv;refine yI2 t _ #[rfl,uc.of ai,rfl,?_];cbv;refine yI10 c p (ls[i]) R rl (R[i]) i N cs ks #[rfl,hC.mono (s1.trans S),ab,hR.mono (s1.trans S),ok,(ad.row _ _ ab).1,S _ _ t1,t2.same S,we ok ad ac,t3,λH3 s3=>?_];refine fD hi (by rw[zb];exact hm.1) (by rw[zb];exact aH ()) (s3 _ _ (by rw[au nt];exact e2)) #[(S.trans s3).upd hM _,U++[nM rl R[i] ks],'~',ai,hm.push ab ac]
 intro ys H2;refine yB2 λs2=>yF1 λU=>yB3 ?_;rintro rfl e2 Y;rw[zb,hl]at Y;have hm:=Y.1;have al:H M=Nn:=s1.free hM;rw?;refine#[_,.inl (ud.of e2),rfl,jf _,?_];rw[lN];refine aT (λe=>?_) (λe=>?_)
 .have e:=of_decide_eq_true e;refine q M H2 U (s1.trans s2) al ?_ Y;unfold oZ;rw[Lz e];exact e2
 .have e:¬ ("look" : Str)∈U:=λz=>e (decide_eq_true z);refine#[#[_,ud.of e2],λD1 Z=>?_];refine er (xs:=U.map V.str) (λi ys H'=>su H2 H'/\H' D1=Sm (.lst ys)/\ys=((U.take i).map λ_=>("none" : Str)).map V.str) #[ak Z _,ai,rfl] (λi ys H' _ h=>ud.of (h.1 _ _ e2)) ?_ ?_
  .rintro i ys H3 v hv hi ⟨s3,e3,rfl⟩;have W:i<U.length:=by simpa using hi
   cbv;refine fD hi (by simp;lia) (by rw[zb,hm];exact aH ag) e3 #[s3.upd Z _,ai,?_];rw[Lb W,yb,yb];rfl
  .rintro ys H3 ⟨s3,e3,rfl⟩;rw[zb,ir]at e3;refine q D1 H3 U ((s1.trans s2).trans s3) ((s1.trans s2).free Z) ?_ Y;unfold oZ;rw[Lu e];exact e3
theorem wL(n s t:Nat):bq (kO n s) t=(bq n t||decide (s=t)):=by
 rw[<-tS];unfold bq;rw[Nat.testBit_or,za8]
theorem uR(n s t:Nat):bq (bZ n s) t=(bq n t && !decide (s=t)):=by
 unfold bZ;split
 .rename_i h;have F:=kf h;have hf:bq (n-2^s) s=false:=by
   have e:(n-2^s)/2^s=n/2^s-1:=by simpa using Nat.sub_mul_div n (2^s) 1
   have h1:=of_decide_eq_true ((jA n s).symm.trans h);rw[jA,e];exact decide_eq_false ()
  have e:=wL (n-2^s) s t;unfold kO at e;rw[hf,Lu ∅,Nat.sub_add_cancel F]at e;rw[e];by_cases c:s=t
  .subst c;rw[hf];simp
  .simp[c]
 .rename_i h;by_cases c:s=t
  .subst c;simp_all
  .simp[c]
def n8:MB->Prop
 | n::m::_::_=>∀s,¬ (bq n s=true/\bq m s=true)
 | _=>True
theorem zK(h:∀s,¬ (bq n s=true/\bq m s=true))(t:Nat):¬ (bq (e_ r n) t=true/\bq (e_ r m) t=true):=by
 have h1:=h t;have F:=h (bT r 3);have J:cK r = "copy" -> cK r∈(qAm:MA):=λz=>by rw[z];simp
 unfold e_;grind [wL,uR]
theorem FY{F:MB}(h:n8 ts)(e:ju rl r ts=Sm F):n8 F:=by
 unfold ju at e;split at e
 .cases e
 split at e
 .cases e;exact trivial
 .let#[_,_,rfl]:=LI.mp e;exact trivial
 .cases e;exact zK h
 .let#[_,_,rfl]:=LI.mp e;exact zK h
 .cases e
theorem uE{rl:Rl}{r:aE}{J:List MB}(h:∀t∈J,n8 t):∀t∈fm rl r J,n8 t:=λt F=>by
 have dp:∀a s u,¬ (bq (bZ a s) u=true/\bq (2^s) u=true):=λa s u=>by
  rw[uR];unfold bq;rw[za8];simp
 unfold fm at F;split at F
 .unfold jq at F;split at F
  .split at F
   .rw[Lv.mp F];exact trivial
   .cases F
  .rcases LH.mp F with rfl | z
   .exact trivial
   .let#[x,_,hx2]:=LB.mp z;split at hx2
    .simp only[yg,yu,or_false]at hx2;rcases hx2 with rfl | rfl
     .exact dp _ _
     .exact λu z=>dp _ _ u z.symm
    .cases hx2
 .split at F
  .unfold li at F;let#[x,hx,rfl]:=LD.mp F;let#[hx,hx2]:=LN.mp hx;have:=h x hx
   match x,this with
   | [],_=>exact trivial
   | [_],_=>exact trivial
   | [_,_],_=>simp at hx2
   | n::m::o::x,z=>exact z
  .cases F
theorem Ie.dsj{R:List aE}{rl:Rl}{j:Nat}{t:MB}(h:Ie R rl j t):n8 t:=by
 induction h with
 | beg _ _ m=>exact uE (λt F=>by cases F) _ m
 | mk _ _ _ m ih=>
  rcases m with z | z
  .exact uE (λt F=>by rw[Lv.mp F];exact ih) _ z
  .exact FY ih z
def J9(i j:Int):Prop:=0<j/\j.natAbs.log2<9000
theorem CS{X:Cx}:Gw X (binaryOp .FloorDiv) (rI J9 λi j=>.int (i/j)):=uh λi j _ _ _ _ _ F q=>by
 have h1:(0:Int)<j:=F.1;exact floordiv_int () (by rw[zbv i ()];exact q) (.inl (PyProof.noPylong_of_log2 F.2))
theorem Jj(s:Nat):(1:Int)*2^(Int.toNat (s:Int))=((2^s:Nat):Int):=by rw[uv];push_cast;lia
def BC:Sp:=λvs H Q _=>∃n s:Nat,vs=[.int (n:Int),.int (s:Int)]/\s<9000/\Q (.bl (bq n s)) H
theorem Gj(D:xn K mg "_law_has" ic):aD P w K mg base 1 "_law_has" qAj BC:=by
 refine D.cal (k:=0) x8 (λf F A outer U H vs Q E S h=>?_);revert h;refine yF2 λn s=>yB3 ?_;rintro rfl O q;refine#[_,(aj (az (db aL (ar b5 (ar CS (pv 0) (ar nX af (pv 1))) af) af (aB _)))),?_];cbv;have W:=Nat.two_pow_pos s;refine#[#[(),(),∅],?_];rw[Jj];refine#[#[(),by rw[Int.natAbs_natCast,Nat.log2_two_pow];exact O],∅,?_];have e:decide ((n:Int)/((2^s:Nat):Int)%2=1)=bq n s:=by
  rw[jA];have:(n:Int)/((2^s:Nat):Int)%2=((n/2^s%2:Nat):Int):=by push_cast;rfl
  rw[this];exact decide_eq_decide.mpr ()
 rw[e];exact q
def jH:Sp:=λvs H Q _=>∃(p:o_) (r:Rl) (k:Nat) (y:Str),vs=[.ref p,.int k,.str y]/\Ct H p r/\dk r/\k<r.rs.length/\Q (b7 (step r k y)) H
theorem CK(D:xn K mg "_law_next" fK):aD P w K mg base 1 "_law_next" qAI jH:=by
 refine D.cal vj (λf Y A outer s H vs Q E hr h=>?_);revert h;refine yF4 λp r k y=>yB5 ?_;rintro rfl W ok Z q;revert W;refine yF3 λpw pr S=>yB5 λh1 h2 U h4 h5=>?_;refine⟨_,(ah (aY (aA (kA K) (pv 2) (am (ax K) (pv 0) af) (by with_unfolding_all rfl)) (aj (az (pv 1))) aN)
   (aj (az (am (ax K) (am (ax K) (am (ax K) (pv 0) af) (pv 1)) (bB K yY zby F.type_list_index (qj K) (am (ax K) (pv 0) af) (aa (pv 2) ae)))))),?_⟩
 cbv;refine X1 (uc.of h1) rfl ?_;cbv;refine#[_,.inl (ud.of h2),rfl,jf _,?_];rw[lN];refine aT (λc=>?_) (λc=>?_)
 .have J:y∉r.ws:=by simpa using c
  have e:step r k y=Sm k:=by unfold step;rw[Lu J]
  rw[e]at q;exact q
 .have J:y∈r.ws:=by simpa using c
  obtain⟨b,O⟩ : ∃b,S[k]?=Sm b:=⟨S[k],zd ()⟩
  obtain⟨x,hx⟩ : ∃x,r.rs[k]?=Sm x:=⟨_,zd Z⟩
  rw?;refine X1 (uc.of h1) rfl ?_;cbv;refine X2 (ud.of U) (nO () (by simpa using O)) ?_;cbv;refine X1 (uc.of h1) rfl ?_;cbv;refine#[#[_,ud.of h2],_,ud.of h2,J,?_];exact X2 (ud.of (h5 k b x O hx)) (aq (wz ok hx J)) q
def s_:Sp:=λvs H Q _=>∃(b t:o_) (r:aE) (sd:Int) (ts:MB) (k N Z:Nat),vs=[.ref b,.ref t,.int sd]/\bP H b r/\DQ N r/\N<=9000/\dv H t ts/\gN sd Z ts/\ku ts k/\n8 ts/\∀(L:o_) (H':Hp),su H H'->H L=Nn->H' L=Sm (.lst ((fV r ts).map V.str))->Q (.ref L) H'
theorem A9(D:xn K mg "_law_texts" dS) (F:aD P w K mg base 1 "_law_has" qAj BC):aD P w K mg base 2 "_law_texts" qAY s_:=by
 refine D.cal (k:=1) sw (λf as A outer s0 H vs Q E hr h=>?_);revert h;refine yF8 λb t r sd ts k N Z=>yB9 ?_;rintro rfl S U hN ht ab ad al q;refine⟨_,(ah (aY (PW.pt' (cr (aA aL (am (ax K) (pv 0) af) av (aB _)) (cM (aA aL (pv 2) af (aB _))))) (aj (az (aG (aa av ae)))) aN)
   (ah (aY (PW.pt' (cr (aA aL (am (ax K) (pv 0) af) av (aB _)) (cM (aA aL (am (ax K) (pv 1) af) af (aB _))))) (aj (az (aG (aa av (aa av ae))))) aN)
   (ah (aY (aA aL (am (ax K) (pv 0) af) av (aB _)) (aj (az (aG (aa av (aa av ae))))) aN)
   (ah (aY (PW.pt' (cr (aA aL (am (ax K) (pv 0) af) av (aB _)) (cr (aA aL (pv 2) af (aB _)) (cM (cN (aw F hr (aa (am (ax K) (pv 1) af) (aa (am (ax K) (pv 0) af) ae)))))))) (aj (az (aG (aa (am (ax K) (pv 0) af) ae)))) aN)
   (ah (aY (PW.pt' (cr (aA aL (am (ax K) (pv 0) af) av (aB _)) (cr (aA aL (pv 2) af (aB _)) (cM (cN (aw F hr (aa (am (ax K) (pv 1) af) (aa (am (ax K) (pv 0) af) ae)))))))) (aj (az (aG (aa (ar aF av (am (ax K) (pv 0) af)) ae)))) aN)
   (ah (aY (PW.pt' (cr (aA aL (am (ax K) (pv 0) af) av (aB _)) (cr (aA aL (pv 2) af (aB _)) (cM (cN (aw F hr (aa (am (ax K) (pv 1) af) (aa (am (ax K) (pv 0) af) ae)))))))) (aj (az (aG (aa (ar aF av (am (ax K) (pv 0) af)) ae)))) aN)
   (aj (az (aG ae))))))))),?_⟩
 cbv;refine X1 (uc.of S) (aq (j:=0) U.hd) ?_;cbv;unfold fV at q;cases ad with
 | h1 n k=>
  have ac:sd=1:=by cases ab with
   | h1 _ _ h _=>exact h
  subst ac;by_cases ce:cK r = "end"
  .have O:¬ cK r = "do" := λz=>absurd (ce.symm.trans z) ∅;rw[Lu O,Lz ce]at q;rw[Lz ce,Lz rfl];exact#[∅,λp J=>q p _ (ak J _) J ai]
  rw[Lu ce];rw?;refine X1 (uc.of S) (aq (j:=0) U.hd) ?_;cbv;rw[Lu ce];rw?;refine X1 (uc.of S) (aq (j:=0) U.hd) ?_;cbv;rw[Lu ce];rw?;refine X1 (uc.of S) (aq (j:=0) U.hd) ?_;cbv;by_cases O:cK r = "do"
  .let#[h2,l2]:=U.s2 (by rw[O];decide);let#[h3,l3]:=U.wd O;rw[Lz O]at q;have W:∀(L:o_) (H':Hp),su H H'->H L=Nn->H' L=Sm (.lst ((if bq n (bT r 2)=true then [kn r] else []).map V.str))->Q (.ref L) H':=q;rw[Lz O];refine X1 (uc.of ht) rfl (X1 (uc.of S) (aq (j:=2) h2) (yI2 n (bT r 2) #[rfl,(),_,rfl,aT (λd=>?_) (λd=>?_)]))
   .rw[Lz d]at W;refine X1 (uc.of S) (aq (j:=3) h3) #[∅,λp J=>W p _ (ak J _) J ai]
   .rw[Lu d]at W;rw?;refine X1 (uc.of S) (aq (j:=0) U.hd) ?_;cbv;rw[Lz O,Lu ∅];rw?;refine X1 (uc.of S) (aq (j:=0) U.hd) ?_;cbv;rw[Lz O,Lu ∅];rw?;exact#[∅,λp J=>W p _ (ak J _) J ai]
  .rw[Lu O,Lu ce]at q;rw[Lu O];rw?;refine X1 (uc.of S) (aq (j:=0) U.hd) ?_;cbv;rw[Lu O];rw?;refine X1 (uc.of S) (aq (j:=0) U.hd) ?_;cbv;rw[Lu O];rw?;exact#[∅,λp J=>q p _ (ak J _) J ai]
 | tie n m o k=>
  have ag:sd=2:=by cases ab with
   | tie _ _ _ _ h _=>exact h
  subst ag;by_cases ce:cK r = "end"
  .have O:¬ cK r = "do" := λz=>absurd (ce.symm.trans z) ∅;rw[Lu O,Lz ce]at q;have W:∀(L:o_) (H':Hp),su H H'->H L=Nn->H' L=Sm (.lst (((if o=1 then qAz else qBA):MA).map V.str))->Q (.ref L) H':=q;rw[Lz ce,Lu ∅];rw?;refine X1 (uc.of S) (aq (j:=0) U.hd) ?_;cbv;rw[Lz ce];refine X1 (uc.of ht) rfl ?_;rw[show iN o=V.int (o:Int) from rfl];cbv;refine aT (λe=>?_) (λe=>?_)
   .rw[Lz ()]at W;exact#[∅,λp J=>W p _ (ak J _) J ai]
   .rw[Lu ()]at W;rw?;refine X1 (uc.of S) (aq (j:=0) U.hd) ?_;cbv;rw[Lz ce];exact#[∅,λp J=>W p _ (ak J _) J ai]
  rw[Lu ce];rw?;refine X1 (uc.of S) (aq (j:=0) U.hd) ?_;cbv;rw[Lu ce];rw?;refine X1 (uc.of S) (aq (j:=0) U.hd) ?_;cbv;rw[Lu ce];rw?;refine X1 (uc.of S) (aq (j:=0) U.hd) ?_;cbv;by_cases O:cK r = "do"
  .let#[h2,l2]:=U.s2 (by rw[O];decide);let#[h3,l3]:=U.wd O;rw[Lz O]at q;have W:∀(L:o_) (H':Hp),su H H'->H L=Nn->H' L=Sm (.lst (((if bq n (bT r 2)=true then [("1." : Str)++kn r] else [])++(if bq m (bT r 2)=true then [("2." : Str)++kn r] else [])).map V.str))->Q (.ref L) H':=q;rw[Lz O,Lu ∅];rw?;refine X1 (uc.of S) (aq (j:=0) U.hd) ?_;cbv;rw[Lz O];refine X1 (uc.of ht) rfl (X1 (uc.of S) (aq (j:=2) h2) (yI2 n (bT r 2) #[rfl,(),_,rfl,aT (λd=>?_) (λd=>?_)]))
   .have Y:¬ bq m (bT r 2)=true:=λz=>al _ #[d,z];rw[Lz d,Lu Y]at W;refine X1 (uc.of S) (aq (j:=3) h3) ?_;cbv;refine#[by rw[show (("1." : Str).length)=2 from ⋯];exact aH (),∅,λp J=>W p _ (ak J _) J ai]
   .rw[Lu d]at W;rw?;refine X1 (uc.of S) (aq (j:=0) U.hd) ?_;cbv;rw[Lz O];refine X1 (uc.of ht) rfl (X1 (uc.of S) (aq (j:=2) h2) (yI2 m (bT r 2) #[rfl,(),_,rfl,aT (λY=>?_) (λY=>?_)]))
    .rw[Lz Y]at W;refine X1 (uc.of S) (aq (j:=3) h3) ?_;cbv;refine#[by rw[show (("2." : Str).length)=2 from ⋯];exact aH (),∅,λp J=>W p _ (ak J _) J ai]
    .rw[Lu Y]at W;rw?;exact#[∅,λp J=>W p _ (ak J _) J ai]
  .rw[Lu O,Lu ce]at q;rw[Lu O];rw?;refine X1 (uc.of S) (aq (j:=0) U.hd) ?_;cbv;rw[Lu O];rw?;refine X1 (uc.of S) (aq (j:=0) U.hd) ?_;cbv;rw[Lu O];rw?;exact#[∅,λp J=>q p _ (ak J _) J ai]
def lJ:Sp:=λvs H Q _=>∃(p b t:o_) (rl:Rl) (r:aE) (ts:MB) (k N:Nat),vs=[.ref p,.ref b,.ref t]/\Ct H p rl/\dk rl/\k<rl.rs.length/\bP H b r/\DQ N r/\N<=9000/\dv H t ts/\gN rl.s rl.rs.length ts/\ku ts k/\n8 ts/\∀H':Hp,su H H'->Q (b7 (after rl k (fV r ts))) H'
def y3(rl:Rl):MH->MA->MH
 | none,_=>Nn
 | some k,ys=>after rl k ys
theorem CG{rl:Rl}{o:MH}{i:Nat}{ys:MA}{y:Str}(h:ys[i]?=Sm y):y3 rl o (ys.drop i)=y3 rl (o.bind λk=>step rl k y) (ys.drop (i+1)):=by
 cases o with
 | none=>rfl
 | some k=>
  show after rl k (ys.drop i)=y3 rl (step rl k y) (ys.drop (i+1));rw[nv h];cases step rl k y<;>rfl
theorem BP(D:xn K mg "_law_room" cI) (F:aD P w K mg base 2 "_law_texts" qAY s_) (J:aD P w K mg base 1 "_law_next" qAI jH):aD P w K mg base 3 "_law_room" qAU lJ:=by
 refine D.cal (k:=2) GG (λf ac A outer s0 H vs Q E hr h=>?_);revert h;refine yF8 λp b t rl r ts k N=>yB12 ?_;rintro rfl hR ok ab hb hk hN ht Y S Z q;refine⟨_,(ah (ay 3 GG.nd (am (ax K) (pv 2) (eh dN af)))
   (ah (cg pD rfl (bF K (aw F hr (aa (pv 1) (aa (pv 2) (aa (am (ax K) (pv 0) af) ae))))) (aS 4 GG.nd) (aj (aY (aA BW (pv 3) dw (aB _)) (aj (ay 3 GG.nd (aw J hr (aa (pv 0) (aa (pv 3) (aa (pv 4) ae)))))) aN)))
   (aj (az (pv 3))))),?_⟩
 refine yE3 (id hR) λpw pr as=>yB3 λr1 r2 r3=>?_;cbv;refine X1 (uc.of ht) (by cases S<;>rfl:cJ (ts.map iN) (-1)=Sm (.int (k:Int))) ?_;rw?;refine X1 (uc.of r1) rfl (yI8 b t r rl.s ts k N rl.rs.length #[rfl,hb,hk,hN,ht,Y,S,Z,λL H1 s1 hL e1=>?_]);refine#[L,rfl,#[_,ud.of e1],?_];refine cL (xs:=(fV r ts).map V.str) (λi σ H'=>∃(o:MH) (U:MK),σ=[Sm (.ref p),Sm (.ref b),Sm (.ref t),Sm (b7 o),U]/\H1=H'/\(∀j,o=Sm j->j<rl.rs.length)/\after rl k (fV r ts)=y3 rl o ((fV r ts).drop i)) (yI2 (Sm k) Nn #[rfl,rfl,λj e=>by cases e;exact ab,rfl]) (λi σ H' _ h=>by revert h;refine yF2 λ_ _=>yB3 ?_;rintro _ rfl _;exact ud.of e1) ?_ ?_
 .intro i v σ H' hv;refine yF2 λo U=>yB4 ?_;rintro rfl rfl W O;rw[zz]at hv;cases hy:(fV r ts)[i]? with
  | none=>rw[hy]at hv;cases hv
  | some y=>
   rw[hy]at hv;cases hv;rw[CG hy]at O;cbv;cases o with
   | none=>
    rw[Lu (by simp[b7])];exact yI2 Nn _ #[rfl,(λj e=>nomatch e),O]
   | some j=>
    rw[Lz (by simp[b7])];exact yI4 p rl j y #[rfl,hR.mono s1,ok,W j rfl,yI2 (step rl j y) _ #[rfl,rfl,λj' e=>lO ok (W j rfl) e,O]]
 .intro σ H';refine yF2 λo U=>yB4 ?_;rintro rfl rfl W O;rw[zb,List.drop_length]at O;rw?;have e':after rl k (fV r ts)=o:=by rw[O];cases o<;>rfl
  rw[<-e'];exact q H1 s1
theorem D8{f:Nat×MH->Bool}(hf:∀k,f (k,Sm k)=false)(h:cK r = "open") (F:List MB):iP (λo=>f (dU rl r o)) F=f (dU rl r Nn):=by
 have e:∀ts,f (dU rl r (Sm ts))=false:=λts=>by
  have e:fV r ts=[]:=by unfold fV;rw[h,Lu ∅,Lu ∅]
  show f (if _ then (_,after rl _ (fV r ts)) else _)=false;rw[e];split<;>exact hf _
 simp[iP,e]
theorem CL{f:Nat×MH->Bool}(hf:∀k,f (k,Sm k)=false)(h:¬ cK r = "open") (F:List MB):iP (λo=>f (dU rl r o)) F=F.any λts=>f (dU rl r (Sm ts)):=by
 have e:dU rl r Nn=(0,Sm 0):=Lu λz=>h z.1;simp[iP,e,hf,Function.comp_def]
theorem JK{k:Nat}(h:ku ts k):dU rl r (Sm ts)=(k,after rl k (fV r ts)):=by cases h<;>rfl
def kY(f:Nat×MH->Bool):Sp:=λvs H Q _=>∃(c p L:o_) (R:List aE) (rl:Rl) (r:aE) (i N:Nat) (bs:MD) (tss:List MB),vs=[.ref c,.ref p,.int (i:Int),.ref L]/\Ce H c R/\R[i]?=Sm r/\Ct H p rl/\dk rl/\DQ N r/\N<=9000/\H L=Sm (.lst (bs.map V.ref))/\BN H bs tss/\(∀ts∈tss,gN rl.s rl.rs.length ts/\n8 ts)/\∀H':Hp,su H H'->Q (.bl (iP (λo=>f (dU rl r o)) tss)) H'
theorem BN.at{bs:MD}{F:List MB}{v:V}(h:BN H bs F)(hv:(bs.map V.ref)[j]?=Sm v):∃t ts,v = .ref t/\dv H t ts/\F[j]?=Sm ts:=by
 rw[zz]at hv;let#[b,O,rfl]:=LI.mp hv;have J:j<F.length:=by rw[<-h.1];exact(Lq.mp O).1
 exact yI2 b _ #[rfl,h.2 j b _ O (zd J),zd J]
theorem Iu{H:Hp}{t:o_}{sd:Int}{Z:Nat}{ts:MB}{A B:Prop}(F:gN sd Z ts)(J:dv H t ts)(O:∀k,ku ts k->k<Z->A)(S:¬ (ts.length=2\/ts.length=4)->B):if sd=1 then A else ∃ys,(ud K H t ys\/uc K H t ys)/\if (ys.length:Int)=4 then A else B:=by
 cases F with
 | h1 n k h hk=>rw[Lz h];exact O k (.h1 n k) hk
 | one n h=>rw[Lu ()];exact#[_,.inr (uc.of J),by rw[Lu '~'];exact S '~']
 | two n m o h=>rw[Lu ()];exact#[_,.inr (uc.of J),by rw[Lu '~'];exact S '~']
 | tie n m o k h hk=>rw[Lu ()];exact#[_,.inr (uc.of J),by rw[Lz '~'];exact O k (.tie n m o k) hk]
theorem pP{f:Nat×MH->Bool}{op:R2}{e1:V}{e2:TE}{vs:MC}{E:XK}(hf:∀k,f (k,Sm k)=false)(h1:∀ {o H Q},Q (.bl (f (0,o))) H->op (b7 o) e1 H Q)(h2:∀(a b c d:MK) {t ts k H o Q},ku ts k->dv H t ts->Q (.bl (f (k,o))) H->e2 [a,b,c,d,Sm (.ref t)] H λy H'=>op (b7 o) y H' Q)(h:kY f vs H Q E):oF (yt (j9 (gj mq (gj (iU K) (gj (iU K) (cZ 0) (cZ 2)) (tC (.int 0))) (tC (.str "open")))) (lf (yL (gj mq (gj (iU K) (cZ 1) (tC (.int 0))) (tC (.int 1))) (gj op (je jH [] E0 (cP (cZ 1) (cP (tC (.int 0)) (cP (tC (.str "open")) ix)))) (tC e1)))) qW) (oF (CW (nu K (cZ 3)) (gK 4) (yt (CB (G5 (j9 (gj mq (gj (iU K) (cZ 1) (tC (.int 0))) (tC (.int 1)))) (j9 (gj mq (tZ (nS K) (cP (cZ 4) ix)) (tC (.int 4))))) (j9 (gj op (je lJ [] E0 (cP (cZ 1) (cP (gj (iU K) (cZ 0) (cZ 2)) (cP (cZ 4) ix)))) e2))) (lf (tC (.bl true))) qW)) (lf (tC (.bl false)))) {nx:=λ_ H'=>Q .non H',rt:=Q} (L2.start qAO vs) H:=by
 revert h;refine yF10 λc p L R rl r i N bs Z=>yB11 ?_;rintro rfl hL a3 hR ok hk hN ac hT J q;refine yE2 (iO hL a3) λas b=>yB4 λa1 al ab hb=>?_;have ad:cJ (as.map V.ref) (i:Int)=Sm (.ref b):=aq (by rw[zz,ab];rfl);refine yE3 (id hR) λpw pr _=>yB3 λr1 _ _=>?_;have a6:=ok.n0;have W:=hT.1;cbv;refine X2 (ud.of a1) ad (X1 (uc.of hb) (aq (j:=0) hk.hd) ?_);cbv;refine aT (λco=>?_) (λco=>?_)
 .have Y:=q H λ_ _ z=>z;rw[D8 hf co]at Y;cbv;refine X1 (uc.of r1) rfl ?_;cbv;refine aT (λc2=>?_) (λc2=>?_)
  .rw[show dU rl r Nn=(0,step rl 0 "open") from Lz #[co,c2]]at Y;refine yI4 p rl 0 ("open") #[rfl,hR,ok,(),?_];exact h1 Y
  .rw[show dU rl r Nn=(0,Sm 0) from Lu λz=>c2 z.2,hf]at Y;exact Y
 .rw[CL hf co]at q;rw?;refine#[#[_,ud.of ac],?_];refine cL (xs:=bs.map V.ref) (λj σ H'=>∃U:MK,σ=[Sm (.ref c),Sm (.ref p),Sm (.int (i:Int)),Sm (.ref L),U]/\su H H'/\((Z.take j).any λts=>f (dU rl r (Sm ts)))=false) #[Nn,rfl,λ_ _ z=>z,rfl] (λj σ H' _ hh=>by revert hh;refine yF1 λ_=>yB3 λ_ z _=>?_;exact ud.of (z _ _ ac)) ?_ ?_
  .intro j v σ H1 hv;refine yF1 λU=>yB3 ?_;rintro rfl F hz;refine yE2 (hT.at hv) λt ts=>yB3 ?_;rintro rfl ht S;let#[J,a4]:=J ts (xO S);have go:∀ {H2},su H H2->f (dU rl r (Sm ts))=false->∃U:MK,[Sm (.ref c),Sm (.ref p),Sm (.int (i:Int)),Sm (.ref L),Sm (.ref t)]=[Sm (.ref c),Sm (.ref p),Sm (.int (i:Int)),Sm (.ref L),U]/\su H H2/\((Z.take (j+1)).any λts=>f (dU rl r (Sm ts)))=false:=λs2 e=>#[_,rfl,s2,by rw[sR,S,List.any_append,hz];simp[e]];have ag:∀ {H2},su H H2->f (dU rl r (Sm ts))=true->Q (.bl true) H2:=λs2 e=>by
    have:=q _ s2
    rwa [List.any_eq_true.mpr #[ts,xO S,e]]at this
   cbv;refine X1 (uc.of (F _ _ r1)) rfl ?_;cbv;refine Iu J (F _ _ ht) (λk O a5=>?_) (λn2=>go F ?_)
   .refine X2 (ud.of (F _ _ a1)) ad (yI8 p b t rl r ts k N #[rfl,hR.mono F,ok,a5,F _ _ hb,hk,hN,F _ _ ht,J,O,a4,λH2 s2=>?_]);have e:=JK (rl:=rl) (r:=r) O;refine h2 _ _ _ _ O (s2 _ _ (F _ _ ht)) #[_,rfl,?_];rw[<-e];exact aT (λz=>ag (F.trans s2) z) (λz=>go (F.trans s2) (LU.mpr z))
   .rw[show dU rl r (Sm ts)=(0,Sm 0) from Lu n2];exact hf 0
  .intro σ H1;refine yF1 λU=>yB3 ?_;rintro rfl F hz;rw?;rw[zb,W,ir]at hz;have q1:=q H1 F;rw[hz]at q1;exact q1
theorem FX(D:xn K mg "_law_breaks" cf) (O:wAK mg) (J:aD P w K mg base 3 "_law_room" qAU lJ) (F:aD P w K mg base 1 "_law_next" qAI jH):aD P w K mg base 4 "_law_breaks" qAF (kY fB):=
 D.cal (k:=3) G6 (λf U A outer Y H vs Q E S h=>⟨_,(ah (aY (aA aL (am (ax K) (am (ax K) (pv 0) (pv 2)) af) av (aB _)) (aj (az (mW (db aL (am (ax K) (pv 1) af) af (aB _)) (vb (db fL (aw F S (aa (pv 1) (aa af (aa av ae)))) dw (aB _)))))) aN)
   (ah (cg pD rfl (bF K (pv 3)) (aS 4 G6.nd) (aj (aY (PW.pt' (cr (PW.pt' (nD (aA aL (am (ax K) (pv 1) af) af (aB _)) (kT (aA aL (bx (ba K) O bK (aa (pv 4) ae)) af (aB _))))) (cM (aA fL (aw J S (aa (pv 1) (aa (am (ax K) (pv 0) (pv 2)) (aa (pv 4) ae)))) dw (aB _))))) (aj (az fZ)) aN)))
   (aj (az fZ)))),pP (λ_=>rfl) oH (λ_ _ _ _ {_ _ _ _ _ _} _ _ q=>oH q) h⟩)
theorem F1(D:xn K mg "_law_moves" cu) (O:wAK mg) (J:aD P w K mg base 3 "_law_room" qAU lJ) (F:aD P w K mg base 1 "_law_next" qAI jH):aD P w K mg base 4 "_law_moves" qAF (kY fM):=
 D.cal (k:=3) Hj (λf Y A outer s0 H vs Q E U h=>⟨_,(ah (aY (aA aL (am (ax K) (am (ax K) (pv 0) (pv 2)) af) av (aB _)) (aj (az (mW (db aL (am (ax K) (pv 1) af) af (aB _)) (vb (db iY (aw F U (aa (pv 1) (aa af (aa av ae)))) af (aB _)))))) aN)
   (ah (cg pD rfl (bF K (pv 3)) (aS 4 Hj.nd) (aj (aY (PW.pt' (cr (PW.pt' (nD (aA aL (am (ax K) (pv 1) af) af (aB _)) (kT (aA aL (bx (ba K) O bK (aa (pv 4) ae)) af (aB _))))) (cM (aA iY (aw J U (aa (pv 1) (aa (am (ax K) (pv 0) (pv 2)) (aa (pv 4) ae)))) (am (ax K) (pv 4) (eh dN af)) (aB _))))) (aj (az fZ)) aN)))
   (aj (az fZ)))),pP (λk=>decide_eq_false λz=>z rfl) (λq=>(tu (k:=0) q).2) (λ_ _ _ _ {_ _ _ _ _ _} S W q=>by
  cbv;exact X1 (uc.of W) (by cases S<;>rfl) ((tu q).2)) h⟩)
def AK:Sp:=λvs H Q _=>∃(c p L:o_) (R:List aE) (rl:Rl) (N:Nat) (ls:MD) (Ks:fS),vs=[.ref c,.ref p,.ref L]/\Ce H c R/\Ct H p rl/\EL R rl N/\H L=Sm (.lst (ls.map V.ref))/\ls.length=R.length/\(∀j t,t∈Ks.getD j [] ↔ Ie R rl j t)/\(∀(j:Nat) l,ls[j]?=Sm l->HS H l (Ks.getD j []))/\
 ∀(C:o_) (H':Hp) (ms:MA),su H H'->H C=Nn->H' C=Sm (.lst ((oZ ms).map V.str))->Jp R rl R.length ms->Q (.ref C) H'
theorem FC(D:xn K mg "_law_due" b6) (W:mg "range" = Nn) (a4:wAK mg) (J:aD P w K mg base 4 "_law_breaks" qAF (kY fB)) (O:aD P w K mg base 4 "_law_moves" qAF (kY fM)):aD P w K mg base 5 "_law_due" qAa AK:=by
 refine D.cal (k:=4) Hb (λf bt A outer s0 H vs Q E hr h=>?_);revert h;refine yF8 λc p L R rl N ls Ks=>yB9 ?_;rintro rfl hC hR ⟨a7,hN,ok,_,_,bh⟩ e1 hl hK hT q;refine⟨_,(ah (ay 3 Hb.nd (aG ae))
   (ah (cg pD rfl (ef Pq W (aa (bx (ba K) a4 bK (aa (pv 0) ae)) ae)) (aS 4 Hb.nd) (aj (aY (cN (aw J hr (aa (pv 0) (aa (pv 1) (aa (pv 4) (aa (am (ax K) (pv 2) (pv 4)) ae)))))) (aj (bm (bB K yY ux uC br (pv 3) (aa av ae)))) (aj (aY (PW.pt' (cr (aA iY (am (ax K) (am (ax K) (pv 0) (pv 4)) af) av (aB _)) (cM (cN (aw O hr (aa (pv 0) (aa (pv 1) (aa (pv 4) (aa (am (ax K) (pv 2) (pv 4)) ae))))))))) (aj (bm (bB K yY ux uC br (pv 3) (aa av ae)))) (aj (bm (bB K yY ux uC br (pv 3) (aa av ae)))))))))
   (ah (aY (aA (kC K) av (pv 3) (by with_unfolding_all rfl)) (aj (az (pv 3))) aN)
   (aj (az (dn (CO.to (fsc:=(sg b6)) (N:=qAH) (N0:=qAH) (T:=["_law_row"])) rfl (bF K (pv 0)) (λ_ _ _ _=>(aS 5 (show (["_law_code_here","_law_rule_here","_law_paper","_law_column","_law_at","_law_row"]:MA).Nodup from ⋯))) (bW (show (qAH:MA).length<=5 from ∅)) (λ_ _ _ _=>cX) (λ_ _ _ _=>av))))))),?_⟩
 let#[as,a1,a2]:=id hC;have al:=aK a2;cbv;refine#[∅,λM hM=>?_];∎;rename_i H1 s1 Y;have Y:H1 M=Sm (.lst (([]:MA).map V.str)):=Y;rw?;refine#[_,.inl (ud.of (s1 _ _ a1)),?_];rw[zb,al];refine#[(),(),?_];rw[uv];refine fC (λi σ H'=>∃(S:MA) (o4:MK),σ=[Sm (.ref c),Sm (.ref p),Sm (.ref L),Sm (.ref M),o4]/\su H H'/\H' M=Sm (.lst (S.map V.str))/\Jp R rl i S) (yI2 ([]) Nn #[rfl,s1,Y,rfl,λj r h=>absurd h (KP _)]) ?_ ?_
 .intro i σ H2 hi;refine yF2 λS o4=>yB4 ?_;rintro rfl s2 Y hm;rw[zaZ];have U:R[i]?=Sm R[i]:=zd hi;have a6:ls[i]?=Sm ls[i]:=zd ();refine yE2 (hT i _ a6) λcs ks=>yB4 λt1 t2 t3 t4=>?_;have ad:∀t,t∈ks ↔ Ie R rl i t:=λt=>(t4 t).trans (hK i t);have a8:∀t∈ks,gN rl.s rl.rs.length t/\n8 t:=λt ht=>#[we ok a7 ad t ht,((ad t).mp ht).dsj];have hk:=(a7.row _ _ U).1;refine yE2 (iO hC U) λbc b=>yB4 λa1 _ ab hb=>?_;have bp:cJ (bc.map V.ref) (i:Int)=Sm (.ref b):=aq (by rw[zz,ab];rfl);have a5:cJ (ls.map V.ref) (i:Int)=Sm (.ref ls[i]):=aq (by rw[zz,a6];rfl);generalize R[i]=r at U hk hb;have Z:=hm.push U ad;unfold nM at Z;have ac:∀ {H' x},su H H'->H' M=Sm (.lst (S.map V.str))->Jp R rl (i+1) (S++[x])->(∃xs,ud K H' M xs)/\∃xs,H' M=Sm (.lst xs)/\xs.length<L9/\∃(S:MA) (o4:MK),[Sm (V.ref c),Sm (.ref p),Sm (.ref L),Sm (.ref M),Sm (.int (i:Int))]=[Sm (.ref c),Sm (.ref p),Sm (.ref L),Sm (.ref M),o4]/\su H (upd H' M (.lst (xs++[V.str x])))/\upd H' M (.lst (xs++[V.str x])) M=Sm (.lst (S.map V.str))/\Jp R rl (i+1) S:=λ{H' x} sm em bg=>#[#[_,ud.of em],_,em,by rw[zb,hm.1];exact cC (),yI2 (S++[x]) _ #[rfl,sm.upd hM _,by rw[ai];simp,bg]];cbv;refine X2 (ud.of (s2 _ _ e1)) a5 (yI10 c p (ls[i]) R rl r i N cs ks #[rfl,hC.mono s2,U,hR.mono s2,ok,hk,hN,s2 _ _ t1,t2.same s2,a8,λH3 s3=>#[_,rfl,aT (λc1=>?_) (λc1=>?_)]])
  .rw[Lz c1]at Z;exact ac (s2.trans s3) (s3 _ _ Y) Z
  rw[Lu c1]at Z;have F:=s2.trans s3;refine X2 (ud.of (F _ _ a1)) bp (X1 (uc.of (F _ _ hb)) (aq (j:=0) hk.hd) ?_);cbv;refine aT (λc2=>?_) (λc2=>?_)
  .have be:cK r ≠ "end" := by simpa using c2
   refine X2 (ud.of (F _ _ e1)) a5 (yI10 c p (ls[i]) R rl r i N cs ks #[rfl,hC.mono F,U,hR.mono F,ok,hk,hN,F _ _ t1,t2.same F,a8,λH4 s4=>#[_,rfl,aT (λc3=>?_) (λc3=>?_)]])
   .rw[Lz #[be,c3]]at Z;exact ac (F.trans s4) (s4 _ _ (s3 _ _ Y)) Z
   .rw[Lu λz=>c3 z.2]at Z;exact ac (F.trans s4) (s4 _ _ (s3 _ _ Y)) Z
  .rw[Lu λz=>c2 (by simpa using z.1)]at Z;exact ac F (s3 _ _ Y) Z
 .intro σ H2;refine yF2 λS o4=>yB4 ?_;rintro rfl s2 Y a3;have hm:=a3.1;rw?;refine#[_,.inl (ud.of Y),rfl,jf _,?_];rw[lN];refine aT (λe=>?_) (λe=>?_)
  .have e:=of_decide_eq_true e;refine q M H2 S s2 hM ?_ a3;unfold oZ;rw[Lz e];exact Y
  .have e:¬ ("look" : Str)∈S:=λz=>e (decide_eq_true z);rw?;refine#[#[_,ud.of (s2 _ _ a1)],λD1 ag=>?_];refine er (xs:=as.map V.ref) (λi ys H'=>su H2 H'/\H' D1=Sm (.lst ys)/\ys=((S.take i).map λ_=>("none" : Str)).map V.str) #[ak ag _,ai,rfl] (λi ys H' _ h=>ud.of (h.1 _ _ (s2 _ _ a1))) ?_ ?_
   .rintro i ys H3 v hv hi ⟨s3,e3,rfl⟩;have a9:i<S.length:=by rw[zb]at hi;lia
    cbv;refine fD hi (by simp;lia) (by rw[zb,al];exact aH bh) e3 #[s3.upd ag _,ai,?_];rw[Lb a9,yb,yb];rfl
   .rintro ys H3 ⟨s3,e3,rfl⟩;rw[zb,al,<-hm,ir]at e3;refine q D1 H3 S (s2.trans s3) (s2.free ag) ?_ a3;unfold oZ;rw[Lu e];exact e3
noncomputable def ie(W:List MA):Nat:=(W.filter λ(ws:MA)=>decide (ws.headD "" = "lend")).length
theorem fA(X Y:List MA):ie (X++Y)=ie X+ie Y:=by unfold ie;rw[zaY,zq]
theorem iW{x:Str}{r:MA}(h:¬ x = "lend"):ie [x::r]=0:=by
 unfold ie;rw[List.filter_cons,Lu (by simpa using h)];rfl
theorem FO{f:List vr->List MA}{g:List vr->Nat}{p:List vr->Prop}(h:∀b,p b->ie (f b)<=g b):∀s:vr,fI p s->ie (gM f s)<=pX 0 1 0 g s
 | .plain ws,hs=>by
  have F:=hs.1;show ie [ws]<=0;cases F<;>exact Nat.le_of_eq (iW ∅)
 | .lend x y b,hs=>by
  have:=h b hs.2.2;show ie ([[("lend" : Str),x,y]]++(f b++[[("back" : Str)]]))<=g b+1;rw[fA,fA,iW (x := "back") ∅];have:ie [[("lend" : Str),x,y]]<=1:=List.length_filter_le _ _;lia
 | .ite n b c,hs=>by
  have:=h b hs.2.1;have:=h c hs.2.2;show ie ([[("if" : Str),f_ n]]++(f b++[[("else" : Str)]]++(f c++[[("fi" : Str)]])))<=g b+g c+0;rw[fA,fA,fA,fA,iW (x := "if") ∅,iW (x := "else") ∅,iW (x := "fi") ∅];lia
 | .whl n b,hs=>by
  have:=h b hs.2;show ie ([[("while" : Str),f_ n]]++(f b++[[("done" : Str)]]))<=g b+0;rw[fA,fA,iW (x := "while") ∅,iW (x := "done") ∅];lia
theorem zJ:∀(d:Nat) (T:List vr),cE d T->ie (tP d T)<=dY 0 1 0 d T
 | 0,_,h=>h.elim
 | d+1,T,h=>by
  show ie (T.flatMap (gM (tP d)))<=(T.map (pX 0 1 0 (dY 0 1 0 d))).sum
  induction T with
  | nil=>exact zg _
  | cons s T ih=>
   rw[Le,fA,yR,IX];have h1:=FO (zJ d) s (h s yd);have h2:=ih λu F=>h u (yh _ F);lia
theorem ym(W:List MA):(n9 W).length=ie W:=by
 unfold n9 ie;have e:W=(List.range W.length).map λi=>W.getD i []:=by
  refine List.ext_getElem '~' λi h1 h2=>?_;rw[List.getElem_map,List.getElem_range,xW,zd h1];rfl
 conv=>rhs;rw[e,List.filter_map,zb]
 rfl
theorem Bv{N:Str->Prop}:∀(e d:Nat) (T:List vr),fT N e T->js d T->∀n∈(cm d T).flatMap b4,N n
 | 0,_,_,h,_=>h.elim
 | _+1,0,_,_,h=>h.elim
 | e+1,d+1,T,hn,ho=>λn F=>by
  let#[s,J,F]:=LB.mp F;let#[t,U,J]:=LB.mp J;have h1:=hn t U;have h2:=ho t U;have sub:∀b,fT N e b->js d b->s∈cm d b->N n:=λb a1 a2 W=>Bv e d b a1 a2 n (LB.mpr #[s,W,F]);rcases LH.mp J with rfl | J
  .cases s with
   | plain ws=>rw[<- (kM h2).2]at F;exact h1.2 n F
   | lend x y b=>
    have O:n∈[x,y]:=F;simp only[yg,yu,or_false]at O;rcases O with rfl | rfl
    .exact h1.1
    .exact h1.2.1
   | ite _ _ _=>exact absurd F yu
   | whl _ _=>exact absurd F yu
  .cases t with
   | plain ws=>exact absurd J yu
   | lend x y b=>exact sub b h1.2.2 h2 (by simpa [dL] using J)
   | ite m b c=>
    have S:s∈cm d b\/s∈cm d c:=by simpa [dL] using J
    exact S.elim (sub b h1.1 h2.1) (sub c h1.2 h2.2)
   | whl m b=>exact sub b h1 h2 (by simpa [dL] using J)
theorem FR{l:MA}{n:Str}(h:n∈fN l):n∈l:=by
 have go:∀(l acc:MA),n∈l.foldl f7 acc->n∈acc\/n∈l:=λl=>by
  induction l with
  | nil=>exact λacc h=>.inl h
  | cons x l ih=>
   intro acc h;rcases ih _ h with z | z
   .unfold f7 at z;split at z
    .exact .inl z
    .exact(LG.mp z).imp id λy=>by rw[Lv.mp y];exact yd
   .exact .inr (yh _ z)
 exact(go l [] h).elim (λz=>(yu z).elim) id
theorem D3{e:Nat}(hf:cE d T)(F:fT (· ∈ nm) e T):(ci (fN ((cm d T).flatMap b4)) (dC d T)).length<=nm.length+dY 0 1 0 d T:=by
 unfold ci;rw[zq,zb,zb,Em,DJ (EO hf) (A4 hf),ym];have h1:=zJ d T hf;have h2:=iG (A0 ((cm d T).flatMap b4)) λx hx=>Bv e d T F (mM hf) x (FR hx);lia
theorem Fi{NM:MA}{t:Bool}(hf:cE d T)(W:dF d T)(O:fT (λn=>n∈NM) d T):KU (ci NM (dC d T)).length (fe NM d t T):=by
 have Z:∀k,iT (ig (ci NM (dC d T))) k->∃n,cy (ig (ci NM (dC d T))) k=iN n/\n<(ci NM (dC d T)).length:=λk h=>by
  let#[n,Y,U]:=vH _ _ k _ h;exact#[n,Y,U]
 have J:Dd (fe NM d t T) (aM (ig (ci NM (dC d T))) d t 0 0 T) 0:=λi r e=>by
  rw[tN];unfold fe;rw[xr (Lq.mp e).1];exact e
 have F:(fe NM d t T).length=(aM (ig (ci NM (dC d T))) d t 0 0 T).length+1:=by unfold fe;rw[zq];rfl
 have el:(fe NM d t T)[(aM (ig (ci NM (dC d T))) d t 0 0 T).length]?=Sm [.str "end",iN (ap d T)]:=by
  unfold fe;rw[uu (zg _),Lk];rfl
 have S:=v6 (E:=(fe NM d t T).length-1) Z d t 0 0 T hf W (oX d 0 T (λi s e=>by rw[tN];exact e) O) J ();refine#[λi r e=>?_,#[_,by rw[F,Nat.add_sub_cancel];exact el,rfl]];have hi:=(Lq.mp e).1;by_cases c:i<(aM (ig (ci NM (dC d T))) d t 0 0 T).length
 .exact S i r (mw _) () e
 .rw[show i=(aM (ig (ci NM (dC d T))) d t 0 0 T).length from (),el]at e;cases e;exact#[.en _,λz=>absurd (show ("end" : Str) = "test" from z) ∅,λz=>absurd (show ("end" : Str) = "jump" from z) ∅]
def G2(H:Hp)(rp:o_)(n z i:Nat)(as:MD)(rows:List (List MH)):Prop:=H rp=Sm (.lst (as.map V.ref))/\as.length=i/\rows.length=i/\(∀(j:Nat) b x,as[j]?=Sm b->rows[j]?=Sm x->H b=Sm (.lst (x.map b7))/\b≠rp)/\∀x∈rows,x.length=n/\∀k,Sm k∈x->k<z
theorem G2.push{O L:o_}{z:Nat}{S:MD}{rows:List (List MH)}{x:List MH}(h:G2 H O n z i S rows)(sm:su H H')(hL:H L=Nn)(hx:H' L=Sm (.lst (x.map b7)))(hn:x.length=n)(hk:∀k,Sm k∈x->k<z) :
  G2 (upd H' O (.lst (S.map V.ref++[.ref L]))) O n z (i+1) (S++[L]) (rows++[x]):=by
 revert h;refine yB5 λhl h1 h2 h3 h4=>?_;have nL:L≠O:=u6 (aQ hl hL);refine#[by rw[ai,yb];rfl,by simp[h1],by simp[h2],λj b y F J=>?_,jO h4 #[hn,hk]];rcases iu j i with z' | z'
 .rw[xr ()]at F J;let#[q1,q2]:=h3 j b y F J;exact#[by rw[au q2];exact sm _ _ q1,q2]
 .rw[uu ()]at F J;have U:j-S.length=0:=by
   have:=(Lq.mp F).1;simp at this;lia
  have Y:j-rows.length=0:=()
  rw[U]at F;rw[Y]at J;have W:L=b:=by simpa using F
  have Z:x=y:=by simpa using J
  subst W Z;exact#[by rw[au nL];exact hx,nL]
theorem G2.rule{U W:o_}{z:Nat}{S:MD}{rows:List (List MH)}{ws:MA}(h:G2 H U n z z S rows)(sm:su H H')(hw:H J=Sm (.lst (ws.map V.str)))(ht:H' W=Sm (.tup [.int sd,.ref J,.ref U]))(F:sd=1\/sd=2)(hn:ws.length=n)(ab:n<=16)(z0:1<=z)(z1:z<=60)(O:∀x∈ws,x.length<=30) :
  Ct H' W #[sd,ws,rows]/\dk #[sd,ws,rows]:=by
 revert h;refine yB5 λhl h1 h2 Y Z=>?_;refine#[yI3 J U S #[ht,sm _ _ hw,sm _ _ hl,by show S.length=rows.length;lia,λj b x e1 e2=>sm _ _ (Y j b x e1 e2).1],F,by show ws.length<=16;lia,by show 1<=rows.length;lia,by show rows.length<=60;lia,λx hx=>?_,O];let#[x1,x2]:=Z x hx;exact#[by show x.length=ws.length;lia,λk hk=>by have:=x2 k hk;show k<rows.length;lia]
theorem C9(l:MJ)(c:Int)(n:Nat)(h:l.length=n)(J:0<n)(F:∀x∈l,0<x/\x<100):∃v,cJ (l.map V.int) (c%(n:Int))=Sm (.int v)/\0<v/\v<100:=by
 have a1:=za0 c (show (n:Int)≠0 from ());have a2:=za1 c (show (0:Int)<n from ());let#[v,hv,_]:=GB (xs:=l) (i:=c%(n:Int)) a1 ();exact#[v,nO a1 hv,F v (xO hv)]
theorem FE(F:Int){z:Nat}(hz:1<=z):∃k:Nat,F%(z:Int)=(k:Int)/\k<z:=by
 have a1:=za0 F (show (z:Int)≠0 from ());have a2:=za1 F (show (0:Int)<z from ());exact#[(F%(z:Int)).toNat,(),()]
theorem u9{x:List MH}{z:Nat}{o:MH}(h:∀k,Sm k∈x->k<z)(J:∀k,o=Sm k->k<z):∀k,Sm k∈x++[o]->k<z:=λk F=>by
 rcases LG.mp F with g | g
 .exact h k g
 .exact J k (Lv.mp g).symm
def uN:Sp:=λvs H Q _=>∃(cp wp:o_) (cs:MJ) (ss:MA) (m:Nat) (sd:Int),vs=[.ref cp,.int sd,.ref wp,.int (m:Int)]/\(sd=1\/sd=2)/\H cp=Sm (.lst (cs.map V.int))/\cs.length=6/\H wp=Sm (.lst (ss.map V.str))/\ss.length<=8/\(∀x∈ss,x.length<=20)/\1<=m/\m<=60/\∀(p:o_) (H':Hp) (r:Rl),su H H'->H p=Nn->Ct H' p r->dk r->r.s=sd->r.rs.length<=m->Q (.ref p) H'
theorem Aa(D:xn K mg "_law_rule" aU) (J:mg "range" = Nn) (a7:wAK mg) (U:mg "sorted" = Nn) (a3:mg "set" = Nn):aD P w K mg base 1 "_law_rule" qAT uN:=by
 refine D.cal (k:=0) Bd (λf c9 A outer s H vs Q E hr h=>?_);revert h;refine yF6 λcp wp cs ss m sd=>yB10 ?_;rintro rfl cq hc c4 hS da bg m0 m1 q;refine⟨_,(ah (ay 4 Bd.nd (aG ae))
   (ah (cg pD rfl (ef Gx J (aa (bx (ba K) a7 bK (aa (pv 2) ae)) ae)) (aS 5 Bd.nd) (ah (ay 6 Bd.nd (ar sP (ar b5 (am (ax K) (pv 0) af) af) (pv 5)))
   (ah (aY (PW.pt' (cr (aA aL (pv 1) af (aB _)) (cM (aA aL (ar lu (pv 6) af) af (aB _))))) (aj (bm (bB K yY ux uC br (pv 4) (aa (am (ax K) (pv 2) (pv 5)) ae)))) aN)
   (ah (aY (PW.pt' (cr (aA aL (pv 1) af (aB _)) (cM (aA aL (ar lu (pv 6) af) af (aB _))))) (aj (bm (bB K yY ux uC br (pv 4) (aa (ar aF av (am (ax K) (pv 2) (pv 5))) ae)))) aN)
   (aj (aY (PW.pt' (cr (aA aL (pv 1) af (aB _)) (cM (aA aL (ar lu (ar sP (pv 6) af) af) af (aB _))))) (aj (bm (bB K yY ux uC br (pv 4) (aa (ar aF av (am (ax K) (pv 2) (pv 5))) ae)))) aN))))))
   (ah (ay 4 Bd.nd (bx (oE w hr) U ji (aa (eQ (vx K w hr) a3 tV (aa (pv 4) ae)) ae)))
   (ah (ay 7 Bd.nd (ar aF af (ar b5 (am (ax K) (pv 0) af) (pv 3))))
   (ah (ay 8 Bd.nd (am (ax K) (aG (aa af (aa af (aa af (aa af ae))))) (ar b5 (ar eW (am (ax K) (pv 0) af) af) af)))
   (ah (ay 9 Bd.nd (aG ae))
   (ah (cg pD rfl (ef Gx J (aa (pv 7) ae)) (aS 5 Bd.nd) (ah (ay 10 Bd.nd (ar b5 (ar gm (am (ax K) (pv 0) (ar aF af (ar b5 (pv 5) af))) (ar aF af (ar gm af (pv 5)))) (ar nK af af)))
   (ah (ay 11 Bd.nd (aG ae))
   (ah (cg pD rfl (bF K (pv 4)) (aS 12 Bd.nd) (ah (ay 13 Bd.nd (ar b5 (pv 10) af))
   (ah (ay 10 Bd.nd (ar eW (pv 10) af))
   (aj (aY (aA aL (ar b5 (pv 13) (pv 8)) af (aB _)) (aj (bm (bB K yY ux uC br (pv 11) (aa dw ae)))) (aj (bm (bB K yY ux uC br (pv 11) (aa (ar b5 (ar eW (pv 13) (pv 8)) (pv 7)) ae)))))))))
   (aj (bm (bB K yY ux uC br (pv 9) (aa (pv 11) ae))))))))
   (aj (az (aR (aa (pv 1) (aa (pv 4) (aa (pv 9) ae))))))))))))),?_⟩
 have ab:∀j:Nat,j<6->∃v:Int,(cs.map V.int)[j]?=Sm (.int v):=λj hj=>#[cs[j],by rw[zz,zd ()];rfl];let#[c0,ce]:=ab 0 ∅;let#[Y,bc]:=ab 1 ∅;cbv;refine#[∅,λtp a6=>?_];∎;rename_i H1 s1 e1;have e1:H1 tp=Sm (.lst (([]:MA).map V.str)):=e1;rw?;refine#[_,.inl (ud.of (s1 _ _ hS)),?_];rw[zb];refine#[(),(),?_];rw[uv];refine fC (λi σ H'=>∃(ts:MA) (o4 o5:MK),σ=[Sm (.ref cp),Sm (.int sd),Sm (.ref wp),Sm (.int (m:Int)),Sm (.ref tp),o4,o5,Nn,Nn,Nn,Nn,Nn,Nn,Nn]/\su H H'/\H' tp=Sm (.lst (ts.map V.str))/\ts.length<=2*i/\∀x∈ts,x.length<=30)
  (yI3 ([]) Nn Nn #[rfl,s1,e1,zg _,'~']) ?_ ?_
 .intro i σ H' hi;refine yF3 λts o4 o5=>yB5 ?_;rintro rfl sm hl W F;cbv;refine X2 (ud.of (sm _ _ hc)) (aq (j:=0) ce) ?_;cbv;refine#[∅,(),?_];generalize c0%65536/2^(0+(i:Int)).toNat=bt;have dl:=bg _ (gV hi);refine jL (λσ' H'=>∃(ts:MA),σ'=[Sm (.ref cp),Sm (.int sd),Sm (.ref wp),Sm (.int (m:Int)),Sm (.ref tp),Sm (.int (0+(i:Int))),Sm (.int bt),Nn,Nn,Nn,Nn,Nn,Nn,Nn]/\su H H'/\H' tp=Sm (.lst (ts.map V.str))/\ts.length<=2*i+1/\(sd=2->ts.length<=2*i)/\∀x∈ts,x.length<=30) (λk hk=>?_) ?_
  .cbv;refine aT (λY=>aT (λc=>?_) (λc=>?_)) (λY=>?_)
   .refine#[#[_,ud.of hl],X2 (ud.of (sm _ _ hS)) (by rw[zaZ];exact aq (v:=.str ss[i]) (by rw[zz,zd hi];rfl)) ?_];refine#[_,hl,by rw[zb];exact cC (),?_];exact hk _ _ #[ts++[ss[i]],rfl,sm.upd a6 _,by rw[ai,yb];rfl,by rw[zq,JZ];lia,λh=>(),jO F ()]
   .exact hk _ _ #[ts,rfl,sm,hl,(),λ_=>W,F]
   .exact hk _ _ #[ts,rfl,sm,hl,(),λ_=>W,F]
  intro σ' H';refine yF1 λts=>yB6 ?_;rintro rfl sm hl W a9 F;refine jL (λσ' H'=>∃(ts:MA),σ'=[Sm (.ref cp),Sm (.int sd),Sm (.ref wp),Sm (.int (m:Int)),Sm (.ref tp),Sm (.int (0+(i:Int))),Sm (.int bt),Nn,Nn,Nn,Nn,Nn,Nn,Nn]/\su H H'/\H' tp=Sm (.lst (ts.map V.str))/\ts.length<=2*i+1/\∀x∈ts,x.length<=30) (λk hk=>?_) ?_
  .cbv;refine aT (λY=>aT (λc=>?_) (λc=>?_)) (λY=>?_)
   .have:=a9 Y;refine#[#[_,ud.of hl],X2 (ud.of (sm _ _ hS)) (by rw[zaZ];exact aq (v:=.str ss[i]) (by rw[zz,zd hi];rfl)) ?_];cbv;have hz:("1." : Str).length=2:=⋯;refine#[by rw[hz];exact aH (),_,hl,by rw[zb];exact cC (),?_];exact hk _ _ #[ts++[("1." : Str)++ss[i]],rfl,sm.upd a6 _,by rw[ai,yb];rfl,by rw[zq,JZ];lia,jO F (by rw[K8,hz];lia)]
   .exact hk _ _ #[ts,rfl,sm,hl,(),F]
   .exact hk _ _ #[ts,rfl,sm,hl,(),F]
  intro σ' H';refine yF1 λts=>yB5 ?_;rintro rfl sm hl W F;rw?;refine aT (λY=>#[∅,aT (λc=>?_) (λc=>?_)]) (λY=>?_)
  .refine#[#[_,ud.of hl],X2 (ud.of (sm _ _ hS)) (by rw[zaZ];exact aq (v:=.str ss[i]) (by rw[zz,zd hi];rfl)) ?_];cbv;have hz:("2." : Str).length=2:=⋯;refine#[by rw[hz];exact aH (),_,hl,by rw[zb];exact cC (),?_];exact yI3 (ts++[("2." : Str)++ss[i]]) _ _ #[rfl,sm.upd a6 _,by rw[ai,yb];rfl,by rw[zq,JZ];lia,jO F (by rw[K8,hz];lia)]
  .exact yI3 ts _ _ #[rfl,sm,hl,(),F]
  .exact yI3 ts _ _ #[rfl,sm,hl,(),F]
 intro σ H2;refine yF3 λb0 o4 o5=>yB5 ?_;rintro rfl s2 e2 W F;rw?;refine yI2 tp b0 #[rfl,ud.of e2,(),λsl ds c3 c2 ag cz=>?_];∎;rename_i H3 s3 e3;refine yI2 sl ds #[rfl,e3,(),λxp ts dt S _=>?_];have ca:ts.length<=16:=by rw[S.length_eq];lia
 have b3:∀x∈ts,x.length<=30:=λx hx=>F x ((ag x).mp (S.mem_iff.mp hx));∎;rename_i H4 s4 e4;have a4:=s2.trans (s3.trans s4);clear S ag cz F W e3 e2;rw?;refine X2 (ud.of (a4 _ _ hc)) (aq (j:=1) bc) ?_;cbv;have b1:∃z:Nat,1+Y%(m:Int)=(z:Int)/\1<=z/\z<=m:=by
  have a1:=za0 Y (show (m:Int)≠0 from ());have a2:=za1 Y (show (0:Int)<m from ());exact#[(1+Y%(m:Int)).toNat,(),(),()]
 revert b1;refine yF1 λz=>yB3 λez z0 z1=>?_;refine#[(),?_];rw[ez];rw?;refine#[∅,λlp c5=>?_];∎;rename_i H5 s5 e5;refine X2 (ud.of (s5 _ _ (a4 _ _ hc))) (aq (j:=1) bc) ?_;cbv;refine yE1 (C9 [2,3,5,11] (Y/64) 4 rfl ∅ ∅) λsh=>yB3 λcd dm dc=>?_;refine#[#[∅,∅],∅,X2 (ud.of e5) cd ?_];have a8:=a4.trans s5;have al:=s5 _ _ e4;rw?;refine#[∅,λrp cn=>?_];∎;rename_i H6 s6 e6;have e6:H6 rp=Sm (.lst (([]:MD).map V.ref)):=e6;rw?;refine#[(),(),?_];rw[uv];refine fC (λi σ H'=>∃(as:MD) (rows:List (List MH)) (o1 o2 o3 o4 o5 o6:MK),σ=[Sm (.ref cp),Sm (.int sd),Sm (.ref wp),Sm (.int (m:Int)),Sm (.ref xp),o1,o2,Sm (.int (z:Int)),Sm (.int sh),Sm (.ref rp),o3,o4,o5,o6]/\su H5 H'/\G2 H' rp ts.length z i as rows)
  (yI8 ([]) ([]) _ _ Nn Nn Nn Nn #[rfl,s6,#[e6,rfl,rfl,'~','~']]) ?_ ?_
 .intro i σ H' hi;refine yF8 λas rows o1 o2 o3 o4 o5 o6=>yB3 ?_;rintro rfl sm O;have cc:∃j:Nat,2+(0+(i:Int))%4=(j:Int)/\j<6:=#[(2+(0+(i:Int))%4).toNat,(),()];let#[j0,b2,cb]:=cc;let#[cv,cA]:=ab j0 cb;cbv;rw[b2];refine#[∅,X2 (ud.of (sm _ _ (a8 _ _ hc))) (aq cA) ?_];cbv;refine#[.inl #[∅,∅],.inr #[(),()],#[∅,∅,∅],∅,?_];generalize cv*(48271+10*(0+(i:Int)))%10^Int.toNat 36=BY;rw?;refine#[∅,λL' a5=>?_];∎;rename_i H7 s7 e7;have e7:H7 L'=Sm (.lst (([]:List MH).map b7)):=e7;rw?;have cB:=(sm.trans s7) _ _ al;refine#[#[_,ud.of cB],?_];refine cL (xs:=ts.map V.str) (λj σ H5=>∃(x:List MH) (r1:Int) (o5 o6:MK),σ=[Sm (.ref cp),Sm (.int sd),Sm (.ref wp),Sm (.int (m:Int)),Sm (.ref xp),Sm (.int (0+(i:Int))),o2,Sm (.int (z:Int)),Sm (.int sh),Sm (.ref rp),Sm (.int r1),Sm (.ref L'),o5,o6]/\su H' H5/\H5 L'=Sm (.lst (x.map b7))/\x.length=j/\∀k,Sm k∈x->k<z)
   (yI4 ([]) BY _ _ #[rfl,s7,e7,rfl,'~']) (λj σ H5 _ hh=>by revert hh;refine yF4 λ_ _ _ _=>yB3 λ_ z _=>?_;exact ud.of (z _ _ (sm _ _ al))) ?_ ?_
  .intro j v σ H5 hv;refine yF4 λx r1 o5 o6=>yB5 ?_;rintro rfl be hx Z ad;have hj:j<ts.length:=by have:=(Lq.mp hv).1;simpa using this
   cbv;refine#[∅,?_];rw?;refine#[#[∅,∅],?_];rw?;refine#[(),aT (λ_=>?_) (λ_=>?_)]
   .refine#[#[_,ud.of hx],_,hx,by rw[zb];exact cC (),?_];exact yI4 (x++[Nn]) _ _ _ #[rfl,be.upd a5 _,by rw[ai,yb];rfl,mK Z,u9 ad λk e=>by cases e]
   .let#[k,ek,hk]:=FE (r1%1000/sh) z0;refine#[#[_,ud.of hx],#[(),()],(),?_];rw[ek];refine#[_,hx,by rw[zb];exact cC (),?_];exact yI4 (x++[Sm k]) _ _ _ #[rfl,be.upd a5 _,by rw[ai,yb];rfl,mK Z,u9 ad λk' e=>by cases e;exact hk]
  .intro σ H8;refine yF4 λx r1 o5 o6=>yB5 ?_;rintro rfl ac hx Z ad;rw[zb]at Z;rw?;refine#[#[_,ud.of (ac _ _ O.1)],_,ac _ _ O.1,by rw[zb,O.2.1];exact cC (),?_];exact yI8 _ _ _ _ _ _ _ _ #[rfl,(sm.trans ac).upd cn _,O.push ac a5 hx Z ad]
 intro σ H';refine yF8 λas rows o1 o2 o3 o4 o5 o6=>yB3 ?_;rintro rfl sm O;rw?;refine#[∅,λtq bh=>?_];have bp:=ak bh (.tup [.int sd,.ref xp,.ref rp]);let#[hR,ok]:=O.rule bp (sm _ _ al) ai cq rfl ca z0 () b3;exact q tq _ #[sd,ts,rows] ((a8.trans sm).trans bp) ((a8.trans sm).free bh) hR ok rfl (by have h1:=O.2.1;have h2:=O.2.2.1;show rows.length<=m;lia)
theorem Kb{ws:MA}(F:∀x∈ws,dR x):∀x∈ws++(qAK:MA),dR x:=λx hx=>by
 rcases LG.mp hx with hx | hx
 .exact F x hx
 .simp only[yg,yu,or_false]at hx;rcases hx with rfl | rfl | rfl | rfl<;>exact#[∅,by unfold dG;decide]
theorem Fs(ns:List α)(p q:Nat):(jX ns (Sm (p:Int)) (Sm (q:Int))).length<=q-p:=by
 unfold jX;rw[lj,Lm];have h1:HT.sIx ns.length 0 (Sm (p:Int))=min p ns.length:=HT.sIx_nat _ _ p;have h2:HT.sIx ns.length ns.length (Sm (q:Int))=min q ns.length:=HT.sIx_nat _ _ q;rw[h1,h2];refine Nat.le_trans (Nat.min_le_left _ _) ?_;rcases Nat.le_total p ns.length with h|h
 .rw[Nat.min_eq_left h];exact Nat.sub_le_sub_right (Nat.min_le_left _ _) _
 .rw[Nat.min_eq_right h,Nat.sub_eq_zero_of_le (Nat.min_le_right _ _)];exact Nat.zero_le _
theorem Ba{k:Nat}{x:Str}{ps:MA}{sp:Sp}(c:aD P w K mg base j x ps sp)(h:j<=k):aD P w K mg base k x ps sp:=by
 refine yE2 c.ex λf fd=>yB2 λF r=>?_;exact#[f,fd,F.mono h,r]
theorem Ge{k:Nat}{x:Str}{ps:MA}{sp J:Sp}(c:aD P w K mg base k x ps sp)(h:∀vs H Q E,J vs H Q E->sp vs H Q E):aD P w K mg base k x ps J:=by
 refine yE2 c.ex λf fd=>yB2 λF r=>?_;exact#[f,fd,F.imp h,r]
def JD(H:Hp)(p:o_)(NM:MA):Prop:=∃(T:List vr) (S:o_->Prop),BX S 10 H p T/\js 10 T/\(cm 10 T).length<=1000/\((cm 10 T).flatMap b4).length<=5000/\NM=fN ((cm 10 T).flatMap b4)
theorem JD.mono{NM:MA}(h:JD H p NM)(s:su H H'):JD H' p NM:=by
 revert h;refine yF2 λT S=>yB2 λh1 h2=>?_;exact yI2 T S #[h1.mono s,h2]
theorem Dr{k:Nat}(c:aD P w K mg base k "names_of" ["program"] pK):aD P w K mg base k "names_of" ["program"] (IE JD):=Ge c λvs H Q E h=>by
 revert h;refine yF2 λp NM=>yB3 ?_;rintro rfl ⟨T,S,h1,h2,F,J,rfl⟩ q;exact yI3 p T S #[rfl,h1,h2,F,J,q]
theorem Dk{f:List vr->List vr}{g:List vr->Nat}(h:∀b,(f b).length<=g b):∀s:vr,(gE f s).length<=bv g s
 | .plain _=>by simp[gE,dL,bv]
 | .lend _ _ b=>by have:=h b;simp[gE,dL,bv];lia
 | .ite _ b c=>by have:=h b;have:=h c;simp[gE,dL,bv];lia
 | .whl _ b=>by have:=h b;simp[gE,dL,bv];lia
theorem ox:∀(d:Nat) (T:List vr),(cm d T).length<=ap d T
 | 0,_=>zg _
 | d+1,T=>by
  show (T.flatMap (gE (cm d))).length<=(T.map (bv (ap d))).sum
  induction T with
  | nil=>exact zg _
  | cons s T ih=>
   have:=Dk (ox d) s;rw[Le,zq,yR,IX];lia
theorem G_{g:List vr->Prop}:∀ {s:vr},gq g s->(b4 s).length<=2
 | .plain ws,h=>by cases (show gu ws from h)<;>simp[b4]<;>split<;>simp
 | .lend _ _ _,_=>by simp[b4]
 | .ite _ _ _,_=>by simp[b4]
 | .whl _ _,_=>by simp[b4]
theorem AL{d:Nat}{T:List vr}(h:js d T):((cm d T).flatMap b4).length<=2*ap d T:=by
 have h1:=ox d T;have h2:=uP d h;have go:∀X:List vr,(∀s∈X,∃g:List vr->Prop,gq g s)->(X.flatMap b4).length<=2*X.length:=λX=>by
  induction X with
  | nil=>intro _;exact zg _
  | cons s X ih=>
   intro hx;let#[g,hg]:=hx s yd;have:=G_ hg;have:=ih λu F=>hx u (yh _ F);rw[Le,zq,zy];lia
 have:=go _ h2;lia
theorem BG{U:List vr}{bs:MD}(h:BX S (d+1) H p T)(W:L8 (Da (BX S d H) H) bs U)(F:H p=Sm (.lst xs))(J:H q=Sm (.lst (bs.map V.ref++xs))):BX (λb=>S b\/b=q) (d+1) H q (U++T):=by
 revert h;refine yB2 λY=>yF1 λO=>yB2 λh1 h2=>?_;rw[h1]at F;cases F;refine#[.inr rfl,bs++O,by rw[J,yb],?_];exact L8.imp' (λa s z=>z.imp (λ_ _ e=>e) λr b y=>y.imp (λ_ _ e=>e) (λ_ _ _ e=>e) (λ_ z=>.inl z) d) (jV W h2)
theorem qi(d:Nat):∀U:List MA,ap (d+1) (U.map vr.plain)=U.length
 | []=>rfl
 | ws::U=>by
  show bv (ap d) (.plain ws)+ap (d+1) (U.map vr.plain)=_;rw[qi d U,zy];show 1+_=_;lia
theorem sr(p l o d:Nat):∀U:List MA,dY p l o (d+1) (U.map vr.plain)=p*U.length
 | []=>rfl
 | ws::U=>by
  show p+dY p l o (d+1) (U.map vr.plain)=_;rw[sr p l o d U,zy,Jh,Nat.mul_one];lia
theorem FD{x:Str}{e:Nat}(hx:dR x)(J:x∈nm):fI (cE d) (.plain ["open",x])/\km (dF d) (.plain ["open",x])/\mi (fT (· ∈ nm) e) (· ∈ nm) (.plain ["open",x]):=by
 refine#[#[.op x,λz hz=>?_],oz ⋯ ∅ hx.1,λz=>absurd z (by show ¬ (("open" : Str) = "do");decide),λn F=>?_]
 .simp only[yg,yu,or_false]at hz;rcases hz with rfl | rfl
  .unfold dG;decide
  .exact hx.2
 .unfold dj at F;rw[Lu (show ¬ List.headD [("open" : Str),x] "" = "do" from (by decide:¬ ("open" : Str) = "do"))]at F;rw[Lv.mp F];exact J
theorem Hl{x:Str}{e:Nat}(hx:dR x)(O:dR y)(U:x∈nm)(S:y∈nm):fI (cE d) (.plain ["tie",x,y])/\km (dF d) (.plain ["tie",x,y])/\mi (fT (· ∈ nm) e) (· ∈ nm) (.plain ["tie",x,y]):=by
 refine#[#[.ti x y,λz hz=>?_],ly ⋯ ∅ hx.1 O.1,λz=>absurd z (by show ¬ (("tie" : Str) = "do");decide),λn J=>?_]
 .simp only[yg,yu,or_false]at hz;rcases hz with rfl | rfl | rfl
  .unfold dG;decide
  .exact hx.2
  .exact O.2
 .unfold dj at J;rw[Lu (show ¬ List.headD [("tie" : Str),x,y] "" = "do" from (by decide:¬ ("tie" : Str) = "do"))]at J;have F:n∈[x,y]:=J;simp only[yg,yu,or_false]at F;rcases F with rfl | rfl<;>assumption
structure Kk (nm:MA) (l0:Nat) (T:List vr):Prop where
 fi:cE 10 T
 ok:dF 10 T
 cnt:ap 10 T<=64
 nm:fT (· ∈ nm) 3 T
 ld:dY 0 1 0 10 T<=l0
def pJ(K:KE):Sp:=λvs H Q _=>∃(a wq:o_) (ns:MJ) (ws:MA) (sd:Int),vs=[.ref a,.int 8,.int sd,.ref wq]/\(sd=1\/sd=2)/\ud K H a (ns.map V.int)/\H wq=Sm (.lst (ws.map V.str))/\1<=ws.length/\ws.length<=20/\(∀x∈ws,dR x)/\∀(cq:o_) (H':Hp) (R:List aE) (N:Nat),su H H'->H cq=Nn->Ce H' cq R->KU N R->(N:Int)<=7-2*sd->R.length<=4230->Q (.ref cq) H'
theorem Cw(D:xn K mg "_law_code" bo) (F:aD P w K mg base 1 "_law_cell_at" qAc (uS K)) (Y:aD P w K mg base 1 "_law_words" qAi oS) (O:aD P w K mg base 3 "_law_program" qAP pL) (ab:aD P w K mg base 35 "code_of" ["program"] (Bb JD 10)) (W:aD P w K mg base 35 "turned_code" ["program"] (rM JD 10)):aD P w K mg base 36 "_law_code" qAR (pJ K):=by
 refine D.cal (k:=35) DF (λf ei A outer s H vs Q E hr h=>?_);revert h;refine yF5 λa wq ns ws sd=>yB8 ?_;rintro rfl c3 hS d4 w1 w2 d6 q;refine⟨_,(ah (ay 4 DF.nd (aw F hr (aa (pv 0) (aa af ae))))
   (ah (ay 5 DF.nd (aw F hr (aa (pv 0) (aa af ae))))
   (ah (ay 6 DF.nd (aw Y hr (aa (ar eW (pv 4) af) (aa (am (ax K) (aG (aa (ar aF af (ar b5 (pv 4) af)) (aa af ae))) (ar gv (pv 2) af)) ae))))
   (ah (ay 7 DF.nd (aw O hr (aa (fw (Cg K) (pv 0) (fE (pv 1)) (fE (ar aF (pv 1) (am (ax K) (aG (aa af (aa af ae))) (ar gv (pv 2) af))))) (aa (pv 6) (aa (pv 3) (aa (ar gv af (pv 2)) (aa af ae)))))))
   (ah (aY (aA aL (ar b5 (ar eW (pv 5) af) af) af (aB _)) (aj (ay 7 DF.nd (ar aF (ar aF (dn (CO.to (fsc:=(sg bo)) (N:=qAD) (N0:=qAD) (T:=["_law_name"])) rfl (bF K (pv 6)) (λ_ _ _ _=>(aS 8 (show (["_law_script","_law_start","_law_sides","_law_words_here","_law_first","_law_second","_law_names","_law_program_here","_law_name"]:MA).Nodup from ⋯))) (bW (show (qAD:MA).length<=8 from ∅)) (λ_ _ _ _=>cX) (λ_ _ _ _=>(aR (aa av (aa (pv 8) ae))))) (aG (aa (aR (aa av (aa (am (ax K) (pv 6) af) (aa (am (ax K) (pv 6) af) ae)))) ae))) (pv 7)))) aN)
   (ah (aY (aA aL (ar b5 (pv 5) af) af (aB _)) (aj (az (aw W hr (aa (pv 7) ae)))) aN)
   (aj (az (aw ab hr (aa (pv 7) ae)))))))))),?_⟩
 cbv;refine yI3 a ns 0 #[rfl,hS,∅,?_];generalize ns.getD (Int.toNat 0) 0=c0;rw?;refine yI3 a ns 1 #[rfl,hS,∅,?_];generalize ns.getD (Int.toNat 1) 0=c1;rw?;refine#[#[∅,∅],∅,∅,λx hx=>?_];∎;rename_i H1 s1 e1;have da:∃z:Nat,cJ [V.int (2+c0%2),V.int 2] (sd-1)=Sm (.int (z:Int))/\2<=z/\(z:Int)<=4-sd:=by
  rcases c3 with rfl | rfl
  .exact#[(2+c0%2).toNat,by rw[Int.toNat_of_nonneg ()];rfl,(),()]
  .exact#[2,rfl,(),()]
 revert da;refine yF1 λmz=>yB3 λdm KN QF=>?_;refine X2 (ud.of e1) dm ?_;refine yI2 (c0/8) mz #[rfl,(),λnp nm H2 s2 em e2 eb bt=>?_];have a6:=s1.trans s2;rw?;refine#[∅,λy hy=>?_];∎;rename_i H3 s3 e3;have d1:∃z:Nat,cJ [V.int 12,V.int 8] (sd-1)=Sm (.int (z:Int))/\z<=12:=by
  rcases c3 with rfl | rfl
  .exact#[12,rfl,∅]
  .exact#[8,rfl,∅]
 let#[cz,d3,ed]:=d1;refine X2 (ud.of e3) d3 ?_;cbv;have cn:=a6.trans s3;refine#[_,cn.seq hS,λcp d9=>?_];rw[FV];have dP:(jX ns (Sm 8) (Sm (8+cz))).length<=12:=mn (Fs ns 8 (8+cz)) ();have s4:=ak d9 (.lst ((jX ns (Sm 8) (Sm (8+cz))).map V.int));have e4:upd H3 cp (.lst ((jX ns (Sm 8) (Sm (8+cz))).map V.int)) cp=Sm (.lst ((jX ns (Sm 8) (Sm (8+cz))).map V.int)):=ai;generalize jX ns (Sm 8) (Sm (8+cz))=cs at dP s4 e4 |-;generalize upd H3 cp (.lst (cs.map V.int))=H4 at s4 e4 |-;obtain⟨l0,dV⟩ : ∃l0:Nat,3-sd=(l0:Int):=⟨(3-sd).toNat,()⟩
 rw[dV];have a3:=s3.trans s4;refine yI7 cp np wq cs nm ws l0 #[rfl,e4,a3 _ _ e2,(a6.trans a3) _ _ d4,(),(),(),w1,w2,bt,d6,λb1 H3 S T s3 d7 hP a5 hok c4 bg c9 cd=>?_];have ce:=(a6.trans a3).trans s3
 replace e2:=a3 _ _ e2
 refine jL (λσ' H'=>∃(rt:o_) (S':o_->Prop) (Z:List vr),σ'=[Sm (.ref a),Sm (.int 8),Sm (.int sd),Sm (.ref wq),Sm (.int c0),Sm (.int c1),Sm (.ref np),Sm (.ref rt)]/\su H H'/\BX S' 10 H' rt Z/\Kk nm l0 Z) (λk a8=>?_) ?_
 .cbv;refine#[#[∅,∅],∅,aT (λc=>?_) (λc=>a8 _ _ (yI3 b1 S T #[rfl,ce,hP,a5,hok,(),bg,cd]))];refine#[#[_,ud.of (s3 _ _ e2)],λD1 cb=>?_];have a4:0<nm.length:=()
  have a7:1<nm.length:=()
  refine er (xs:=nm.map V.str) (λi ys H'=>su H3 H'/\H' D1=Sm (.lst ys)/\∃bs:MD,ys=bs.map V.ref/\bs.length=i/\L8 (λb (x:Str)=>H' b=Sm (.tup [V.str "open",V.str x])) bs (nm.take i)) #[ak cb _,ai,[],rfl,rfl,.nil] (λi ys H' _ hh=>ud.of (hh.1 _ _ (s3 _ _ e2))) ?_ ?_
  .intro i ys H' v hv hi;refine yB3 λsm eD=>yF1 λbs=>yB3 ?_;rintro rfl al ad;have cA:i<nm.length:=by simpa using hi
   rw[zz,zd cA]at hv;cases hv;cbv;refine#[∅,λt ht=>?_];have s4:=ak ht (.tup [V.str "open",V.str nm[i]]);have e4:upd H' t (.tup [V.str "open",V.str nm[i]]) t=Sm (.tup [V.str "open",V.str nm[i]]):=ai;have a9:=s4 _ _ eD;generalize upd H' t (.tup [V.str "open",V.str nm[i]])=H4 at s4 e4 a9 |-;have kt:∀b xs,H4 b=Sm (.tup xs)->upd H4 D1 (.lst (bs.map V.ref++[V.ref t])) b=Sm (.tup xs):=λb xs e=>by rw[au (λz=>by rw[z,a9]at e;cases e)];exact e
   refine fD hi (by rw[zb];exact al) (by rw[zb];exact aH ()) a9 #[(sm.trans s4).upd cb _,ai,bs++[t],'~',by simp[al],?_];rw[Lb cA];exact eX (R:=λb (x:Str)=>upd H4 D1 (.lst (bs.map V.ref++[V.ref t])) b=Sm (.tup [V.str "open",V.str x])) (kt _ _ e4) (L8.imp' (λb x z=>kt _ _ (s4 _ _ z)) ad)
  intro ys H4;refine yB3 λs4 eD=>yF1 λbs=>yB3 ?_;rintro rfl al ad;rw[zb]at al ad;rw[ir]at ad;have b3:=s4 _ _ (s3 _ _ e2);cbv;refine X2 (ud.of b3) (aq (j:=0) (v:=.str nm[0]) (by rw[zz,zd a4];rfl)) (X2 (ud.of b3) (aq (j:=1) (v:=.str nm[1]) (by rw[zz,zd a7];rfl)) #[∅,λtt ec=>?_]);∎;rename_i H5 s5 e5;refine#[∅,λlt eq=>?_];∎;rename_i H6 s6 e6;have e6:H6 lt=Sm (.lst ([tt].map V.ref)):=e6;have bp:=s5.trans s6;refine yI2 _ _ #[bp _ _ eD,e6,by rw[zb];exact aH (by simp;lia),λl1 ej=>?_];rw[<-yb];∎;rename_i H7 s7 e7;have cB:=s4.trans (bp.trans s7);have bh:=hP.mono cB;refine yA2 (id bh) λ_=>yF1 λas=>yB2 λc2 cv=>?_;have eg:as.length<=60:=by
   have h1:=aK cv;have:T.length<=ap 10 T:=by
    show T.length<=(T.map (bv (ap 9))).sum;clear cv h1 bh cd c9 bg c4 hok a5 hP a8
    induction T with
    | nil=>exact zg _
    | cons s T ih=>
     rw[yR,IX,zy];have:1<=bv (ap 9) s:=by cases s<;>simp[bv]
     lia
   lia
  refine yI2 _ _ #[e7,c2,by rw[zb,zb];exact aH (by simp;lia),λl2 ek=>?_];∎;rename_i H8 s8 e8;have dt:L8 (Da (BX S 9 H8) H8) (bs++[tt]) (((nm.map λn=>[("open" : Str),n])++[[("tie" : Str),nm[0],nm[1]]]).map vr.plain):=by
   rw[yb,td];refine eX (show Da (BX S 9 H8) H8 tt (.plain ["tie",nm[0],nm[1]]) from (s6.trans (s7.trans s8)) _ _ e5) ?_;have:∀ {bs:MD} {l:MA},L8 (λb (x:Str)=>H4 b=Sm (.tup [V.str "open",V.str x])) bs l->L8 (Da (BX S 9 H8) H8) bs (l.map (vr.plain ∘ λn=>[("open" : Str),n])):=λh=>by
    induction h with
    | nil=>exact .nil
    | cons a _ ih=>exact .cons ((bp.trans (s7.trans s8)) _ _ a) ih
   exact this ad
  have c5:=BG (q:=l2) (bh.mono s8) dt (s8 _ _ c2) e8;have ag:∀i (h:i<nm.length),dR nm[i]/\nm[i]∈nm:=λi h=>#[bt _ (gV h),gV h];have ac:∀s∈((nm.map λn=>[("open" : Str),n])++[[("tie" : Str),nm[0],nm[1]]]).map vr.plain,fI (cE 9) s/\km (dF 9) s/\mi (fT (· ∈ nm) 2) (· ∈ nm) s:=λs hs=>by
   let#[ws,dl,rfl]:=LD.mp hs;rcases LG.mp dl with z | z
   .let#[n,hn,rfl]:=LD.mp z;exact FD (bt n hn) hn
   .rw[Lv.mp z];exact Hl (ag 0 a4).1 (ag 1 a7).1 (ag 0 a4).2 (ag 1 a7).2
  have ea:((nm.map λn=>[("open" : Str),n])++[[("tie" : Str),nm[0],nm[1]]]).length<=4:=by simp;lia
  have d8:ap 10 _=_:=qi 9 ((nm.map λn=>[("open" : Str),n])++[[("tie" : Str),nm[0],nm[1]]]);have d2:dY 0 1 0 10 _=_:=sr 0 1 0 9 ((nm.map λn=>[("open" : Str),n])++[[("tie" : Str),nm[0],nm[1]]]);generalize (nm.map λn=>[("open" : Str),n])++[[("tie" : Str),nm[0],nm[1]]]=U at c5 ac ea d8 d2;refine a8 _ _ (yI3 l2 _ _ #[rfl,ce.trans (cB.trans s8),c5,λs hs=>?_,λs hs=>?_,?_,λs hs=>?_,?_])
  .exact(LG.mp hs).elim (λz=>(ac s z).1) (a5 s)
  .exact(LG.mp hs).elim (λz=>(ac s z).2.1) (hok s)
  .have:ap 10 (U.map vr.plain++T)=ap 10 (U.map vr.plain)+ap 10 T:=wK 9 (U.map vr.plain) T;lia
  .exact(LG.mp hs).elim (λz=>(ac s z).2.2) (bg s)
  .have:dY 0 1 0 10 (U.map vr.plain++T)=dY 0 1 0 10 (U.map vr.plain)+dY 0 1 0 10 T:=wc (p:=0) (l:=1) (o:=0) 9 (U.map vr.plain) T;lia
 intro σ' H4;refine yF3 λrt S' Z=>yB4 ?_;rintro rfl s4 bc J;have be:=mM J.fi;have et:=ox 10 Z;have eo:=AL be;have d5:=J.cnt;have b2:(fN ((cm 10 Z).flatMap b4)).length<=1000:=by
  have:=jM ((cm 10 Z).flatMap b4) [];rw[yz]at this;unfold fN;lia
 have b0:ny JD H4 rt 10 Z (fN ((cm 10 Z).flatMap b4)):=
  #[#[_,bc],J.ok,yI2 _ _ #[bc,be,(),(),rfl],m9 10 bc J.ok,zM 10 _ be (λn hn=>Gi hn),(),b2,∅]
 have ca:∀(t:Bool) (cq:o_) (H7:Hp),su H4 H7->H4 cq=Nn->Ce H7 cq (fe (fN ((cm 10 Z).flatMap b4)) 10 t Z)->Q (.ref cq) H7:=λt cq H7 s7 dc hC=>by
  have hl:=J.ld;refine q cq H7 _ _ (s4.trans s7) (s4.free dc) hC (Fi J.fi J.ok b0.nm) ?_ ?_
  .have:=D3 J.fi J.nm;lia
  .have:=mI (ig (ci (fN ((cm 10 Z).flatMap b4)) (dC 10 Z))) 10 0 0 Z;unfold fe;rw[zq,JZ];cases t<;>lia
 rw?;refine#[∅,aT (λcc=>?_) (λcc=>?_)]
 .exact yI3 rt Z _ #[rfl,b0,ca true]
 .rw?;exact yI3 rt Z _ #[rfl,b0,ca false]
theorem DQ.flat(h:DQ N r):∀v∈r,bQ v=true:=λv hv=>by
 cases h<;>simp only[yg,yu,or_false]at hv
 .rcases hv with rfl | rfl | rfl<;>rfl
 .rcases hv with rfl | rfl | rfl | rfl<;>rfl
 .rcases hv with rfl | rfl | rfl | rfl<;>rfl
 .rcases hv with rfl | rfl | rfl<;>rfl
 .rcases hv with rfl | rfl | rfl | rfl<;>rfl
 .rcases hv with rfl | rfl | rfl | rfl<;>rfl
 .rcases hv with rfl | rfl | rfl<;>rfl
 .rcases hv with rfl | rfl<;>rfl
theorem Bj{B Z F J:Nat}(h1:B<=F)(h2:Z<=J):gJ sd B Z<=gJ sd F J:=by
 unfold gJ;refine Nat.mul_le_mul h1 ?_;split
 .exact h2
 .exact Nat.add_le_add_right (Nat.mul_le_mul h1 ()) 1
theorem Ih(F:sd=1\/sd=2)(h1:KU N R)(ok:dk rl)(J:rl.s=sd)(W:5-sd=(m:Int))(O:rl.rs.length<=m)(Y:(N:Int)<=7-2*sd)(hl:R.length<=4230):EL R rl N:=by
 obtain⟨c,h2,S⟩ : ∃c,gJ rl.s (2^N) rl.rs.length<=c/\c<=800:=by
  rw[J];rcases F with rfl | rfl
  .exact#[_,Bj (Nat.pow_le_pow_right ∅ (show N<=5 from ())) (show _<=4 from ()),∅]
  .exact#[_,Bj (Nat.pow_le_pow_right ∅ (show N<=3 from ())) (show _<=3 from ()),∅]
 have U:=mn h2 S;exact#[h1,(),ok,(),mn (Nat.mul_le_mul hl U) ∅,()]
theorem Jw{f:o_}{fd:Nf}(F:JY K "law" "law" bu f fd) (a6:mg "range" = Nn) (S:mg "list" = Nn) (U:mg "isinstance" = Nn) (J:aD P w K mg base 1 "_law_cell_at" qAc (uS K)) (W:aD P w K mg base 1 "_law_words" qAi oS) (Z:aD P w K mg base 1 "_law_rule" qAT uN) (Y:aD P w K mg base 36 "_law_code" qAR (pJ K)) (ab:aD P w K mg base 7 "paper_of" qAh oA) (ac:aD P w K mg base 5 "_law_due" qAa AK) (O:aD P w K mg base 9 "column_of" qAh sF):GZ P w K mg base kE 37 f fd ["_law_script"] (rf K):=by
 refine F.ok GN (by walk_at "v") (λeH A outer s H vs Q E hr h=>?_);revert h;refine yF2 λa ns=>yB4 ?_;rintro rfl hS hn q;refine⟨_,(ah (ay 1 GN.nd (aw J hr (aa (pv 0 (hv:=Hy)) (aa af ae))))
   (ah (ay 2 GN.nd (ar aF (aw W hr (aa (ar eW (pv 1) af) (aa af ae))) (aG (aa av (aa av (aa av (aa av ae)))))))
   (ah (iF (CO.to (fsc:=(sg bu)) (N:=qAA) (N0:=qAA) (T:=["_law_k"])) rfl GN.nd (i:=3) rfl Qs (ef Nm a6 (aa af ae)) (λ_ _ _ _=>(aS 10 (show (["_law_script","_law_second","_law_words_here","_law_cells","_law_sides","_law_rule_here","_law_code_here","_law_kept","_law_due_here","_law_found","_law_k"]:MA).Nodup from ⋯))) (bW (show (qAA:MA).length<=10 from ∅)) (λ_ _ _ _=>cX) (λ_ _ _ _=>(aw J hr (aa (pv 0 (hv:=(bR (sg bu) ⋯))) (aa (ar aF af (pv 10)) ae)))))
   (ah (ay 4 GN.nd (ar aF af (ar b5 (ar eW (am (ax K) (pv 3) af) af) af)))
   (ah (ay 5 GN.nd (aw Z hr (aa (pv 3) (aa (pv 4) (aa (pv 2) (aa (ar gv af (pv 4)) ae))))))
   (ah (ay 6 GN.nd (aw Y hr (aa (pv 0 (hv:=Hy)) (aa af (aa (pv 4) (aa (pv 2) ae))))))
   (ah (ay 7 GN.nd (aG (aa (eQ (j7 K) S jN (aa (pv 6) ae)) (aa (eQ (j7 K) S jN (aa (am (ax K) (pv 5) af) ae)) (aa (dn (CO.to (fsc:=(sg bu)) (N:=qAA) (N0:=qAA) (T:=["_law_room_here"])) rfl (bF K (am (ax K) (pv 5) af)) (λ_ _ _ _=>(aS 10 (show (["_law_script","_law_second","_law_words_here","_law_cells","_law_sides","_law_rule_here","_law_code_here","_law_kept","_law_due_here","_law_found","_law_room_here"]:MA).Nodup from ⋯))) (bW (show (qAA:MA).length<=10 from ∅)) (λ_ _ _ _=>cX) (λ_ _ _ _=>(eQ (j7 K) S jN (aa (pv 10) ae)))) ae)))))
   (ah (ay 8 GN.nd (aw ac hr (aa (am (ax K) (pv 7) af) (aa (pv 5) (aa (aw ab hr (aa (pv 6) (aa (pv 5) ae))) ae)))))
   (ah (ay 9 GN.nd (aw O hr (aa (pv 6) (aa (pv 5) ae))))
   (ah (aY (PW.pt' (nD (jC (cN (bx D4 U qQ (aa (pv 9) (aa (IQ S jN) ae))))) (kT (aA (xj K hr) (pv 9) (pv 8) (aB _))))) (aj (az fZ)) aN)
   (ah (bm (oW K yY PySem.F.slot_list_clear PySem.F.type_list_clear zV (pv 9)))
   (ah (aY (aA (xj K hr) (aw O hr (aa (pv 6) (aa (pv 5) ae))) (pv 8) (aB _)) (aj (az fZ)) aN)
   (aj (az (mW (db (pB K hr) (pv 6) (am (ax K) (pv 7) af) (aB _)) (mW (db (pB K hr) (am (ax K) (pv 5) af) (am (ax K) (pv 7) af) (aB _)) (vb (db (pB K hr) (am (ax K) (pv 5) af) (am (ax K) (pv 7) af) (aB _))))))))))))))))))),?_⟩
 cbv;refine yI3 a ns 1 #[rfl,hS,∅,?_];generalize ns.getD (Int.toNat 1) 0=c1;rw?;refine#[#[∅,∅],?_];refine yI2 (c1/4) 2 #[rfl,∅,λwp ws H2 s2 eM e2 b3 dl=>?_];cbv;refine#[∅,λx4 eG=>?_];∎;rename_i H3 s3 e3;have e3:H3 x4=Sm (.lst ((qAK:MA).map V.str)):=e3;refine yI2 _ _ #[s3 _ _ e2,e3,by rw[zb,zb,b3];exact aH '~',λwq et=>?_];have s4:=ak et (.lst (ws.map V.str++(qAK:MA).map V.str));have e4:upd H3 wq (.lst (ws.map V.str++(qAK:MA).map V.str)) wq=Sm (.lst ((ws++(qAK:MA)).map V.str)):=by rw[ai,yb]
 generalize upd H3 wq (.lst (ws.map V.str++(qAK:MA).map V.str))=H4 at s4 e4 |-;have ad:∀x∈ws++(qAK:MA),dR x:=Kb dl
 have bt:(ws++(qAK:MA)).length=6:=by rw[zq,b3];rfl
 generalize ws++(qAK:MA)=da at e4 ad bt;have ag:=(s2.trans s3).trans s4;clear s2 s3 s4 e3 e2 b3 dl;have cv:=ag.seq hS;rw?;refine#[∅,∅,λL hL=>?_];rw[show Int.toNat 6=6 from rfl];refine l_ (λj ys H'=>su H4 H'/\H' L=Sm (.lst ys)/\∃cs:MJ,ys=cs.map V.int/\cs.length=j) #[ak hL _,ai,[],rfl,rfl] ?_ ?_
 .intro j ys H' hj;refine yB3 λsm hl=>yF1 λcs=>yB2 ?_;rintro rfl a5;cbv;refine yI3 a ns (2+(0+(j:Int))) #[rfl,sm.seq cv,(),?_];refine fD hj (by rw[zb];exact a5) (aH ()) hl #[sm.upd hL _,ai,cs++[ns.getD (2+(0+(j:Int))).toNat 0],tJ _ _,mK a5]
 intro ys H5;refine yB3 λs5 e5=>yF1 λcs=>yB2 ?_;rintro rfl a5;have dV:H L=Nn:=ag.free hL;have a7:=ag.trans s5;rw?;obtain⟨k1,ce⟩ : ∃k1:Int,(cs.map V.int)[1]?=Sm (.int k1):=⟨_,by rw[zz,zd (show 1<cs.length from ())];rfl⟩
 refine X2 (ud.of e5) (aq (j:=1) ce) ?_;cbv;have cd:∃sd:Int,1+k1/2048%2=sd/\(sd=1\/sd=2):=#[_,rfl,()];let#[sd,eu,cb]:=cd;refine#[#[∅,∅],∅,?_];rw[eu];rw?;obtain⟨m,em⟩ : ∃m:Nat,5-sd=(m:Int):=⟨(5-sd).toNat,()⟩
 rw[em];refine yI6 L wq cs da m sd #[rfl,cb,e5,a5,s5 _ _ e4,(),λx hx=>(ad x hx).1,(),(),λp H7 rl s7 hp hR ok d7 hm=>?_];have al:=a7.trans s7;rw?;refine yI5 a wq ns da sd #[rfl,cb,al.seq hS,(s5.trans s7) _ _ e4,(),(),ad,λcq H8 R N s8 ez hC cA hN d3=>?_];have be:=Ih cb cA ok d7 em hm hN d3;have eo:∀r∈R,DQ N r:=λr hr=>by
  let#[i,hi,rfl]:=LJ.mp hr;exact(cA.row i _ (zd hi)).1
 have cc:=hR.mono s8;have c3:=al.trans s8;clear hR hp s7 a7 ag s5 cv e5 a5 hL dV e4 ad bt;let#[as,ea,eb]:=id hC;have hl:=aK eb;refine yE3 (id cc) λpw pr bs=>yB3 λr1 r2 r3=>?_;rw?;refine#[_,.inl (ud.of ea),λk0 ei=>?_];∎;rename_i H9 s9 e9;refine X1 (uc.of (s9 _ _ r1)) rfl ?_;cbv;refine#[_,.inl (ud.of (s9 _ _ r2)),λeE d5=>?_];∎;rename_i H10 s10 e10;have a9:=s9.trans s10;have b1:=r3.mono a9;refine X1 (uc.of (a9 _ _ r1)) rfl ?_;cbv;refine#[#[_,ud.of b1.1],λM hM=>?_];refine yx b1 ok.n1 hM (λa xs H' C z1 z2=>?_) (λeB ds c2 hB _ _=>?_)
 .cbv;exact#[_,.inl (ud.of z1),z2]
 cbv;refine#[∅,λkp ec=>?_];∎;rename_i H12 s12 e12;have ej:=hB.mono s12;have sb:=c2.trans s12;have cz:=(s10.trans sb) _ _ e9;have dc:=sb _ _ e10;have a3:=a9.trans sb;have ca:=hC.mono a3;have a4:=cc.mono a3;have dt:=c3.trans a3;have eA:=dt.seq hS;have d9:=a3 _ _ ea;have dm:L8 (bP H12) as R:=L8.imp' (λ_ _ z=>a3 _ _ z) eb;clear hB b1 cc s9 s10 c2 s12 e9 e10 hC ea eb a3 a9 sb al c3 dt r3 r2 r1 hM d5 ei ec;refine yE3 (id a4) λpw pr bs=>yB3 λr1 r2 r3=>?_;rw?;have ev:Ce H12 k0 R:=#[as,cz,dm];refine X2 (ud.of e12) rfl ?_;cbv;refine yI5 cq p R rl N #[rfl,ca,a4,be,λpp eD ls Ks b2 _ d4 d2 d1 d8=>?_];refine yI8 k0 p pp R rl N ls Ks #[rfl,ev.mono b2,a4.mono b2,be,d4,d2,d1,d8,λC eF ms ag _ cB c5=>?_];rw?;have bh:=b2.trans ag;refine yI5 cq p R rl N #[rfl,ca.mono bh,a4.mono bh,be,λFo bc ey a7 cn bg a8=>?_];cases a8.uniq c5;have b0:=a7 _ _ cB;have eg:=bh.trans a7;rw?;refine#["list",by simp[dy,show bc Fo=_ from bg],∅,?_];rw[Lu ∅];refine yI2 0 true #[∅,GP.seqFlat (.inl #[ud.of bg,ud.of b0]) (kL _),?_];rw[Lu ∅];rw?;have ed:C≠Fo:=aQ cB cn;refine#[#[_,ud.of bg],yI2 Fo _ #[rfl,rfl,bg,?_]];have bp:su H12 (upd bc Fo (.lst [])):=eg.upd (bh.free cn) _;have c4:upd bc Fo (.lst []) C=_:=(au ed).trans b0;generalize upd bc Fo (.lst [])=eL at bp c4 |-;rw?;refine yI5 cq p R rl N ⟨rfl,ca.mono bp,a4.mono bp,be,λFo dP ey al _ eq a8=>?_⟩
 cases a8.uniq c5;cbv;refine yI2 0 true #[∅,GP.seqFlat (.inl #[ud.of eq,ud.of (al _ _ c4)]) (kL _),?_];rw[Lu ∅];rw?;have sm:=bp.trans al;refine X2 (ud.of (sm _ _ e12)) rfl ?_;cbv;have d6:=sm _ _ d9;have ek:L8 (bP dP) as R:=L8.imp' (λ_ _ z=>sm _ _ z) dm;refine yI2 1 true #[∅,GP.seq (.inl #[ud.of d6,ud.of (sm _ _ cz)]) rfl (λi x y e1 e2=>?_),?_]
 .rw[e1]at e2;cases e2;have hi:i<as.length:=by have:=(Lq.mp e1).1;simpa using this
  rw[zz,zd hi]at e1;cases e1;let#[r,ew,c9]:=cD ek (zd hi);exact GP.seqFlat (.inr #[uc.of c9,uc.of c9]) (eo r (xO ew)).flat
 rw[Lz rfl];refine X1 (uc.of (sm _ _ r1)) rfl (X2 (ud.of (sm _ _ e12)) rfl ?_);cbv;refine yI2 0 true #[∅,GP.seqFlat (.inl #[ud.of (sm _ _ r2),ud.of (sm _ _ dc)]) (kL _),?_];rw[Lz rfl];refine X1 (uc.of (sm _ _ r1)) rfl (X2 (ud.of (sm _ _ e12)) rfl ?_);cbv;exact yI2 1 true #[∅,Cv (r3.mono sm) (ej.mono sm),q dP]
theorem Cb{a0 a1 a2 U O F S:o_}(Z:∀H:Hp,uc K H a0 [.str "name"]) (q1:∀H:Hp,uc K H a1 [.str "word",.str "name"]) (q2:∀H:Hp,uc K H a2 [.str "name",.str "name"]) (q3:∀H:Hp,uc K H J [.str "name"]) (q4:∀H:Hp,uc K H U [.str "name",.str "name"]) (q5:∀H:Hp,uc K H O [.str "name",.str "name",.str "steps"]) (q6:∀H:Hp,uc K H F [.str "bound",.str "steps",.str "steps"]) (Y:∀H:Hp,uc K H S [.str "bound",.str "steps"]) :
  ∀kind ks,(kind,ks)∈eU->∃a,bY [(("open" : Str),V.ref a0),(("do" : Str),V.ref a1),(("copy" : Str),V.ref a2),(("drop" : Str),V.ref J),(("tie" : Str),V.ref U),(("lend" : Str),V.ref O),(("if" : Str),V.ref F),(("while" : Str),V.ref S)] kind=Sm (.ref a)/\∀H:Hp,uc K H a (ks.map V.str):=by
 intro kind ks h;simp only[eU,yg,Prod.mk.injEq,Je,or_false]at h;rcases h with ⟨rfl,rfl⟩ | ⟨rfl,rfl⟩ | ⟨rfl,rfl⟩ | ⟨rfl,rfl⟩ | ⟨rfl,rfl⟩ | ⟨rfl,rfl⟩ | ⟨rfl,rfl⟩ | ⟨rfl,rfl⟩
 .exact#[a0,rfl,Z]
 .exact#[a1,rfl,q1]
 .exact#[a2,rfl,q2]
 .exact#[J,rfl,q3]
 .exact#[U,rfl,q4]
 .exact#[O,rfl,q5]
 .exact#[F,rfl,q6]
 .exact#[S,rfl,Y]
def bH(K:KE)(x:Str)(st:Ma):Prop:=∃(f:o_) (od an:MN) (sl:Array MG) (oc kV dc pm cd ct:B_),M4 K Mp x=Sm (Sm (.ref f))/\K.lookup f=Sm #[oc,od,.func (Nr x x (Dt st) (CZ st) (sg st) .none kV dc pm an cd ct),sl]/\W.codeIn K cd x=true/\NJ K (.ref f)=true
theorem dfe_mk{x:Str}{st:Ma}{f:o_}{U an:MN}{S:Array MG}{O kV J pm F ct:B_}(a:M4 K Mp x=Sm (Sm (.ref f)))(l:K.lookup f=Sm #[O,U,.func (Nr x x (Dt st) (CZ st) (sg st) .none kV J pm an F ct),S])(c:W.codeIn K F x=true)(k:NJ K (.ref f)=true):bH K x st:=yI10 f U an S O kV J pm F ct #[a,l,c,k]
theorem aJ{h:LY}{mg:Str->MG}{x:Str}{st:Ma}(X:K.In h)(G:h.Ns Mp mg)(e:bH K x st):xn K mg x st:=by
 revert e;refine yF10 λf U an S O kV F pm J ct=>yB4 λa l c k=>?_;exact#[f,_,sU (st:=st) l c k,za6 X G a]
theorem all_mk{l:W.OpenLaw}{w:K_}{h:LY}{mg:Str->MG}{fa:o_}(X:K.In h)(G:h.Ns Mp mg)(pw:mg "law" = Sm (.ref fa))
 {O c3 b1 as ad bt bp bc ag al be ac ab Z:o_}{cd ce hW hy hH hD hY hE hS i6 e9 fl f3:MN}{b2 hR i5 h0 hF hC hB hK ja f1 e7 f0:Array MG}{cn cb b3 cc Y ca:B_}{hN lk lq kj lA l4 l0 ky mb e1 g8 gx g5:Nat}{eL gt ev gI f8 eN hb gl e0 gz eD gc ht eF g7 f5 gh et ho hn hr ey hs g1 dc ew dm eA eu da eH:Tok}
  (a0:bH K "next_room" dA) (a1:bH K "room_from" cS) (a2:bH K "is_in" jK) (a3:bH K "without" ik) (a4:bH K "held_behind" dq) (a5:bH K "is_of_two" fU) (a6:bH K "has_room" gA) (a7:bH K "texts_done" bn) (a8:bH K "texts_at" eO) (a9:bH K "room_behind" c8) (ot:bH K "begun_by_open" aW) (ru:bH K "begun_by_tie" aO) (py:bH K "begins_at" bO) (px:bH K "behind_at" aZ) (qb:bH K "rooms_at" cG) (p1:bH K "breaks_at" dB) (rr:bH K "moves_at" di) (pc:bH K "any_breaks" bX) (p4:bH K "any_moves" ck) (rp:bH K "rows_behind" cH) (q2:bH K "made_of" cO) (q8:bH K "put" fW) (q7:bH K "paper_of" a_) (o7:bH K "mark_of" dO) (o2:bH K "column_of" bi) (q1:bH K "closers_of" ft) (pb:bH K "head_of" gf) (oc:bH K "blocks_of" eZ) (q3:bH K "steps_within" bL) (od:bH K "names_in" b8) (pf:bH K "lines_of" bw) (rq:bH K "names_of" fJ) (oe:bH K "line_behind" dI) (p8:bH K "numbered_step" aX) (q6:bH K "numbered_steps" bI) (o3:bH K "lend_lines" bU) (ry:bH K "slots_of" cx) (q5:bH K "simple_row" bM) (rx:bH K "lend_rows" bf) (qy:bH K "if_rows" bJ) (re:bH K "loop_rows" cj) (o6:bH K "while_rows" bD) (pk:bH K "rows_of" bS) (ol:bH K "rows_and_end" bV) (q4:bH K "code_of" hZ) (rk:bH K "turned_code" eT) (oL:bH K "_law_cell_at" dJ) (ri:bH K "_law_words" aV) (oi:bH K "_law_step" bN) (p0:bH K "_law_put" iq) (pi:bH K "_law_close" cw) (p5:bH K "_law_program" bj) (rv:bH K "_law_rule" aU) (ow:bH K "_law_has" ic) (pa:bH K "_law_next" fK) (pr:bH K "_law_texts" dS) (on:bH K "_law_room" cI) (pd:bH K "_law_code" bo) (oD:bH K "_law_breaks" cf) (p3:bH K "_law_moves" cu) (o4:bH K "_law_due" b6) (rd:bH K "law" bu) (e6:M4 K Mp "isinstance" = Sm Nn) (oa:M4 K Mp "str" = Sm Nn) (n7:M4 K Mp "int" = Sm Nn) (np:M4 K Mp "bool" = Sm Nn) (mx:M4 K Mp "tuple" = Sm Nn) (n4:M4 K Mp "len" = Sm Nn) (m4:M4 K Mp "range" = Sm Nn) (nq:M4 K Mp "list" = Sm Nn) (nt:M4 K Mp "zip" = Sm Nn) (hu:M4 K Mp "enumerate" = Sm Nn) (mp:M4 K Mp "sorted" = Sm Nn) (n2:M4 K Mp "set" = Sm Nn) (nL:M4 K Mp "any" = Sm Nn) (ek:M4 K Mp "NumberedStep" = Sm (Sm (.ref J))) (dV:W.plainGet K J NP=true) (ed:W.hasDictIn K J=true) (eb:W.plainOver K J=true) (ea:Nh K (.ref J) "__setattr__" = Sm (Sm (.builtin "object.__setattr__"))) (dt:W.makesIn K J=true) (eg:NJ K (.ref J)=true) (mz:Nh K (.ref J) "kind" = Sm Nn) (mt:Nh K (.ref J) "parts" = Sm Nn) (ms:Nh K (.ref J) "lines" = Sm Nn) (l6:Nh K (.ref J) "blocks" = Sm Nn) (cv:Nh K (.ref J) "__init__" = Sm (Sm (.ref O))) (cz:W.isFn K (.ref O)=true) (cA:K.lookup O=Sm #[cn,cd,.func (Nr "__init__" "NumberedStep.__init__" (Dt bb) (CZ bb) (sg bb) .none cb b3 cc ce Y ca),b2]) (cB:W.codeIn K Y "NumberedStep.__init__" = true) (cq:NJ K (.ref O)=true) (m1:M4 K Mp "PARTS" = Sm (Sm (.ref c3))) (mu:K.lookup c3=Sm #[.type "dict",Nn,.dict #v[#[Mz w.params "open",.str "open" eL,.ref b1],#[Mz w.params "do",.str "do" ev,.ref as],#[Mz w.params "copy",.str "copy" eN,.ref ad],#[Mz w.params "drop",.str "drop" e0,.ref bt],#[Mz w.params "tie",.str "tie" eD,.ref bp],#[Mz w.params "lend",.str "lend" eF,.ref bc],#[Mz w.params "if",.str "if" et,.ref ag],#[Mz w.params "while",.str "while" ey,.ref al]] hN,#[]]) (j0:K.lookup b1=Sm #[.type "tuple",hW,.seq #v[.str "name" gt] lk,hR]) (hJ:K.lookup as=Sm #[.type "tuple",hy,.seq #v[.str "word" gI,.str "name" f8] lq,i5]) (h7:K.lookup ad=Sm #[.type "tuple",hH,.seq #v[.str "name" hb,.str "name" gl] kj,h0]) (hw:K.lookup bt=Sm #[.type "tuple",hD,.seq #v[.str "name" gz] lA,hF]) (hG:K.lookup bp=Sm #[.type "tuple",hY,.seq #v[.str "name" gc,.str "name" ht] l4,hC]) (h6:K.lookup bc=Sm #[.type "tuple",hE,.seq #v[.str "name" g7,.str "name" f5,.str "steps" gh] l0,hB]) (iv:K.lookup ag=Sm #[.type "tuple",hS,.seq #v[.str "bound" ho,.str "steps" hn,.str "steps" hr] ky,hK]) (hQ:K.lookup al=Sm #[.type "tuple",i6,.seq #v[.str "bound" hs,.str "steps" g1] mb,ja]) (mr:(c3==sysModules)=false) (ls:M4 K Mp "CLOSERS" = Sm (Sm (.ref be))) (hP:K.lookup be=Sm #[.type "dict",Nn,.dict #v[#[Mz w.params "lend",.str "lend" dc,.ref ac],#[Mz w.params "if",.str "if" dm,.ref ab],#[Mz w.params "while",.str "while" da,.ref Z]] e1,#[]]) (fz:K.lookup ac=Sm #[.type "tuple",e9,.seq #v[.str "back" ew] g8,f1]) (e3:K.lookup ab=Sm #[.type "tuple",fl,.seq #v[.str "else" eA,.str "fi" eu] gx,e7]) (ff:K.lookup Z=Sm #[.type "tuple",f3,.seq #v[.str "done" eH] g5,f0]) (h4:(be==sysModules)=false) :
  ∃fd:Nf,(∀(s:so) (v:B_),BindsTo s fd #[[v],[]] [("_law_script",v)])/\∀base:LY,K.In base->base.Ns Mp mg->GZ l.prog w K mg base kE 37 fa fd ["_law_script"] (rf K):=by
 revert rd;refine yF10 λf9 r4 o5 r6 r5 qn qa q0 o1 ov=>yB4 λqk l9 c9 k9=>?_;have e:=pw.symm.trans (za6 X G qk);cases e;have gd:=aJ X G a0;have gr:=aJ X G a1;have m2:=aJ X G a2;have k3:=aJ X G a3;have e2:=aJ X G a4;have g6:=aJ X G a5;have hO:=aJ X G a6;have e4:=aJ X G a7;have hL:=aJ X G a8;have eG:=aJ X G a9;have ec:=aJ X G ot;have ei:=aJ X G ru;have gy:=aJ X G py;have gp:=aJ X G px;have h3:=aJ X G qb;have gO:=aJ X G p1;have hI:=aJ X G rr;have f2:=aJ X G pc;have g2:=aJ X G p4;have eB:=aJ X G rp;have ko:=aJ X G q2;have nz:=aJ X G q8;have io:=aJ X G q7;have lE:=aJ X G o7;have hp:=aJ X G o2;have fx:=aJ X G q1;have kl:=aJ X G pb;have g3:=aJ X G oc;have ej:=aJ X G q3;have h8:=aJ X G od;have i3:=aJ X G pf;have h9:=aJ X G rq;have eS:=aJ X G oe;have dP:=aJ X G p8;have dl:=aJ X G q6;have fy:=aJ X G o3;have h5:=aJ X G ry;have fb:=aJ X G q5;have hj:=aJ X G rx;have kX:=aJ X G qy;have ge:=aJ X G re;have e5:=aJ X G o6;have l3:=aJ X G pk;have eo:=aJ X G ol;have k6:=aJ X G q4;have eM:=aJ X G rk;have eq:=aJ X G oL;have g9:=aJ X G ri;have hX:=aJ X G oi;have kw:=aJ X G p0;have he:=aJ X G pi;have ez:=aJ X G p5;have il:=aJ X G rv;have l1:=aJ X G ow;have hT:=aJ X G pa;have hk:=aJ X G pr;have i4:=aJ X G on;have hM:=aJ X G pd;have e8:=aJ X G oD;have hq:=aJ X G p3;have l2:=aJ X G o4;have fo:=Jn X G e6;have n3:=Jn X G oa;have nf:=Jn X G n7;have ob:=Jn X G np;have hA:=Jn X G mx;have U:=Jn X G n4;have c4:=Jn X G m4;have mc:=Jn X G nq;have m0:=Jn X G nt;have c2:=Jn X G hu;have c5:=Jn X G mp;have ki:=Jn X G n2;have m3:=Jn X G nL;have S:Ln K J:=#[dV,ed,eb,ea];have mm:Fl K J "kind" := #[S,mz];have jb:Fl K J "parts" := #[S,mt];have eE:Fl K J "lines" := #[S,ms];have f4:Fl K J "blocks" := #[S,l6];have em:Im K mg "NumberedStep" J "NumberedStep.__init__" bb:=#[O,_,sU (st:=bb) cA cB cq,#[dt,cv,cz,eg],za6 X G ek];have m8:mg "PARTS" = Sm (.ref c3):=za6 X G m1;have m5:Ic w K c3 [("open",.ref b1),("do",.ref as),("copy",.ref ad),("drop",.ref bt),("tie",.ref bp),("lend",.ref bc),("if",.ref ag),("while",.ref al)]:=#[mr,(show (["open","do","copy","drop","tie","lend","if","while"]:MA).Nodup from ∅),_,[#[Mz w.params "open",.str "open" eL,.ref b1],#[Mz w.params "do",.str "do" ev,.ref as],#[Mz w.params "copy",.str "copy" eN,.ref ad],#[Mz w.params "drop",.str "drop" e0,.ref bt],#[Mz w.params "tie",.str "tie" eD,.ref bp],#[Mz w.params "lend",.str "lend" eF,.ref bc],#[Mz w.params "if",.str "if" et,.ref ag],#[Mz w.params "while",.str "while" ey,.ref al]],hN,mu,#[rfl,rfl,rfl],rfl,.cons rfl (.cons rfl (.cons rfl (.cons rfl (.cons rfl (.cons rfl (.cons rfl (.cons rfl (.nil))))))))];have k4:∀H:Hp,uc K H b1 [.str "name"]:=λH=>.inr (yI3 _ _ _ #[j0,rfl,rfl,aH (show 1<=1000000 from ∅),.cons #[_,rfl] (.nil)]);have kx:∀H:Hp,uc K H as [.str "word",.str "name"]:=λH=>.inr (yI3 _ _ _ #[hJ,rfl,rfl,aH (show 2<=1000000 from ∅),.cons #[_,rfl] (.cons #[_,rfl] (.nil))]);have kt:∀H:Hp,uc K H ad [.str "name",.str "name"]:=λH=>.inr (yI3 _ _ _ #[h7,rfl,rfl,aH (show 2<=1000000 from ∅),.cons #[_,rfl] (.cons #[_,rfl] (.nil))]);have kN:∀H:Hp,uc K H bt [.str "name"]:=λH=>.inr (yI3 _ _ _ #[hw,rfl,rfl,aH (show 1<=1000000 from ∅),.cons #[_,rfl] (.nil)]);have lB:∀H:Hp,uc K H bp [.str "name",.str "name"]:=λH=>.inr (yI3 _ _ _ #[hG,rfl,rfl,aH (show 2<=1000000 from ∅),.cons #[_,rfl] (.cons #[_,rfl] (.nil))]);have kb:∀H:Hp,uc K H bc [.str "name",.str "name",.str "steps"]:=λH=>.inr (yI3 _ _ _ #[h6,rfl,rfl,aH (show 3<=1000000 from ∅),.cons #[_,rfl] (.cons #[_,rfl] (.cons #[_,rfl] (.nil)))]);have kc:∀H:Hp,uc K H ag [.str "bound",.str "steps",.str "steps"]:=λH=>.inr (yI3 _ _ _ #[iv,rfl,rfl,aH (show 3<=1000000 from ∅),.cons #[_,rfl] (.cons #[_,rfl] (.cons #[_,rfl] (.nil)))]);have ll:∀H:Hp,uc K H al [.str "bound",.str "steps"]:=λH=>.inr (yI3 _ _ _ #[hQ,rfl,rfl,aH (show 2<=1000000 from ∅),.cons #[_,rfl] (.cons #[_,rfl] (.nil))]);have ka:mg "CLOSERS" = Sm (.ref be):=za6 X G ls;have lp:Ic w K be [("lend",.ref ac),("if",.ref ab),("while",.ref Z)]:=#[h4,(show (qAn:MA).Nodup from ∅),_,[#[Mz w.params "lend",.str "lend" dc,.ref ac],#[Mz w.params "if",.str "if" dm,.ref ab],#[Mz w.params "while",.str "while" da,.ref Z]],e1,hP,#[rfl,rfl,rfl],rfl,.cons rfl (.cons rfl (.cons rfl (.nil)))];have hc:∀H:Hp,uc K H ac [.str "back"]:=λH=>.inr (yI3 _ _ _ #[fz,rfl,rfl,aH (show 1<=1000000 from ∅),.cons #[_,rfl] (.nil)]);have hm:∀H:Hp,uc K H ab [.str "else",.str "fi"]:=λH=>.inr (yI3 _ _ _ #[e3,rfl,rfl,aH (show 2<=1000000 from ∅),.cons #[_,rfl] (.cons #[_,rfl] (.nil))]);have g4:∀H:Hp,uc K H Z [.str "done"]:=λH=>.inr (yI3 _ _ _ #[ff,rfl,rfl,aH (show 1<=1000000 from ∅),.cons #[_,rfl] (.nil)]);have F:=sU (st:=bu) l9 c9 k9;refine#[Nr "law" "law" (Dt bu) (CZ bu) (sg bu) .none qn qa q0 o5 o1 ov,λs v=>.of_eq rfl,λbase _ _=>?_];have c1:=FA (P:=l.prog) (w:=w) (base:=base) eq U;have d1:=zf (P:=l.prog) (w:=w) (base:=base) fx ka lp hc hm g4;have d2:=E2 kl U d1;have d3:=AY g3 U d2;have d4:=qc ej d3 10;have d5:=xR (P:=l.prog) (w:=w) (base:=base) h8 m0 mc m8 m5 (Cb k4 kx kt kN lB kb kc ll);have d6:=Dr (zh h9 d5 d4);have d7:=uF i3 n3 m0 d1 d2 d3 10;have d8:=uQ fy c2 d7;have d9:=CV (NO:=JD) JD.mono h5 c2 (Ba d6 (k:=15) ∅) d8;have k0:=Ci (P:=l.prog) (w:=w) (base:=base) em mm jb eE f4;have b0:=zU (P:=l.prog) (w:=w) (base:=base) eS U eE;have n0:=vP dP dl d2 d3 b0 k0 10;have r0:=vU (P:=l.prog) (w:=w) (base:=base) l3 hj kX ge e5 fb U hA mm jb eE f4 10;have r1:=zl (NO:=JD) (d:=10) (k:=33) JD.mono eo ∅ n0 r0 (Ba d9 ∅) b0 ∅ ∅;have r2:=zL eM r1;have r3:=FG k6 r1;have pu:=IS (P:=l.prog) (w:=w) (base:=base) kw;have pg:=xM ez U nf (F5 hX U) pu (Cy he pu);have ii:=FQ (P:=l.prog) (w:=w) (base:=base) m2;have wo:=xI (P:=l.prog) (w:=w) (base:=base) k3;have nr:=Fb (P:=l.prog) (w:=w) (base:=base) gd;have tw:=GV (P:=l.prog) (w:=w) (base:=base) g6 U;have tx:=C7 hL (FS e4 ii tw) tw;have rb:=Co eG (uy gr nr) tx;have ha:=H_ (P:=l.prog) (w:=w) (base:=base) hO U;have bh:=Gf gp hA tw ha (F_ e2 ii wo) rb;have bg:=Gg gy ki c5 (Fg ec U nr wo) (Fu ei U ii);have pp:=DD io c4 U c5 (E5 nz) (vo eB c5 ki) bg (FZ ko bg bh);have ro:=An h3 nr ha rb;have mk:=Gc lE (Gd f2 m3 (FT gO ro)) (E4 g2 m3 (HZ hI ro));have ln:=CK (P:=l.prog) (w:=w) (base:=base) hT;have lr:=BP i4 (A9 hk (Gj l1)) ln;have wd:=BM (P:=l.prog) (w:=w) (base:=base) g9 c4 nf;exact Jw F c4 mc fo c1 wd (Aa il c4 U c5 ki) (Cw hM c1 wd pg r3 r2) pp (FC l2 c4 U (FX e8 U lr ln) (F1 hq U lr ln)) (zO hp c2 pp mk)
theorem walk{l:W.OpenLaw}{q:L_}{loose:MA}{XP:(Str->MG)->LY->Prop}{YP:K_->LY->Prop}{d:DefRec}{K:Params->KE}(O:l.most=Sm 63)(J:d.params.defaults=[])
  (S:∀(w:K_) (h:LY),YP w h->(K w.params).In h)
  (F:∀(w:K_) (mg:Str->MG) (fa:o_) (h:LY),(K w.params).In h->h.Ns Mp mg->mg d.name=Sm (.ref fa)->
   ∃fd:Nf,(∀(s:so) (u:B_),BindsTo s fd ⟨[u],[]⟩ [("_law_script",u)])/\∀base:LY,(K w.params).In base->base.Ns Mp mg->GZ l.prog w (K w.params) mg base kE 37 fa fd ["_law_script"] (rf (K w.params))) :
  W.WalkO q loose XP YP l.row.toRowW d [] (λf vs=>PySem.call f vs):=
 L2.IF (n:=63) (k:=37) (x := "_law_script") (CX:=λ_=>kE) (sp:=λw=>rf (K w.params)) O ∅ J #[rfl,∅,∅] S F (λ_ _ a ns hl _ U=>yI2 a ns #[rfl,U,hl,λ_=>rfl]) λ_ _ _ _ _ z=>z
end K65
end
open PySem PySem.W PyProof.Rows
set_option maxRecDepth 100000 in
set_option maxHeartbeats 0 in
theorem PySem.Challenge.cw_usewarden_k65_columns_holds : PySem.Challenge.rw_usewarden_k65_columns.Holds := by
 w_on
 refine holds_law Ws λsaid=>?_;refine holds_open (q:=K65.qq) (loose:=K65.loo) (Xt:=K65.xt) (XP:=XL K65.qq []) (Yf:=Hook.obs (kHook K65.KK K65.kk K65.kk_eq)) (Ya:=Hook.val (kHook K65.KK K65.kk K65.kk_eq)) (YP:=Hook.says (kHook K65.KK K65.kk K65.kk_eq)) (N:=2539) K65.hl (Hook.of (kHook K65.KK K65.kk K65.kk_eq)) (Hook.keeps (kHook K65.KK K65.kk K65.kk_eq)) (λs e=>xl_of s (Bool.and_eq_true_iff.mp e).1) XL.keeps (by rfl) (by rfl) (by rfl) (λs e=>recFacts_of (Bool.and_eq_true_iff.mp e).2) (by rfl) said ⋯ #[rfl,rfl,rfl,rfl,rfl,⋯] ?hw ?hc
 (case hw=>w_witness2)
 k_fill
 refine K65.walk (l:=PySem.Challenge.rw_usewarden_k65_columns) rfl rfl (λw h Y=>PySem.W.kIn_of Y) ?F
 case F=>
  intro w mg fa h KX G hmg;refine' K65.all_mk KX G hmg ..
  all_goals first | (refine' K65.dfe_mk ?a ?l ?c ?k;(case a=>k_is);(case l=>k_is);(case c=>k_is);(case k=>k_is)) | k_is | exact⟨_,by k_is⟩ | kernel_rfl | skip
